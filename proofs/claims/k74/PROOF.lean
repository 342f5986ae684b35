import PyProof.Rows.All
import Wide.All
import OpenK.AllK
import Wide.FinOn
import Lean
import PyProof.EqAt
import PyProof.EqKinds
import PyProof.TupleCall
import PyProof.NeKinds
import PyProof.ExcInit
import PyProof.StationsW
import PyProof.ExcBaseAll.ValueError
import PyProof.ExcArgs
import KE.KIsAll
import PyProof.ReprRoads
import PyProof.CallFns
import PyProof.ExcClass3
import PyProof.StrBlock2
import PyProof.FitsInt
import PyProof.StrLawsRepr
import KE.KTryMore
import PyProof.RulesAs
import KE.KIntText
import PyProof.StrLawsChain
import PyProof.StrCalls2
import PyProof.ZipIter
import PyProof.Conv_bool
import PyProof.CallStr
import PyProof.TupleIter
import KE.KEqDict
import PyProof.AutoListH
import PyProof.FactsAll.range_2
import KE.IntTextLaws
import PyProof.StrCalls
import PySem.Challenge.RW_slideroom_k74_plans_walked
-- CHANGE: your row's module here, as the last of these rows
set_option compiler.extract_closed false
set_option Elab.async false
set_option linter.all false
set_option maxRecDepth 100000
namespace L2
open PySem PySem.Spec PyProof.Rows
abbrev Key:=Sum Int Str
def U6:Key→Value→Bool
 | .inl k,v=>Value.isInt k v
 | .inr x,v=>Value.isStrOf x v
def acZ (w:World):Key→Int
 | .inl k=>hashInt k
 | .inr x=>hashStr w x
theorem dG:∀{k:Key} {v:Value},U6 k v=true→(∃i t,k=Sum.inl i∧v=Value.int i t)∨(∃x t,k=Sum.inr x∧v=Value.str x t)
 | .inl i,v,h=>by
  obtain ⟨t,e⟩:=Value.isInt_shape (k:=i) (v:=v) h
  exact .inl ⟨i,t,rfl,e⟩
 | .inr x,v,h=>by
  obtain ⟨t,e⟩:=Value.isStrOf_shape (x:=x) (v:=v) h
  exact .inr ⟨x,t,rfl,e⟩
theorem Vx (a b:Int):decide ((Sum.inl a:Key)=Sum.inl b)=(a == b):=by
 by_cases e:a=b
 ·subst e;simp
 ·have h:¬ (Sum.inl a:Key)=Sum.inl b:=fun q=>e (Sum.inl.inj q)
  rw [decide_eq_false h]
  exact (beq_eq_false_iff_ne.mpr e).symm
theorem Vy (a b:Str):decide ((Sum.inr a:Key)=Sum.inr b)=decide (a=b):=by
 by_cases e:a=b
 ·subst e;simp
 ·have h:¬ (Sum.inr a:Key)=Sum.inr b:=fun q=>e (Sum.inr.inj q)
  rw [decide_eq_false h,decide_eq_false e]
theorem Vz (a:Int) (b:Str):decide ((Sum.inl a:Key)=Sum.inr b)=false:=decide_eq_false (fun q=>nomatch q)
theorem VB (a:Str) (b:Int):decide ((Sum.inr a:Key)=Sum.inl b)=false:=decide_eq_false (fun q=>nomatch q)
def Hr (prog:Program) (w:World):PySem.KeyKind prog w Key where
 is:=U6
 hash:=acZ w
 inj:=fun v a b ha hb=>by
  rcases dG ha with ⟨i,t,rfl,rfl⟩ | ⟨x,t,rfl,rfl⟩
  ·rcases dG hb with ⟨j,u,rfl,e⟩ | ⟨y,u,rfl,e⟩
   ·injection e with e1 _;rw [e1]
   ·exact nomatch e
  ·rcases dG hb with ⟨j,u,rfl,e⟩ | ⟨y,u,rfl,e⟩
   ·exact nomatch e
   ·injection e with e1 _;rw [e1]
 byValue:=fun k v h=>by
  rcases dG h with ⟨i,t,rfl,rfl⟩ | ⟨x,t,rfl,rfl⟩ <;> rfl
 pyHash:=fun hv h=>by
  rcases dG hv with ⟨i,t,rfl,rfl⟩ | ⟨x,t,rfl,rfl⟩
  ·exact wpAny_pyHash_int h
  ·exact wpAny_pyHash_str h
 eqBool:=fun hu hv h=>by
  rcases dG hu with ⟨i,t,rfl,rfl⟩ | ⟨x,t,rfl,rfl⟩
  ·rcases dG hv with ⟨j,u,rfl,rfl⟩ | ⟨y,u,rfl,rfl⟩
   ·rw [Vx] at h;exact wpAny_eqBool_int h
   ·rw [Vz] at h;exact SeqAt.EqAt.int_str i t y u _ _ _ _ h
  ·rcases dG hv with ⟨j,u,rfl,rfl⟩ | ⟨y,u,rfl,rfl⟩
   ·rw [VB] at h;exact SeqAt.EqAt.str_int x t j u _ _ _ _ h
   ·rw [Vy] at h;exact wpAny_eqBool_str h
 «strs»:=fun k x t v h=>by
  rcases dG h with ⟨i,u,rfl,e⟩ | ⟨y,u,rfl,e⟩
  ·exact nomatch e
  ·injection e with e1 _
   subst e1
   cases v <;> rfl
inductive V where
 | non | bl (b:Bool) | int (i:Int) | str (x:Str) | byt (b:Array UInt8) | flt (b:UInt64) | ref (a:Addr) | ty (n:String)
 deriving DecidableEq
def RelV:V→Value→Prop
 | .non,u=>u=Value.none
 | .bl b,u=>u=Value.bool b
 | .int i,u=>∃t,u=Value.int i t
 | .str x,u=>∃t,u=Value.str x t
 | .byt b,u=>∃t,u=Value.bytes b t
 | .flt b,u=>∃t,u=Value.float b t
 | .ref a,u=>u=Value.ref a
 | .ty n,u=>u=Value.type n
abbrev Vals:List V→List Value→Prop:=Paired RelV
theorem Vals.length {xs:List V} {us:List Value} (r:Vals xs us):xs.length=us.length:=Paired.length r
theorem Vals.get:∀{xs:List V} {us:List Value} {i:Nat} {x:V},Vals xs us→xs[i]?=some x→∃u,us[i]?=some u∧RelV x u
 | _,_,_,_,.nil,e=>by simp at e
 | _,_,0,_,.cons r _,e=>by simp at e;subst e;exact ⟨_,rfl,r⟩
 | _,_,i + 1,x,.cons _ t,e=>by
  obtain ⟨u,h1,h2⟩:=Vals.get (i:=i) (x:=x) t (by simpa using e)
  exact ⟨u,by simpa using h1,h2⟩
theorem Vals.set {x:V} {u:Value} (r:RelV x u):∀{xs:List V} {us:List Value} (i:Nat),Vals xs us→Vals (xs.set i x) (us.set i u)
 | _,_,_,.nil=>.nil
 | _,_,0,.cons _ t=>.cons r t
 | _,_,i + 1,.cons q t=>.cons q (Vals.set r i t)
theorem Vals.append:∀{xs ys:List V} {us ws:List Value},Vals xs us→Vals ys ws→Vals (xs++ys) (us++ws)
 | _,_,_,_,.nil,s=>s
 | _,_,_,_,.cons r t,s=>.cons r (Vals.append t s)
theorem Vals.take:∀{xs:List V} {us:List Value} (n:Nat),Vals xs us→Vals (xs.take n) (us.take n)
 | _,_,0,_=>.nil
 | _,_,_ + 1,.nil=>.nil
 | _,_,n + 1,.cons r t=>.cons r (Vals.take n t)
theorem Vals.drop:∀{xs:List V} {us:List Value} (n:Nat),Vals xs us→Vals (xs.drop n) (us.drop n)
 | _,_,0,r=>r
 | _,_,_ + 1,.nil=>.nil
 | _,_,n + 1,.cons _ t=>Vals.drop n t
def mL:Option V→Option Value→Prop
 | some v,some u=>RelV v u
 | none,none=>True
 | _,_=>False
def KV {κ:Type}:List (κ×V)→List (κ×Value)→Prop:=Paired fun (p:κ×V) (q:κ×Value)=>p.1=q.1∧RelV p.2 q.2
def kV:Key→V
 | .inl i=>.int i
 | .inr x=>.str x
inductive HO where
 /-- a list -/
 | lst (xs:List V)
 /-- a tuple (never changes) -/
 | tup (xs:List V)
 /-- a dict whose keys are ints and texts; one whose keys are tuples of ints and texts (the empty one is both) -/
 | dK (kvs:List (Key×V)) | dT (kvs:List (List Key×V))
 /-- a set of ints: its members, its size -/
 | set (S:Int→Bool) (n:Nat)
 /-- an instance of the class at C, its dict at dx, its attributes -/
 | ins (C dx:Addr) (fs:List (Str×V))
 /-- the dict of the instance at x -/
 | own (x:Addr)
 /-- the dict of an exception -/
 | xd (fs:List (Str×V))
 /-- a bound method, f of x -/
 | met (f x:Addr)
 /-- a range object lo, lo + 1, .. below hi -/
 | rng (lo hi:Int)
 /-- a thing that is known to the object (the script; a dict while a loop walks it): read, never written while it is so -/
 | frz (o:Obj) (u:HO)
 /-- a code object's table -/
 | tbl (ps:Array Value)
 /-- any other thing, by what is true of its one object (a def of one's own: afh a S n := HO.ext fun h => ..) -/
 | ext (φ:Heap→Prop)
abbrev Hp:=Addr→Option HO
def upd (H:Hp) (a:Addr) (o:HO):Hp:=fun b=>if b=a then some o else H b
theorem cB {H:Hp} {a:Addr} {o:HO}:upd H a o a=some o:=by unfold upd;rw [if_pos rfl]
theorem bW {H:Hp} {a b:Addr} {o:HO} (h:b≠a):upd H a o b=H b:=by unfold upd;rw [if_neg h]
theorem RG {H:Hp} {a:Addr} {o u:HO}:upd (upd H a o) a u=upd H a u:=by
 funext b;unfold upd;split <;> rfl
theorem cu {H:Hp} {a b:Addr} {o:HO} (h:H a=some o) (h':H b=none):a≠b:=by
 intro e;subst e;rw [h] at h';cases h'
section
variable (P:Program) (w:World)
def dW (H:Hp) (h:Heap) (a:Addr):HO→Prop
 | .lst xs=>xs.length≤sizeLine∧∃(its:List Value) (n:Nat),Vals xs its∧h.get? a=some { cls:=.type "list", data:=.seq its.toArray n }
 | .tup xs=>xs.length≤sizeLine∧∃its:List Value,Vals xs its∧IsTup h a its.toArray
 | .dK kvs=>kvs.length≤sizeLine∧(a == sysModules)=false∧∃vs,KV kvs vs∧h.DictOf (Hr P w) a vs
 | .dT kvs=>kvs.length≤sizeLine∧(a == sysModules)=false∧∃xs:List (List Key×Addr×Value),
   Paired (fun (p:List Key×V) (q:List Key×Addr×Value)=>p.1=q.1∧H q.2.1=some (.tup (p.1.map kV))∧RelV p.2 q.2.2) kvs xs ∧
   ∃o es ep,h.get? a=some o∧o.ExactDict∧o.data=.dict es ep∧es.toList=xs.map (entryOfKey (tupleKind (Hr P w)))∧(xs.map (·.1)).Nodup
 | .set S n=>h.SetOf (intKind P w) a S n
 | .ins C dx fs=>H dx=some (.own a)∧fs.length≤1000∧dx≠a∧h.get? a=some (W.instObj C dx) ∧
   ∃mA,h.Ns1 dx mA∧(∀f,mL (fs.lookup f) (mA f))∧PySem.Within mA (fs.map (·.1))
 | .own _=>∃o,h.get? a=some o
 | .xd fs=>∃mA,h.Ns1 a mA∧∀f,mL (fs.lookup f) (mA f)
 | .rng lo hi=>∃t u v,h.get? a=some { cls:=.type "range", data:=.fields #[.int lo t,.int hi u,.int 1 v] }
 | .frz o u=>h.get? a=some o∧dW H h a u
 | .tbl ps=>h.get? a=some { cls:=.none,data:=.fields ps }
 | .met f x=>h.get? a=some (W.methodObj (.ref f) (.ref x))
 | .ext φ=>φ h∧(∃o,h.get? a=some o)∧∀h1 h2:Heap,φ h1→(∀o,h1.get? a=some o→h2.get? a=some o)→φ h2
def HOk (H:Hp) (h:Heap):Prop:=∀a o,H a=some o→dW P w H h a o
end
section
variable {P:Program} {w:World} {H H':Hp} {h h':Heap} {a:Addr} {o:HO}
theorem dW.lt (x:dW P w H h a o):a < h.objs.size:=by
 cases o with
 | lst xs=>obtain ⟨_,_,_,_,e⟩:=x;exact Heap.lt_size e
 | tup xs=>obtain ⟨_,_,_,p⟩:=x;exact p.lt
 | dK kvs=>obtain ⟨_,_,_,_,o,_,_,e,_⟩:=x;exact Heap.lt_size e
 | dT kvs=>obtain ⟨_,_,_,_,o,_,_,e,_⟩:=x;exact Heap.lt_size e
 | set S n=>obtain ⟨o,_,_,_,e,_⟩:=x;exact Heap.lt_size e
 | ins C dx fs=>obtain ⟨_,_,_,e,_⟩:=x;exact Heap.lt_size e
 | own y=>obtain ⟨_,e⟩:=x;exact Heap.lt_size e
 | xd fs=>obtain ⟨_,⟨_,_,_,e,_⟩,_⟩:=x;exact Heap.lt_size e
 | rng lo hi=>obtain ⟨_,_,_,e⟩:=x;exact Heap.lt_size e
 | frz ob u=>obtain ⟨e,_⟩:=x;exact Heap.lt_size e
 | tbl ps=>exact Heap.lt_size (show h.get? a=some _ from x)
 | met f y=>exact Heap.lt_size (show h.get? a=some _ from x)
 | ext φ=>obtain ⟨_,⟨_,e⟩,_⟩:=x;exact Heap.lt_size e
theorem Paired.Zn {α β:Type} {F G:α→β→Prop}:∀{l₁:List α} {l₂:List β},Paired F l₁ l₂→(∀a b,F a b→G a b)→Paired G l₁ l₂
 | _,_,.nil,_=>.nil
 | _,_,.cons r t,f=>.cons (f _ _ r) (Paired.Zn t f)
theorem dW.stay (x:dW P w H h a o) (k:∀b u,(b=a∨H b=some (.own a))→h.get? b=some u→h'.get? b=some u)
  (ho:∀b,H b=some (.own a)→H' b=some (.own a)) (ht:∀b xs,H b=some (.tup xs)→H' b=some (.tup xs)):dW P w H' h' a o:=by
 induction o with
 | lst xs=>obtain ⟨z,its,n,r,e⟩:=x;exact ⟨z,its,n,r,k _ _ (.inl rfl) e⟩
 | tup xs=>obtain ⟨z,its,r,ob,e,c⟩:=x;exact ⟨z,its,r,ob,k _ _ (.inl rfl) e,c⟩
 | dK kvs=>obtain ⟨z,y,vs,r,ob,es,ep,e,c⟩:=x;exact ⟨z,y,vs,r,ob,es,ep,k _ _ (.inl rfl) e,c⟩
 | dT kvs =>
  obtain ⟨z,y,xs,r,ob,es,ep,e,c⟩:=x
  exact ⟨z,y,xs,Paired.Zn r fun p q z=>⟨z.1,ht _ _ z.2.1,z.2.2⟩,ob,es,ep,k _ _ (.inl rfl) e,c⟩
 | set S n=>obtain ⟨ob,es,ep,t,e,c⟩:=x;exact ⟨ob,es,ep,t,k _ _ (.inl rfl) e,c⟩
 | ins C dx fs =>
  obtain ⟨d,z,ne,e,mA,⟨od,es,ep,e2,c⟩,r⟩:=x
  exact ⟨ho _ d,z,ne,k _ _ (.inl rfl) e,mA,⟨od,es,ep,k _ _ (.inr d) e2,c⟩,r⟩
 | own y=>obtain ⟨ob,e⟩:=x;exact ⟨ob,k _ _ (.inl rfl) e⟩
 | xd fs=>obtain ⟨mA,⟨od,es,ep,e,c⟩,r⟩:=x;exact ⟨mA,⟨od,es,ep,k _ _ (.inl rfl) e,c⟩,r⟩
 | rng lo hi=>obtain ⟨t,u,v,e⟩:=x;exact ⟨t,u,v,k _ _ (.inl rfl) e⟩
 | frz ob u ih=>obtain ⟨e,q⟩:=x;exact ⟨k _ _ (.inl rfl) e,ih q⟩
 | tbl ps =>
  have e:h.get? a=some { cls:=.none,data:=.fields ps }:=x
  show h'.get? a=some { cls:=.none,data:=.fields ps }
  exact k a _ (.inl rfl) e
 | met f y =>
  have e:h.get? a=some (W.methodObj (.ref f) (.ref y)):=x
  show h'.get? a=some (W.methodObj (.ref f) (.ref y))
  exact k a _ (.inl rfl) e
 | ext φ=>obtain ⟨p,⟨o,e⟩,st⟩:=x;exact ⟨st _ _ p fun o q=>k _ _ (.inl rfl) q,⟨o,k _ _ (.inl rfl) e⟩,st⟩
theorem HOk.lt (x:HOk P w H h) (e:H a=some o):a < h.objs.size:=(x a o e).lt
theorem HOk.fresh (x:HOk P w H h) (e:h.objs.size≤a):H a=none:=by
 cases q:H a with
 | none=>rfl
 | some u=>exact absurd (Nat.lt_of_lt_of_le (x.lt q) e) (Nat.lt_irrefl _)
theorem HOk.kept (x:HOk P w H h) (k:∀b u,h.get? b=some u→h'.get? b=some u):HOk P w H h':=fun a o e =>
 (x a o e).stay (fun b u _ q=>k b u q) (fun _ q=>q) fun _ _ q=>q
theorem HOk.laid (x:HOk P w H h) (k:∀b u,h.get? b=some u→h'.get? b=some u) (hp:h.objs.size≤a) (new:dW P w (upd H a o) h' a o):HOk P w (upd H a o) h':=fun b u e=>by
 have hn:=x.fresh hp
 by_cases hb:b=a
 ·subst hb;rw [cB] at e;cases e;exact new
 ·rw [bW hb] at e
  exact (x b u e).stay (fun c v _ q=>k c v q) (fun c q=>by rw [bW (cu q hn)];exact q) fun c xs q=>by rw [bW (cu q hn)];exact q
end
def Rd (H:Hp) (a:Addr) (u:HO):Prop:=H a=some u∨∃o,H a=some (.frz o u)
theorem Rd.of {H:Hp} {a:Addr} {u:HO} (h:H a=some u):Rd H a u:=.inl h
theorem Rd.ok {P:Program} {w:World} {H:Hp} {h:Heap} {a:Addr} {u:HO} (r:Rd H a u) (x:HOk P w H h):dW P w H h a u:=by
 rcases r with r | ⟨o,r⟩
 ·exact x a u r
 ·obtain ⟨_,q⟩:=x a _ r
  exact q
def Mut:Option HO→Prop
 | some (.lst _)=>True
 | some (.dK _)=>True
 | some (.dT _)=>True
 | some (.set _ _)=>True
 | some (.ins _ _ _)=>True
 | some (.ext _)=>True
 | _=>False
section
variable {P:Program} {w:World} {H:Hp} {h h':Heap} {x e:Addr} {o':HO}
theorem HOk.write (ok:HOk P w H h) (mu:Mut (H x)) (he:e=x∨H e=some (.own x)) (k:∀b u,b≠e→h.get? b=some u→h'.get? b=some u) (heo:∃u,h'.get? e=some u)
  (new:dW P w (upd H x o') h' x o'):HOk P w (upd H x o') h':=fun b u q=>by
 have Zo:∀c y,H c=some (.own y)→c≠x:=fun c y r z=>by subst z;rw [r] at mu;exact mu
 have ac0:∀c xs,H c=some (.tup xs)→c≠x:=fun c xs r z=>by subst z;rw [r] at mu;exact mu
 by_cases hb:b=x
 ·subst hb;rw [cB] at q;cases q;exact new
 ·rw [bW hb] at q
  by_cases hbe:b=e
  ·have q':H b=some (.own x):=by
    rcases he with z | z
    ·exact absurd (hbe.trans z) hb
    ·rw [hbe];exact z
   rw [q] at q';cases q'
   obtain ⟨v,hv⟩:=heo
   exact ⟨v,by rw [hbe];exact hv⟩
  ·refine (ok b u q).stay (fun c v hc r=>k c v ?_ r) (fun c r=>by rw [bW (Zo c b r)];exact r) fun c xs r=>by rw [bW (ac0 c xs r)];exact r
   rcases hc with rfl | hc
   ·exact hbe
   ·rintro rfl
    rcases he with z | z
    ·exact Zo c b hc z
    ·rw [hc] at z;cases z;exact hb rfl
end
structure Un (fs ex:List Addr) (H H':Hp) (h h':Heap):Prop where
 keep:∀b o,h.get? b=some o→H b=none→b ∉ fs→b ∉ ex→h'.get? b=some o
 slot:∀b o,h.get? b=some o→H b=none→b∈fs→b ∉ ex→∃sl,h'.get? b=some { o with slots:=sl }
 free:∀b o,h.get? b=some o→H b=none→b ∉ ex→H' b=none
 there:∀b o,h.get? b=some o→b ∉ ex→∃o',h'.get? b=some o'
 tups:∀b xs,H b=some (.tup xs)→H' b=some (.tup xs)
 pJ:∀b o u,H b=some (.frz o u)→H' b=some (.frz o u)
 pK:∀b ps,H b=some (.tbl ps)→∃more,H' b=some (.tbl (ps++more))
section
variable {fs fs' ex ex':List Addr} {H H1 H2:Hp} {h h1 h2 h':Heap} {a x e:Addr} {o:HO}
theorem Un.any (u:Un fs ex H H1 h h1) {b:Addr} {ob:Obj} (q:h.get? b=some ob) (n:H b=none) (hx:b ∉ ex):∃sl,h1.get? b=some { ob with slots:=sl }:=by
 by_cases hb:b∈fs
 ·exact u.slot b ob q n hb hx
 ·exact ⟨ob.slots,u.keep b ob q n hb hx⟩
theorem Un.trans (a:Un fs ex H H1 h h1) (b:Un fs ex H1 H2 h1 h2):Un fs ex H H2 h h2 where
 keep:=fun c ob q n hc hx=>b.keep c ob (a.keep c ob q n hc hx) (a.free c ob q n hx) hc hx
 slot:=fun c ob q n hc hx=>by
  obtain ⟨sl,e1⟩:=a.slot c ob q n hc hx
  obtain ⟨sl',e2⟩:=b.slot c _ e1 (a.free c ob q n hx) hc hx
  exact ⟨sl',e2⟩
 free:=fun c ob q n hx=>by
  obtain ⟨o',e1⟩:=a.there c ob q hx
  exact b.free c o' e1 (a.free c ob q n hx) hx
 there:=fun c ob q hx=>by
  obtain ⟨o',e1⟩:=a.there c ob q hx
  exact b.there c o' e1 hx
 tups:=fun c xs q=>b.tups c xs (a.tups c xs q)
 pJ:=fun c ob xs q=>b.pJ c ob xs (a.pJ c ob xs q)
 pK:=fun c ps q=>by
  obtain ⟨m1,e1⟩:=a.pK c ps q
  obtain ⟨m2,e2⟩:=b.pK c _ e1
  exact ⟨m1++m2,by rw [e2,Array.append_assoc]⟩
theorem Un.kept (k:∀b u,h.get? b=some u→h'.get? b=some u):Un fs ex H H h h' :=
 ⟨fun b ob q _ _ _=>k b ob q,fun b ob q _ _ _=>⟨ob.slots,k b ob q⟩,fun _ _ _ n _=>n,fun b ob q _=>⟨ob,k b ob q⟩,fun _ _ q=>q,fun _ _ _ q=>q,fun _ ps q=>⟨#[],by rw [q];simp⟩⟩
theorem Un.refl:Un fs ex H H h h:=Un.kept fun _ _ q=>q
theorem Un.laid (k:∀b u,h.get? b=some u→h'.get? b=some u) (hp:h.objs.size≤a) (hn:H a=none):Un fs ex H (upd H a o) h h' where
 keep:=fun b u q _ _ _=>k b u q
 slot:=fun b u q _ _ _=>⟨u.slots,k b u q⟩
 free:=fun b u q n _=>by rw [bW (Nat.ne_of_lt (Nat.lt_of_lt_of_le (Heap.lt_size q) hp))];exact n
 there:=fun b u q _=>⟨u,k b u q⟩
 tups:=fun b xs q=>by rw [bW (cu q hn)];exact q
 pJ:=fun b u xs q=>by rw [bW (cu q hn)];exact q
 pK:=fun b ps q=>⟨#[],by rw [bW (cu q hn),q];simp⟩
theorem Un.write (mu:Mut (H x)) (he:e=x∨H e=some (.own x)) (k:∀b u,b≠e→h.get? b=some u→h'.get? b=some u) (heo:∃u,h'.get? e=some u):Un fs ex H (upd H x o) h h':=by
 have hx:∀b,H b=none→b≠x:=fun b n z=>by subst z;rw [n] at mu;exact mu
 have hb:∀b,H b=none→b≠e:=fun b n z=>by
  subst z
  rcases he with r | r
  ·exact hx b n r
  ·rw [n] at r;cases r
 have hm:∀b u,H b=some u→¬ Mut (some u)→b≠x:=fun b u q nm z=>by subst z;rw [q] at mu;exact nm mu
 refine ⟨fun b u q n _ _=>k b u (hb b n) q,fun b u q n _ _=>⟨u.slots,k b u (hb b n) q⟩,fun b u q n _=>by rw [bW (hx b n)];exact n,fun b u q _=>?_,
  fun b xs q=>by rw [bW (hm b _ q fun z=>z)];exact q,fun b u xs q=>by rw [bW (hm b _ q fun z=>z)];exact q,fun b ps q=>⟨#[],by rw [bW (hm b _ q fun z=>z),q];simp⟩⟩
 by_cases hbe:b=e
 ·subst hbe;exact heo
 ·exact ⟨u,k b u hbe q⟩
end
def trk (h:Heap) (H:Hp):List Addr:=(List.range h.objs.size).filter fun a=>(H a).isSome
def wA (h:Heap) (H:Hp):Heap:=W.hideAll h (trk h H)
theorem Kc (h:Heap) (H:Hp):(wA h H).objs.size=h.objs.size:=W.hideAll_size _ _
theorem Bl {h:Heap} {H:Hp} {b:Addr} {o:Obj} (e:h.get? b=some o) (n:H b=none):(wA h H).get? b=some o :=
 W.hideAll_get _ e fun hm=>by
  have q:(H b).isSome=true:=(List.mem_filter.mp hm).2
  rw [n] at q;simp at q
theorem RJ {h:Heap} {H:Hp} {b:Addr} {o:Obj} (e:(wA h H).get? b=some o):h.get? b=some o∧H b=none:=by
 have e':h.get? b=some o:=W.of_hideAll (trk h H) e
 refine ⟨e',?_⟩
 cases q:H b with
 | none=>rfl
 | some x =>
  have hm:b∈trk h H:=List.mem_filter.mpr ⟨List.mem_range.mpr (Heap.lt_size e'),by simp [q]⟩
  have z:(wA h H).get? b=none:=W.hideAll_none (trk h H) hm
  rw [z] at e;cases e
structure Mod (K:W.Frag) (mg:Str→Option Value) (base:Heap):Prop where
 kin:K.In base
 glob:base.Ns mainGlobals mg
 blt:∃mb,base.Ns builtinsNs mb∧∀x:Str,x ≠ "__name__" → mb x=bootBuiltins x
 nolimit:base.NoLimit
/-- the context: a def's body (or a comprehension's block) running. base: fixed through the whole law; s₀, H₀: the entry; outer: the frames whose slots others may change (a def's callers); stack: all frames that run;
   ex: iterators that were made ahead of the entry and are walked here (a comprehension's);fn: the names whose cells were made at the entry (a def: all;a comprehension's block: its own);calm: not within an except suite;pn: pins that every state bears;xe: what is wanted of an exception that leaves the code -/
structure Cx where
 prog:Program
 w:World
 K:W.Frag
 mg:Str→Option Value
 base:Heap
 A:Around
 N:List Str
 s₀:Shared
 H₀:Hp
 env:Env
 outer:List Env
 stack:List Env
 ex:List Addr
 fn:Str→Bool
 calm:Bool
 pn:List (Addr×Obj)
 xe:Value→Shared→Prop
def frs (l:List Env):List Addr:=l.filterMap (·.frame)
abbrev Cx.fs (X:Cx):List Addr:=frs X.outer
def Vis (sc:Scope) (x:Str):Prop:=sc.names.lookup x=some .local∨sc.names.lookup x=some .cell∨sc.names.lookup x=some .free
def Loc (sc:Scope) (x:Str):Prop:=sc.names.lookup x=some .local∨sc.names.lookup x=some .cell
def Look (env:Env) (h:Heap) (m:Str→Option Value) (x:Str) (u:Value):Prop :=
 (env.kindOf x=some .local∧m x=some u)∨((env.kindOf x=some .cell∨env.kindOf x=some .free)∧∃c,env.cells.lookup x=some c∧h.IsCell c (some u))
structure Cx.Ok (X:Cx):Prop where
 mod:Mod X.K X.mg X.base
 kind:X.env.scope.kind=.function
 glob:X.env.globals=mainGlobals
 blt:X.env.builtins=builtinsNs
 above:X.s₀.heap.objs.size≤X.env.locals
 inj:∀x y c,X.env.cells.lookup x=some c→X.env.cells.lookup y=some c→x=y
 has:∀x,(X.env.kindOf x=some .cell∨X.env.kindOf x=some .free)→∃c,X.env.cells.lookup x=some c
 cab:∀x c,X.fn x=true→X.env.cells.lookup x=some c→X.s₀.heap.objs.size≤c
 hd:X.calm=true→X.A.handled=none
 frames:X.A.frames=some X.stack
 stk:X.stack=X.outer∨(X.stack=X.env::X.outer∧X.env.frame=some X.env.locals)
 exf:∀b∈X.ex,b≠X.env.locals∧∀x c,X.env.cells.lookup x=some c→c≠b
 bs:∀b o,X.base.get? b=some o→X.s₀.heap.get? b=some o∧X.H₀ b=none
 bsz:X.base.objs.size≤X.s₀.heap.objs.size
 Kd:∀b o,X.base.get? b=some o→b ∉ X.ex
 Mg:∀b∈X.ex,b ∉ X.fs
 pL:X.s₀.heap.FunFrames X.base X.outer
 frf:∀b∈X.fs,X.H₀ b=none
structure Inv (X:Cx) (pins:List (Addr×Obj)) (σ:List (Option V)) (H:Hp) (s:Shared):Prop where
 ok:X.Ok
 os:s.os=X.s₀.os
 bare:AllBare s.gens
 base:Un X.fs X.ex X.H₀ H X.s₀.heap s.heap
 loc:∃m,s.heap.Ns X.env.locals m∧∀(i:Nat) (x:Str) (v:V),X.N[i]?=some x→σ[i]?=some (some v)→Vis X.env.scope x→∃u,RelV v u∧Look X.env s.heap m x u
 cell:∀x c,X.env.cells.lookup x=some c→∃v,s.heap.IsCell c v
 free:H X.env.locals=none
 mC:∀x c,X.env.cells.lookup x=some c→H c=none
 pin:∀p∈X.pn++pins,s.heap.get? p.1=some p.2∧H p.1=none∧p.1≠X.env.locals∧p.1 ∉ X.fs∧∀v,p.2.data≠.cell v
 hok:HOk X.prog X.w H s.heap
 len:σ.length=X.N.length
section
variable {X:Cx} {pins:List (Addr×Obj)} {σ:List (Option V)} {H H':Hp} {s:Shared} {h':Heap}
theorem Cx.Ok.ac1 (ok:X.Ok) {b:Addr} {o:Obj} (e:X.base.get? b=some o):b ∉ X.fs:=fun hb=>by
 have:=(ok.pL.mem hb).1
 rw [e] at this;cases this
theorem Inv.bs (I:Inv X pins σ H s):∀b o,X.base.get? b=some o→s.heap.get? b=some o∧H b=none:=fun b o e =>
 ⟨I.base.keep b o (I.ok.bs b o e).1 (I.ok.bs b o e).2 (I.ok.ac1 e) (I.ok.Kd b o e),I.base.free b o (I.ok.bs b o e).1 (I.ok.bs b o e).2 (I.ok.Kd b o e)⟩
theorem Inv.bk (I:Inv X pins σ H s):∀b o,X.base.get? b=some o→s.heap.get? b=some o:=fun b o e=>(I.bs b o e).1
theorem Inv.mod (I:Inv X pins σ H s):Mod X.K X.mg X.base:=I.ok.mod
theorem Inv.kIn (I:Inv X pins σ H s):X.K.In s.heap:=I.ok.mod.kin.keeps I.bk
theorem Inv.fr (I:Inv X pins σ H s):∃m,Fr X.base X.env.locals s.heap m :=
 let ⟨m,hn,_⟩:=I.loc
 ⟨m,hn,I.bk,Nat.le_trans I.ok.bsz I.ok.above⟩
theorem Inv.lt (I:Inv X pins σ H s):X.env.locals < s.heap.objs.size:=let ⟨_,hn,_⟩:=I.loc;hn.lt
theorem Inv.sz (I:Inv X pins σ H s):X.s₀.heap.objs.size≤s.heap.objs.size:=Nat.le_trans I.ok.above (Nat.le_of_lt I.lt)
theorem Inv.ac2 (I:Inv X pins σ H s) {a:Addr} (h:s.heap.objs.size≤a):a ∉ X.fs:=fun hb=>by
 obtain ⟨_,o,ho,_⟩:=I.ok.pL.mem hb
 exact absurd (Nat.lt_of_lt_of_le (Heap.lt_size ho) (Nat.le_trans I.sz h)) (Nat.lt_irrefl _)
theorem Inv.cne (I:Inv X pins σ H s):∀x c,X.env.cells.lookup x=some c→c≠X.env.locals:=fun x c e z=>by
 obtain ⟨v,o,ho,hd⟩:=I.cell x c e
 obtain ⟨m,⟨o',es,ep,ho',hd',_⟩,_⟩:=I.loc
 rw [z,ho'] at ho;cases ho;rw [hd'] at hd;cases hd
theorem Inv.pL (I:Inv X pins σ H s):s.heap.FunFrames X.base X.outer:=by
 have all:∀(l:List Env),(∀b∈frs l,b∈X.fs)→X.s₀.heap.FunFrames X.base l→s.heap.FunFrames X.base l:=by
  intro l
  induction l with
  | nil=>intro _ _;trivial
  | cons env r ih =>
   intro hs hl
   obtain ⟨hk,⟨L,o,hf,hn,ho,hd⟩,hr⟩:=hl
   have hL:L∈X.fs:=hs L (by unfold frs;rw [List.filterMap_cons,hf];exact List.mem_cons_self)
   obtain ⟨sl,e⟩:=I.base.slot L o ho (I.ok.frf L hL) hL fun z=>I.ok.Mg L z hL
   exact ⟨hk,⟨L,_,hf,hn,e,hd⟩,ih (fun b hb=>hs b (by unfold frs;rw [List.filterMap_cons,hf];exact List.mem_cons_of_mem _ hb)) hr⟩
 exact all X.outer (fun _ hb=>hb) I.ok.pL
theorem Inv.stack (I:Inv X pins σ H s):s.heap.FunFrames X.base X.stack:=by
 rcases I.ok.stk with e | ⟨e,hf⟩
 ·rw [e];exact I.pL
 ·rw [e]
  obtain ⟨m,hn,_⟩:=I.loc
  refine .cons (by rw [I.ok.kind];decide) hf hn ?_ I.pL
  exact Heap.get?_none_of_le (Nat.le_trans I.ok.bsz I.ok.above)
theorem Inv.tE (I:Inv X pins σ H s):∀b∈frs X.stack,b∈X.env.locals::X.fs:=fun b hb=>by
 rcases I.ok.stk with e | ⟨e,hf⟩
 ·rw [e] at hb;exact List.mem_cons_of_mem _ hb
 ·rw [e] at hb
  unfold frs at hb
  rw [List.filterMap_cons,hf] at hb
  exact hb
theorem Inv.Ht (I:Inv X pins σ H s):∀b∈frs X.stack,H b=none:=fun b hb=>by
 rcases List.mem_cons.mp (I.tE b hb) with e | hb
 ·rw [e];exact I.free
 ·obtain ⟨_,o,ho,_⟩:=I.ok.pL.mem hb
  exact I.base.free b o ho (I.ok.frf b hb) fun z=>I.ok.Mg b z hb
theorem Inv.step {g':Array GenState} {t':Nat} {d':Drawn} {ch:List Addr} (I:Inv X pins σ H s)
  (hch:∀b∈ch,(b∈X.ex∨X.s₀.heap.objs.size≤b)∧b≠X.env.locals∧(∀x c,X.env.cells.lookup x=some c→c≠b)∧∀p∈X.pn++pins,p.1≠b)
  (keep:∀b o,b≠X.env.locals→b ∉ X.fs→b ∉ ch→s.heap.get? b=some o→H b=none→h'.get? b=some o)
  (slot:∀b o,b≠X.env.locals→b∈X.fs→b ∉ ch→s.heap.get? b=some o→H b=none→∃sl,h'.get? b=some { o with slots:=sl }) (free:∀b o,b ∉ ch→s.heap.get? b=some o→H b=none→H' b=none)
  (there:∀b o,b ∉ ch→s.heap.get? b=some o→∃o',h'.get? b=some o')
  (tups:∀b xs,H b=some (.tup xs)→H' b=some (.tup xs)) (pJ:∀b o u,H b=some (.frz o u)→H' b=some (.frz o u)) (pK:∀b ps,H b=some (.tbl ps)→∃more,H' b=some (.tbl (ps++more)))
  (ns:∀m,s.heap.Ns X.env.locals m→h'.Ns X.env.locals m) (hok:HOk X.prog X.w H' h') (hg:AllBare g') :
  Inv X pins σ H' { s with heap:=h',gens:=g',drawn:=d',toks:=t' }:=by
 have neL:∀b o,X.s₀.heap.get? b=some o→b≠X.env.locals:=fun b o e=>Nat.ne_of_lt (Nat.lt_of_lt_of_le (Heap.lt_size e) I.ok.above)
 have neC:∀b o,X.s₀.heap.get? b=some o→b ∉ X.ex→b ∉ ch:=fun b o e hx hb=>by
  rcases (hch b hb).1 with z | z
  ·exact hx z
  ·exact absurd (Nat.lt_of_lt_of_le (Heap.lt_size e) z) (Nat.lt_irrefl _)
 have cellK:∀x c,X.env.cells.lookup x=some c→∀v,s.heap.IsCell c v→h'.IsCell c v:=fun x c e v ⟨o,ho,hd⟩=>by
  have nch:c ∉ ch:=fun z=>(hch c z).2.2.1 x c e rfl
  by_cases hc:c∈X.fs
  ·obtain ⟨sl,q⟩:=slot c o (I.cne x c e) hc nch ho (I.mC x c e)
   exact ⟨_,q,hd⟩
  ·exact ⟨o,keep c o (I.cne x c e) hc nch ho (I.mC x c e),hd⟩
 refine ⟨I.ok,I.os,hg,⟨fun b o e n hb hx=>?_,fun b o e n hb hx=>?_,fun b o e n hx=>?_,fun b o e hx=>?_,fun b xs e=>tups b xs (I.base.tups b xs e),fun b o xs e=>pJ b o xs (I.base.pJ b o xs e),fun b ps e=>?_⟩,?_,fun x c e=>?_,?_,fun x c e=>?_,fun p hp=>?_,hok,I.len⟩
 ·exact keep b o (neL b o e) hb (neC b o e hx) (I.base.keep b o e n hb hx) (I.base.free b o e n hx)
 ·obtain ⟨sl,e1⟩:=I.base.slot b o e n hb hx
  obtain ⟨sl',e2⟩:=slot b _ (neL b o e) hb (neC b o e hx) e1 (I.base.free b o e n hx)
  exact ⟨sl',e2⟩
 ·obtain ⟨o',e1⟩:=I.base.there b o e hx
  exact free b o' (neC b o e hx) e1 (I.base.free b o e n hx)
 ·obtain ⟨o',e1⟩:=I.base.there b o e hx
  exact there b o' (neC b o e hx) e1
 ·obtain ⟨m1,e1⟩:=I.base.pK b ps e
  obtain ⟨m2,e2⟩:=pK b _ e1
  exact ⟨m1++m2,by rw [e2,Array.append_assoc]⟩
 ·obtain ⟨m,hn,hl⟩:=I.loc
  refine ⟨m,ns m hn,fun i x v e1 e2 e3=>?_⟩
  obtain ⟨u,r,l⟩:=hl i x v e1 e2 e3
  refine ⟨u,r,?_⟩
  rcases l with l | ⟨k,c,e,z⟩
  ·exact .inl l
  ·exact .inr ⟨k,c,e,cellK x c e _ z⟩
 ·obtain ⟨v,z⟩:=I.cell x c e
  exact ⟨v,cellK x c e v z⟩
 ·obtain ⟨m,⟨o,_,_,ho,_⟩,_⟩:=I.loc
  exact free _ o (fun z=>(hch _ z).2.1 rfl) ho I.free
 ·obtain ⟨v,o,ho,hd⟩:=I.cell x c e
  exact free c o (fun z=>(hch c z).2.2.1 x c e rfl) ho (I.mC x c e)
 ·obtain ⟨e,n,ne,nf,d⟩:=I.pin p hp
  have nch:p.1 ∉ ch:=fun z=>(hch p.1 z).2.2.2 p hp rfl
  exact ⟨keep p.1 p.2 ne nf nch e n,free p.1 p.2 nch e n,ne,nf,d⟩
theorem Inv.un {t':Nat} (I:Inv X pins σ H s) (u:Un X.fs [] H H' s.heap h') (hok:HOk X.prog X.w H' h'):Inv X pins σ H' { s with heap:=h',toks:=t' }:=by
 obtain ⟨m,⟨o,es,ep,ho,r⟩,_⟩:=id I.loc
 obtain ⟨sl,hL⟩:=u.any ho I.free (by simp)
 exact I.step (g':=s.gens) (d':=s.drawn) (ch:=[]) (fun _ z=>nomatch z) (fun b o _ hb _ e n=>u.keep b o e n hb (by simp)) (fun b o _ hb _ e n=>u.slot b o e n hb (by simp)) (fun b o _ e n=>u.free b o e n (by simp)) (fun b o _ e=>u.there b o e (by simp)) u.tups u.pJ u.pK (fun m' hm=>by
  obtain ⟨o',es',ep',ho',r'⟩:=hm
  rw [ho] at ho';cases ho'
  exact ⟨_,es',ep',hL,r'⟩) hok I.bare
theorem Inv.call {g':Array GenState} {t':Nat} {d':Drawn} {ch:List Addr} (I:Inv X pins σ H s) (u:Un (frs X.stack) ch H H' s.heap h') (hok:HOk X.prog X.w H' h') (hg:AllBare g')
  (hch:∀b∈ch,(b∈X.ex∨X.s₀.heap.objs.size≤b)∧b≠X.env.locals∧(∀x c,X.env.cells.lookup x=some c→c≠b)∧∀p∈X.pn++pins,p.1≠b) :
  Inv X pins σ H' { s with heap:=h',gens:=g',drawn:=d',toks:=t' }:=by
 obtain ⟨m,⟨o,es,ep,ho,r⟩,_⟩:=id I.loc
 obtain ⟨sl,hL⟩:=u.any ho I.free fun z=>(hch _ z).2.1 rfl
 exact I.step (ch:=ch) hch (fun b o hL hb hc e n=>u.keep b o e n (fun z=>(List.mem_cons.mp (I.tE b z)).elim hL hb) hc) (fun b o _ _ hc e n=>u.any e n hc) (fun b o hc e n=>u.free b o e n hc) (fun b o hc e=>u.there b o e hc) u.tups u.pJ u.pK (fun m' hm=>by
  obtain ⟨o',es',ep',ho',r'⟩:=hm
  rw [ho] at ho';cases ho'
  exact ⟨_,es',ep',hL,r'⟩) hok hg
theorem Inv.turned {t':Nat} {it:Addr} (I:Inv X pins σ H s) (k:∀b o,b≠it→s.heap.get? b=some o→h'.get? b=some o) (hn:H it=none) (hL:it≠X.env.locals)
  (h1:it∈X.ex∨X.s₀.heap.objs.size≤it) (h2:∀x c,X.env.cells.lookup x=some c→c≠it) (h3:∀p∈X.pn++pins,p.1≠it):Inv X pins σ H { s with heap:=h',toks:=t' }:=by
 have nit:∀b u,H b=some u→b≠it:=fun b u e z=>by rw [z,hn] at e;cases e
 refine I.step (g':=s.gens) (d':=s.drawn) (ch:=[it]) (fun b hb=>?_) (fun b o _ _ hc e _=>k b o (fun z=>hc (by simp [z])) e) (fun b o _ _ hc e _=>⟨o.slots,k b o (fun z=>hc (by simp [z])) e⟩) (fun _ _ _ _ n=>n)
  (fun b o hc e=>⟨o,k b o (fun z=>hc (by simp [z])) e⟩) (fun _ _ e=>e) (fun _ _ _ e=>e) (fun b ps e=>⟨#[],by rw [e];simp⟩) (fun m hm=>?_) (fun b u e=>?_) I.bare
 ·have e:b=it:=by simpa using hb
  subst e
  exact ⟨h1,hL,h2,h3⟩
 ·obtain ⟨o,es,ep,ho,r⟩:=hm
  exact ⟨o,es,ep,k _ o (Ne.symm hL) ho,r⟩
 ·refine (I.hok b u e).stay (fun c v hc q=>k c v ?_ q) (fun _ q=>q) fun _ _ q=>q
  rcases hc with z | z
  ·rw [z];exact nit b u e
  ·exact nit c _ z
theorem Inv.tok (I:Inv X pins σ H s) (t:Nat):Inv X pins σ H { s with toks:=t }:=I.un (h':=s.heap) (t':=t) Un.refl I.hok
theorem Inv.kept {t':Nat} (I:Inv X pins σ H s) (k:∀b u,s.heap.get? b=some u→h'.get? b=some u):Inv X pins σ H { s with heap:=h',toks:=t' }:=I.un (Un.kept k) (I.hok.kept k)
theorem Inv.laid {a:Addr} {o:HO} {t':Nat} (I:Inv X pins σ H s) (k:∀b u,s.heap.get? b=some u→h'.get? b=some u) (hp:s.heap.objs.size≤a) (new:dW X.prog X.w (upd H a o) h' a o) :
  Inv X pins σ (upd H a o) { s with heap:=h',toks:=t' }:=I.un (Un.laid k hp (I.hok.fresh hp)) (I.hok.laid k hp new)
theorem Inv.write {x e:Addr} {o:HO} {t':Nat} (I:Inv X pins σ H s) (mu:Mut (H x)) (he:e=x∨H e=some (.own x)) (k:∀b u,b≠e→s.heap.get? b=some u→h'.get? b=some u) (heo:∃u,h'.get? e=some u)
  (new:dW X.prog X.w (upd H x o) h' x o):Inv X pins σ (upd H x o) { s with heap:=h',toks:=t' }:=I.un (Un.write mu he k heo) (I.hok.write mu he k heo new)
theorem Inv.Hu {U7:List (Addr×Obj)} (I:Inv X pins σ H s) (h:∀p∈U7,s.heap.get? p.1=some p.2∧H p.1=none∧p.1≠X.env.locals∧p.1 ∉ X.fs∧∀v,p.2.data≠.cell v):Inv X U7 σ H s :=
 ⟨I.ok,I.os,I.bare,I.base,I.loc,I.cell,I.free,I.mC,fun p hp=>(List.mem_append.mp hp).elim (fun z=>I.pin p (List.mem_append_left _ z)) (h p),I.hok,I.len⟩
theorem Bo {N:List Str} (hN:N.Nodup) {i j:Nat} {x:Str} (a:N[i]?=some x) (b:N[j]?=some x):i=j:=by
 obtain ⟨h1,e1⟩:=List.getElem?_eq_some_iff.mp a
 obtain ⟨h2,e2⟩:=List.getElem?_eq_some_iff.mp b
 exact (List.getElem_inj hN).mp (e1.trans e2.symm)
theorem wK {M:Model} {A:Around} {E:Value→Shared→Prop} {i:Nat} {x:Str} {v:V} {u:Value} {Q:Unit→Shared→Prop} (I:Inv X pins σ H s) (hN:X.N.Nodup) (hi:X.N[i]?=some x) (hx:Loc X.env.scope x) (r:RelV v u)
  (h:∀s',Inv X pins (σ.set i (some v)) H s'→(∃a,Heap.SameBut a s.heap s'.heap∧(a=X.env.locals∨X.env.cells.lookup x=some a))→Q () s') (hf:X.fn x=true∨X.env.scope.names.lookup x=some .local:=by first | exact .inl rfl | exact .inr rfl | assumption):wpAny M A (storeName X.env x u) Q E s:=by
 obtain ⟨m,hn,hl⟩:=id I.loc
 have hcls:(X.env.scope.kind == .class || (X.env.scope.kind == .module && X.env.locals != X.env.globals))=false:=by rw [I.ok.kind];rfl
 have hiσ:i < σ.length:=by rw [I.len];exact (List.getElem?_eq_some_iff.mp hi).1
 have cne:=I.cne
 have tracked:∀{a:Addr} {h':Heap},(∃o,s.heap.get? a=some o∧H a=none)→Heap.SameBut a s.heap h'→HOk X.prog X.w H h':=fun {a h'} ha hs b ob e=>by
  obtain ⟨_,_,hfree⟩:=ha
  refine (I.hok b ob e).stay (fun c w' hc q=>(hs.2 c ?_).trans q) (fun _ q=>q) fun _ _ q=>q
  rintro rfl
  rcases hc with rfl | hc
  ·rw [hfree] at e;cases e
  ·rw [hfree] at hc;cases hc
 rcases hx with hk | hk
 ·refine wpAny_storeName_local hk hn (fun h' hn' hs=>?_) hcls
  obtain ⟨oL,_,_,hoL,_⟩:=id hn
  refine h _ ⟨I.ok,I.os,I.bare,⟨fun b o e n hb hx=>?_,fun b o e n hb hx=>?_,I.base.free,fun b o e hx=>?_,I.base.tups,I.base.pJ,I.base.pK⟩,⟨_,hn',fun j y v' e1 e2 e3=>?_⟩,fun y c e=>?_,I.free,I.mC,fun p hp=>?_,tracked ⟨oL,hoL,I.free⟩ hs,by simpa using I.len⟩ ⟨_,hs,.inl rfl⟩
  ·exact (hs.2 b (Nat.ne_of_lt (Nat.lt_of_lt_of_le (Heap.lt_size e) I.ok.above))).trans (I.base.keep b o e n hb hx)
  ·obtain ⟨sl,e1⟩:=I.base.slot b o e n hb hx
   exact ⟨sl,(hs.2 b (Nat.ne_of_lt (Nat.lt_of_lt_of_le (Heap.lt_size e) I.ok.above))).trans e1⟩
  ·obtain ⟨o',e1⟩:=I.base.there b o e hx
   exact ⟨o',(hs.2 b (Nat.ne_of_lt (Nat.lt_of_lt_of_le (Heap.lt_size e) I.ok.above))).trans e1⟩
  ·by_cases hj:j=i
   ·subst hj
    rw [hi] at e1;cases e1
    rw [List.getElem?_set_self hiσ] at e2
    cases e2
    exact ⟨u,r,.inl ⟨hk,by simp⟩⟩
   ·rw [List.getElem?_set_ne (Ne.symm hj)] at e2
    obtain ⟨u',r',q⟩:=hl j y v' e1 e2 e3
    refine ⟨u',r',?_⟩
    rcases q with ⟨k,e⟩ | ⟨k,c,e,z⟩
    ·refine .inl ⟨k,?_⟩
     have:y≠x:=fun e=>hj (Bo hN e1 (e▸hi))
     simp [this,e]
    ·exact .inr ⟨k,c,e,z.sameBut hs (cne y c e)⟩
  ·obtain ⟨w',z⟩:=I.cell y c e
   exact ⟨w',z.sameBut hs (cne y c e)⟩
  ·obtain ⟨e,n,ne,nf,d⟩:=I.pin p hp
   exact ⟨(hs.2 p.1 ne).trans e,n,ne,nf,d⟩
 ·have hfn:X.fn x=true:=by
   rcases hf with z | z
   ·exact z
   ·rw [z] at hk;cases hk
  obtain ⟨c,hc⟩:=I.ok.has x (.inl hk)
  obtain ⟨w',z⟩:=I.cell x c hc
  refine wpAny_storeName_cell I.ok.kind hk hc z (fun h' hc' hs=>?_)
  obtain ⟨oc,hoc,ac3⟩:=id z
  refine h { s with heap:=h' } ⟨I.ok,I.os,I.bare,⟨fun b o e n hb hx=>?_,fun b o e n hb hx=>?_,I.base.free,fun b o e hx=>?_,I.base.tups,I.base.pJ,I.base.pK⟩,⟨m,hn.sameBut hs (Ne.symm (cne x c hc)),fun j y v' e1 e2 e3=>?_⟩,fun y c' e=>?_,I.free,I.mC,fun p hp=>?_,tracked ⟨oc,hoc,I.mC x c hc⟩ hs,by simpa using I.len⟩ ⟨c,hs,.inr hc⟩
  ·exact (hs.2 b (Nat.ne_of_lt (Nat.lt_of_lt_of_le (Heap.lt_size e) (I.ok.cab x c hfn hc)))).trans (I.base.keep b o e n hb hx)
  ·obtain ⟨sl,e1⟩:=I.base.slot b o e n hb hx
   exact ⟨sl,(hs.2 b (Nat.ne_of_lt (Nat.lt_of_lt_of_le (Heap.lt_size e) (I.ok.cab x c hfn hc)))).trans e1⟩
  ·obtain ⟨o',e1⟩:=I.base.there b o e hx
   exact ⟨o',(hs.2 b (Nat.ne_of_lt (Nat.lt_of_lt_of_le (Heap.lt_size e) (I.ok.cab x c hfn hc)))).trans e1⟩
  ·by_cases hj:j=i
   ·subst hj
    rw [hi] at e1;cases e1
    rw [List.getElem?_set_self hiσ] at e2
    cases e2
    exact ⟨u,r,.inr ⟨.inl hk,c,hc,hc'⟩⟩
   ·rw [List.getElem?_set_ne (Ne.symm hj)] at e2
    obtain ⟨u',r',q⟩:=hl j y v' e1 e2 e3
    refine ⟨u',r',?_⟩
    rcases q with q | ⟨k,c',e,z'⟩
    ·exact .inl q
    ·refine .inr ⟨k,c',e,z'.sameBut hs ?_⟩
     rintro rfl
     exact hj (Bo hN e1 (I.ok.inj _ _ _ e hc▸hi))
  ·by_cases hcc:c'=c
   ·subst hcc;exact ⟨_,hc'⟩
   ·obtain ⟨w2,z2⟩:=I.cell y c' e
    exact ⟨w2,z2.sameBut hs hcc⟩
  ·obtain ⟨e,n,ne,nf,d⟩:=I.pin p hp
   refine ⟨(hs.2 p.1 ?_).trans e,n,ne,nf,d⟩
   intro q
   rw [q,hoc] at e
   have q':oc=p.2:=Option.some.inj e
   exact d w' (by rw [← q'];exact ac3)
theorem Bp {M:Model} {A:Around} {E:Value→Shared→Prop} {i:Nat} {x:Str} {v:V} {u:Value} {Q:Unit→Shared→Prop} (I:Inv X pins σ H s) (hN:X.N.Nodup) (hi:X.N[i]?=some x) (hx:Loc X.env.scope x) (r:RelV v u)
  (h:∀s',Inv X pins (σ.set i (some v)) H s'→Q () s') (hf:X.fn x=true∨X.env.scope.names.lookup x=some .local:=by first | exact .inl rfl | exact .inr rfl | assumption):wpAny M A (storeName X.env x u) Q E s :=
 wK I hN hi hx r (fun s' I' _=>h s' I') hf
theorem Inv.call' {s':Shared} {ch:List Addr} (I:Inv X pins σ H s) (ho:s'.os=s.os) (u:Un (frs X.stack) ch H H' s.heap s'.heap) (hok:HOk X.prog X.w H' s'.heap) (hg:AllBare s'.gens)
  (hch:∀b∈ch,(b∈X.ex∨X.s₀.heap.objs.size≤b)∧b≠X.env.locals∧(∀x c,X.env.cells.lookup x=some c→c≠b)∧∀p∈X.pn++pins,p.1≠b):Inv X pins σ H' s':=by
 obtain ⟨h',g',d',t',o'⟩:=s'
 have e:o'=s.os:=ho
 subst e
 exact I.call (g':=g') (t':=t') (d':=d') u hok hg hch
end
abbrev XK:=Value→Option Addr→Hp→Prop
abbrev St:=List (Option V)
abbrev VK:=V→Hp→Prop
abbrev TE:=St→Hp→VK→Prop
abbrev TT:=St→Hp→(Bool→Hp→Prop)→Prop
abbrev TA:=St→Hp→(List V→Hp→Prop)→Prop
structure Ends where
 nx:St→Hp→Prop
 rt:VK
 bk:St→Hp→Prop:=fun _ _=>False
 ct:St→Hp→Prop:=fun _ _=>False
abbrev TS:=Ends→St→Hp→Prop
def EP (X:Cx) (pins:List (Addr×Obj)) (σ:St) (Q:VK) (u:Value) (s':Shared):Prop:=∃v H',Inv X pins σ H' s'∧RelV v u∧Q v H'
def TP (X:Cx) (pins:List (Addr×Obj)) (σ:St) (Q:Bool→Hp→Prop) (b:Bool) (s':Shared):Prop:=∃H',Inv X pins σ H' s'∧Q b H'
def AP (X:Cx) (pins:List (Addr×Obj)) (σ:St) (Q:List V→Hp→Prop) (us:List Value) (s':Shared):Prop:=∃vs H',Inv X pins σ H' s'∧Vals vs us∧Q vs H'
def SP (X:Cx) (pins:List (Addr×Obj)) (D:Ends) (f:Flow) (s':Shared):Prop :=
 match f with
 | .next=>∃σ' H',Inv X pins σ' H' s'∧D.nx σ' H'
 | .brk=>∃σ' H',Inv X pins σ' H' s'∧D.bk σ' H'
 | .cont=>∃σ' H',Inv X pins σ' H' s'∧D.ct σ' H'
 | .ret u=>∃v σ' H',Inv X pins σ' H' s'∧RelV v u∧D.rt v H'
def PE (X:Cx) (e:Expr) (t:TE):Prop :=
 ∀(pins:List (Addr×Obj)) (s:Shared) (σ:St) (H:Hp) (Q:VK),Inv X pins σ H s→t σ H Q→wpAny (model X.prog X.w) X.A (eval e X.env) (EP X pins σ Q) X.xe s
def PT (X:Cx) (e:Expr) (t:TT):Prop :=
 ∀(pins:List (Addr×Obj)) (s:Shared) (σ:St) (H:Hp) (Q:Bool→Hp→Prop),Inv X pins σ H s→t σ H Q→wpAny (model X.prog X.w) X.A (isTrue e X.env (eval e X.env)) (TP X pins σ Q) X.xe s
def PW (X:Cx) (e:Expr) (t:TT):Prop :=
 ∀(whole:Sem Value) (pins:List (Addr×Obj)) (s:Shared) (σ:St) (H:Hp) (Q:Bool→Hp→Prop),Inv X pins σ H s→t σ H Q→wpAny (model X.prog X.w) X.A (isTrue e X.env whole) (TP X pins σ Q) X.xe s
theorem PW.pt {X:Cx} {e:Expr} {t:TT} (h:PW X e t):PT X e t:=h _
def PA (X:Cx) (es:List Expr) (t:TA):Prop :=
 ∀(pos:Pos) (pins:List (Addr×Obj)) (s:Shared) (σ:St) (H:Hp) (Q:List V→Hp→Prop),Inv X pins σ H s→t σ H Q→wpAny (model X.prog X.w) X.A (spliced (backTo pos (starEach es X.env))) (AP X pins σ Q) X.xe s
def PS (X:Cx) (st:Stmt) (t:TS):Prop :=
 ∀(pins:List (Addr×Obj)) (s:Shared) (σ:St) (H:Hp) (D:Ends),Inv X pins σ H s→t D σ H→wpAny (model X.prog X.w) X.A (exec st X.env) (SP X pins D) X.xe s
def PSs (X:Cx) (st:List Stmt) (t:TS):Prop :=
 ∀(pins:List (Addr×Obj)) (s:Shared) (σ:St) (H:Hp) (D:Ends),Inv X pins σ H s→t D σ H→wpAny (model X.prog X.w) X.A (execs st X.env) (SP X pins D) X.xe s
theorem thn {α:Type} {t:Sem α} {Q Q':α→Shared→Prop} {M:Model} {A:Around} {E:Value→Shared→Prop} {s:Shared} (h:wpAny M A t Q E s) (hQ:∀a s,Q a s→Q' a s):wpAny M A t Q' E s:=wpAny_mono h hQ fun _ _ x=>x
section
variable {X:Cx}
def eG (i:Nat):TE:=fun σ H Q=>∃v,σ[i]?=some (some v)∧Q v H
def tC (v:V):TE:=fun _ H Q=>Q v H
theorem VD {i:Nat} {x:Str} {pos:Pos} (hN:X.N[i]?=some x) (hv:Vis X.env.scope x) (hd:(x == ("__debug__" : Str))=false:=by decide) (hcd:(x == ("__classdict__" : Str))=false:=by decide):PE X (.Name x pos) (eG i):=by
 intro pins s σ H Q I h
 obtain ⟨v,e,h⟩:=h
 obtain ⟨m,hn,hl⟩:=I.loc
 obtain ⟨u,r,l⟩:=hl i x v hN e hv
 have fin:EP X pins σ Q u s:=⟨v,H,I,r,h⟩
 rcases l with ⟨hk,hm⟩ | ⟨hk,c,hc,hcell⟩
 ·exact wpAny_Name (wpAny_loadName_local I.ok.kind hk hn hm fin) hd
 ·rcases hk with hk | hk
  ·exact wpAny_Name (wpAny_loadName_cell I.ok.kind hk hc hcell fin) hd
  ·exact wpAny_Name (wpAny_loadName_free I.ok.kind hk hc hcell fin hcd) hd
theorem aA {i j pos}:PE X (.Constant (.int i) j pos) (tC (.int i)):=fun _ _ _ H _ I h=>wpAny_Constant_int ⟨.int i,H,I.tok _,⟨_,rfl⟩,h⟩
theorem fZ {b j pos}:PE X (.Constant (.bool b) j pos) (tC (.bl b)):=fun _ _ _ H _ I h=>Constant_bool ⟨.bl b,H,I,rfl,h⟩
theorem dz {j pos}:PE X (.Constant .none j pos) (tC .non):=fun _ _ _ H _ I h=>Constant_none ⟨.non,H,I,rfl,h⟩
theorem mO {x j pos}:PE X (.Constant (.str x) j pos) (tC (.str x)):=fun _ _ _ H _ I h=>Calls.Constant_str ⟨.str x,H,I.tok _,⟨_,rfl⟩,h⟩
def Gl (X:Cx) (x:Str):Prop:=X.env.kindOf x=some .globalImplicit
theorem zB {E:Value→Shared→Prop} {pins:List (Addr×Obj)} {s:Shared} {σ:St} {H:Hp} {x:Str} {u:Value} {pos:Pos} {Q:Value→Shared→Prop} (I:Inv X pins σ H s) (hg:Gl X x) (hm:X.mg x=some u) (h:Q u s)
  (hd:(x == ("__debug__" : Str))=false:=by decide):wpAny (model X.prog X.w) X.A (eval (.Name x pos) X.env) Q E s :=
 Calls.Name_function_global I.ok.kind hg (Calls.loadGlobal_global (by rw [I.ok.glob];exact I.mod.glob.keeps I.bk) hm h) hd
theorem iy {E:Value→Shared→Prop} {pins:List (Addr×Obj)} {s:Shared} {σ:St} {H:Hp} {x:Str} {u:Value} {pos:Pos} {Q:Value→Shared→Prop} (I:Inv X pins σ H s) (hg:Gl X x) (hm:X.mg x=none) (hv:bootBuiltins x=some u) (h:Q u s)
  (hn:x ≠ "__name__" := by decide) (hd:(x == ("__debug__" : Str))=false:=by decide):wpAny (model X.prog X.w) X.A (eval (.Name x pos) X.env) Q E s:=by
 obtain ⟨mb,h1,h2⟩:=I.mod.blt
 exact Calls.Name_function_global I.ok.kind hg (Calls.loadGlobal_builtin (by rw [I.ok.glob];exact I.mod.glob.keeps I.bk) hm (by rw [I.ok.blt];exact h1.keeps I.bk) ((h2 x hn).trans hv) h) hd
theorem RK {x:Str} {v:V} {u:Value} {pos:Pos} (hg:Gl X x) (hm:X.mg x=some u) (r:RelV v u) (hd:(x == ("__debug__" : Str))=false:=by decide):PE X (.Name x pos) (tC v) :=
 fun _ _ _ H _ I h=>zB I hg hm ⟨v,H,I,r,h⟩ hd
theorem RL {x:Str} {v:V} {u:Value} {pos:Pos} (hg:Gl X x) (hm:X.mg x=none) (hv:bootBuiltins x=some u) (r:RelV v u) (hn:x ≠ "__name__" := by decide) (hd:(x == ("__debug__" : Str))=false:=by decide):PE X (.Name x pos) (tC v) :=
 fun _ _ _ H _ I h=>iy I hg hm hv ⟨v,H,I,r,h⟩ hn hd
variable {a b:Expr} {ta tb:TE} {pos:Pos}
def tB (t:TE):TT:=fun σ H Q=>t σ H fun x H1=>∃c,x=.bl c∧Q c H1
theorem cP {e:Expr} {t:TE} (h:PE X e t) (he:∀whole,isTrue e X.env whole=(do let v ← whole;standAt e.pos;holding [v] (truthy v)):=by intro _;rfl):PT X e (tB t):=by
 intro pins s σ H Q I hw
 refine isTrue_plain (thn (h pins s σ H _ I hw) fun v s1 ⟨x,H1,I1,r1,q1⟩=>?_) (he _)
 obtain ⟨d,rfl,q⟩:=q1
 cases r1
 exact wpAny_truthy_bool ⟨H1,I1,q⟩
variable {tA tB':TT} {rest:List Expr}
def VF (t u:TT):TT:=fun σ H Q=>t σ H fun c H1=>if c=true then u σ H1 Q else Q false H1
def tOr (t u:TT):TT:=fun σ H Q=>t σ H fun c H1=>if c=true then Q true H1 else u σ H1 Q
def VG (t:TT):TT:=fun σ H Q=>t σ H fun c H1=>Q (!c) H1
theorem zE (ha:PT X a tA):PW X (.BoolOp .And [a] pos) tA:=by
 intro wh pins s σ H Q I h
 refine isTrue_and (thn (ha pins s σ H Q I h) fun c s1 e=>?_)
 cases c with
 | true=>exact isTrue_and_nil e
 | false=>exact e
theorem f9 (ha:PT X a tA):PW X (.BoolOp .Or [a] pos) tA:=by
 intro wh pins s σ H Q I h
 refine isTrue_or (thn (ha pins s σ H Q I h) fun c s1 e=>?_)
 cases c with
 | false=>exact isTrue_or_nil e
 | true=>exact e
theorem zF (ha:PT X a tA) (hb:PW X (.BoolOp .And (b::rest) pos) tB'):PW X (.BoolOp .And (a::b::rest) pos) (VF tA tB'):=by
 intro wh pins s σ H Q I h
 refine isTrue_and (thn (ha pins s σ H _ I h) fun c s1 ⟨H1,I1,q1⟩=>?_)
 cases c with
 | true=>exact hb wh pins s1 σ H1 Q I1 q1
 | false=>exact ⟨H1,I1,q1⟩
theorem eU (ha:PT X a tA) (hb:PW X (.BoolOp .Or (b::rest) pos) tB'):PW X (.BoolOp .Or (a::b::rest) pos) (tOr tA tB'):=by
 intro wh pins s σ H Q I h
 refine isTrue_or (thn (ha pins s σ H _ I h) fun c s1 ⟨H1,I1,q1⟩=>?_)
 cases c with
 | true=>exact ⟨H1,I1,q1⟩
 | false=>exact hb wh pins s1 σ H1 Q I1 q1
theorem cW (ha:PT X a tA):PT X (.UnaryOp .Not a pos) (VG tA):=by
 intro pins s σ H Q I h
 exact isTrue_not (ha pins s σ H (fun c H1=>Q (!c) H1) I h)
def Mh (ta tb:TE):TE:=fun σ H Q=>ta σ H fun x H1=>∃c,x=.bl c∧if c=true then tb σ H1 Q else Q (.bl false) H1
def Mi (ta:TE):TE:=fun σ H Q=>ta σ H fun x H1=>∃c,x=.bl c∧Q (.bl (!c)) H1
theorem iz {op} {t:TE} (h:PE X a t):PE X (.BoolOp op [a] pos) t:=fun pins s σ H Q I hw=>BoolOp_one (h pins s σ H Q I hw)
theorem gh (ha:PE X a ta) (hb:PE X (.BoolOp .And (b::rest) pos) tb):PE X (.BoolOp .And (a::b::rest) pos) (Mh ta tb):=by
 intro pins s σ H Q I h
 refine BoolOp_and (thn (ha pins s σ H _ I h) fun v s1 ⟨x,H1,I1,r1,q1⟩=>?_)
 obtain ⟨c,rfl,q1⟩:=q1
 cases r1
 refine wpAny_truthy_bool ?_
 cases c with
 | true=>exact hb pins s1 σ H1 Q I1 q1
 | false=>exact ⟨.bl false,H1,I1,rfl,q1⟩
theorem Fx (ha:PE X a ta):PE X (.UnaryOp .Not a pos) (Mi ta):=by
 intro pins s σ H Q I h
 refine UnaryOp_ (thn (ha pins s σ H _ I h) fun v s1 ⟨x,H1,I1,r1,q1⟩=>?_)
 obtain ⟨c,rfl,q1⟩:=q1
 cases r1
 exact not_of (wpAny_truthy_bool ⟨.bl (!c),H1,I1,rfl,q1⟩)
def tIf (t:TT) (ta tb:TE):TE:=fun σ H Q=>t σ H fun c H1=>if c=true then ta σ H1 Q else tb σ H1 Q
theorem tG {c:Expr} (hc:PT X c tA) (ha:PE X a ta) (hb:PE X b tb):PE X (.IfExp c a b pos) (tIf tA ta tb):=by
 intro pins s σ H Q I h
 refine wpAny_IfExp (thn (hc pins s σ H _ I h) fun d s1 ⟨H1,I1,q1⟩=>?_)
 cases d with
 | true=>exact ha pins s1 σ H1 Q I1 q1
 | false=>exact hb pins s1 σ H1 Q I1 q1
end
def SqL (K:W.Frag) (H:Hp) (a:Addr) (xs:List V):Prop :=
 Rd H a (.lst xs) ∨
  ∃(o:Obj) (its:Array Value) (n:Nat),K.lookup a=some o∧o.cls=.type "list" ∧ o.dict=none∧o.data=.seq its n∧its.size≤sizeLine∧Vals xs its.toList
def SqT (K:W.Frag) (H:Hp) (a:Addr) (xs:List V):Prop :=
 Rd H a (.tup xs) ∨
  ∃(o:Obj) (its:Array Value) (n:Nat),K.lookup a=some o∧o.cls=.type "tuple" ∧ o.data=.seq its n∧its.size≤sizeLine∧Vals xs its.toList
def ac4:Value→Option V
 | .none=>some .non
 | .bool b=>some (.bl b)
 | .int i _=>some (.int i)
 | .str x _=>some (.str x)
 | .bytes b _=>some (.byt b)
 | .float b _=>some (.flt b)
 | .ref a=>some (.ref a)
 | .type n=>some (.ty n)
 | _=>none
theorem RelV.abs {x:V} {u:Value} (r:RelV x u):ac4 u=some x:=by
 cases x with
 | non=>cases r;rfl
 | bl _=>cases r;rfl
 | int _=>obtain ⟨t,rfl⟩:=r;rfl
 | str _=>obtain ⟨t,rfl⟩:=r;rfl
 | byt _=>obtain ⟨t,rfl⟩:=r;rfl
 | flt _=>obtain ⟨t,rfl⟩:=r;rfl
 | ref _=>cases r;rfl
 | ty _=>cases r;rfl
theorem RelV.inj {x y:V} {u:Value} (r:RelV x u) (q:RelV y u):x=y:=Option.some.inj (r.abs.symm.trans q.abs)
theorem Vals.inj:∀{xs ys:List V} {us:List Value},Vals xs us→Vals ys us→xs=ys
 | _,_,_,.nil,.nil=>rfl
 | _,_,_,.cons r t,.cons r' t'=>by rw [r.inj r',Vals.inj t t']
section
variable {X:Cx} {pins:List (Addr×Obj)} {σ:St} {H:Hp} {s:Shared} {a:Addr} {xs ys:List V}
theorem SqL.of {K:W.Frag} (h:H a=some (.lst xs)):SqL K H a xs:=.inl (.inl h)
theorem SqT.of {K:W.Frag} (h:H a=some (.tup xs)):SqT K H a xs:=.inl (.inl h)
theorem Inv.list (I:Inv X pins σ H s) (h:SqL X.K H a xs):∃its:List Value,Vals xs its∧PlainL s.heap a its.toArray∧xs.length≤sizeLine:=by
 rcases h with h | ⟨o,its,n,hk,hc,hd,hs,hz,r⟩
 ·obtain ⟨z,its,n,r,e⟩:=h.ok I.hok
  exact ⟨its,r,⟨_,n,e,rfl,rfl,rfl⟩,z⟩
 ·refine ⟨its.toList,r,⟨o,n,I.kIn a o hk,hc,hd,by simpa using hs⟩,?_⟩
  have e:=r.length
  simp only [Array.length_toList] at e
  lia
theorem Inv.tuple (I:Inv X pins σ H s) (h:SqT X.K H a xs):∃its:List Value,Vals xs its∧IsTup s.heap a its.toArray∧xs.length≤sizeLine:=by
 rcases h with h | ⟨o,its,n,hk,hc,hs,hz,r⟩
 ·obtain ⟨z,its,r,p⟩:=h.ok I.hok
  exact ⟨its,r,p,z⟩
 ·refine ⟨its.toList,r,⟨o,I.kIn a o hk,hc,n,by simpa using hs⟩,?_⟩
  have e:=r.length
  simp only [Array.length_toList] at e
  lia
theorem Inv.tH (I:Inv X pins σ H s) (h:SqL X.K H a xs) (h':SqL X.K H a ys):xs=ys:=by
 obtain ⟨its,r,⟨o,n,e,_,_,d⟩,_⟩:=I.list h
 obtain ⟨its',r',⟨o',n',e',_,_,d'⟩,_⟩:=I.list h'
 rw [e] at e';cases e'
 rw [d] at d'
 injection d' with d1 _
 have:its=its':=by simpa using congrArg Array.toList d1
 subst this
 exact r.inj r'
theorem Inv.wL (I:Inv X pins σ H s) (h:SqT X.K H a xs) (h':SqT X.K H a ys):xs=ys:=by
 obtain ⟨its,r,⟨o,e,_,n,d⟩,_⟩:=I.tuple h
 obtain ⟨its',r',⟨o',e',_,n',d'⟩,_⟩:=I.tuple h'
 rw [e] at e';cases e'
 rw [d] at d'
 injection d' with d1 _
 have:its=its':=by simpa using congrArg Array.toList d1
 subst this
 exact r.inj r'
end
abbrev Cx.wish (X:Cx) (E:Value→Shared→Prop):Cx:={ X with xe:=E }
abbrev Cx.nox (X:Cx):Cx:=X.wish fun _ _=>False
theorem Cx.Ok.wish {X:Cx} (ok:X.Ok) (E:Value→Shared→Prop):(X.wish E).Ok :=
 ⟨ok.mod,ok.kind,ok.glob,ok.blt,ok.above,ok.inj,ok.has,ok.cab,ok.hd,ok.frames,ok.stk,ok.exf,ok.bs,ok.bsz,ok.Kd,ok.Mg,ok.pL,ok.frf⟩
theorem Cx.Ok.iY {X:Cx} {E:Value→Shared→Prop} (ok:(X.wish E).Ok):X.Ok :=
 ⟨ok.mod,ok.kind,ok.glob,ok.blt,ok.above,ok.inj,ok.has,ok.cab,ok.hd,ok.frames,ok.stk,ok.exf,ok.bs,ok.bsz,ok.Kd,ok.Mg,ok.pL,ok.frf⟩
section
variable {X:Cx} {pins:List (Addr×Obj)} {σ:St} {H:Hp} {s:Shared} {E:Value→Shared→Prop}
theorem Inv.wish (I:Inv X pins σ H s) (E:Value→Shared→Prop):Inv (X.wish E) pins σ H s:=⟨I.ok.wish E,I.os,I.bare,I.base,I.loc,I.cell,I.free,I.mC,I.pin,I.hok,I.len⟩
theorem Inv.iY (I:Inv (X.wish E) pins σ H s):Inv X pins σ H s:=⟨I.ok.iY,I.os,I.bare,I.base,I.loc,I.cell,I.free,I.mC,I.pin,I.hok,I.len⟩
theorem SP.iY {D:Ends} {f:Flow} {s':Shared} (h:SP (X.wish E) pins D f s'):SP X pins D f s':=by
 cases f with
 | next=>obtain ⟨σ',H',I,q⟩:=h;exact ⟨σ',H',I.iY,q⟩
 | brk=>obtain ⟨σ',H',I,q⟩:=h;exact ⟨σ',H',I.iY,q⟩
 | cont=>obtain ⟨σ',H',I,q⟩:=h;exact ⟨σ',H',I.iY,q⟩
 | ret u=>obtain ⟨v,σ',H',I,r,q⟩:=h;exact ⟨v,σ',H',I.iY,r,q⟩
theorem PE.nox {e:Expr} {t:TE} (h:PE X.nox e t):PE X e t:=fun pins s σ H Q I hw =>
 wpAny_mono (h pins s σ H Q (I.wish _) hw) (fun _ _ ⟨v,H',I',r,q⟩=>⟨v,H',I'.iY,r,q⟩) fun _ _ z=>False.elim z
theorem PT.nox {e:Expr} {t:TT} (h:PT X.nox e t):PT X e t:=fun pins s σ H Q I hw =>
 wpAny_mono (h pins s σ H Q (I.wish _) hw) (fun _ _ ⟨H',I',q⟩=>⟨H',I'.iY,q⟩) fun _ _ z=>False.elim z
theorem PSs.nox {st:List Stmt} {t:TS} (h:PSs X.nox st t):PSs X st t:=fun pins s σ H D I hw =>
 wpAny_mono (h pins s σ H D (I.wish _) hw) (fun _ _ q=>q.iY) fun _ _ z=>False.elim z
end
section
variable {X:Cx} {st:Stmt} {rest:List Stmt} {t u:TS} {e:Expr} {te:TE} {pos:Pos}
def Mj:TS:=fun D σ H=>D.nx σ H
def VH (t u:TS):TS:=fun D σ H=>t { D with nx:=u D } σ H
theorem bN:PSs X [] Mj:=fun _ _ σ H _ I h=>wpAny_execs_nil ⟨σ,H,I,h⟩
theorem au (h1:PS X st t) (h2:PSs X rest u):PSs X (st::rest) (VH t u):=by
 intro pins s σ H D I h
 refine wpAny_execs_cons (thn (h1 pins s σ H { D with nx:=u D } I h) fun f s1 q=>?_)
 cases f with
 | next =>
  obtain ⟨σ',H',I',q⟩:=q
  exact h2 pins s1 σ' H' D I' q
 | ret v=>exact q
 | brk=>exact q
 | cont=>exact q
theorem aC (h1:PS X st t):PSs X [st] t:=by
 intro pins s σ H D I h
 refine wpAny_execs_cons (thn (h1 pins s σ H D I h) fun f s1 q=>?_)
 cases f with
 | next=>exact wpAny_execs_nil q
 | ret v=>exact q
 | brk=>exact q
 | cont=>exact q
def Ml:TS:=fun D σ H=>D.bk σ H
theorem Mp:PS X (.Break pos) Ml:=fun _ _ σ H _ I h=>wpAny_Break ⟨σ,H,I,h⟩
theorem Inv.quiet {pins:List (Addr×Obj)} {σ:St} {H:Hp} {s:Shared} (I:Inv X pins σ H s):interactive X.env=false:=by simp [interactive,I.ok.kind]
def Mq (te:TE):TS:=fun D σ H=>te σ H fun _ H1=>D.nx σ H1
theorem cV (he:PE X e te) (hs:swapsWith e none pos.line X.env=pure false:=by rfl):PS X (.Expr e pos) (Mq te):=by
 intro pins s σ H D I h
 exact wpAny_Expr_any (thn (he pins s σ H _ I h) fun v s1 ⟨x,H1,I1,r1,q1⟩=>⟨σ,H1,I1,q1⟩) I.quiet hs
def VJ (te:TE):TS:=fun D σ H=>te σ H D.rt
theorem aW (he:PE X e te):PS X (.Return (some e) pos) (VJ te):=by
 intro pins s σ H D I h
 exact wpAny_Return_some (thn (he pins s σ H _ I h) fun v s1 ⟨x,H1,I1,r1,q1⟩=>⟨x,σ,H1,I1,r1,q1⟩)
def VL (c:TT) (t u:TS):TS:=fun D σ H=>c σ H fun b H1=>if b=true then t D σ H1 else u D σ H1
theorem cL {c:Expr} {a b:List Stmt} {tc:TT} (hc:PT X c tc) (ha:PSs X a t) (hb:PSs X b u):PS X (.If c a b pos) (VL tc t u):=by
 intro pins s σ H D I h
 refine wpAny_If (thn (hc pins s σ H _ I h) fun d s1 ⟨H1,I1,q1⟩=>?_)
 cases d with
 | true=>exact ha pins s1 σ H1 D I1 q1
 | false=>exact hb pins s1 σ H1 D I1 q1
def VN:TS:=fun _ _ _=>False
theorem cX {sts:List Stmt}:PSs X sts VN:=fun _ _ _ _ _ _ h=>h.elim
end
abbrev TG:=V→St→Hp→(St→Hp→Prop)→Prop
abbrev TGs:=List V→St→Hp→(St→Hp→Prop)→Prop
def PG (X:Cx) (target:Expr) (t:TG):Prop :=
 ∀(pins:List (Addr×Obj)) (s:Shared) (σ:St) (H:Hp) (v:V) (u:Value) (Q:St→Hp→Prop),Inv X pins σ H s→RelV v u→t v σ H Q →
  wpAny (model X.prog X.w) X.A (assign target X.env u) (fun _ s'=>∃σ' H',Inv X pins σ' H' s'∧Q σ' H') X.xe s
def PGs (X:Cx) (ts:List Expr) (t:TGs):Prop :=
 ∀(pins:List (Addr×Obj)) (s:Shared) (σ:St) (H:Hp) (vs:List V) (us:List Value) (Q:St→Hp→Prop),Inv X pins σ H s→Vals vs us→t vs σ H Q →
  wpAny (model X.prog X.w) X.A (assignInOrder ((assignEach ts X.env).map (·.2)) us) (fun _ s'=>∃σ' H',Inv X pins σ' H' s'∧Q σ' H') X.xe s
abbrev Mr:=V→V→V→Hp→(Hp→Prop)→Prop
def VP (X:Cx) (t:Mr):Prop :=
 ∀(pins:List (Addr×Obj)) (s:Shared) (σ:St) (H:Hp) (o i v:V) (ov iv u:Value) (Q:Hp→Prop),Inv X pins σ H s→RelV o ov→RelV i iv→RelV v u→t o i v H Q →
  wpAny (model X.prog X.w) X.A (setItem ov iv u) (fun _ s'=>∃H',Inv X pins σ H' s'∧Q H') X.xe s
section
variable {X:Cx} {pos:Pos}
def bQ (i:Nat):TG:=fun v σ H Q=>Q (σ.set i (some v)) H
theorem bH {i:Nat} {x:Str} (hN:X.N.Nodup) (hi:X.N[i]?=some x) (hx:Loc X.env.scope x) (hf:X.fn x=true∨X.env.scope.names.lookup x=some .local:=by first | exact .inl rfl | exact .inr rfl | assumption):PG X (.Name x pos) (bQ i):=by
 intro pins s σ H v u Q I r h
 exact wpAny_assign_Name (Bp I hN hi hx r (fun s' I'=>⟨_,H,I',h⟩) hf)
def Ke:TGs:=fun vs σ H Q=>vs=[]∧Q σ H
def iB (t:TG) (u:TGs):TGs:=fun vs σ H Q=>∃v r,vs=v::r∧t v σ H fun σ' H'=>u r σ' H' Q
theorem gD:PGs X [] Ke:=by
 intro pins s σ H vs us Q I r h
 obtain ⟨e,h⟩:=h
 subst e
 cases r
 exact assignInOrder_nil ⟨σ,H,I,h⟩
theorem bV {e:Expr} {es:List Expr} {t:TG} {u:TGs} (h1:PG X e t) (h2:PGs X es u)
  (hs:(assignEach (e::es) X.env).map (·.2)=assign e X.env::(assignEach es X.env).map (·.2):=by rfl):PGs X (e::es) (iB t u):=by
 intro pins s σ H vs us Q I r h
 obtain ⟨v,vr,e1,h⟩:=h
 subst e1
 cases r with
 | cons r rr =>
  rw [hs]
  refine assignInOrder_cons (thn (h1 pins s σ H _ _ _ I r h) fun _ s1 ⟨σ1,H1,I1,q1⟩=>?_)
  exact h2 pins s1 σ1 H1 _ _ Q I1 rr q1
def Kf (K:W.Frag) (n:Nat) (t:TGs):TG:=fun v σ H Q=>∃a xs,v=.ref a∧SqT K H a xs∧xs.length=n∧t xs σ H Q
theorem iZ {es:List Expr} {k:Nat} {t:TGs} {n:Nat} (hc:X.calm=true) (h:PGs X es t)
  (hn:(assignEach es X.env).length=n:=by rfl) (hst:(assignEach es X.env).findIdx? (·.1)=none:=by rfl):PG X (.Tuple es k pos) (Kf X.K n t):=by
 intro pins s σ H v u Q I r hw
 obtain ⟨a,xs,e1,hq,hl,hw⟩:=hw
 subst e1
 cases r
 obtain ⟨its,rv,ht,hz⟩:=I.tuple hq
 refine assign_Tuple_tuple (I.ok.hd hc) ht (by simp [hn,← hl,rv.length]) hst fun h' hx=>?_
 have I1:Inv X pins σ H { s with heap:=h' }:=I.kept (t':=s.toks) fun b o e=>hx b o (Nat.ne_of_lt (Heap.lt_size e)) e
 exact h pins _ σ H xs _ Q I1 (by simpa using rv) hw
def VR (to ti:TE) (t:Mr):TG:=fun v σ H Q=>to σ H fun o H1=>ti σ H1 fun i H2=>t o i v H2 fun H3=>Q σ H3
theorem Fy {o i:Expr} {to ti:TE} {t:Mr} (ho:PE X o to) (hi:PE X i ti) (hs:VP X t)
  (ha:∀v,assign (.Subscript o i pos) X.env v=(do
   let ov ← holding [v] (eval o X.env)
   let iv ← holding [v,ov] (eval i X.env)
   standAt pos
   holding [v,ov,iv] (setItem ov iv v)
   release [v,ov,iv] []):=by intro _;rfl):PG X (.Subscript o i pos) (VR to ti t):=by
 intro pins s σ H v u Q I r h
 rw [ha]
 refine wpAny_bind (wpAny_holding (thn (ho pins s σ H _ I h) fun ov s1 ⟨x,H1,I1,r1,q1⟩=>?_))
 refine wpAny_bind (wpAny_holding (thn (hi pins s1 σ H1 _ I1 q1) fun iv s2 ⟨y,H2,I2,r2,q2⟩=>?_))
 refine wpAny_bind (wpAny_standAt (wpAny_bind (wpAny_holding (thn (hs pins s2 σ H2 x y v ov iv u _ I2 r1 r2 r q2) fun _ s3 ⟨H3,I3,q3⟩=>?_))))
 exact wpAny_release ⟨σ,H3,I3,q3⟩
def Ms (te:TE) (g:TG):TS:=fun D σ H=>te σ H fun x H1=>g x σ H1 D.nx
theorem tK {tg e:Expr} {te:TE} {g:TG} (he:PE X e te) (hg:PG X tg g) (hs:swapsWithSole [tg] e pos.line X.env=pure false:=by rfl) (hw:swappedStores [tg] e X.env=pure none:=by rfl)
  (h1:(assignEach [tg] X.env).map (·.2)=[assign tg X.env]:=by rfl):PS X (.Assign [tg] e pos) (Ms te g):=by
 intro pins s σ H D I h
 refine wpAny_Assign_stores (thn (he pins s σ H _ I h) fun v s1 ⟨x,H1,I1,r1,q1⟩=>?_) hs hw
 rw [h1]
 exact thn (hg pins s1 σ H1 x v _ I1 r1 q1) fun _ s2 q=>q
theorem aQ {i:Nat} {x:Str} {e:Expr} {te:TE} {pos':Pos} (hN:X.N.Nodup) (hi:X.N[i]?=some x) (hx:Loc X.env.scope x) (he:PE X e te) (hs:swapsWith e (some (.Name x pos')) pos.line X.env=pure false:=by rfl) (hf:X.fn x=true∨X.env.scope.names.lookup x=some .local:=by first | exact .inl rfl | exact .inr rfl | assumption) :
  PS X (.Assign [.Name x pos'] e pos) (Ms te (bQ i)):=by
 intro pins s σ H D I h
 refine wpAny_Assign_Name (thn (he pins s σ H _ I h) fun v s1 ⟨y,H1,I1,r1,q1⟩=>?_) hs
 exact Bp I1 hN hi hx r1 (fun s2 I2=>⟨_,H1,I2,q1⟩) hf
end
section
variable {X:Cx} {pos:Pos}
def Mt (c:TT) (tb:TS):TS:=fun D σ H=>∃W:Nat→St→Hp→Prop,(∃m,W m σ H)∧∀m σ H,W m σ H →
 c σ H fun b H1=>if b=true then ∃N:St→Hp→Prop,(∀σ' H',N σ' H'→∃m',m' < m∧W m' σ' H')∧tb { D with nx:=N,ct:=N,bk:=D.nx } σ H1 else D.nx σ H1
theorem tL {c:Expr} {body:List Stmt} {tc:TT} {tb:TS} (hp:PassesOwn (model X.prog X.w) X.A X.env X.xe) (hc:PT X c tc) (hb:PSs X body tb):PS X (.While c body [] pos) (Mt tc tb):=by
 intro pins s σ H D I h
 obtain ⟨W,⟨m0,w0⟩,turn⟩:=h
 refine wpAny_While (codeAny_whileLoop (fun n s'=>∃σ' H',Inv X pins σ' H' s'∧W n σ' H') ?_ m0 ⟨σ,H,I,w0⟩)
 rintro n s1 ⟨σ1,H1,I1,w1⟩
 refine wpAny_passesOwn hp (thn (hc pins s1 σ1 H1 _ I1 (turn n σ1 H1 w1)) fun b s2 ⟨H2,I2,q2⟩=>?_)
 cases b with
 | true =>
  obtain ⟨N,hN,q2⟩:=q2
  rw [if_pos rfl]
  refine wpAny_passesOwn hp (thn (hb pins s2 σ1 H2 _ I2 q2) fun f s3 q3=>?_)
  cases f with
  | next =>
   obtain ⟨σ3,H3,I3,n3⟩:=q3
   obtain ⟨m',hm,w3⟩:=hN σ3 H3 n3
   exact ⟨m',hm,σ3,H3,I3,w3⟩
  | cont =>
   obtain ⟨σ3,H3,I3,n3⟩:=q3
   obtain ⟨m',hm,w3⟩:=hN σ3 H3 n3
   exact ⟨m',hm,σ3,H3,I3,w3⟩
  | brk=>exact q3
  | ret v=>exact q3
 | false =>
  rw [if_neg Bool.false_ne_true]
  exact wpAny_execs_nil ⟨σ1,H2,I2,q2⟩
end
structure It where
 go:Nat→Hp→Prop
 yld:Nat→Hp→V→Hp→Prop
 stop:Nat→Hp→Prop
def jl (X:Cx) (pins:List (Addr×Obj)) (H:Hp) (b:Addr):Prop :=
 H b=none∧b≠X.env.locals∧b ∉ X.fs∧(b∈X.ex∨X.s₀.heap.objs.size≤b)∧(∀x c,X.env.cells.lookup x=some c→c≠b)∧∀p∈X.pn++pins,p.1≠b
theorem Inv.Fz {X:Cx} {pins:List (Addr×Obj)} {σ:St} {H H':Hp} {s:Shared} {b:Addr} (I:Inv X pins σ H s) (hb:s.heap.objs.size≤b) (hn:H' b=none):jl X pins H' b:=by
 refine ⟨hn,Nat.ne_of_gt (Nat.lt_of_lt_of_le I.lt hb),I.ac2 hb,.inr (Nat.le_trans I.sz hb),fun x c e z=>?_,fun p hp z=>?_⟩
 ·obtain ⟨v,q⟩:=I.cell x c e
  exact absurd (Nat.lt_of_lt_of_le q.lt (by rw [z];exact hb)) (Nat.lt_irrefl _)
 ·exact absurd (Nat.lt_of_lt_of_le (Heap.lt_size (I.pin p hp).1) (by rw [z];exact hb)) (Nat.lt_irrefl _)
structure Turn (P:Program) (w:World) (K:W.Frag) (tg:Expr) (J:It) (fp:List Addr) (it:Addr) (tn:Nat→Heap→Prop):Prop where
 mem:it∈fp
 obj:∀i h,tn i h→∀b∈fp,∃o,h.get? b=some o∧∀v,o.data≠.cell v
 keep:∀i h h',tn i h→(∀b∈fp,∀o,h.get? b=some o→h'.get? b=some o)→tn i h'
 item:∀(X:Cx),X.prog=P→X.w=w→X.K=K→X.calm=true→∀(i:Nat) (pins:List (Addr×Obj)) (s:Shared) (σ:St) (H:Hp) (E:Value→Shared→Prop),Inv X pins σ H s→(∀b∈fp,jl X pins H b)→tn i s.heap→J.go i H →
  wpAny (model P w) X.A (pyNext (.ref it)) (fun r s1=>∃u,r=some u ∧
   wpAny (model P w) X.A (letOwnedTupleGo tg (.ref it) u) (fun _ s2=>∃x H',Inv X pins σ H' s2∧RelV x u∧J.yld i H x H'∧tn (i + 1) s2.heap∧∀b∈fp,H' b=none) E s1) E s
 done:∀(X:Cx),X.prog=P→X.w=w→X.K=K→X.calm=true→∀(i:Nat) (pins:List (Addr×Obj)) (s:Shared) (σ:St) (H:Hp) (E:Value→Shared→Prop),Inv X pins σ H s→(∀b∈fp,jl X pins H b)→tn i s.heap→J.stop i H →
  wpAny (model P w) X.A (pyNext (.ref it)) (fun r s1=>r=none∧Inv X pins σ H s1) E s
 self:∀(A:Around) (i:Nat) (s:Shared) (Q:Value→Shared→Prop) (E:Value→Shared→Prop),tn i s.heap→Q (.ref it) s→wpAny (model P w) A (pyIter (.ref it)) Q E s
abbrev TI:=St→Hp→(It→Hp→Prop)→Prop
def PIE (X:Cx) (pins:List (Addr×Obj)) (σ:St) (tg:Expr) (R:It→Hp→Prop) (itv:Value) (s2:Shared):Prop :=
 ∃(it:Addr) (fp:List Addr) (tn:Nat→Heap→Prop) (J:It) (H':Hp),itv=.ref it∧Inv X pins σ H' s2∧Turn X.prog X.w X.K tg J fp it tn∧tn 0 s2.heap∧(∀b∈fp,jl X pins H' b)∧R J H'
def PI (X:Cx) (tg iter:Expr) (wi:TI):Prop :=
 ∀(pins:List (Addr×Obj)) (s:Shared) (σ:St) (H:Hp) (R:It→Hp→Prop),Inv X pins σ H s→wi σ H R →
  wpAny (model X.prog X.w) X.A (eval iter X.env) (fun v s1=>wpAny (model X.prog X.w) X.A (pyIter v) (PIE X pins σ tg R) X.xe s1) X.xe s
theorem Bq {M:Model} {A:Around} {E:Value→Shared→Prop} {s:Shared} {tg:Expr} {it:Addr} {u:Value} {o:Obj} {n:String} {vs:Array Value} {Q:Unit→Shared→Prop} (ho:s.heap.get? it=some o) (hc:o.cls=.type n) (hd:o.data=.fields vs)
  (hn:["enumerate", "zip", "dict_itemiterator", "dict_reverseitemiterator", "odict_iterator", "itertools.zip_longest", "itertools.pairwise"].contains n=false) (hQ:Q () s):wpAny M A (letOwnedTupleGo tg (.ref it) u) Q E s:=by
 unfold letOwnedTupleGo
 cases tg <;> first
  | exact wpAny_pure hQ
  | (cases u <;> first
    | exact wpAny_pure hQ
    | (refine wpAny_bind (wpAny_load ho ?_)
       rw [hc,hd]
       show wpAny M A (if (["enumerate", "zip", "dict_itemiterator", "dict_reverseitemiterator", "odict_iterator", "itertools.zip_longest", "itertools.pairwise"].contains n && vs[0]? == some (rawInt _))=true then _ else _) Q E s
       rw [if_neg (by intro h;rw [hn,Bool.false_and] at h;cases h)]
       exact wpAny_pure hQ))
def Itl (K:W.Frag) (a:Addr):It :=
 ⟨fun i H=>∃xs x,SqL K H a xs∧xs[i]?=some x,fun i H x H'=>H'=H∧∀xs,SqL K H a xs→xs[i]?=some x,fun i H=>∃xs,SqL K H a xs∧xs.length≤i⟩
def Itr (lo:Int) (n:Nat):It:=⟨fun i _=>i < n,fun i H x H'=>H'=H∧x=.int (lo + i),fun i _=>n≤i⟩
theorem Kg {P:Program} {w:World} {K:W.Frag} {tg:Expr} (a it:Addr):Turn P w K tg (Itl K a) [it] it (fun i h=>h.IsListIter it a i) where
 mem:=by simp
 obj:=fun i h st b hb=>by
  have e:b=it:=by simpa using hb
  subst e
  obtain ⟨o,e,c,d⟩:=st
  exact ⟨o,e,fun v z=>by rw [d] at z;cases z⟩
 keep:=fun i h h' st k=>st.at fun o e=>k it (by simp) o e
 item:=by
  intro X hP hw hK hc i pins s σ H E I hf st hg
  subst hP hw hK
  obtain ⟨xs,x,hq,hx⟩:=hg
  obtain ⟨its,rv,p,hz⟩:=I.list hq
  obtain ⟨u,hu,ru⟩:=rv.get hx
  obtain ⟨f0,f1,f2,f3,f4,f5⟩:=hf it (by simp)
  refine wpAny_pyNext_list_item st p.isList (x:=u) (by simpa using hu) fun h' st' sb=>?_
  have I1:Inv X pins σ H { s with heap:=h' }:=I.turned (t':=s.toks) (fun b o hb e=>(sb.2 b hb).trans e) f0 f1 f3 f4 f5
  obtain ⟨o,e,c,d⟩:=id st'
  exact ⟨u,rfl,Bq (s:={ s with heap:=h' }) e c d (by decide) ⟨x,H,I1,ru,⟨rfl,fun ys hy=>by rw [I.tH hy hq];exact hx⟩,st',fun b hb=>(hf b hb).1⟩⟩
 done:=by
  intro X hP hw hK hc i pins s σ H E I hf st hg
  subst hP hw hK
  obtain ⟨xs,hq,hx⟩:=hg
  obtain ⟨its,rv,p,hz⟩:=I.list hq
  obtain ⟨f0,f1,f2,f3,f4,f5⟩:=hf it (by simp)
  have hl:=rv.length
  exact wpAny_pyNext_list_end (I.ok.hd hc) st p.isList (by simp;lia) fun h' eb=>⟨rfl,I.turned (t':=s.toks) (fun b o hb e=>eb b o hb e) f0 f1 f3 f4 f5⟩
 self:=fun _ _ _ _ _ st h=>wpAny_pyIter_listiter st h
theorem FJ {P:Program} {w:World} {K:PySem.W.Frag} {tg:Expr} (it:Addr) (lo:Int) (n:Nat):Turn P w K tg (Itr lo n) [it] it (fun i h=>IsRangeIter h it (lo + (i:Nat) * 1) ((n:Int) - (i:Nat)) 1) where
 mem:=by simp
 obj:=fun i h st b hb=>by
  have e:b=it:=by simpa using hb
  subst e
  exact ⟨_,st,fun v z=>by
   have z':Data.fields _=Data.cell v:=z
   cases z'⟩
 keep:=fun i h h' st k=>k it (by simp) _ st
 item:=by
  intro X hP hw hK hc i pins s σ H E I hf st hg
  subst hP hw hK
  obtain ⟨f0,f1,f2,f3,f4,f5⟩:=hf it (by simp)
  have W:=Walks.range (prog:=X.prog) (w:=X.w) (I.ok.hd hc) it lo 1 n
  refine W.item i s _ _ hg st fun v h' tk hv st' kk=>?_
  obtain ⟨t,rfl⟩:=hv
  have I1:Inv X pins σ H { s with heap:=h',toks:=tk }:=I.turned (fun b o hb e=>kk b o (by simpa using hb) e) f0 f1 f3 f4 f5
  refine ⟨_,rfl,Bq (s:={ s with heap:=h',toks:=tk }) (n := "range_iterator") st' rfl rfl (by decide) ⟨.int (lo + i),H,I1,⟨t,?_⟩,⟨rfl,rfl⟩,st',fun b hb=>(hf b hb).1⟩⟩
  rw [Int.mul_one]
 done:=by
  intro X hP hw hK hc i pins s σ H E I hf st hg
  subst hP hw hK
  obtain ⟨f0,f1,f2,f3,f4,f5⟩:=hf it (by simp)
  exact wpAny_pyNext_range_end (I.ok.hd hc) st (by have:n≤i:=hg;lia) fun h' eb=>⟨rfl,I.turned (t':=s.toks) (fun b o hb e=>eb b o hb e) f0 f1 f3 f4 f5⟩
 self:=fun _ _ _ _ _ st h=>wpAny_pyIter_rangeiter st h
section
variable {X:Cx} {tg:Expr}
def Br (K:W.Frag) (tl:TE):TI:=fun σ H R=>tl σ H fun x H1=>∃a,x=.ref a∧(∃xs,SqL K H1 a xs)∧R (Itl K a) H1
theorem d7 {l:Expr} {tl:TE} (hl:PE X l tl):PI X tg l (Br X.K tl):=by
 intro pins s σ H R I h
 refine thn (hl pins s σ H _ I h) fun v s1 ⟨x,H1,I1,r1,q1⟩=>?_
 obtain ⟨a,e,⟨xs,hq⟩,q⟩:=q1
 subst e
 cases r1
 obtain ⟨its,rv,p,hz⟩:=I1.list hq
 refine wpAny_pyIter_list p.isList ?_
 refine ⟨s1.heap.objs.size,[s1.heap.objs.size],_,_,H1,rfl,I1.kept (t':=s1.toks) fun b o e=>Heap.get?_push_of_some _ e,Kg a _,⟨_,Heap.get?_push_size _ rfl,rfl,rfl⟩,fun b hb=>?_,q⟩
 have e:b=s1.heap.objs.size:=by simpa using hb
 subst e
 exact I1.Fz (Nat.le_refl _) (I1.hok.fresh (Nat.le_refl _))
theorem Bs {pins:List (Addr×Obj)} {σ:St} {H:Hp} {s:Shared} {R:It→Hp→Prop} {E:Value→Shared→Prop} {lo hi:Int} {t u v:Tok} {tk:Nat} (I:Inv X pins σ H s) (h1:-(2 ^ 62)≤lo) (h2:lo < 2 ^ 62) (h3:-(2 ^ 62)≤hi) (h4:hi < 2 ^ 62)
  (q:R (Itr lo (hi - lo).toNat) H):wpAny (model X.prog X.w) X.A (pyIter (.ref s.heap.objs.size)) (PIE X pins σ tg R) E { s with heap:=s.heap.push { cls:=.type "range", data:=.fields #[.int lo t,.int hi u,.int 1 v] },toks:=tk }:=by
 refine wpAny_pyIter_range (IsRange.new ..) (small_one h1 h2 h3 h4) ?_
 have I1:Inv X pins σ H { s with heap:=s.heap.push { cls:=.type "range", data:=.fields #[.int lo t,.int hi u,.int 1 v] },toks:=tk }:=I.kept fun b o e=>Heap.get?_push_of_some _ e
 refine ⟨(s.heap.push { cls:=.type "range", data:=.fields #[.int lo t,.int hi u,.int 1 v] }).objs.size,[(s.heap.push { cls:=.type "range", data:=.fields #[.int lo t,.int hi u,.int 1 v] }).objs.size],_,_,H,rfl,
  I1.kept (t':=tk) fun b o e=>Heap.get?_push_of_some _ e,FJ _ lo (hi - lo).toNat,?_,fun b hb=>?_,q⟩
 ·have e1:lo + ((0:Nat):Int) * 1=lo:=by simp
  have e2:(((hi - lo).toNat:Nat):Int) - ((0:Nat):Int)=Builtin.Range.rangeSize lo hi 1:=by rw [rangeSize_one];split <;> lia
  show IsRangeIter _ _ (lo + ((0:Nat):Int) * 1) ((((hi - lo).toNat:Nat):Int) - ((0:Nat):Int)) 1
  rw [e1,e2]
  exact Heap.get?_push_size _ rfl
 ·have e:b=(s.heap.push { cls:=.type "range", data:=.fields #[.int lo t,.int hi u,.int 1 v] }).objs.size:=by simpa using hb
  subst e
  exact I1.Fz (Nat.le_refl _) (I1.hok.fresh (Nat.le_refl _))
def Bt (ta:TA):TI:=fun σ H R=>ta σ H fun vs H1=>∃j:Int,vs=[.int j]∧-(2 ^ 62)≤j∧j < 2 ^ 62∧R (Itr 0 j.toNat) H1
def Mu (ta:TA):TI:=fun σ H R=>ta σ H fun vs H1=>∃i j:Int,vs=[.int i,.int j]∧(-(2 ^ 62)≤i∧i < 2 ^ 62∧-(2 ^ 62)≤j∧j < 2 ^ 62)∧R (Itr i (j - i).toNat) H1
theorem d9 {a:Expr} {ta:TA} {p pos:Pos} (hg:Gl X "range") (hm:X.mg "range" = none) (ha:PA X [a] ta) (hs:starEach [a] X.env=[(false,eval a X.env)]:=by rfl):PI X tg (.Call (.Name "range" p) [a] [] pos) (Bt ta):=by
 intro pins s σ H R I h
 refine Call_ (iy I hg hm boot_range (PyProof.Rows.callWith_type1 (thn (ha pos pins s σ H _ I h) fun us s1 ⟨vs,H1,I1,r1,q1⟩=>?_) hs rfl))
 obtain ⟨j,e,q1,q2,q⟩:=q1
 subst e
 cases r1 with
 | cons r rr =>
  cases rr
  obtain ⟨t,rfl⟩:=r
  exact call_range_1 (Bs I1 (by lia) (by lia) q1 q2 (by simpa using q))
theorem Kh {a b:Expr} {ta:TA} {p pos:Pos} (hg:Gl X "range") (hm:X.mg "range" = none) (ha:PA X [a,b] ta) (hs:starEach [a,b] X.env=[(false,eval a X.env),(false,eval b X.env)]:=by rfl) (hs2:starEach [b] X.env=[(false,eval b X.env)]:=by rfl) :
  PI X tg (.Call (.Name "range" p) [a,b] [] pos) (Mu ta):=by
 intro pins s σ H R I h
 refine Call_ (iy I hg hm boot_range (PyProof.Rows.callWith_type1 (thn (ha pos pins s σ H _ I h) fun us s1 ⟨vs,H1,I1,r1,q1⟩=>?_) (by rw [hs,hs2]) (by rw [hs2];rfl)))
 obtain ⟨i,j,e,⟨q1,q2,q3,q4⟩,q⟩:=q1
 subst e
 cases r1 with
 | cons r rr =>
  cases rr with
  | cons r' rr =>
   cases rr
   obtain ⟨t,rfl⟩:=r
   obtain ⟨t',rfl⟩:=r'
   exact call_range_2 (Bs I1 q1 q2 q3 q4 q)
def tM (wi:TI) (g:TG) (tb:TS):TS:=fun D σ H=>wi σ H fun J H1=>∃W:Nat→Nat→St→Hp→Prop,(∃m,W 0 m σ H1)∧∀i m σ H,W i m σ H →
 (J.stop i H∧D.nx σ H)∨(J.go i H∧∃N:St→Hp→Prop,(∀σ' H',N σ' H'→∃m',m' < m∧W (i + 1) m' σ' H')∧∀x H',J.yld i H x H'→g x σ H' fun σ2 H2=>tb { D with nx:=N,ct:=N,bk:=D.nx } σ2 H2)
def tO (fp:List Addr) (h:Heap):List (Addr×Obj):=fp.filterMap fun b=>(h.get? b).map fun o=>(b,o)
theorem jy {fp:List Addr} {h:Heap} {b:Addr} {o:Obj} (hb:b∈fp) (e:h.get? b=some o):(b,o)∈tO fp h:=List.mem_filterMap.mpr ⟨b,hb,by rw [e];rfl⟩
theorem Kl {fp:List Addr} {h:Heap} {p:Addr×Obj} (hp:p∈tO fp h):p.1∈fp∧h.get? p.1=some p.2:=by
 obtain ⟨b,hb,e⟩:=List.mem_filterMap.mp hp
 cases q:h.get? b with
 | none=>rw [q] at e;cases e
 | some o =>
  rw [q] at e
  have e':(b,o)=p:=Option.some.inj e
  subst e'
  exact ⟨hb,q⟩
theorem Inv.pinned {pins:List (Addr×Obj)} {σ:St} {H:Hp} {s:Shared} {fp:List Addr} (I:Inv X pins σ H s) (hf:∀b∈fp,jl X pins H b) (ho:∀b∈fp,∃o,s.heap.get? b=some o∧∀v,o.data≠.cell v):Inv X (pins++tO fp s.heap) σ H s :=
 I.Hu fun p hp=>(List.mem_append.mp hp).elim (fun z=>I.pin p (List.mem_append_right _ z)) fun z=>by
  obtain ⟨hb,e⟩:=Kl z
  obtain ⟨f0,f1,f2,_⟩:=hf p.1 hb
  obtain ⟨o,e',d⟩:=ho p.1 hb
  rw [e] at e';cases e'
  exact ⟨e,f0,f1,f2,d⟩
theorem Inv.jU {pins pl:List (Addr×Obj)} {σ:St} {H:Hp} {s:Shared} (I:Inv X (pins++pl) σ H s):Inv X pins σ H s:=I.Hu fun p hp=>I.pin p (List.mem_append_right _ (List.mem_append_left _ hp))
theorem dB {iter:Expr} {body:List Stmt} {wi:TI} {g:TG} {tb:TS} {pos:Pos} (hp:PassesOwn (model X.prog X.w) X.A X.env X.xe) (hc:X.calm=true) (hi:PI X tg iter wi) (hg:PG X tg g) (hb:PSs X body tb)
  (hs:∀x,foldedSetIterable iter X.env x=pure x:=by intro _;rfl):PS X (.For tg iter body [] pos) (tM wi g tb):=by
 intro pins s σ H D I h
 refine wpAny_For (thn (hi pins s σ H _ I h) fun v s1 h1=>thn h1 fun itv s2 h2=>?_) hs
 obtain ⟨it,fp,tn,J,H2,e,I2,T,st2,f2,W,⟨m0,w0⟩,turn⟩:=h2
 subst e
 -- what stays true of the iterator's objects through the loop
 have stat:∀{H':Hp},(∀b∈fp,H' b=none)→∀b∈fp,jl X pins H' b:=fun hn b hb=>⟨hn b hb,(f2 b hb).2⟩
 refine codeAny_forLoop_any (fun n s'=>∃i σ' H',Inv X pins σ' H' s'∧tn i s'.heap∧(∀b∈fp,H' b=none)∧W i n σ' H') ?_ m0 ⟨0,σ,H2,I2,st2,fun b hb=>(f2 b hb).1,w0⟩
 rintro n s3 ⟨i,σ3,H3,I3,st3,fr3,w3⟩
 rcases turn i n σ3 H3 w3 with ⟨stop,qn⟩ | ⟨go,N,hN,step⟩
 ·refine wpAny_passesOwn hp (thn (T.done X rfl rfl rfl hc i pins s3 σ3 H3 X.xe I3 (stat fr3) st3 stop) fun r s4 ⟨hr,I4⟩=>?_)
  subst hr
  exact wpAny_execs_nil ⟨σ3,H3,I4,qn⟩
 ·refine wpAny_passesOwn hp (thn (T.item X rfl rfl rfl hc i pins s3 σ3 H3 X.xe I3 (stat fr3) st3 go) fun r s4 ⟨u,hr,h4⟩=>?_)
  subst hr
  refine wpAny_passesOwn hp (thn h4 fun _ s5 ⟨x,H5,I5,r5,y5,st5,fr5⟩=>?_)
  have I5':=I5.pinned (stat fr5) (T.obj _ _ st5)
  refine wpAny_passesOwn hp (thn (hg _ s5 σ3 H5 x u _ I5' r5 (step x H5 y5)) fun _ s6 ⟨σ6,H6,I6,q6⟩=>?_)
  refine wpAny_passesOwn hp (thn (hb _ s6 σ6 H6 _ I6 q6) fun f s7 q7=>?_)
  have again:∀{σ7:St} {H7:Hp},Inv X (pins++tO fp s5.heap) σ7 H7 s7→N σ7 H7→∃m,m < n∧∃i σ' H',Inv X pins σ' H' s7∧tn i s7.heap∧(∀b∈fp,H' b=none)∧W i m σ' H':=fun {σ7 H7} I7 n7=>by
   obtain ⟨m',hm,w7⟩:=hN σ7 H7 n7
   refine ⟨m',hm,i + 1,σ7,H7,I7.jU,T.keep _ _ _ st5 fun b hb o e=>(I7.pin (b,o) (List.mem_append_right _ (List.mem_append_right _ (jy hb e)))).1,fun b hb=>?_,w7⟩
   obtain ⟨o,e,d⟩:=T.obj _ _ st5 b hb
   exact (I7.pin (b,o) (List.mem_append_right _ (List.mem_append_right _ (jy hb e)))).2.1
  cases f with
  | next=>obtain ⟨σ7,H7,I7,n7⟩:=q7;exact again I7 n7
  | cont=>obtain ⟨σ7,H7,I7,n7⟩:=q7;exact again I7 n7
  | brk=>obtain ⟨σ7,H7,I7,q7⟩:=q7;exact ⟨σ7,H7,I7.jU,q7⟩
  | ret v=>obtain ⟨x7,σ7,H7,I7,r7,q7⟩:=q7;exact ⟨x7,σ7,H7,I7.jU,r7,q7⟩
end
theorem Mw {K:PySem.W.Frag} {a:Addr} {xs:List V} {g:TG} {tb:TS} {D:Ends} {σ:St} {H:Hp} (Pv:Nat→St→Hp→Prop) (h0:Pv 0 σ H) (hl:∀i σ H,i≤xs.length→Pv i σ H→SqL K H a xs)
  (hs:∀i x σ H,xs[i]?=some x→Pv i σ H→g x σ H fun σ2 H2=>tb { D with nx:=Pv (i + 1),ct:=Pv (i + 1),bk:=D.nx } σ2 H2) (hd:∀σ H,Pv xs.length σ H→D.nx σ H) :
  ∃W:Nat→Nat→St→Hp→Prop,(∃m,W 0 m σ H)∧∀i m σ H,W i m σ H →
   ((Itl K a).stop i H∧D.nx σ H)∨((Itl K a).go i H∧∃N:St→Hp→Prop,(∀σ' H',N σ' H'→∃m',m' < m∧W (i + 1) m' σ' H')∧∀x H',(Itl K a).yld i H x H'→g x σ H' fun σ2 H2=>tb { D with nx:=N,ct:=N,bk:=D.nx } σ2 H2):=by
 refine ⟨fun i m σ H=>m=xs.length - i∧i≤xs.length∧Pv i σ H,⟨xs.length,by simp,Nat.zero_le _,h0⟩,?_⟩
 rintro i m σ H ⟨rfl,hi,p⟩
 have q:=hl i σ H hi p
 by_cases hlt:i < xs.length
 ·refine .inr ⟨⟨xs,xs[i],q,by simp [hlt]⟩,Pv (i + 1),fun σ' H' p'=>⟨xs.length - (i + 1),by lia,rfl,hlt,p'⟩,fun x H' y=>?_⟩
  obtain ⟨e,y⟩:=y
  subst e
  exact hs i x σ _ (y xs q) p
 ·have e:i=xs.length:=by lia
  subst e
  exact .inl ⟨⟨xs,q,Nat.le_refl _⟩,hd σ H p⟩
theorem wM {lo:Int} {n:Nat} {g:TG} {tb:TS} {D:Ends} {σ:St} {H:Hp} (Pv:Nat→St→Hp→Prop) (h0:Pv 0 σ H)
  (hs:∀i σ H,i < n→Pv i σ H→g (.int (lo + i)) σ H fun σ2 H2=>tb { D with nx:=Pv (i + 1),ct:=Pv (i + 1),bk:=D.nx } σ2 H2) (hd:∀σ H,Pv n σ H→D.nx σ H) :
  ∃W:Nat→Nat→St→Hp→Prop,(∃m,W 0 m σ H)∧∀i m σ H,W i m σ H →
   ((Itr lo n).stop i H∧D.nx σ H)∨((Itr lo n).go i H∧∃N:St→Hp→Prop,(∀σ' H',N σ' H'→∃m',m' < m∧W (i + 1) m' σ' H')∧∀x H',(Itr lo n).yld i H x H'→g x σ H' fun σ2 H2=>tb { D with nx:=N,ct:=N,bk:=D.nx } σ2 H2):=by
 refine ⟨fun i m σ H=>m=n - i∧i≤n∧Pv i σ H,⟨n,by simp,Nat.zero_le _,h0⟩,?_⟩
 rintro i m σ H ⟨rfl,hi,p⟩
 by_cases hlt:i < n
 ·refine .inr ⟨hlt,Pv (i + 1),fun σ' H' p'=>⟨n - (i + 1),by lia,rfl,hlt,p'⟩,fun x H' y=>?_⟩
  obtain ⟨e,y⟩:=y
  subst e y
  exact hs i σ _ hlt p
 ·have e:i=n:=by lia
  subst e
  exact .inl ⟨Nat.le_refl _,hd σ H p⟩
abbrev R2:=V→V→Hp→VK→Prop
def OpR (X:Cx) (f:Value→Value→Sem Value) (r:R2):Prop :=
 ∀(pins:List (Addr×Obj)) (s:Shared) (σ:St) (H:Hp) (x y:V) (v u:Value) (Q:VK),Inv X pins σ H s→RelV x v→RelV y u→r x y H Q →
  wpAny (model X.prog X.w) X.A (f v u) (EP X pins σ Q) X.xe s
def UnR (X:Cx) (f:Value→Sem Value) (r:V→Hp→VK→Prop):Prop :=
 ∀(pins:List (Addr×Obj)) (s:Shared) (σ:St) (H:Hp) (x:V) (v:Value) (Q:VK),Inv X pins σ H s→RelV x v→r x H Q →
  wpAny (model X.prog X.w) X.A (f v) (EP X pins σ Q) X.xe s
def fu (X:Cx) (f:Value) (r:List V→Hp→VK→Prop):Prop :=
 ∀(pins:List (Addr×Obj)) (s:Shared) (σ:St) (H:Hp) (xs:List V) (us:List Value) (Q:VK),Inv X pins σ H s→Vals xs us→r xs H Q →
  wpAny (model X.prog X.w) X.A (call f us) (EP X pins σ Q) X.xe s
def tOp (r:R2) (ta tb:TE):TE:=fun σ H Q=>ta σ H fun x H1=>tb σ H1 fun y H2=>r x y H2 Q
def tUn (r:V→Hp→VK→Prop) (ta:TE):TE:=fun σ H Q=>ta σ H fun x H1=>r x H1 Q
def rI (C:Int→Int→Prop) (g:Int→Int→V):R2:=fun x y H Q=>∃i j,x=.int i∧y=.int j∧C i j∧Q (g i j) H
def rI0 (g:Int→Int→V):R2:=fun x y H Q=>∃i j,x=.int i∧y=.int j∧Q (g i j) H
def rU (g:Int→V):V→Hp→VK→Prop:=fun x H Q=>∃i,x=.int i∧Q (g i) H
section
variable {X:Cx} {a b c:Expr} {ta tb tc:TE} {pos:Pos}
theorem V1 (ha:PE X a ta) (hb:PE X b tb) {pins:List (Addr×Obj)} {s:Shared} {σ:St} {H:Hp} {R:V→V→Hp→Prop} (I:Inv X pins σ H s)
  (h:ta σ H fun x H1=>tb σ H1 fun y H2=>R x y H2) {Q:Value→Shared→Prop} {f:Value→Value→Sem Value}
  (hf:∀v u s2 x y H2,Inv X pins σ H2 s2→RelV x v→RelV y u→R x y H2→wpAny (model X.prog X.w) X.A (f v u) Q X.xe s2) :
  wpAny (model X.prog X.w) X.A (eval a X.env) (fun v s₁=>wpAny (model X.prog X.w) X.A (eval b X.env) (fun u s₂=>wpAny (model X.prog X.w) X.A (f v u) Q X.xe s₂) X.xe s₁) X.xe s:=by
 refine thn (ha pins s σ H _ I h) fun v s1 ⟨x,H1,I1,r1,q1⟩=>?_
 refine thn (hb pins s1 σ H1 _ I1 q1) fun u s2 ⟨y,H2,I2,r2,q2⟩=>?_
 exact hf v u s2 x y H2 I2 r1 r2 q2
theorem aX {op:Operator} {r:R2} (ho:OpR X (binaryOp op) r) (ha:PE X a ta) (hb:PE X b tb):PE X (.BinOp a op b pos) (tOp r ta tb):=by
 intro pins s σ H Q I h
 exact wpAny_BinOp (V1 ha hb I h fun v u s2 x y H2 I2 rx ry q=>ho pins s2 σ H2 x y v u Q I2 rx ry q)
theorem tQ {op:UnaryOp} {r:V→Hp→VK→Prop} (ho:UnR X (unaryOp op) r) (ha:PE X a ta):PE X (.UnaryOp op a pos) (tUn r ta):=by
 intro pins s σ H Q I h
 exact UnaryOp_ (thn (ha pins s σ H _ I h) fun v s1 ⟨x,H1,I1,r1,q1⟩=>ho pins s1 σ H1 x v Q I1 r1 q1)
theorem opI {f:Value→Value→Sem Value} {C:Int→Int→Prop} {g:Int→Int→Int}
  (rule:∀(i j:Int) (t u:Tok) (s:Shared) (Q:Value→Shared→Prop) (E:Value→Shared→Prop),C i j→Q (.int (g i j) s.toks) { s with toks:=s.toks + 1 }→wpAny (model X.prog X.w) X.A (f (.int i t) (.int j u)) Q E s) :
  OpR X f (rI C fun i j=>.int (g i j)):=by
 intro pins s σ H x y v u Q I rx ry h
 obtain ⟨i,j,rfl,rfl,hc,q⟩:=h
 obtain ⟨t,rfl⟩:=rx
 obtain ⟨t',rfl⟩:=ry
 exact rule i j t t' s _ _ hc ⟨.int (g i j),H,I.tok _,⟨_,rfl⟩,q⟩
theorem Zq {f:Value→Value→Sem Value} {g:Int→Int→Int}
  (rule:∀(i j:Int) (t u:Tok) (s:Shared) (Q:Value→Shared→Prop) (E:Value→Shared→Prop),Q (.int (g i j) s.toks) { s with toks:=s.toks + 1 }→wpAny (model X.prog X.w) X.A (f (.int i t) (.int j u)) Q E s) :
  OpR X f (rI0 fun i j=>.int (g i j)):=by
 intro pins s σ H x y v u Q I rx ry h
 obtain ⟨i,j,rfl,rfl,q⟩:=h
 obtain ⟨t,rfl⟩:=rx
 obtain ⟨t',rfl⟩:=ry
 exact rule i j t t' s _ _ ⟨.int (g i j),H,I.tok _,⟨_,rfl⟩,q⟩
theorem RM {f:Value→Value→Sem Value} {g:Int→Int→Bool}
  (rule:∀(i j:Int) (t u:Tok) (s:Shared) (Q:Value→Shared→Prop) (E:Value→Shared→Prop),Q (.bool (g i j)) s→wpAny (model X.prog X.w) X.A (f (.int i t) (.int j u)) Q E s) :
  OpR X f (rI0 fun i j=>.bl (g i j)):=by
 intro pins s σ H x y v u Q I rx ry h
 obtain ⟨i,j,rfl,rfl,q⟩:=h
 obtain ⟨t,rfl⟩:=rx
 obtain ⟨t',rfl⟩:=ry
 exact rule i j t t' s _ _ ⟨.bl (g i j),H,I,rfl,q⟩
def V2 (i j:Int):Prop:=0 < j∧j < 1073741824
def V3 (i j:Int):Prop:=0≤j∧j≤1000000∧i.natAbs < 2 ^ 64
def Km (i j:Int):Prop:=(-(2 ^ 64) < i∧i < 2 ^ 64)∨(-(2 ^ 64) < j∧j < 2 ^ 64)
theorem Km.ok {i j:Int} (h:Km i j):IntMulOk i j:=by
 rcases h with ⟨h1,h2⟩ | ⟨h1,h2⟩
 ·exact .of_left (intBits_le_64 h1 h2)
 ·exact .of_right (intBits_le_64 h1 h2)
theorem cD:OpR X (binaryOp .Add) (rI0 fun i j=>.int (i + j)):=Zq fun _ _ _ _ _ _ _ q=>add_int q
theorem cM:OpR X (binaryOp .Sub) (rI0 fun i j=>.int (i - j)):=Zq fun _ _ _ _ _ _ _ q=>sub_int q
theorem jz:OpR X (binaryOp .Mult) (rI Km fun i j=>.int (i * j)):=opI fun _ _ _ _ _ _ _ hc q=>mul_int q hc.ok
theorem rW:OpR X (binaryOp .FloorDiv) (rI V2 fun i j=>.int (i / j)):=opI fun i j _ _ _ _ _ hc q=>by
 have h1:(0:Int) < j:=hc.1
 have h2:j < 1073741824:=hc.2
 exact floordiv_int (by lia) (by rw [Int.fdiv_eq_ediv_of_nonneg i (by lia)];exact q) (.inl (PyProof.noPylong_small (by lia)))
theorem jA:OpR X (binaryOp .Mod) (rI (fun _ j=>0 < j) fun i j=>.int (i % j)):=opI fun i j _ _ _ _ _ hc q=>by
 have h1:(0:Int) < j:=hc
 exact mod_int' (by lia) (by rw [Int.fmod_eq_emod_of_nonneg i (by lia)];exact q)
theorem Mx:OpR X (binaryOp .Pow) (rI V3 fun i j=>.int (i ^ j.toNat)):=opI fun _ _ _ _ _ _ _ hc q=>pow_int_small hc.1 hc.2.1 hc.2.2 q
theorem unI {f:Value→Sem Value} {g:Int→Int}
  (rule:∀(i:Int) (t:Tok) (s:Shared) (Q:Value→Shared→Prop) (E:Value→Shared→Prop),Q (.int (g i) s.toks) { s with toks:=s.toks + 1 }→wpAny (model X.prog X.w) X.A (f (.int i t)) Q E s) :
  UnR X f (rU fun i=>.int (g i)):=by
 intro pins s σ H x v Q I rx h
 obtain ⟨i,rfl,q⟩:=h
 obtain ⟨t,rfl⟩:=rx
 exact rule i t s _ _ ⟨.int (g i),H,I.tok _,⟨_,rfl⟩,q⟩
theorem mQ:UnR X (unaryOp .USub) (rU fun i=>.int (-i)):=unI fun _ _ _ _ _ q=>neg_int q
end
def Zr:V→V→Bool
 | .non,.non=>true | .non,.int _=>true | .int _,.non=>true | .non,.bl _=>true | .bl _,.non=>true | .non,.str _=>true | .str _,.non=>true
 | .int _,.int _=>true | .bl _,.bl _=>true | .str _,.str _=>true | .byt _,.byt _=>true
 | .int _,.str _=>true | .str _,.int _=>true | .bl _,.str _=>true | .str _,.bl _=>true
 | _,_=>false
def rEq:R2:=fun x y H Q=>Zr x y=true∧Q (.bl (decide (x=y))) H
def rNe:R2:=fun x y H Q=>Zr x y=true∧Q (.bl (!decide (x=y))) H
theorem Hv {i j:Int}:decide (V.int i=V.int j)=(i == j):=by
 rw [Bool.eq_iff_iff]
 simp
theorem Mz {i j:Bool}:decide (V.bl i=V.bl j)=(i == j):=by
 rw [Bool.eq_iff_iff]
 simp
theorem Hw {i j:Str}:decide (V.str i=V.str j)=(i == j):=by
 rw [Bool.eq_iff_iff]
 simp
theorem Hx {i j:Array UInt8}:decide (V.byt i=V.byt j)=(i.toList == j.toList):=by
 rw [Bool.eq_iff_iff]
 cases i
 cases j
 simp
section
variable {X:Cx} {a b c:Expr} {ta tb tc:TE} {pos:Pos}
theorem cI {pins:List (Addr×Obj)} {σ:St} {H:Hp} {s:Shared} {Q:VK} {k k':Bool} (I:Inv X pins σ H s) (q:Q (.bl k) H) (e:k=k'):EP X pins σ Q (.bool k') s:=by
 subst e
 exact ⟨.bl k,H,I,rfl,q⟩
theorem mD:OpR X (compareOp .Eq) rEq:=by
 intro pins s σ H x y v u Q I rx ry h
 obtain ⟨hs,q⟩:=h
 cases x with
 | non =>
  cases rx
  cases y with
  | non=>cases ry;exact PySem.EqNone.eq_none_none (cI I q (by simp))
  | bl j=>cases ry;exact PySem.EqNone.eq_none_bool (cI I q (by simp))
  | int j=>obtain ⟨t',rfl⟩:=ry;exact PySem.EqNone.eq_none_int (cI I q (by simp))
  | str j=>obtain ⟨t',rfl⟩:=ry;exact PySem.EqNone.eq_none_str (cI I q (by simp))
  | _=>exact absurd (show false=true from hs) Bool.false_ne_true
 | bl i =>
  cases rx
  cases y with
  | non=>cases ry;exact PySem.EqNone.eq_bool_none (cI I q (by simp))
  | bl j=>cases ry;exact eq_bool (cI I q Mz)
  | str j=>obtain ⟨t',rfl⟩:=ry;exact PySem.EqMixed.eq_bool_str (cI I q (by simp))
  | _=>exact absurd (show false=true from hs) Bool.false_ne_true
 | int i =>
  obtain ⟨t,rfl⟩:=rx
  cases y with
  | non=>cases ry;exact PySem.EqNone.eq_int_none (cI I q (by simp))
  | int j=>obtain ⟨t',rfl⟩:=ry;exact eq_int (cI I q Hv)
  | str j=>obtain ⟨t',rfl⟩:=ry;exact PySem.EqMixed.eq_int_str (cI I q (by simp))
  | _=>exact absurd (show false=true from hs) Bool.false_ne_true
 | str i =>
  obtain ⟨t,rfl⟩:=rx
  cases y with
  | non=>cases ry;exact PySem.EqNone.eq_str_none (cI I q (by simp))
  | bl j=>cases ry;exact PySem.EqMixed.eq_str_bool (cI I q (by simp))
  | int j=>obtain ⟨t',rfl⟩:=ry;exact PySem.EqMixed.eq_str_int (cI I q (by simp))
  | str j=>obtain ⟨t',rfl⟩:=ry;exact eq_str (cI I q Hw)
  | _=>exact absurd (show false=true from hs) Bool.false_ne_true
 | byt i =>
  obtain ⟨t,rfl⟩:=rx
  cases y with
  | byt j=>obtain ⟨t',rfl⟩:=ry;exact W.eq_bytes (cI I q Hx)
  | _=>exact absurd (show false=true from hs) Bool.false_ne_true
 | _=>cases y <;> exact absurd (show false=true from hs) Bool.false_ne_true
theorem Hy:OpR X (compareOp .NotEq) rNe:=by
 intro pins s σ H x y v u Q I rx ry h
 obtain ⟨hs,q⟩:=h
 cases x with
 | non =>
  cases rx
  cases y with
  | non=>cases ry;exact PySem.EqNone.ne_none_none (cI I q (by simp))
  | bl j=>cases ry;exact PySem.EqNone.ne_none_bool (cI I q (by simp))
  | int j=>obtain ⟨t',rfl⟩:=ry;exact PySem.EqNone.ne_none_int (cI I q (by simp))
  | str j=>obtain ⟨t',rfl⟩:=ry;exact PySem.EqNone.ne_none_str (cI I q (by simp))
  | _=>exact absurd (show false=true from hs) Bool.false_ne_true
 | bl i =>
  cases rx
  cases y with
  | non=>cases ry;exact PySem.EqNone.ne_bool_none (cI I q (by simp))
  | bl j=>cases ry;exact ne_bool (cI I q (congrArg not Mz))
  | str j=>obtain ⟨t',rfl⟩:=ry;exact PySem.EqMixed.ne_bool_str (cI I q (by simp))
  | _=>exact absurd (show false=true from hs) Bool.false_ne_true
 | int i =>
  obtain ⟨t,rfl⟩:=rx
  cases y with
  | non=>cases ry;exact PySem.EqNone.ne_int_none (cI I q (by simp))
  | int j=>obtain ⟨t',rfl⟩:=ry;exact ne_int (cI I q (congrArg not Hv))
  | str j=>obtain ⟨t',rfl⟩:=ry;exact PySem.EqMixed.ne_int_str (cI I q (by simp))
  | _=>exact absurd (show false=true from hs) Bool.false_ne_true
 | str i =>
  obtain ⟨t,rfl⟩:=rx
  cases y with
  | non=>cases ry;exact PySem.EqNone.ne_str_none (cI I q (by simp))
  | bl j=>cases ry;exact PySem.EqMixed.ne_str_bool (cI I q (by simp))
  | int j=>obtain ⟨t',rfl⟩:=ry;exact PySem.EqMixed.ne_str_int (cI I q (by simp))
  | str j=>obtain ⟨t',rfl⟩:=ry;exact ne_str (cI I q (congrArg not Hw))
  | _=>exact absurd (show false=true from hs) Bool.false_ne_true
 | byt i =>
  obtain ⟨t,rfl⟩:=rx
  cases y with
  | byt j=>obtain ⟨t',rfl⟩:=ry;exact W.ne_bytes (cI I q (congrArg not Hx))
  | _=>exact absurd (show false=true from hs) Bool.false_ne_true
 | _=>cases y <;> exact absurd (show false=true from hs) Bool.false_ne_true
theorem Bu:OpR X (compareOp .Lt) (rI0 fun i j=>.bl (decide (i < j))):=RM fun _ _ _ _ _ _ _ q=>lt_int q
theorem qT:OpR X (compareOp .LtE) (rI0 fun i j=>.bl (decide (i≤j))):=RM fun _ _ _ _ _ _ _ q=>le_int q
theorem gY:OpR X (compareOp .Gt) (rI0 fun i j=>.bl (decide (j < i))):=RM fun _ _ _ _ _ _ _ q=>gt_int q
theorem Zt:OpR X (compareOp .GtE) (rI0 fun i j=>.bl (decide (j≤i))):=RM fun _ _ _ _ _ _ _ q=>ge_int q
theorem V4:OpR X (compareOp .Is) (fun x y H Q=>y=.non∧Q (.bl (decide (x=.non))) H):=by
 intro pins s σ H x y v u Q I rx ry h
 obtain ⟨rfl,q⟩:=h
 cases ry
 refine is_none_gen (cI I q ?_)
 cases x <;> first
  | (cases rx;rfl)
  | (obtain ⟨t,rfl⟩:=rx;rfl)
theorem RN:OpR X (compareOp .IsNot) (fun x y H Q=>y=.non∧Q (.bl (!decide (x=.non))) H):=by
 intro pins s σ H x y v u Q I rx ry h
 obtain ⟨rfl,q⟩:=h
 cases ry
 refine isnot_none_gen (cI I q ?_)
 cases x <;> first
  | (cases rx;rfl)
  | (obtain ⟨t,rfl⟩:=rx;rfl)
theorem OpR.or {f:Value→Value→Sem Value} {r r':R2} (h:OpR X f r) (h':OpR X f r'):OpR X f (fun x y H Q=>r x y H Q∨r' x y H Q):=by
 intro pins s σ H x y v u Q I rx ry q
 rcases q with q | q
 ·exact h pins s σ H x y v u Q I rx ry q
 ·exact h' pins s σ H x y v u Q I rx ry q
theorem bJ (b:Expr) {op:CmpOp} (h:op≠.In:=by decide) (h2:op≠.NotIn:=by decide):behindInMarks op b=false:=by
 have e1:(op == CmpOp.In)=false:=by cases op <;> first | rfl | exact absurd rfl h
 have e2:(op == CmpOp.NotIn)=false:=by cases op <;> first | rfl | exact absurd rfl h2
 cases b <;> simp [behindInMarks,e1,e2]
theorem dR {op:CmpOp} {r:R2} (ho:OpR X (compareOp op) r) (ha:PE X a ta) (hb:PE X b tb) (hm:behindInMarks op b=false):PE X (.Compare a [op] [b] pos) (tOp r ta tb):=by
 intro pins s σ H Q I h
 exact wpAny_Compare1 (V1 ha hb I h fun v u s2 x y H2 I2 rx ry q=>ho pins s2 σ H2 x y v u Q I2 rx ry q) hm
def Hz (t:TE):TT:=fun σ H Q=>t σ H fun x H'=>∃k,x=.bl k∧Q k H'
theorem bK {op:CmpOp} {r:R2} (ho:OpR X (compareOp op) r) (ha:PE X a ta) (hb:PE X b tb) (hm:behindInMarks op b=false):PT X (.Compare a [op] [b] pos) (Hz (tOp r ta tb)):=by
 intro pins s σ H Q I h
 refine wpAny_isTrue_Compare1 (thn (ha pins s σ H _ I h) fun v s1 ⟨x,H1,I1,r1,q1⟩=>thn (hb pins s1 σ H1 _ I1 q1) fun u s2 ⟨y,H2,I2,r2,q2⟩ =>
  thn (ho pins s2 σ H2 x y v u _ I2 r1 r2 q2) fun c s3 ⟨z,H3,I3,r3,k,e,q3⟩=>?_) hm
 subst e
 cases r3
 exact wpAny_truthy_bool ⟨H3,I3,q3⟩
def zG (r r':R2) (ta tb tc:TE):TE:=fun σ H Q=>ta σ H fun x H1=>tb σ H1 fun y H2=>r x y H2 fun z H3=>∃k,z=.bl k ∧
 (if k=true then tc σ H3 fun w' H4=>r' y w' H4 Q else Q (.bl false) H3)
theorem MF {op op':CmpOp} {r r':R2} (ho:OpR X (compareOp op) r) (ho':OpR X (compareOp op') r') (ha:PE X a ta) (hb:PE X b tb) (hc:PE X c tc)
  (hm:lastMarks [op,op'] [b,c]=false:=by with_unfolding_all rfl):PE X (.Compare a [op,op'] [b,c] pos) (zG r r' ta tb tc):=by
 intro pins s σ H Q I h
 refine Compare_chain (thn (ha pins s σ H _ I h) fun v s1 ⟨x,H1,I1,r1,q1⟩=>chain_link (thn (hb pins s1 σ H1 _ I1 q1) fun u s2 ⟨y,H2,I2,r2,q2⟩ =>
  thn (ho pins s2 σ H2 x y v u _ I2 r1 r2 q2) fun d s3 ⟨z,H3,I3,r3,k,e,q3⟩=>?_)) hm
 subst e
 cases r3
 refine wpAny_truthy_bool ?_
 cases k with
 | false=>exact ite_ff ⟨.bl false,H3,I3,rfl,q3⟩
 | true=>exact ite_tt (chain_last (thn (hc pins s3 σ H3 _ I3 q3) fun w' s4 ⟨z',H4,I4,r4,q4⟩=>ho' pins s4 σ H4 y z' u w' Q I4 r2 r4 q4))
theorem Bv {op op':CmpOp} {r r':R2} (ho:OpR X (compareOp op) r) (ho':OpR X (compareOp op') r') (ha:PE X a ta) (hb:PE X b tb) (hc:PE X c tc)
  (hm:lastMarks [op,op'] [b,c]=false:=by with_unfolding_all rfl):PT X (.Compare a [op,op'] [b,c] pos) (Hz (zG r r' ta tb tc)):=by
 intro pins s σ H Q I h
 refine isTrue_chain (thn (ha pins s σ H _ I h) fun v s1 ⟨x,H1,I1,r1,q1⟩=>test_link (thn (hb pins s1 σ H1 _ I1 q1) fun u s2 ⟨y,H2,I2,r2,q2⟩ =>
  thn (ho pins s2 σ H2 x y v u _ I2 r1 r2 q2) fun d s3 ⟨z,H3,I3,r3,k,e,q3⟩=>?_)) hm
 subst e
 cases r3
 refine wpAny_truthy_bool ?_
 cases k with
 | false =>
  obtain ⟨k',e',q'⟩:=q3
  cases e'
  exact ite_ff ⟨H3,I3,q'⟩
 | true =>
  refine ite_tt (test_last (thn (hc pins s3 σ H3 _ I3 q3) fun w' s4 ⟨z',H4,I4,r4,q4⟩=>thn (ho' pins s4 σ H4 y z' u w' _ I4 r2 r4 q4) fun d' s5 ⟨z2,H5,I5,r5,k2,e2,q5⟩=>?_))
  subst e2
  cases r5
  exact wpAny_truthy_bool ⟨H5,I5,q5⟩
theorem tR:(sizeLine:Nat) < 2 ^ 63:=by rw [sizeLine_eq];decide
theorem FN:OpR X (binaryOp .Add) (fun x y H Q=>∃i j,x=.str i∧y=.str j∧i.length + j.length≤sizeLine∧Q (.str (i++j)) H):=by
 intro pins s σ H x y v u Q I rx ry h
 obtain ⟨i,j,rfl,rfl,hz,q⟩:=h
 obtain ⟨t,rfl⟩:=rx
 obtain ⟨t',rfl⟩:=ry
 exact add_str (fun t' tk=>⟨.str (i++j),H,I.tok _,⟨_,rfl⟩,q⟩) hz
theorem vals1 {x:V} {us:List Value} (r:Vals [x] us):∃u,us=[u]∧RelV x u:=by
 cases r with
 | cons r1 r2=>cases r2;exact ⟨_,rfl,r1⟩
theorem vals2 {x y:V} {us:List Value} (r:Vals [x,y] us):∃u w',us=[u,w']∧RelV x u∧RelV y w':=by
 cases r with
 | cons r1 r2 =>
  cases r2 with
  | cons r3 r4=>cases r4;exact ⟨_,_,rfl,r1,r3⟩
theorem Ko (hc:X.calm=true):fu X (.builtin "max") (fun xs H Q=>∃i j,xs=[.int i,.int j]∧Q (.int (if j > i then j else i)) H):=by
 intro pins s σ H xs us Q I r h
 obtain ⟨i,j,rfl,q⟩:=h
 obtain ⟨u,w',rfl,⟨t,rfl⟩,⟨t',rfl⟩⟩:=vals2 r
 refine max_two_ints (I.ok.hd hc) fun h' tk k=>⟨_,H,I.kept k,?_,q⟩
 by_cases hj:j > i
 ·rw [if_pos hj,if_pos hj];exact ⟨_,rfl⟩
 ·rw [if_neg hj,if_neg hj];exact ⟨_,rfl⟩
theorem Kq (hc:X.calm=true):fu X (.builtin "min") (fun xs H Q=>∃i j,xs=[.int i,.int j]∧Q (.int (if j < i then j else i)) H):=by
 intro pins s σ H xs us Q I r h
 obtain ⟨i,j,rfl,q⟩:=h
 obtain ⟨u,w',rfl,⟨t,rfl⟩,⟨t',rfl⟩⟩:=vals2 r
 refine min_two_ints (I.ok.hd hc) fun h' tk k=>⟨_,H,I.kept k,?_,q⟩
 by_cases hj:j < i
 ·rw [if_pos hj,if_pos hj];exact ⟨_,rfl⟩
 ·rw [if_neg hj,if_neg hj];exact ⟨_,rfl⟩
theorem Kr:fu X (.type "int") (fun xs H Q=>(∃i,xs=[.int i]∧Q (.int i) H)∨∃k,xs=[.bl k]∧Q (.int (if k then 1 else 0)) H):=by
 intro pins s σ H xs us Q I r h
 rcases h with ⟨i,rfl,q⟩ | ⟨k,rfl,q⟩
 ·obtain ⟨u,rfl,t,rfl⟩:=vals1 r
  exact call_int_int ⟨.int i,H,I,⟨_,rfl⟩,q⟩
 ·obtain ⟨u,rfl,r1⟩:=vals1 r
  cases r1
  exact call_int_bool ⟨.int (if k then 1 else 0),H,I.tok _,⟨_,rfl⟩,q⟩
def Zu (K:W.Frag) (x:V) (H:Hp) (n:Nat):Prop :=
 match x with
 | .str y=>y.length≤sizeLine∧n=y.length
 | .byt y=>y.size≤sizeLine∧n=y.size
 | .ref p=>(∃xs,SqL K H p xs∧n=xs.length)∨∃xs,SqT K H p xs∧n=xs.length
 | _=>False
theorem MJ:fu X (.builtin "len") (fun xs H Q=>∃x n,xs=[x]∧Zu X.K x H n∧Q (.int n) H):=by
 intro pins s σ H xs us Q I r h
 obtain ⟨x,n,rfl,e,q⟩:=h
 obtain ⟨u,rfl,rx⟩:=vals1 r
 have hl:=tR
 have hs:sizeLine=16777216:=sizeLine_eq
 cases x with
 | str y =>
  obtain ⟨t,rfl⟩:=rx
  obtain ⟨hy,e'⟩:y.length≤sizeLine∧n=y.length:=e
  subst e'
  exact len_str (by lia) ⟨.int _,H,I.tok _,⟨_,rfl⟩,q⟩
 | byt y =>
  obtain ⟨t,rfl⟩:=rx
  obtain ⟨hy,e'⟩:y.size≤sizeLine∧n=y.size:=e
  subst e'
  exact W.len_bytes (by lia) ⟨.int _,H,I.tok _,⟨_,rfl⟩,q⟩
 | ref p =>
  cases rx
  have e':(∃xs,SqL X.K H p xs∧n=xs.length)∨∃xs,SqT X.K H p xs∧n=xs.length:=e
  rcases e' with ⟨xs,hx,e'⟩ | ⟨xs,hx,e'⟩
  ·subst e'
   obtain ⟨its,r',pl,hz⟩:=I.list hx
   have hlen:=r'.length
   exact Calls.call_len_list pl.isList (by simp only [List.size_toArray];lia) ⟨.int xs.length,H,I.tok _,⟨_,by simp only [List.size_toArray];rw [hlen]⟩,q⟩
  ·subst e'
   obtain ⟨its,r',pl,hz⟩:=I.tuple hx
   have hlen:=r'.length
   exact len_tuple pl (by simp only [List.size_toArray];lia) ⟨.int xs.length,H,I.tok _,⟨_,by simp only [List.size_toArray];rw [hlen]⟩,q⟩
 | _=>exact (show False from e).elim
end
structure FP (h:Heap) (x dx C:Addr) (mA:Str→Option Value):Prop where
 obj:h.get? x=some (W.instObj C dx)
 ns:h.Ns1 dx mA
 ne:dx≠x
theorem Ks {h:Heap} {dx:Addr} {mA:Str→Option Value} (n:h.Ns1 dx mA):∃od,h.get? dx=some od∧∀name,W.lookIn name od=some (mA name):=by
 obtain ⟨o,es,ep,ho,hd,hk,_,hm⟩:=n
 refine ⟨o,ho,fun name=>?_⟩
 have e:=hm name
 unfold nsFind findBy at e
 rw [← Array.find?_toList] at e
 unfold W.lookIn
 rw [hd]
 dsimp only
 split
 ·rename_i y q
  rw [q] at e
  exact congrArg some e
 ·rename_i q
  rw [q] at e
  have a:es.toList.any (·.refKey)=false:=by
   rw [List.any_eq_false]
   intro y hy
   obtain ⟨z,t,hkey⟩:=hk y (Array.mem_toList_iff.mp hy)
   simp [DictEntry.refKey,hkey]
  have a':¬ es.toList.any (·.refKey)=true:=by rw [a];exact Bool.false_ne_true
  rw [if_neg a']
  exact congrArg some e
theorem FP.look {h:Heap} {x dx C:Addr} {mA:Str→Option Value} (I:FP h x dx C mA):∃od,W.InstAt h x (W.instObj C dx) C (some od)∧∀name,W.lookIn name od=some (mA name) :=
 let ⟨od,ho,hl⟩:=Ks I.ns
 ⟨od,⟨I.obj,rfl,rfl,ho⟩,hl⟩
section
variable {prog:Program} {w:World} {A:Around} {E:Value→Shared→Prop} {s:Shared} {K:W.Frag} {x dx C f:Addr} {mA:Str→Option Value} {name:Str} {v:Value}
theorem get_map {expr:Bool} {Q:Value→Shared→Prop} (X:K.In s.heap) (I:FP s.heap x dx C mA) (hg:W.plainGet K C name=true) (hh:W.hasDictIn K C=true)
  (ha:W.findIn K (.ref C) name=some none) (hv:mA name=some v) (hv':W.handedIn v=true) (h:Q v { s with toks:=s.toks + 1 }) :
  wpAny (model prog w) A (getAttr (.ref x) name expr) Q E s:=by
 obtain ⟨od,J,hl⟩:=I.look
 exact W.get_value X J (W.plainGet_of hg).1 (W.findObj_own hh ha rfl (by rw [hl,hv])) hv' h
theorem MK {pl:Sem Bool} {Q:Value×List Value→Shared→Prop} (X:K.In s.heap) (I:FP s.heap x dx C mA) (hg:W.plainGet K C name=true)
  (hf:W.findIn K (.ref C) name=some (some (.ref f))) (ht:W.isFn K (.ref f)=true) (hv:mA name=none) (h:Q (.ref f,[.ref x]) s) :
  wpAny (model prog w) A (getMethod (.ref x) name pl) Q E s:=by
 obtain ⟨od,J,hl⟩:=I.look
 exact W.method_fn X J (W.plainGet_of hg).1 (W.plainGet_of hg).2 hf (beq_iff_eq.mp ht) (by show (W.lookIn name od).map (·.isSome)=some false;rw [hl,hv];rfl) h
theorem RP {ns:List Str} {Q:Unit→Shared→Prop} (X:K.In s.heap) (I:FP s.heap x dx C mA)
  (hs:W.findIn K (.ref C) "__setattr__" = some (some (.builtin "object.__setattr__"))) (hp:W.plainOver K C=true) (ht:W.takerIn K C name=some none) (hh:W.hasDictIn K C=true)
  (hw:PySem.Within mA ns) (hsz:ns.length≤sizeLine)
  (h:∀h',FP h' x dx C (fun y=>if y=name then some v else mA y)→Heap.SameBut dx s.heap h'→Q () { s with heap:=h',toks:=s.toks + 2 }) :
  wpAny (model prog w) A (setAttr (.ref x) name v) Q E s:=by
 obtain ⟨od,J,hl⟩:=I.look
 refine W.set_plain X J hs (W.osa_open (s:={ s with toks:=s.toks + 1 }) (r:=none) X J hp ht fun b=>?_)
 obtain ⟨cd,hc,hd'⟩:=W.any_some hh
 have hx:s.heap.get? x=some ⟨.ref C,some dx,.plain,#[]⟩:=I.obj
 refine wpAny_bind (wpAny_pure (wpAny_bind (wpAny_bind (wpAny_loadPart hx (wpAny_bind (W.Looks.here (s:={ s with toks:=s.toks + 1 }) (W.looks_clsIn X hc) ?_))))))
 rw [hd']
 refine wpAny_pure (a:=some dx) (wpAny_bind (wpAny_pure (wpAny_bind ?_)))
 refine wpAny_nsSet1 (s:={ s with toks:=s.toks + 1 }) I.ns fun h' hn2 hs2=>?_
 obtain ⟨oD,esD,epD,hoD,hdD,hcD⟩:=hn2.count (PySem.Within.cons name v hw)
 refine wpAny_bind (wpAny_lookBehind hoD (by rw [hdD];exact pastItsLine_dict (Nat.le_trans hcD (by rw [List.length_cons];lia))) ?_)
 exact wpAny_pure (h _ ⟨(hs2.2 _ (Ne.symm I.ne)).trans I.obj,hn2,I.ne⟩ hs2)
theorem MN {R:Result→Shared→Prop} {vs:List Value} {kw:List (Str×Value)} (X:K.In s.heap) (hm:W.makesIn K C=true)
  (hi:W.findIn K (.ref C) "__init__" = some (some (.ref f))) (hf:W.typeIn K (.ref f)=some (.type "function"))
  (h:codeAny (model prog w) (A.under (.builtin "type.__call__" ⟨.ref C::vs,kw⟩)) (.call (.ref f) ⟨.ref (s.heap.objs.size + 1)::vs,kw⟩) (W.InitBack (s.heap.objs.size + 1) R)
   { s with heap:=(s.heap.push W.emptyDict).push (W.instObj C s.heap.objs.size) }) :
  codeAny (model prog w) A (.call (.ref C) ⟨vs,kw⟩) R s:=by
 obtain ⟨hh,g,d,t,os⟩:=s
 exact W.make_core (W.makes_of X hm) (W.looks_findIn X hi) (fun self=>W.bind_fn X self hf) (.inl rfl) h
end
def gU (f:Str) (v:V):List (Str×V)→List (Str×V)
 | []=>[(f,v)]
 | (g,x)::r=>if g=f then (g,v)::r else (g,x)::gU f v r
theorem cC (f g:Str) (v:V):∀fs:List (Str×V),(gU f v fs).lookup g=if g=f then some v else fs.lookup g
 | []=>by
  show List.lookup g [(f,v)]=_
  by_cases h:g=f
  ·have hb:(g == f)=true:=beq_iff_eq.mpr h
   simp only [List.lookup,hb,if_pos h]
  ·have hb:(g == f)=false:=beq_eq_false_iff_ne.mpr h
   simp only [List.lookup,hb,if_neg h]
 | (k,x)::r=>by
  have ih:=cC f g v r
  rw [show gU f v ((k,x)::r)=(if k=f then (k,v)::r else (k,x)::gU f v r) from rfl]
  by_cases hk:k=f
  ·rw [if_pos hk]
   by_cases h:g=k
   ·have hb:(g == k)=true:=beq_iff_eq.mpr h
    simp only [List.lookup,hb,if_pos (h.trans hk)]
   ·have hb:(g == k)=false:=beq_eq_false_iff_ne.mpr h
    simp only [List.lookup,hb,if_neg (fun e:g=f=>h (e.trans hk.symm))]
  ·rw [if_neg hk]
   by_cases h:g=k
   ·have hb:(g == k)=true:=beq_iff_eq.mpr h
    simp only [List.lookup,hb,if_neg (fun e:g=f=>hk (h.symm.trans e))]
   ·have hb:(g == k)=false:=beq_eq_false_iff_ne.mpr h
    simp only [List.lookup,hb]
    exact ih
theorem pN (f:Str) (v:V):∀fs:List (Str×V),f∈(gU f v fs).map (·.1)∧∀g,g∈fs.map (·.1)→g∈(gU f v fs).map (·.1)
 | []=>⟨by simp [gU],fun g h=>by simp at h⟩
 | (k,x)::r=>by
  obtain ⟨i1,i2⟩:=pN f v r
  rw [show gU f v ((k,x)::r)=(if k=f then (k,v)::r else (k,x)::gU f v r) from rfl]
  by_cases hk:k=f
  ·rw [if_pos hk]
   subst hk
   exact ⟨by simp,fun g h=>by simpa using h⟩
  ·rw [if_neg hk]
   refine ⟨?_,fun g h=>?_⟩
   ·rw [List.map_cons]
    exact List.mem_cons_of_mem _ i1
   ·rw [List.map_cons] at h ⊢
    rcases List.mem_cons.mp h with e | e
    ·exact List.mem_cons.mpr (.inl e)
    ·exact List.mem_cons_of_mem _ (i2 g e)
theorem qU (f:Str) (v:V):∀fs:List (Str×V),(gU f v fs).length≤fs.length + 1
 | []=>by simp [gU]
 | (k,x)::r=>by
  have ih:=qU f v r
  rw [show gU f v ((k,x)::r)=(if k=f then (k,v)::r else (k,x)::gU f v r) from rfl]
  by_cases hk:k=f
  ·rw [if_pos hk,List.length_cons,List.length_cons];lia
  ·rw [if_neg hk,List.length_cons,List.length_cons];lia
theorem mL.some_of {v:V} {o:Option Value} (r:mL (some v) o):∃u,o=some u∧RelV v u:=by
 cases o with
 | none=>exact (show False from r).elim
 | some u=>exact ⟨u,rfl,r⟩
theorem mL.none_of {o:Option Value} (r:mL none o):o=none:=by
 cases o with
 | none=>rfl
 | some u=>exact (show False from r).elim
theorem Ku {v:V} {u:Value} (r:RelV v u):W.handedIn u=true:=by
 cases v with
 | non=>cases (show u=Value.none from r);rfl
 | bl b=>cases (show u=Value.bool b from r);rfl
 | int i=>obtain ⟨t,e⟩:=(show ∃t,u=Value.int i t from r);cases e;rfl
 | str x=>obtain ⟨t,e⟩:=(show ∃t,u=Value.str x t from r);cases e;rfl
 | byt b=>obtain ⟨t,e⟩:=(show ∃t,u=Value.bytes b t from r);cases e;rfl
 | flt b=>obtain ⟨t,e⟩:=(show ∃t,u=Value.float b t from r);cases e;rfl
 | ref a=>cases (show u=Value.ref a from r);rfl
 | ty n=>cases (show u=Value.type n from r);rfl
section
variable {P:Program} {w:World} {H H':Hp} {h h':Heap} {a C dx:Addr} {fs fs':List (Str×V)}
theorem rY (hok:HOk P w H h) (e:H a=some (.ins C dx fs)):∃mA,FP h a dx C mA∧(∀f,mL (fs.lookup f) (mA f))∧PySem.Within mA (fs.map (·.1))∧fs.length≤1000∧H dx=some (.own a):=by
 obtain ⟨d,z,ne,ob,mA,n,r,q⟩:=(show dW P w H h a (.ins C dx fs) from hok a _ e)
 exact ⟨mA,⟨ob,n,ne⟩,r,q,z,d⟩
end
structure Cls (K:W.Frag) (C:Addr):Prop where
 pg:W.plainGet K C Str.empty=true
 hd:W.hasDictIn K C=true
 po:W.plainOver K C=true
 sa:W.findIn K (.ref C) "__setattr__" = some (some (.builtin "object.__setattr__"))
theorem Cls.get {K:W.Frag} {C:Addr} (c:Cls K C) (f:Str):W.plainGet K C f=true:=c.pg
def dJ (K:W.Frag) (C:Addr) (f:Str):Prop:=W.findIn K (.ref C) f=some none
theorem dJ.taker {K:W.Frag} {C:Addr} {f:Str} (n:dJ K C f):W.takerIn K C f=some none:=by
 unfold W.takerIn
 rw [show W.findIn K (.ref C) f=some none from n]
 rfl
structure Meth (K:W.Frag) (C:Addr) (m:Str) (f:Addr):Prop where
 at_:W.findIn K (.ref C) m=some (some (.ref f))
 fn:W.isFn K (.ref f)=true
 kp:W.keepIn K (.ref f)=true
section
variable {X:Cx} {pins:List (Addr×Obj)} {σ:St} {H:Hp} {s:Shared} {a C dx:Addr} {fs:List (Str×V)} {f:Str} {v:V} {A:Around} {E:Value→Shared→Prop}
theorem FQ {b:Bool} {Q:Value→Shared→Prop} (I:Inv X pins σ H s) (e:H a=some (.ins C dx fs)) (c:Cls X.K C) (n:dJ X.K C f) (l:fs.lookup f=some v)
  (h:∀u s',Inv X pins σ H s'→RelV v u→Q u s'):wpAny (model X.prog X.w) A (getAttr (.ref a) f b) Q E s:=by
 obtain ⟨mA,O,r,_,_,_⟩:=rY I.hok e
 obtain ⟨u,hu,ru⟩:=mL.some_of (v:=v) (o:=mA f) (by rw [← l];exact r f)
 exact get_map I.kIn O (c.get f) c.hd n hu (Ku ru) (h u _ (I.tok _) ru)
theorem tU {m:Str} {g:Addr} {pl:Sem Bool} {Q:Value×List Value→Shared→Prop} (I:Inv X pins σ H s) (e:H a=some (.ins C dx fs)) (c:Cls X.K C) (k:Meth X.K C m g) (l:fs.lookup m=none)
  (h:Q (.ref g,[.ref a]) s):wpAny (model X.prog X.w) A (getMethod (.ref a) m pl) Q E s:=by
 obtain ⟨mA,O,r,_,_,_⟩:=rY I.hok e
 have hn:mA m=none:=mL.none_of (by rw [← l];exact r m)
 exact MK I.kIn O (c.get m) k.at_ k.fn hn h
theorem FT {y:V} {u:Value} {Q:Unit→Shared→Prop} (I:Inv X pins σ H s) (e:H a=some (.ins C dx fs)) (c:Cls X.K C) (n:dJ X.K C f) (hl:fs.length < 1000) (ry:RelV y u)
  (h:∀s',Inv X pins σ (upd H a (.ins C dx (gU f y fs))) s'→Q () s'):wpAny (model X.prog X.w) A (setAttr (.ref a) f u) Q E s:=by
 obtain ⟨mA,O,r,wi,_,ho⟩:=rY I.hok e
 have hz:(fs.map (·.1)).length≤sizeLine:=by rw [List.length_map,sizeLine_eq];lia
 refine RP I.kIn O c.sa c.po n.taker c.hd wi hz fun h' O' sb=>h _ ?_
 have hd:∃o,h'.get? dx=some o:=let ⟨o,_,_,e',_⟩:=O'.ns;⟨o,e'⟩
 refine I.write (x:=a) (e:=dx) (by rw [e];exact True.intro) (.inr ho) (fun b q hb z=>(sb.2 b hb).trans z) hd ?_
 refine ⟨by rw [bW O.ne];exact ho,?_,O.ne,O'.obj,_,O'.ns,fun g=>?_,fun g hg=>?_⟩
 ·have:=qU f y fs;lia
 ·show mL ((gU f y fs).lookup g) (if g=f then some u else mA g)
  rw [cC]
  by_cases q:g=f
  ·rw [if_pos q,if_pos q];exact ry
  ·rw [if_neg q,if_neg q];exact r g
 ·by_cases q:g=f
  ·rw [q];exact (pN f y fs).1
  ·refine (pN f y fs).2 g (wi g fun z=>hg ?_)
   show (if g=f then some u else mA g)=none
   rw [if_neg q];exact z
theorem Inv.made (I:Inv X pins σ H s):Inv X pins σ (upd (upd H s.heap.objs.size (.own (s.heap.objs.size + 1))) (s.heap.objs.size + 1) (.ins C s.heap.objs.size []))
  { s with heap:=(s.heap.push W.emptyDict).push (W.instObj C s.heap.objs.size) }:=by
 have e1:(s.heap.push W.emptyDict).get? s.heap.objs.size=some W.emptyDict:=Heap.get?_push_size s.heap rfl
 have e2:((s.heap.push W.emptyDict).push (W.instObj C s.heap.objs.size)).get? (s.heap.objs.size + 1)=some (W.instObj C s.heap.objs.size):=by
  have:=Heap.get?_push_size (s.heap.push W.emptyDict) (o:=W.instObj C s.heap.objs.size) rfl
  rwa [Heap.size_push] at this
 have e3:(s.heap.push W.emptyDict).Ns s.heap.objs.size (fun _=>none):=⟨W.emptyDict,#[],_,e1,rfl,(fun e he=>absurd he (by simp)),fun _=>rfl⟩
 have I1:=I.laid (a:=s.heap.objs.size) (o:=.own (s.heap.objs.size + 1)) (h':=s.heap.push W.emptyDict) (t':=s.toks) (fun b u q=>Heap.get?_push_of_some _ q) (Nat.le_refl _) ⟨_,e1⟩
 refine I1.laid (a:=s.heap.objs.size + 1) (o:=.ins C s.heap.objs.size []) (t':=s.toks) (fun b u q=>Heap.get?_push_of_some _ q) (Nat.le_of_eq (Heap.size_push _ _)) ?_
 have ne:s.heap.objs.size≠s.heap.objs.size + 1:=Nat.ne_of_lt (Nat.lt_succ_self _)
 refine ⟨by rw [bW ne,cB],Nat.zero_le _,ne,e2,fun _=>none,(Heap.Ns1.of_empty e3).at fun o q=>Heap.get?_push_of_some _ q,fun _=>True.intro,fun y hy=>absurd rfl hy⟩
theorem RQ {prog:Program} {w:World} {env:Env} {e:Expr} {f:Str} {pos:Pos} {s:Shared} {Q:Value→Shared→Prop} (hb:attributeBase e f env (eval e env)=eval e env)
  (h:wpAny (model prog w) A (eval e env) (fun o s₁=>wpAny (model prog w) A (getAttr o f true) Q E s₁) E s):wpAny (model prog w) A (eval (.Attribute e f pos) env) Q E s :=
 Attribute_any_ h (by rw [arm_eval_Attribute,hb])
end
def V5 (K:W.Frag) (ta:TE) (f:Str):TE:=fun σ H Q=>ta σ H fun x H1=>∃a C dx fs v,x=.ref a∧H1 a=some (.ins C dx fs)∧Cls K C∧dJ K C f∧fs.lookup f=some v∧Q v H1
def V6 (K:W.Frag) (ta tv:TE) (f:Str):TS:=fun D σ H=>tv σ H fun y H1=>ta σ H1 fun x H2=>∃a C dx fs,x=.ref a∧H2 a=some (.ins C dx fs)∧Cls K C∧dJ K C f∧fs.length < 1000 ∧
 D.nx σ (upd H2 a (.ins C dx (gU f y fs)))
section
variable {X:Cx} {o e value:Expr} {f:Str} {pos pos' tpos:Pos} {ta tv:TE}
theorem fO (he:PE X e ta) (hb:attributeBase e f X.env (eval e X.env)=eval e X.env):PE X (.Attribute e f pos) (V5 X.K ta f):=by
 intro pins s σ H Q I h
 refine RQ hb (thn (he pins s σ H _ I h) fun u s1 ⟨x,H1,I1,rx,a,C,dx,fs,v,ex,ea,c,n,l,q⟩=>?_)
 subst ex
 obtain rfl:u=Value.ref a:=rx
 exact FQ I1 ea c n l fun u' s2 I2 ru=>⟨v,H1,I2,ru,q⟩
theorem mR (ha:PE X o ta) (hv:PE X value tv) (hs:swapsWith value (some (.Attribute o f pos')) pos.line X.env=pure false):PS X (.Assign [.Attribute o f pos'] value pos) (V6 X.K ta tv f):=by
 intro pins s σ H D I h
 refine plainObj_wpAny_Assign_Attribute (thn (hv pins s σ H _ I h) fun u s1 ⟨y,H1,I1,ry,q⟩=>thn (ha pins s1 σ H1 _ I1 q) fun ov s2 ⟨x,H2,I2,rx,a,C,dx,fs,ex,ea,c,n,l,q2⟩=>?_) hs
 subst ex
 obtain rfl:ov=Value.ref a:=rx
 exact FT I2 ea c n l ry fun s3 I3=>⟨σ,_,I3,q2⟩
end
section
variable {X:Cx} {pins:List (Addr×Obj)} {σ:St} {H:Hp} {s:Shared} {A:Around} {E:Value→Shared→Prop} {Q:Value→Shared→Prop} {c:Value} {b:Bool}
inductive eF (K:W.Frag) (H:Hp):V→Value→Prop where
 | non:eF K H .non (.type "NoneType")
 | bl (x:Bool):eF K H (.bl x) (.type "bool")
 | int (i:Int):eF K H (.int i) (.type "int")
 | str (x:Str):eF K H (.str x) (.type "str")
 | flt (x:UInt64):eF K H (.flt x) (.type "float")
 | lst {a:Addr} {xs:List V} (e:H a=some (.lst xs)):eF K H (.ref a) (.type "list")
 | frz {a:Addr} {o:Obj} {xs:List V} (e:H a=some (.frz o (.lst xs))):eF K H (.ref a) (.type "list")
 | tup {a:Addr} {xs:List V} (e:H a=some (.tup xs)):eF K H (.ref a) (.type "tuple")
 | dK {a:Addr} {kvs:List (Key×V)} (e:H a=some (.dK kvs)):eF K H (.ref a) (.type "dict")
 | dT {a:Addr} {kvs:List (List Key×V)} (e:H a=some (.dT kvs)):eF K H (.ref a) (.type "dict")
 | ins {a C dx:Addr} {fs:List (Str×V)} (e:H a=some (.ins C dx fs)) (cl:Cls K C) (ha:W.findIn K (.ref C) "__class__" = some (some (.builtin "object.__class__")))
   (hn:W.specialIn K (.builtin "object.__class__") "__get__" = some (some (.builtin "getset_descriptor.__get__"))) (htk:W.takesIn K (.builtin "object.__class__")=some true)
   (hm:W.mroIn K C (.type "object")=some true):eF K H (.ref a) (.ref C)
theorem wN {x:V} {u t:Value} (I:Inv X pins σ H s) (rx:RelV x u) (ty:eF X.K H x t) (e:W.kitOne X.K t c=some b) (h:∀tk,Q (.bool b) { s with toks:=tk }) :
  wpAny (model X.prog X.w) A (call (.builtin "isinstance") [u,c]) Q E s:=by
 cases ty with
 | non=>cases (show u=Value.none from rx);exact W.kia_one W.kitx_none I.kIn True.intro e (fun z=>nomatch z) h
 | bl y=>cases (show u=Value.bool y from rx);exact W.kia_one W.kitx_bool I.kIn True.intro e (fun z=>nomatch z) h
 | int i=>obtain ⟨t,q⟩:=(show ∃t,u=Value.int i t from rx);cases q;exact W.kia_one W.kitx_int I.kIn True.intro e (fun z=>nomatch z) h
 | str y=>obtain ⟨t,q⟩:=(show ∃t,u=Value.str y t from rx);cases q;exact W.kia_one W.kitx_str I.kIn True.intro e (fun z=>nomatch z) h
 | flt y=>obtain ⟨t,q⟩:=(show ∃t,u=Value.float y t from rx);cases q;exact W.kia_one W.kitx_float I.kIn True.intro e (fun z=>nomatch z) h
 | @lst a xs ea =>
  cases (show u=Value.ref a from rx)
  obtain ⟨_,_,n,_,h1⟩:=(show dW X.prog X.w H s.heap a (.lst xs) from I.hok a _ ea)
  exact W.kia_one W.kitx_list I.kIn ⟨_,h1,rfl⟩ e (fun z=>nomatch z) h
 | @frz a ob xs ea =>
  cases (show u=Value.ref a from rx)
  obtain ⟨_,_,_,n,_,h1⟩:=(show dW X.prog X.w H s.heap a (.frz ob (.lst xs)) from I.hok a _ ea)
  exact W.kia_one W.kitx_list I.kIn ⟨_,h1,rfl⟩ e (fun z=>nomatch z) h
 | @tup a xs ea =>
  cases (show u=Value.ref a from rx)
  obtain ⟨_,_,_,p⟩:=(show dW X.prog X.w H s.heap a (.tup xs) from I.hok a _ ea)
  obtain ⟨o,h1,h2,_⟩:=p
  exact W.kia_one W.kitx_tuple I.kIn ⟨o,h1,h2⟩ e (fun z=>nomatch z) h
 | @dK a kvs ea =>
  cases (show u=Value.ref a from rx)
  obtain ⟨_,_,vs,_,p⟩:=(show dW X.prog X.w H s.heap a (.dK kvs) from I.hok a _ ea)
  obtain ⟨o,es,ep,h1,h2,_⟩:=p
  exact W.kia_one W.kitx_dict I.kIn ⟨o,h1,h2.1⟩ e (fun z=>nomatch z) h
 | @dT a kvs ea =>
  cases (show u=Value.ref a from rx)
  obtain ⟨_,_,xs,_,o,es,ep,h1,h2,_⟩:=(show dW X.prog X.w H s.heap a (.dT kvs) from I.hok a _ ea)
  exact W.kia_one W.kitx_dict I.kIn ⟨o,h1,h2.1⟩ e (fun z=>nomatch z) h
 | @ins a C dx fs ea cl ha hn htk hm =>
  cases (show u=Value.ref a from rx)
  obtain ⟨mA,O,_⟩:=rY I.hok ea
  obtain ⟨od,J,_⟩:=O.look
  exact W.kia_one (W.kitx_own (cl.get _) cl.hd ha hn htk hm) I.kIn J e (fun z=>nomatch z) h
end
structure Room (k:Nat) (A:Around):Prop where
 hd:A.handled=none
 dp:A.depth + 3 * k + 5 < recursionLimit
 un:A.units + 16 * k + 200 < cLine
 gd:A.guards=some []
theorem Room.mono {j k:Nat} {A:Around} (r:Room k A) (h:j≤k):Room j A:=⟨r.hd,by have:=r.dp;lia,by have:=r.un;lia,r.gd⟩
theorem Room.deeper {k:Nat} {A:Around} (r:Room (k + 1) A) (env:Env):Room k (A.deeper env) :=
 ⟨r.hd,by have:=r.dp;show A.depth + 1 + 3 * k + 5 < _;lia,by have:=r.un;show A.units + 3 + 16 * k + 200 < _;lia,r.gd⟩
theorem FW {A:Around} {C:Addr} {us:List Value} {kw:List (Str×Value)}:(A.under (.builtin "type.__call__" ⟨.ref C::us,kw⟩)).depth=A.depth + 1:=by
 first | rfl | simp [Around.under,Code.weight,Code.isCreation,Code.isGuard,Code.isCaller,Code.frames,Code.isFrame,guardIds]
theorem FZ {A:Around} {C:Addr} {us:List Value} {kw:List (Str×Value)}:(A.under (.builtin "type.__call__" ⟨.ref C::us,kw⟩)).units=A.units + 1:=by
 first | rfl | simp [Around.under,Code.cUnits,Code.frames,Code.isFrame]
theorem Room.make {k:Nat} {A:Around} (r:Room (k + 1) A) (C:Addr) (us:List Value) (kw:List (Str×Value)):Room k (A.under (.builtin "type.__call__" ⟨.ref C::us,kw⟩)) :=
 ⟨r.hd,by have:=r.dp;rw [FW];lia,by have:=r.un;rw [FZ];lia,by first | exact r.gd | (simp [Around.under,Code.guards,Code.isGuard,guardIds,pushGuards];exact r.gd)⟩
theorem Room.depth {k:Nat} {A:Around} (r:Room k A):A.depth < recursionLimit:=by have:=r.dp;lia
def rO:TA:=fun _ H Q=>Q [] H
def jV (ta:TE) (tr:TA):TA:=fun σ H Q=>ta σ H fun x H1=>tr σ H1 fun xs H2=>Q (x::xs) H2
section
variable {X:Cx} {e:Expr} {es:List Expr} {te:TE} {t:TA} {pos:Pos}
theorem aq:PA X [] rO:=fun _ _ _ _ H Q I h=>Calls.spliced_nil ⟨[],H,I,.nil,h⟩
theorem aj (ha:PE X e te) (hr:PA X es t) (hs:starEach (e::es) X.env=(false,eval e X.env)::starEach es X.env:=by rfl):PA X (e::es) (jV te t):=by
 intro pos pins s σ H Q I h
 rw [hs]
 show wpAny _ _ (spliced ((false,eval e X.env)::backTo pos (starEach es X.env))) _ _ s
 refine Calls.spliced_cons (thn (ha pins s σ H _ I h) fun u s1 ⟨x,H1,I1,r1,q1⟩=>?_)
 exact thn (hr pos pins s1 σ H1 _ I1 q1) fun us s2 ⟨xs,H2,I2,r2,q2⟩=>⟨x::xs,H2,I2,.cons r1 r2,q2⟩
end
abbrev Sp:=List V→Hp→VK→XK→Prop
abbrev CXT:=List Env→Hp→Shared→XK→Value→Shared→Prop
structure Ga (P:Program) (w:World) (K:W.Frag) (mg:Str→Option Value) (base:Heap) (A:Around) (outer:List Env) (s:Shared) (H:Hp):Prop where
 frames:A.frames=some outer
 mod:Mod K mg base
 bs:∀b o,base.get? b=some o→s.heap.get? b=some o∧H b=none
 bsz:base.objs.size≤s.heap.objs.size
 pL:s.heap.FunFrames base outer
 frf:∀b∈frs outer,H b=none
 hok:HOk P w H s.heap
 bare:AllBare s.gens
def CE (outer:List Env) (P:Program) (w:World) (H:Hp) (s:Shared) (Q:VK) (u:Value) (s':Shared):Prop :=
 ∃v H',s'.os=s.os∧AllBare s'.gens∧Un (frs outer) [] H H' s.heap s'.heap∧HOk P w H' s'.heap∧RelV v u∧Q v H'
def CR (CX:CXT) (outer:List Env) (P:Program) (w:World) (H:Hp) (s:Shared) (Q:VK) (E:XK) (r:Result) (s':Shared):Prop :=
 match r with
 | .ok (.ret u)=>CE outer P w H s Q u s'
 | .ok _=>False
 | .error e=>CX outer H s E e s'
structure i_ (P:Program) (w:World) (K:W.Frag) (mg:Str→Option Value) (base:Heap) (CX:CXT) (k:Nat) (f:Addr) (fd:FuncData) (ps:List Str) (sp:Sp):Prop where
 len:∀vs H Q E,sp vs H Q E→vs.length=ps.length
 run:∀(A:Around) (outer:List Env) (s:Shared) (H:Hp) (args:Args) (us:List Value) (vs:List V) (Q:VK) (E:XK),Room k A→Ga P w K mg base A outer s H→BindsTo s fd args (ps.zip us)→Vals vs us→sp vs H Q E →
  codeAny (model P w) A (.call (.ref f) args) (CR CX outer P w H s Q E) s
theorem i_.imp {P:Program} {w:World} {K:W.Frag} {mg:Str→Option Value} {base:Heap} {CX:CXT} {k:Nat} {f:Addr} {fd:FuncData} {ps:List Str} {sp sp':Sp} (F:i_ P w K mg base CX k f fd ps sp)
  (h:∀vs H Q E,sp' vs H Q E→sp vs H Q E):i_ P w K mg base CX k f fd ps sp' :=
 ⟨fun vs H Q E q=>F.len vs H Q E (h _ _ _ _ q),fun A outer s H args us vs Q E hr he hb hv hs=>F.run A outer s H args us vs Q E hr he hb hv (h _ _ _ _ hs)⟩
theorem Ga.make {P:Program} {w:World} {K:W.Frag} {mg:Str→Option Value} {base:Heap} {A:Around} {outer:List Env} {s:Shared} {H:Hp} (e:Ga P w K mg base A outer s H) (C:Addr) (us:List Value) (kw:List (Str×Value)) :
  Ga P w K mg base (A.under (.builtin "type.__call__" ⟨.ref C::us,kw⟩)) outer s H:=⟨by first | exact e.frames | (simpa [Around.under,Code.envs,Code.isFrame,pushEnvs] using e.frames),e.mod,e.bs,e.bsz,e.pL,e.frf,e.hok,e.bare⟩
section
variable {X:Cx} {pins:List (Addr×Obj)} {σ:St} {H:Hp} {s s':Shared}
theorem Inv.env0 (I:Inv X pins σ H s):Ga X.prog X.w X.K X.mg X.base X.A X.stack s H :=
 ⟨I.ok.frames,I.ok.mod,I.bs,Nat.le_trans I.ok.bsz I.sz,I.stack,I.Ht,I.hok,I.bare⟩
theorem Inv.after {Q:VK} {u:Value} (I:Inv X pins σ H s) (h:CE X.stack X.prog X.w H s Q u s'):EP X pins σ Q u s':=by
 obtain ⟨v,H',os,bare,un,hok,r,q⟩:=h
 obtain ⟨hh,g,d,t,os'⟩:=s'
 obtain rfl:os'=s.os:=os
 exact ⟨v,H',I.call (h':=hh) (g':=g) (d':=d) (t':=t) (ch:=[]) un hok bare (fun b z=>absurd z (by simp)),r,q⟩
end
def HD (sp:Sp) (dvs:List V) (E:XK) (t:TA):TE:=fun σ H Q=>t σ H fun vs H1=>sp (vs++dvs) H1 Q E
def wO (C:Addr) (m:Str) (sp:Sp) (dvs:List V) (E:XK) (ta:TE) (t:TA):TE:=fun σ H Q=>ta σ H fun x H1=>∃a dx fs,x=.ref a∧H1 a=some (.ins C dx fs)∧fs.lookup m=none ∧
 t σ H1 fun vs H2=>sp (x::(vs++dvs)) H2 Q E
def Binds (K:W.Frag) (fd:FuncData) (ps:List Str) (ds:List Value):Prop :=
 ∀(s:Shared) (us:List Value),K.In s.heap→(us++ds).length=ps.length→BindsTo s fd ⟨us,[]⟩ (ps.zip (us++ds))
theorem Binds.all {K:W.Frag} {fd:FuncData} {ps:List Str} (h:∀us:List Value,us.length=ps.length→bindArgs fd ⟨us,[]⟩=pure (ps.zip us)):Binds K fd ps []:=fun s us _ hl=>by
 rw [List.append_nil] at hl ⊢
 exact .of_eq (h us hl)
def Passes (CX:CXT) (X:Cx) (E:XK):Prop:=∀(pins:List (Addr×Obj)) (σ:St) (H:Hp) (s:Shared) (e:Value) (s':Shared),Inv X pins σ H s→CX X.stack H s E e s'→X.xe e s'
section
variable {X:Cx} {CX:CXT} {k:Nat} {f C:Addr} {fd:FuncData} {ps:List Str} {sp:Sp} {dvs:List V} {ds:List Value} {E:XK} {x m:Str} {p pos apos:Pos} {e o:Expr} {es:List Expr} {ta:TE} {t:TA}
theorem Gb {pins:List (Addr×Obj)} {σ:St} {H:Hp} {s:Shared} {Q:VK} {us:List Value} {vs:List V} (F:i_ X.prog X.w X.K X.mg X.base CX k f fd ps sp) (hr:Room k X.A) (hb:Binds X.K fd ps ds) (hd:Vals dvs ds) (hx:Passes CX X E)
  (I:Inv X pins σ H s) (r:Vals vs us) (h:sp (vs++dvs) H Q E):wpAny (model X.prog X.w) X.A (call (.ref f) us) (EP X pins σ Q) X.xe s:=by
 have r2:Vals (vs++dvs) (us++ds):=r.append hd
 have hl:(us++ds).length=ps.length:=by rw [← r2.length];exact F.len _ _ _ _ h
 refine wpAny_call (codeAny_mono (F.run X.A X.stack s H ⟨us,[]⟩ (us++ds) (vs++dvs) Q E hr I.env0 (hb s us I.kIn hl) r2 h) fun r s' hq=>?_)
 cases r with
 | error e=>exact hx pins σ H s e s' I hq
 | ok fl =>
  cases fl with
  | ret u=>exact I.after hq
  | next=>exact False.elim hq
  | brk=>exact False.elim hq
  | cont=>exact False.elim hq
theorem RT (F:i_ X.prog X.w X.K X.mg X.base CX k f fd ps sp) (hr:Room k X.A) (hg:Gl X x) (hm:X.mg x=some (.ref f)) (hk:W.keepIn X.K (.ref f)=true) (hb:Binds X.K fd ps ds) (hd:Vals dvs ds) (hx:Passes CX X E)
  (ha:PA X (e::es) t) (hdb:(x == ("__debug__" : Str))=false:=by decide) (he:starEach (e::es) X.env=(false,eval e X.env)::starEach es X.env:=by rfl) (hpl:(backTo pos (starEach es X.env)).any (·.1)=false:=by rfl) :
  PE X (.Call (.Name x p) (e::es) [] pos) (HD sp dvs E t):=by
 intro pins s σ H Q I h
 refine wpAny_Call_Name_kw (zB I hg hm ?_ hdb)
 refine W.callWith_K (h₀:=X.base) I.ok.mod.kin hk (thn (ha pos pins s σ H _ I h) fun us s1 ⟨vs,H1,I1,r,q⟩=>⟨I1.kIn,?_⟩) he hpl
 exact Gb F hr hb hd hx I1 r q
theorem RV {pl:Sem Bool} (he:PE X o ta) (c:Cls X.K C) (hm:Meth X.K C m f) (F:i_ X.prog X.w X.K X.mg X.base CX k f fd ps sp) (hr:Room k X.A) (hb:Binds X.K fd ps ds) (hd:Vals dvs ds) (hx:Passes CX X E) (ha:PA X (e::es) t)
  (hst:starEach (e::es) X.env=(false,eval e X.env)::starEach es X.env:=by rfl) (hpl:(backTo pos (starEach es X.env)).any (·.1)=false:=by rfl)
  (ht:eval (.Call (.Attribute o m apos) (e::es) [] pos) X.env=(do
   let ov ← eval o X.env
   standAt apos.atName
   let (f,first) ← holding [ov] (getMethod ov m pl)
   callWith pos f first (backTo pos (starEach (e::es) X.env)) (backToKw pos (keywordEach [] X.env))):=by rfl) :
  PE X (.Call (.Attribute o m apos) (e::es) [] pos) (wO C m sp dvs E ta t):=by
 intro pins s σ H Q I h
 refine W.methodCall_KW (pl:=pl) (thn (he pins s σ H _ I h) fun u s1 ⟨x,H1,I1,rx,a,dx,fs,ex,ea,l,q⟩=>?_) ht
 subst ex
 obtain rfl:u=Value.ref a:=rx
 refine tU I1 ea c hm l ?_
 refine W.callWith_K (first:=[.ref a]) (h₀:=X.base) I.ok.mod.kin hm.kp (thn (ha pos pins s1 σ H1 _ I1 q) fun us s2 ⟨vs,H2,I2,r,q2⟩=>⟨I2.kIn,?_⟩) hst hpl
 exact Gb (us:=.ref a::us) (vs:=.ref a::vs) F hr hb hd hx I2 (.cons rfl r) q2
theorem MP {pl:Sem Bool} (he:PE X o ta) (c:Cls X.K C) (hm:Meth X.K C m f) (F:i_ X.prog X.w X.K X.mg X.base CX k f fd ps sp) (hr:Room k X.A) (hb:Binds X.K fd ps ds) (hd:Vals dvs ds) (hx:Passes CX X E)
  (ht:eval (.Call (.Attribute o m apos) [] [] pos) X.env=(do
   let ov ← eval o X.env
   standAt apos.atName
   let (f,first) ← holding [ov] (getMethod ov m pl)
   callWith pos f first (backTo pos (starEach [] X.env)) (backToKw pos (keywordEach [] X.env))):=by rfl) :
  PE X (.Call (.Attribute o m apos) [] [] pos) (wO C m sp dvs E ta rO):=by
 intro pins s σ H Q I h
 refine W.methodCall_KW (pl:=pl) (thn (he pins s σ H _ I h) fun u s1 ⟨x,H1,I1,rx,a,dx,fs,ex,ea,l,q⟩=>?_) ht
 subst ex
 obtain rfl:u=Value.ref a:=rx
 refine tU I1 ea c hm l ?_
 exact W.callWith_K0 (first:=[.ref a]) I1.kIn hm.kp (Gb (us:=[.ref a]) (vs:=[.ref a]) F hr hb hd hx I1 (.cons rfl .nil) q)
structure Mk (K:W.Frag) (C f:Addr):Prop where
 makes:W.makesIn K C=true
 init:W.findIn K (.ref C) "__init__" = some (some (.ref f))
 fn:W.isFn K (.ref f)=true
 kp:W.keepIn K (.ref C)=true
theorem M4 {pins:List (Addr×Obj)} {σ:St} {H:Hp} {s:Shared} {Q:VK} {us:List Value} {vs:List V} (M:Mk X.K C f) (F:i_ X.prog X.w X.K X.mg X.base CX k f fd ps sp) (hr:Room (k + 1) X.A) (hb:Binds X.K fd ps ds) (hd:Vals dvs ds)
  (hx:Passes CX X E) (I:Inv X pins σ H s) (r:Vals vs us)
  (h:∀x dx,H x=none→H dx=none→dx≠x→sp (.ref x::(vs++dvs)) (upd (upd H dx (.own x)) x (.ins C dx [])) (fun v H2=>v=.non∧Q (.ref x) H2) E) :
  wpAny (model X.prog X.w) X.A (call (.ref C) us) (EP X pins σ Q) X.xe s:=by
 have hq:=h (s.heap.objs.size + 1) s.heap.objs.size (I.hok.fresh (Nat.le_succ _)) (I.hok.fresh (Nat.le_refl _)) (Nat.ne_of_lt (Nat.lt_succ_self _))
 have I2:=Inv.made (C:=C) I
 have r2:Vals (V.ref (s.heap.objs.size + 1)::(vs++dvs)) (Value.ref (s.heap.objs.size + 1)::(us++ds)):=.cons rfl (r.append hd)
 have hl:(Value.ref (s.heap.objs.size + 1)::us++ds).length=ps.length:=by
  have e:=r2.length
  rw [F.len _ _ _ _ hq] at e
  exact e.symm
 refine wpAny_call (MN (f:=f) I.kIn M.makes M.init (beq_iff_eq.mp M.fn) (codeAny_mono (F.run _ X.stack _ _ ⟨Value.ref (s.heap.objs.size + 1)::us,[]⟩ (Value.ref (s.heap.objs.size + 1)::(us++ds)) _ _ E (hr.make C us [])
  (I2.env0.make C us []) (hb _ (Value.ref (s.heap.objs.size + 1)::us) I2.kIn hl) r2 hq) fun r s' hq'=>?_))
 cases r with
 | error e=>exact hx pins σ _ _ e s' I2 hq'
 | ok fl =>
  cases fl with
  | ret u =>
   obtain ⟨v,H',I3,rv,ev,q3⟩:=I2.after hq'
   subst ev
   exact ⟨rv,⟨V.ref (s.heap.objs.size + 1),H',I3,rfl,q3⟩⟩
  | next=>exact False.elim hq'
  | brk=>exact False.elim hq'
  | cont=>exact False.elim hq'
end
structure aU (N P:List Str) (sc:Scope):Prop where
 kind:sc.kind=.function
 co:sc.isCoroutine=false
 gen:sc.isGenerator=false
 nd:N.Nodup
 pre:N.take P.length=P
 par:∀x∈P,sc.names.lookup x=some .local∨sc.names.lookup x=some .cell
 V7:∀y∈sc.names,y.2≠.free
theorem wQ {kindOf:Str→Option NameKind} {x:Str}:∀{binds:List (Str×Value)} {m:Str→Option Value},(∀v,(x,v) ∉ binds)→bindL kindOf binds m x=m x
 | [],_,_=>rfl
 | (n,v)::r,m,h=>by
  unfold bindL
  rw [wQ fun w hw=>h w (List.mem_cons_of_mem _ hw)]
  split
  ·have:x≠n:=by rintro rfl;exact h v List.mem_cons_self
   simp [this]
  ·rfl
theorem wR {kindOf:Str→Option NameKind} {x:Str}:∀{binds:List (Str×Value)} {m:Str→Option Value},(∀v,(x,v) ∉ binds)→bindC kindOf binds m x=m x
 | [],_,_=>rfl
 | (n,v)::r,m,h=>by
  unfold bindC
  rw [wR fun w hw=>h w (List.mem_cons_of_mem _ hw)]
  split
  ·rfl
  ·have:x≠n:=by rintro rfl;exact h v List.mem_cons_self
   simp [this]
theorem wU {kindOf:Str→Option NameKind} {x:Str} {v:Value}:∀{P:List Str} {vs:List Value} {i:Nat} {m:Str→Option Value},P.Nodup→P[i]?=some x→vs[i]?=some v→kindOf x=some .local →
  bindL kindOf (P.zip vs) m x=some v
 | [],_,_,_,_,h,_,_=>by simp at h
 | _::_,[],_,_,_,_,h,_=>by simp at h
 | p::P,w::vs,0,m,nd,h1,h2,hk=>by
  simp at h1 h2;subst h1;subst h2
  show bindL kindOf ((p,w)::P.zip vs) m p=_
  unfold bindL
  rw [wQ fun v hv=>(List.nodup_cons.mp nd).1 (List.of_mem_zip hv).1,if_pos hk]
  simp
 | p::P,w::vs,i + 1,m,nd,h1,h2,hk=>by
  show bindL kindOf ((p,w)::P.zip vs) m x=_
  unfold bindL
  exact wU (i:=i) (List.nodup_cons.mp nd).2 (by simpa using h1) (by simpa using h2) hk
theorem wV {kindOf:Str→Option NameKind} {x:Str} {v:Value}:∀{P:List Str} {vs:List Value} {i:Nat} {m:Str→Option Value},P.Nodup→P[i]?=some x→vs[i]?=some v→kindOf x≠some .local →
  bindC kindOf (P.zip vs) m x=some v
 | [],_,_,_,_,h,_,_=>by simp at h
 | _::_,[],_,_,_,_,h,_=>by simp at h
 | p::P,w::vs,0,m,nd,h1,h2,hk=>by
  simp at h1 h2;subst h1;subst h2
  show bindC kindOf ((p,w)::P.zip vs) m p=_
  unfold bindC
  rw [wR fun v hv=>(List.nodup_cons.mp nd).1 (List.of_mem_zip hv).1,if_neg hk]
  simp
 | p::P,w::vs,i + 1,m,nd,h1,h2,hk=>by
  show bindC kindOf ((p,w)::P.zip vs) m x=_
  unfold bindC
  exact wV (i:=i) (List.nodup_cons.mp nd).2 (by simpa using h1) (by simpa using h2) hk
def start (N:List Str) (vs:List V):St:=vs.map some++List.replicate (N.length - vs.length) none
def rP (CX:CXT) (P:Program) (w:World) (K:W.Frag) (mg:Str→Option Value) (base:Heap) (N:List Str) (qual:Str) (scope:Scope) (f:Addr) (cd:Value) (A:Around) (outer:List Env) (s:Shared) (H:Hp) (E:XK):Cx where
 prog:=P
 w:=w
 K:=K
 mg:=mg
 base:=base
 A:=A.deeper (envOfC qual scope s.heap.objs.size f cd)
 N:=N
 s₀:=s
 H₀:=H
 env:=envOfC qual scope s.heap.objs.size f cd
 outer:=outer
 stack:=envOfC qual scope s.heap.objs.size f cd::outer
 ex:=[]
 calm:=true
 fn:=fun _=>true
 pn:=[]
 xe:=fun e s'=>wpAny (model P w) (A.deeper (envOfC qual scope s.heap.objs.size f cd)) (leaving (envOfC qual scope s.heap.objs.size f cd) e) (fun _ s''=>CX outer H s E e s'') (fun e' s''=>CX outer H s E e' s'') s'
theorem Bw {sc:Scope} {n:Nat} {x:Str} (h:sc.names.lookup x=some .cell):∃c,(cellsFrom n sc.names []).lookup x=some c:=by
 have q:=W.cellsFrom_some sc.names n [] (.inl h)
 exact Option.isSome_iff_exists.mp q
theorem Kv {CX:CXT} {P:Program} {w:World} {K:W.Frag} {mg:Str→Option Value} {base:Heap} {N ps:List Str} {qual:Str} {scope:Scope} {f:Addr} {cd:Value} {A:Around} {outer:List Env} {s s1:Shared} {H:Hp} {E:XK} {us:List Value} {vs:List V}
  (S:aU N ps scope) (hd:A.handled=none) (e0:Ga P w K mg base A outer s H) (hl:vs.length=ps.length) (r:Vals vs us)
  (x:InCallC s s.heap.objs.size (bindL (envOfC qual scope s.heap.objs.size f cd).kindOf (ps.zip us) fun _=>none) (cellsFrom (s.heap.objs.size + 1) scope.names []) (bindC (envOfC qual scope s.heap.objs.size f cd).kindOf (ps.zip us) fun _=>none) s1) :
  Inv (rP CX P w K mg base N qual scope f cd A outer s H E) [] (start N vs) H s1:=by
 have hpl:ps.length≤N.length:=by have:=congrArg List.length S.pre;rw [List.length_take] at this;lia
 obtain ⟨h1,tk,rfl,hk⟩:=x.done
 have noA:∀b:Addr,b ∉ (rP CX P w K mg base N qual scope f cd A outer s H E).ex:=fun b z=>absurd (show b∈([]:List Addr) from z) (by simp)
 refine ⟨⟨e0.mod,S.kind,rfl,rfl,Nat.le_refl _,fun y z c h1 h2=>?_,fun y hy=>?_,fun y c _ h=>?_,fun _=>hd,Around.frames_deeper e0.frames,.inr ⟨rfl,rfl⟩,fun b z=>absurd z (noA b),e0.bs,e0.bsz,fun b _ _=>noA b,fun b z=>absurd z (noA b),e0.pL,e0.frf⟩,
  rfl,e0.bare,Un.kept hk,⟨_,x.toInCall.ns,fun i y v h1 h2 h3=>?_⟩,fun y c h=>⟨_,x.cell y c h⟩,e0.hok.fresh (Nat.le_refl _),fun y c h=>?_,fun p hp=>absurd (show p∈([]:List (Addr×Obj)) from hp) (by simp),e0.hok.kept hk,?_⟩
 ·exact name_of_addr x.apart (PySem.mem_of_lookup h1) (PySem.mem_of_lookup h2)
 ·have hy:scope.names.lookup y=some .cell∨scope.names.lookup y=some .free:=hy
  rcases hy with hy | hy
  ·exact Bw hy
  ·exact absurd rfl (S.V7 _ (PySem.mem_of_lookup hy))
 ·exact Nat.le_of_lt (x.above y c (PySem.mem_of_lookup h))
 ·have hi:i < vs.length:=by
   unfold start at h2
   by_cases hi:i < vs.length
   ·exact hi
   ·rw [List.getElem?_append_right (by simpa using hi)] at h2
    rw [List.getElem?_replicate] at h2
    split at h2 <;> cases h2
  have ha:vs[i]?=some v:=by
   unfold start at h2
   rw [List.getElem?_append_left (by simpa using hi),List.getElem?_map] at h2
   cases e:vs[i]? with
   | none=>rw [e] at h2;cases h2
   | some a=>rw [e] at h2;cases h2;rfl
  obtain ⟨u,hu,rv⟩:=r.get ha
  have hp:ps[i]?=some y:=by
   rw [← S.pre,List.getElem?_take_of_lt (by lia)];exact h1
  have ndP:ps.Nodup:=by rw [← S.pre];exact S.nd.sublist (List.take_sublist _ _)
  refine ⟨u,rv,?_⟩
  rcases S.par y (List.mem_of_getElem? hp) with k | k
  ·exact .inl ⟨k,wU ndP hp hu k⟩
  ·obtain ⟨c,e⟩:=Bw (n:=s.heap.objs.size + 1) k
   refine .inr ⟨.inl k,c,e,?_⟩
   have q:=x.cell y c e
   rw [wV ndP hp hu (by show scope.names.lookup y≠_;rw [k];decide)] at q
   exact q
 ·exact e0.hok.fresh (Nat.le_of_lt (x.above y c (PySem.mem_of_lookup h)))
 ·unfold start
  show _=N.length
  rw [List.length_append,List.length_map,List.length_replicate]
  lia
theorem Bx {CX:CXT} {P:Program} {w:World} {K:W.Frag} {mg:Str→Option Value} {base:Heap} {k:Nat} {f:Addr} {name qual:Str} {params:Arguments} {body:List Stmt} {scope:Scope} {dV kV doc pm cdv ct oc:Value} {an od:Option Addr}
  {osl:Array (Option Value)} {N ps:List Str} {sp:Sp} (lk:K.lookup f=some ⟨oc,od,.func (W.fnOf name qual params body scope dV kV doc pm an cdv ct),osl⟩) (hcd:W.codeIn K cdv qual=true) (S:aU N ps scope)
  (len:∀vs H Q E,sp vs H Q E→vs.length=ps.length)
  (hbody:∀(A:Around) (outer:List Env) (s:Shared) (H:Hp) (vs:List V) (Q:VK) (E:XK),Room k (A.deeper (envOfC qual scope s.heap.objs.size f cdv))→sp vs H Q E →
   ∃t,PSs (rP CX P w K mg base N qual scope f cdv A outer s H E) body t∧t { nx:=fun _ H'=>Q .non H',rt:=Q } (start N vs) H) :
  i_ P w K mg base CX (k + 1) f (W.fnOf name qual params body scope dV kV doc pm an cdv ct) ps sp:=by
 refine ⟨len,fun A outer s H args us vs Q E hr e0 hb r hsp=>?_⟩
 have hl:=len _ _ _ _ hsp
 have KX:K.In s.heap:=e0.mod.kin.keeps fun b o e=>(e0.bs b o e).1
 have lim:s.heap.NoLimit:=e0.mod.nolimit.keeps fun b o e=>(e0.bs b o e).1
 have hkind:∀y∈ps.zip us,scope.names.lookup y.1=some .local∨(scope.names.lookup y.1=some .cell∧((cellsFrom (s.heap.objs.size + 1) scope.names []).lookup y.1).isSome=true):=fun ⟨n,v⟩ hy=>by
  rcases S.par n (List.of_mem_zip hy).1 with q | q
  ·exact .inl q
  ·exact .inr ⟨q,W.cellsFrom_some _ _ _ (.inl q)⟩
 refine codeAny_call_function hr.depth (KX _ _ lk) rfl S.co S.gen rfl (W.codeRec_of KX hcd) (hb _ _ _ _ ?_)
 refine wpAny_newFunctionEnv_cells S.kind hkind fun env he s1 x=>?_
 subst he
 refine ⟨lim.keeps x.toInCall.keep,codeAny_func ?_⟩
 obtain ⟨t,ht,hq⟩:=hbody A outer s H vs Q E (hr.deeper _) hsp
 have I:Inv (rP CX P w K mg base N qual scope f cdv A outer s H E) [] (start N vs) H s1:=Kv S hr.hd e0 hl r x
 refine wpAny_mono (ht [] s1 (start N vs) H _ I hq) (fun fl s' hs=>?_) fun e s' hs=>hs
 have fin:∀{σ':St} {H':Hp} {v:V} {u:Value},Inv (rP CX P w K mg base N qual scope f cdv A outer s H E) [] σ' H' s'→RelV v u→Q v H'→CE outer P w H s Q u s' :=
  fun {σ' H' v u} J rv q=>⟨v,H',J.os,J.bare,J.base,J.hok,rv,q⟩
 cases fl with
 | ret u =>
  obtain ⟨v,σ',H',J,rv,q⟩:=hs
  exact fin J rv q
 | next =>
  obtain ⟨σ',H',J,q⟩:=hs
  exact fin (v:=V.non) (u:=Value.none) J rfl q
 | brk =>
  obtain ⟨_,_,_,q⟩:=hs
  exact False.elim q
 | cont =>
  obtain ⟨_,_,_,q⟩:=hs
  exact False.elim q
section
variable {X:Cx} {x:Str} {p pos:Pos} {e:Expr} {es:List Expr} {t:TA} {id T:String} {r:List V→Hp→VK→Prop}
def tCB (r:List V→Hp→VK→Prop) (t:TA):TE:=fun σ H Q=>t σ H fun vs H1=>r vs H1 Q
theorem bF (hc:fu X (.builtin id) r) (hg:Gl X x) (hm:X.mg x=none) (hv:bootBuiltins x=some (.builtin id)) (ha:PA X (e::es) t) (hn:x ≠ "__name__" := by decide) (hdb:(x == ("__debug__" : Str))=false:=by decide)
  (he:starEach (e::es) X.env=(false,eval e X.env)::starEach es X.env:=by rfl) (hpl:(backTo pos (starEach es X.env)).any (·.1)=false:=by rfl):PE X (.Call (.Name x p) (e::es) [] pos) (tCB r t):=by
 intro pins s σ H Q I h
 refine wpAny_Call_Name_kw (iy I hg hm hv ?_ hn hdb)
 exact PyProof.Rows.callWith_builtin1 (thn (ha pos pins s σ H _ I h) fun us s1 ⟨vs,H1,I1,r1,q1⟩=>hc pins s1 σ H1 vs us Q I1 r1 q1) he hpl
theorem gj (hc:fu X (.type T) r) (hg:Gl X x) (hm:X.mg x=none) (hv:bootBuiltins x=some (.type T)) (ha:PA X (e::es) t) (hn:x ≠ "__name__" := by decide) (hdb:(x == ("__debug__" : Str))=false:=by decide)
  (he:starEach (e::es) X.env=(false,eval e X.env)::starEach es X.env:=by rfl) (hpl:(backTo pos (starEach es X.env)).any (·.1)=false:=by rfl):PE X (.Call (.Name x p) (e::es) [] pos) (tCB r t):=by
 intro pins s σ H Q I h
 refine wpAny_Call_Name_kw (iy I hg hm hv ?_ hn hdb)
 exact PyProof.Rows.callWith_type1 (thn (ha pos pins s σ H _ I h) fun us s1 ⟨vs,H1,I1,r1,q1⟩=>hc pins s1 σ H1 vs us Q I1 r1 q1) he hpl
end
end L2
namespace HT
open PySem PyProof.Rows
def lexLt:List Int→List Int→Bool
 | [],[]=>false
 | [],_::_=>true
 | _::_,[]=>false
 | x::xs,y::ys=>if x=y then lexLt xs ys else decide (x < y)
theorem Gd (x y:Int) (xs ys:List Int):lexLt (x::xs) (y::ys)=if x=y then lexLt xs ys else decide (x < y):=rfl
theorem wB:lexLt [] []=false:=rfl
theorem tV (y:Int) (ys:List Int):lexLt [] (y::ys)=true:=rfl
theorem tW (x:Int) (xs:List Int):lexLt (x::xs) []=false:=rfl
theorem M5 (A:Around) (s:Shared) (a:Int) (t:Tok) (c:Int) (u:Tok):∃e,SeqAt.EqAt A s (.int a t) (.int c u) e∧(e=true ↔ a=c) :=
 ⟨(a == c),SeqAt.EqAt.int_int a t c u,by simp⟩
theorem M6 (A:Around) (s:Shared) (a:Int) (t:Tok) (c:Int) (u:Tok) (prog:Program) (w:World) (E:Value→Shared→Prop) (Q:Value→Shared→Prop) (h:Q (.bool (decide (a < c))) s) :
  wpAny (model prog w) A (richCompare .Lt (.int a t) (.int c u)) Q E s :=
 (PyProof.Rows.lt_int h:wpAny (model prog w) A (compareOp .Lt (.int a t) (.int c u)) Q E s)
section
open PySem.SeqAt
open PySem.AutoSeq1 (wpAny_loadPart')
open PySem.MeetsSeq PySem.MeetsSeq2 PySem.MeetsSeq3
theorem wC (l b:Addr) (items items2:Array Value) (n n2:Nat) (dd dd2:Option Addr) (sl sl2:Array (Option Value)) (ns ms:List Int) (hi:IntsAre items.toList ns) (hj:IntsAre items2.toList ms) :
  Meets (Builtin.«tuple.__lt__» ⟨[.ref l,.ref b],[]⟩)
   (fun _ R s=>s.heap.get? l=some { cls:=.type "tuple", dict:=dd,data:=.seq items n,slots:=sl }∧s.heap.get? b=some { cls:=.type "tuple", dict:=dd2,data:=.seq items2 n2,slots:=sl2 } ∧
    R (.ok (.ret (.bool (lexLt ns ms)))) s) :=
 .of_wp fun prog w A R s h=>by
  obtain ⟨hp,g,d,tk,os⟩:=s;obtain ⟨hl,hb,h⟩:=h
  have f2:=AutoSeq1.sub_tuple_tuple
  have z1:items.size=ns.length:=by rw [← hi.length];simp
  have z2:items2.size=ms.length:=by rw [← hj.length];simp
  wp_walk using wpAny_loadPart' hl,wpAny_loadPart' hb,wpAny_forIn_list _ (fun rest b s'=>b.1=none∧s'=⟨hp,g,d,tk,os⟩∧∃(vs ws:List Value) (ns' ms':List Int),rest=vs.zip ws ∧
   IntsAre vs ns'∧IntsAre ws ms'∧ns'.length + items2.size=ms'.length + items.size∧R (.ok (.ret (.bool (lexLt ns' ms')))) ⟨hp,g,d,tk,os⟩) _
  case turn =>
   rintro ⟨y,x⟩ rest b s' ⟨hb',rfl,vs,ws,ns',ms',hz,hvi,hwi,hlen,hR⟩
   cases hvi with
   | nil=>rw [List.zip_nil_left] at hz;cases hz
   | cons a t ac5 =>
    cases hwi with
    | nil=>rw [List.zip_nil_right] at hz;cases hz
    | cons c u ac6 =>
     rw [List.zip_cons_cons] at hz
     injection hz with hyx hrest
     injection hyx with hy hx
     subst hy hx
     rw [Gd] at hR
     simp only [List.length_cons] at hlen
     obtain ⟨e,he,hiff⟩:=M5 A.in1 ⟨hp,g,d,tk,os⟩ a t c u
     refine wpAny_bind (he prog w _ _ ?_)
     cases e with
     | true =>
      rw [if_pos (hiff.mp rfl)] at hR
      wp_walk
      exact ⟨rfl,rfl,_,_,_,_,hrest,ac5,ac6,by lia,hR⟩
     | false =>
      rw [if_neg (fun q=>absurd (hiff.mpr q) Bool.false_ne_true)] at hR
      have hri:=M6 A.in1 ⟨hp,g,d,tk,os⟩ a t c u prog w
      wp_walk using hri
      exact ⟨_,rfl,by simpa using hR⟩
  case fin =>
   rintro ⟨b1,b2⟩ s' ⟨hb',rfl,vs,ws,ns',ms',hz,hvi,hwi,hlen,hR⟩
   simp only at hb'
   subst hb'
   have hv:lexLt ns' ms'=decide (items.size < items2.size):=by
    cases hvi with
    | nil =>
     cases hwi with
     | nil =>
      simp only [List.length_nil] at hlen
      rw [wB]
      exact (decide_eq_false (by lia)).symm
     | cons c u hw =>
      simp only [List.length_nil,List.length_cons] at hlen
      rw [tV]
      exact (decide_eq_true (by lia)).symm
    | cons a t hv =>
     cases hwi with
     | nil =>
      simp only [List.length_nil,List.length_cons] at hlen
      rw [tW]
      exact (decide_eq_false (by lia)).symm
     | cons c u hw =>
      rw [List.zip_cons_cons] at hz
      cases hz
   rw [hv] at hR
   wp_walk
   exact ⟨_,rfl,by simpa [Builtin.Tuple.tupleCompareSizes] using hR⟩
  case h =>
   exact ⟨rfl,rfl,items.toList,items2.toList,ns,ms,rfl,hi,hj,by lia,h⟩
end
section
variable {prog:Program} {w:World} {A:Around} {E:Value→Shared→Prop} {s:Shared}
theorem Ge {l b:Addr} {items items2:Array Value} {ns ms:List Int} {Q:Value→Shared→Prop} (hl:IsTup s.heap l items) (hb:IsTup s.heap b items2) (hi:IntsAre items.toList ns) (hj:IntsAre items2.toList ms)
  (hu:A.units < cLine) (h:Q (.bool (lexLt ns ms)) s):wpAny (model prog w) A (compareOp .Lt (.ref l) (.ref b)) Q E s:=by
 obtain ⟨⟨cls,dd,data,sl⟩,ho,hc,n,hd⟩:=id hl
 obtain ⟨⟨cls2,dd2,data2,sl2⟩,ho2,hc2,n2,hd2⟩:=id hb
 simp only at hc hd hc2 hd2
 subst hc hd hc2 hd2
 exact richCompare_meets_room (op:=.Lt) ⟨_,ho,rfl⟩ ⟨_,ho2,rfl⟩ PySem.F.slot_tuple_lt PySem.F.entry_tuple_lt (PySem.F.args_tuple_lt_2 _ _) (wC l b items items2 n n2 dd dd2 sl sl2 ns ms hi hj)
  ⟨ho,ho2,show Value.bool (lexLt ns ms)≠Value.notImplemented∧Q (.bool (lexLt ns ms)) s from ⟨(fun x=>nomatch x),h⟩⟩ hu
def sIx (n d:Nat):Option Int→Nat
 | none=>d
 | some v=>if v < 0 then (v + (n:Int)).toNat else min v.toNat n
theorem HF (n d k:Nat):sIx n d (some (k:Int))=min k n:=by
 show (if (k:Int) < 0 then ((k:Int) + (n:Int)).toNat else min (k:Int).toNat n)=min k n
 rw [if_neg (by lia),Int.toNat_natCast]
end
end HT
namespace L2
open PySem PySem.Spec PyProof.Rows
abbrev TO:=St→Hp→(Option Int→Hp→Prop)→Prop
def PO (X:Cx) (e:Option Expr) (t:TO):Prop :=
 ∀(pins:List (Addr×Obj)) (s:Shared) (σ:St) (H:Hp) (Q:Option Int→Hp→Prop),Inv X pins σ H s→t σ H Q →
  wpAny (model X.prog X.w) X.A (evalPart e X.env) (fun u s'=>∃o H',Inv X pins σ H' s'∧IsPart u o∧Q o H') X.xe s
def zH:TO:=fun _ H Q=>Q none H
def M7 (t:TE):TO:=fun σ H Q=>t σ H fun x H1=>∃i,x=.int i∧Q (some i) H1
theorem intsAre_of {ns:List Int}:∀{us:List Value},Vals (ns.map V.int) us→IntsAre us ns:=by
 induction ns with
 | nil=>intro us r;rw [List.map_nil] at r;cases r;exact .nil
 | cons n ns ih =>
  intro us r
  rw [List.map_cons] at r
  cases r with
  | cons r1 r2 =>
   obtain ⟨t,e⟩:=r1
   subst e
   exact .cons n t (ih r2)
section
variable {X:Cx} {e:Expr} {te:TE} {lo hi:Option Expr} {tl th:TO} {pos p2:Pos}
theorem gZ:PO X none zH:=by
 intro pins s σ H Q I h
 rw [evalPart_none]
 exact wpAny_pure ⟨none,H,I,.none,h⟩
theorem g8 (h:PE X e te):PO X (some e) (M7 te):=by
 intro pins s σ H Q I hw
 rw [evalPart_some]
 refine thn (h pins s σ H _ I hw) fun u s1 ⟨x,H1,I1,r1,q1⟩=>?_
 obtain ⟨i,rfl,q⟩:=q1
 obtain ⟨t,rfl⟩:=r1
 exact ⟨some i,H1,I1,.int i t,q⟩
def SlR (X:Cx) (r:V→Option Int→Option Int→Hp→VK→Prop):Prop :=
 ∀(pins:List (Addr×Obj)) (s:Shared) (σ:St) (H:Hp) (x:V) (v vl vu:Value) (lo hi:Option Int) (sl:Addr) (Q:VK),Inv X pins σ H s→RelV x v→s.heap.IsSliceOf sl vl vu .none→IsPart vl lo→IsPart vu hi→r x lo hi H Q →
  ∃T id,typeLookup (.type T) "__getitem__" = pure (some (.builtin id))∧s.TypeIs v T∧wpAny (model X.prog X.w) X.A (getItem v (.ref sl)) (EP X pins σ Q) X.xe s
theorem SlR.or {r r':V→Option Int→Option Int→Hp→VK→Prop} (h:SlR X r) (h':SlR X r'):SlR X (fun x lo hi H Q=>r x lo hi H Q∨r' x lo hi H Q):=by
 intro pins s σ H x v vl vu lo hi sl Q I rx hs pl pu q
 rcases q with q | q
 ·exact h pins s σ H x v vl vu lo hi sl Q I rx hs pl pu q
 ·exact h' pins s σ H x v vl vu lo hi sl Q I rx hs pl pu q
def tSl (r:V→Option Int→Option Int→Hp→VK→Prop) (te:TE) (tl th:TO):TE:=fun σ H Q=>te σ H fun x H1=>tl σ H1 fun l H2=>th σ H2 fun u H3=>r x l u H3 Q
theorem fP {r:V→Option Int→Option Int→Hp→VK→Prop} (hr:SlR X r) (he:PE X e te) (hl:PO X lo tl) (hu:PO X hi th):PE X (.Subscript e (.Slice lo hi none p2) pos) (tSl r te tl th):=by
 intro pins s σ H Q I h
 refine Subscript_ (thn (he pins s σ H _ I h) fun v s1 ⟨x,H1,I1,r1,q1⟩=>?_)
 refine wpAny_Slice (thn (hl pins s1 σ H1 _ I1 q1) fun vl s2 ⟨l,H2,I2,pl,q2⟩=>thn (hu pins s2 σ H2 _ I2 q2) fun vu s3 ⟨u,H3,I3,pu,q3⟩=>?_)
 rw [evalPart_none]
 refine wpAny_pure ?_
 have I4:Inv X pins σ H3 { s3 with heap:=s3.heap.push { cls:=.type "slice", data:=.fields #[vl,vu,.none] } }:=I3.kept (t':=s3.toks) fun b ob q=>Heap.get?_push_of_some _ q
 obtain ⟨T,id,hT,ht,hg⟩:=hr pins { s3 with heap:=s3.heap.push { cls:=.type "slice", data:=.fields #[vl,vu,.none] } } σ H3 x v vl vu l u s3.heap.objs.size Q I4 r1 (Heap.IsSliceOf.new ..) pl pu q3
 show wpAny (model X.prog X.w) X.A (subscriptTail e (.Slice lo hi none p2) v (.ref s3.heap.objs.size)) (EP X pins σ Q) X.xe { s3 with heap:=s3.heap.push { cls:=.type "slice", data:=.fields #[vl,vu,.none] } }
 exact tail_any (ops:=[.ref s3.heap.objs.size,v]) ht hT hg (by with_unfolding_all rfl)
def pO (xs:List V) (lo hi:Option Int):List V:=(xs.drop (HT.sIx xs.length 0 lo)).take (HT.sIx xs.length xs.length hi - HT.sIx xs.length 0 lo)
theorem BJ (xs:List V) (lo hi:Option Int):(pO xs lo hi).length≤xs.length:=by
 unfold pO
 rw [List.length_take,List.length_drop]
 lia
end
def ixN (n:Nat) (i:Int):Option Nat:=if 0≤i then (if i < n then some i.toNat else none) else if -(n:Int)≤i then some (i + n).toNat else none
def atI {α:Type} (xs:List α) (i:Int):Option α:=(ixN xs.length i).bind fun j=>xs[j]?
theorem HJ {n:Nat} {i:Int} {j:Nat} (h:ixN n i=some j):seqIndex? i n=some j∧j < n∧-(n:Int)≤i∧i < n:=by
 unfold ixN at h
 by_cases h0:0≤i
 ·rw [if_pos h0] at h
  by_cases h1:i < n
  ·rw [if_pos h1] at h
   have e:i.toNat=j:=Option.some.inj h
   exact ⟨by rw [seqIndex_of h0 h1,e],by lia,by lia,h1⟩
  ·rw [if_neg h1] at h;cases h
 ·rw [if_neg h0] at h
  by_cases h1:-(n:Int)≤i
  ·rw [if_pos h1] at h
   have e:(i + n).toNat=j:=Option.some.inj h
   exact ⟨by rw [seqIndex_neg (by lia) h1,e],by lia,h1,by lia⟩
  ·rw [if_neg h1] at h;cases h
theorem zJ {α:Type} {xs:List α} {i:Int} {v:α} (h:atI xs i=some v):∃j,seqIndex? i xs.length=some j∧xs[j]?=some v∧j < xs.length∧-(xs.length:Int)≤i∧i < xs.length:=by
 unfold atI at h
 cases e:ixN xs.length i with
 | none=>rw [e] at h;cases h
 | some j =>
  rw [e] at h
  obtain ⟨h1,h2,h3,h4⟩:=HJ e
  exact ⟨j,h1,h,h2,h3,h4⟩
theorem b_ {α:Type} {xs:List α} {j:Nat} {v:α} (h:xs[j]?=some v):atI xs (j:Int)=some v:=by
 have hj:j < xs.length:=(List.getElem?_eq_some_iff.mp h).1
 have e:ixN xs.length (j:Int)=some j:=by
  unfold ixN
  rw [if_pos (by lia),if_pos (by lia)];simp
 unfold atI;rw [e];exact h
def RW (b:Expr):Prop:=∀o i,subscripted b false o i=operate [o,i] (getItem o i)
def IxR (X:Cx) (r:R2):Prop :=
 ∀(value slice:Expr) (pins:List (Addr×Obj)) (s:Shared) (σ:St) (H:Hp) (x y:V) (v u:Value) (Q:VK),Inv X pins σ H s→RelV x v→RelV y u→r x y H Q →
  subscripted slice false v u=operate [v,u] (getItem v u)→wpAny (model X.prog X.w) X.A (subscriptTail value slice v u) (EP X pins σ Q) X.xe s
def MtR (X:Cx) (id:String) (r:V→List V→Hp→VK→Prop):Prop :=
 ∀(pins:List (Addr×Obj)) (s:Shared) (σ:St) (H:Hp) (x:V) (xs:List V) (v:Value) (us:List Value) (Q:VK),Inv X pins σ H s→RelV x v→Vals xs us→r x xs H Q →
  wpAny (model X.prog X.w) X.A (call (.builtin id) (v::us)) (EP X pins σ Q) X.xe s
section
variable {X:Cx} {a b:Expr} {ta tb:TE} {pos:Pos}
theorem IxR.or {r r':R2} (h:IxR X r) (h':IxR X r'):IxR X (fun x y H Q=>r x y H Q∨r' x y H Q):=by
 intro value slice pins s σ H x y v u Q I rx ry q hs
 rcases q with q | q
 ·exact h value slice pins s σ H x y v u Q I rx ry q hs
 ·exact h' value slice pins s σ H x y v u Q I rx ry q hs
theorem MtR.or {id:String} {r r':V→List V→Hp→VK→Prop} (h:MtR X id r) (h':MtR X id r'):MtR X id (fun x xs H Q=>r x xs H Q∨r' x xs H Q):=by
 intro pins s σ H x xs v us Q I rx rs q
 rcases q with q | q
 ·exact h pins s σ H x xs v us Q I rx rs q
 ·exact h' pins s σ H x xs v us Q I rx rs q
theorem bD {r:R2} (hr:IxR X r) (ha:PE X a ta) (hb:PE X b tb) (hs:RW b):PE X (.Subscript a b pos) (tOp r ta tb):=by
 intro pins s σ H Q I h
 exact Subscript_ (V1 ha hb I h fun v u s2 x y H2 I2 rx ry q=>hr a b pins s2 σ H2 x y v u Q I2 rx ry q (hs _ _))
def RX (K:W.Frag):R2:=fun x y H Q=>∃p xs i v,x=.ref p∧y=.int i∧SqL K H p xs∧atI xs i=some v∧Q v H
def RZ (K:W.Frag):R2:=fun x y H Q=>∃p xs i v,x=.ref p∧y=.int i∧SqT K H p xs∧atI xs i=some v∧Q v H
def Zv:R2:=fun x y H Q=>∃z i c,x=.str z∧y=.int i∧z.length≤sizeLine∧atI z.cps.toList i=some c∧Q (.str ⟨#[c]⟩) H
theorem bI:IxR X (RX X.K):=by
 intro value slice pins s σ H x y v u Q I rx ry h hs
 obtain ⟨p,xs,i,z,rfl,rfl,hq,he,q⟩:=h
 cases rx
 obtain ⟨t,rfl⟩:=ry
 obtain ⟨its,r,pl,hz⟩:=I.list hq
 obtain ⟨j,h1,h2,h3,h4,h5⟩:=zJ he
 obtain ⟨w,ew,rw'⟩:=r.get h2
 have hl:=r.length
 have hn:=tR
 have fin:EP X pins σ Q w s:=⟨z,H,I,rw',q⟩
 by_cases h0:0≤i
 ·have hj:i.toNat=j:=by
   rw [seqIndex_of h0 h5] at h1
   exact Option.some.inj h1
  exact item_listR pl.isList h0 (by lia) (by rw [hj];simpa using ew) fin hs
 ·have hj:(i + (its.toArray.size:Int)).toNat=j:=by
   rw [seqIndex_neg (by lia) h4] at h1
   rw [List.size_toArray,← hl]
   exact Option.some.inj h1
  exact subscriptTail_builtinR (x:=w) pl.isList.typeIs slot_list_getitem.lookup
   (wpAny_getItem_list_neg (Q:=fun r s'=>r=w∧EP X pins σ Q r s') pl.isList (by lia) (by rw [List.size_toArray] <;> lia) (by lia) (by rw [hj];simpa using ew) ⟨rfl,fin⟩) hs
theorem bZ:IxR X (RZ X.K):=by
 intro value slice pins s σ H x y v u Q I rx ry h hs
 obtain ⟨p,xs,i,z,rfl,rfl,hq,he,q⟩:=h
 cases rx
 obtain ⟨t,rfl⟩:=ry
 obtain ⟨its,r,pl,hz⟩:=I.tuple hq
 obtain ⟨j,h1,h2,h3,h4,h5⟩:=zJ he
 obtain ⟨w,ew,rw'⟩:=r.get h2
 have hl:=r.length
 have hn:=tR
 have fin:EP X pins σ Q w s:=⟨z,H,I,rw',q⟩
 exact subscriptTail_builtinR (x:=w) pl.typeIs slot_tuple_getitem.lookup
  (getItem_tuple (j:=j) (Q:=fun r s'=>r=w∧EP X pins σ Q r s') pl (by lia) (by lia) (by rw [List.size_toArray,← hl];exact h1) (by simpa using ew) ⟨rfl,fin⟩) hs
theorem tX:IxR X Zv:=by
 intro value slice pins s σ H x y v u Q I rx ry h hs
 obtain ⟨z,i,c,rfl,rfl,hz,he,q⟩:=h
 obtain ⟨t,rfl⟩:=rx
 obtain ⟨t',rfl⟩:=ry
 obtain ⟨j,h1,h2,h3,h4,h5⟩:=zJ he
 have hl:z.cps.toList.length=z.length:=by simp [Str.length]
 rw [hl] at h1 h4 h5
 have hn:=tR
 exact tail_any (typeIs_str s z t) slot_str_getitem.lookup (getItem_str (c:=c) (by
  have e1:decide (i < -(2 ^ 63:Int))=false:=decide_eq_false (by lia)
  have e2:decide (i ≥ 2 ^ 63)=false:=decide_eq_false (by lia)
  rw [e1,e2,Bool.or_false]) (by rw [h1];simpa using h2) ⟨.str ⟨#[c]⟩,H,I.tok _,⟨_,rfl⟩,q⟩) hs
theorem Gf (its:List Value) (n j:Nat) (u:Value):Obj.mapSeq (·.setIfInBounds j u) { cls:=.type "list", data:=.seq its.toArray n }={ cls:=.type "list", data:=.seq (its.set j u).toArray n }:=by
 simp [Obj.mapSeq]
theorem Inv.lst {pins:List (Addr×Obj)} {σ:St} {H:Hp} {s:Shared} {p:Addr} {xs:List V} (I:Inv X pins σ H s) (h:H p=some (.lst xs)) :
  ∃(its:List Value) (n:Nat),Vals xs its∧s.heap.get? p=some { cls:=.type "list", data:=.seq its.toArray n }∧xs.length≤sizeLine:=by
 obtain ⟨z,its,n,r,e⟩:=I.hok p _ h
 exact ⟨its,n,r,e,z⟩
theorem Inv.V8 {pins:List (Addr×Obj)} {σ:St} {H:Hp} {s:Shared} {p:Addr} {xs ys:List V} {its its':List Value} {n n':Nat} {f:Obj→Obj} (I:Inv X pins σ H s) (h:H p=some (.lst xs))
  (ho:s.heap.get? p=some { cls:=.type "list", data:=.seq its.toArray n }) (hf:f { cls:=.type "list", data:=.seq its.toArray n }={ cls:=.type "list", data:=.seq its'.toArray n' }) (r:Vals ys its') (hz:ys.length≤sizeLine) (t:Nat) :
  Inv X pins σ (upd H p (.lst ys)) { s with heap:=s.heap.update p f,toks:=t }:=by
 have e:(s.heap.update p f).get? p=some { cls:=.type "list", data:=.seq its'.toArray n' }:=by
  rw [Heap.get?_update_self f ho (by rw [hf] <;> rfl),hf]
 refine I.write (x:=p) (e:=p) (by rw [h];trivial) (.inl rfl) (fun b u hb q=>(Heap.get?_update_other _ _ (Ne.symm hb)).trans q) ⟨_,e⟩ ?_
 exact ⟨hz,its',n',r,e⟩
def Zw:V→V→V→Hp→(Hp→Prop)→Prop:=fun o i v H Q=>∃p xs k j,o=.ref p∧i=.int k∧H p=some (.lst xs)∧ixN xs.length k=some j∧Q (upd H p (.lst (xs.set j v)))
theorem set_list:VP X Zw:=by
 intro pins s σ H o i v ov iv u Q I ro ri rv h
 obtain ⟨p,xs,k,j,rfl,rfl,hp,hj,q⟩:=h
 cases ro
 obtain ⟨t,rfl⟩:=ri
 obtain ⟨its,n,r,ho,hz⟩:=I.lst hp
 obtain ⟨h1,h2,h3,h4⟩:=HJ hj
 have hl:=r.length
 have hn:=tR
 have I':Inv X pins σ (upd H p (.lst (xs.set j v))) { s with heap:=s.heap.update p (Obj.mapSeq (·.setIfInBounds j u)) } :=
  I.V8 hp ho (Gf its n j u) (r.set rv j) (by rw [List.length_set];exact hz) s.toks
 by_cases h0:0≤k
 ·have hk:k.toNat=j:=by
   rw [seqIndex_of h0 h4] at h1
   exact Option.some.inj h1
  exact W.ki_setAt ho h0 (by lia) (by rw [List.size_toArray,← hl];exact h4) (by rw [hk];exact ⟨_,I',q⟩)
 ·have hk:(k + (its.toArray.size:Int)).toNat=j:=by
   rw [seqIndex_neg (by lia) h3] at h1
   rw [List.size_toArray,← hl]
   exact Option.some.inj h1
  exact W.ki_setBack ho (by lia) (by rw [List.size_toArray,← hl];exact h3) (by lia) (by rw [hk];exact ⟨_,I',q⟩)
theorem zK (lo hi:Option Int) (n:Nat):(sliceBounds lo hi none n).1=((HT.sIx n 0 lo:Nat):Int)∧(sliceBounds lo hi none n).2.1=((HT.sIx n n hi:Nat):Int)∧(sliceBounds lo hi none n).2.2=1:=by
 refine ⟨?_,?_,rfl⟩
 ·cases lo with
  | none=>simp [sliceBounds,HT.sIx]
  | some i =>
   simp only [sliceBounds,HT.sIx,Option.getD_none,show (1:Int) > 0 by decide,if_true]
   by_cases h:i < 0
   ·simp only [h,if_true] <;> lia
   ·simp only [h,if_false] <;> lia
 ·cases hi with
  | none=>simp [sliceBounds,HT.sIx]
  | some i =>
   simp only [sliceBounds,HT.sIx,Option.getD_none,show (1:Int) > 0 by decide,if_true]
   by_cases h:i < 0
   ·simp only [h,if_true] <;> lia
   ·simp only [h,if_false] <;> lia
theorem wD (its:List Value) (lo hi:Option Int):slicePick its.toArray lo hi none=((its.drop (HT.sIx its.length 0 lo)).take (HT.sIx its.length its.length hi - HT.sIx its.length 0 lo)).toArray:=by
 obtain ⟨h1,h2,h3⟩:=zK lo hi its.toArray.size
 unfold slicePick
 rw [h1,h2,h3]
 simp only [sliceRange_one,pick_run,List.size_toArray] <;> rfl
def ac7 (K:W.Frag):V→Option Int→Option Int→Hp→VK→Prop:=fun x lo hi H Q=>∃a xs,x=.ref a∧SqL K H a xs∧∀p,H p=none→Q (.ref p) (upd H p (.lst (pO xs lo hi)))
theorem R0:SlR X (ac7 X.K):=by
 intro pins s σ H x v vl vu lo hi sl Q I rx hs pl pu h
 obtain ⟨a,xs,rfl,hx,q⟩:=h
 cases rx
 obtain ⟨its,r,ht,hz⟩:=I.list hx
 have hlen:=r.length
 refine ⟨"list", _,slot_list_getitem.lookup,ht.isList.typeIs,?_⟩
 refine wpAny_getItem_list_slice ht.isList hs pl pu .none (by simp) ?_ (by rw [List.size_toArray] <;> lia)
 rw [wD,← hlen]
 refine ⟨.ref s.heap.objs.size,_,I.laid (t':=s.toks) (o:=.lst (pO xs lo hi)) (fun b ob q=>Heap.get?_push_of_some _ q) (Nat.le_refl _) ?_,rfl,q _ (I.hok.fresh (Nat.le_refl _))⟩
 exact ⟨Nat.le_trans (BJ xs lo hi) hz,_,0,(r.drop (HT.sIx xs.length 0 lo)).take (HT.sIx xs.length xs.length hi - HT.sIx xs.length 0 lo),Heap.get?_push_size _ rfl⟩
def mF:V→Bool
 | .non=>true
 | .bl _=>true
 | .int _=>true
 | .str _=>true
 | _=>false
def eqV:V→V→Bool
 | .non,.non=>true
 | .bl a,.bl b=>a == b
 | .bl a,.int b=>(if a then 1 else 0) == b
 | .int a,.bl b=>a == (if b then 1 else 0)
 | .int a,.int b=>a == b
 | .str a,.str b=>a == b
 | _,_=>false
theorem V9 {A:Around} {s:Shared} {y x:V} {u v:Value} (ry:RelV y u) (rx:RelV x v) (fy:mF y=true) (fx:mF x=true):SeqAt.EqAt A s u v (eqV y x):=by
 cases y with
 | non =>
  cases ry
  cases x with
  | non=>cases rx;exact SeqAt.EqAt.same _
  | bl b=>cases rx;exact SeqAt.EqAt.none_bool b
  | int b=>obtain ⟨t,rfl⟩:=rx;exact SeqAt.EqAt.none_int b t
  | str b=>obtain ⟨t,rfl⟩:=rx;exact SeqAt.EqAt.none_str b t
  | _=>exact absurd (show false=true from fx) Bool.false_ne_true
 | bl a =>
  cases ry
  cases x with
  | non=>cases rx;exact SeqAt.EqAt.bool_none a
  | bl b=>cases rx;exact SeqAt.EqAt.bool_bool a b
  | int b=>obtain ⟨t,rfl⟩:=rx;exact SeqAt.EqAt.bool_int a b t
  | str b=>obtain ⟨t,rfl⟩:=rx;exact SeqAt.EqAt.bool_str a b t
  | _=>exact absurd (show false=true from fx) Bool.false_ne_true
 | int a =>
  obtain ⟨t',rfl⟩:=ry
  cases x with
  | non=>cases rx;exact SeqAt.EqAt.int_none a t'
  | bl b=>cases rx;exact SeqAt.EqAt.int_bool a t' b
  | int b=>obtain ⟨t,rfl⟩:=rx;exact SeqAt.EqAt.int_int a t' b t
  | str b=>obtain ⟨t,rfl⟩:=rx;exact SeqAt.EqAt.int_str a t' b t
  | _=>exact absurd (show false=true from fx) Bool.false_ne_true
 | str a =>
  obtain ⟨t',rfl⟩:=ry
  cases x with
  | non=>cases rx;exact SeqAt.EqAt.str_none a t'
  | bl b=>cases rx;exact SeqAt.EqAt.str_bool a t' b
  | int b=>obtain ⟨t,rfl⟩:=rx;exact SeqAt.EqAt.str_int a t' b t
  | str b=>obtain ⟨t,rfl⟩:=rx;exact SeqAt.EqAt.str_str a t' b t
  | _=>exact absurd (show false=true from fx) Bool.false_ne_true
 | _=>exact absurd (show false=true from fy) Bool.false_ne_true
def eqU (x:V) (u:Value):Bool:=match u with
 | .none=>eqV .non x
 | .bool b=>eqV (.bl b) x
 | .int i _=>eqV (.int i) x
 | .str z _=>eqV (.str z) x
 | _=>false
theorem Gg {x y:V} {u:Value} (r:RelV y u) (f:mF y=true):eqU x u=eqV y x:=by
 cases y with
 | non=>cases r;rfl
 | bl b=>cases r;rfl
 | int i=>obtain ⟨t,rfl⟩:=r;rfl
 | str z=>obtain ⟨t,rfl⟩:=r;rfl
 | _=>exact absurd (show false=true from f) Bool.false_ne_true
theorem zL {x:V}:∀{xs:List V} {us:List Value},Vals xs us→xs.all mF=true→us.any (eqU x)=xs.any fun y=>eqV y x
 | _,_,.nil,_=>rfl
 | y::xs,u::us,.cons r t,f=>by
  rw [List.all_cons,Bool.and_eq_true] at f
  rw [List.any_cons,List.any_cons,Gg r f.1,zL t f.2]
theorem nA {A:Around} {s:Shared} {x:V} {v:Value} (rx:RelV x v) (fx:mF x=true):∀{xs:List V} {us:List Value},Vals xs us→xs.all mF=true→∀u∈us,SeqAt.EqAt A s u v (eqU x u)
 | _,_,.nil,_=>fun u hu=>by cases hu
 | y::xs,u::us,.cons r t,f=>fun u' hu=>by
  rw [List.all_cons,Bool.and_eq_true] at f
  rcases List.mem_cons.mp hu with rfl | hu
  ·rw [Gg r f.1];exact V9 r rx f.1 fx
  ·exact nA rx fx t f.2 u' hu
def inV (x:V) (xs:List V):Bool:=xs.any fun y=>eqV y x
def rIn (K:W.Frag) (neg:Bool):R2:=fun x y H Q=>∃p xs,y=.ref p∧(SqL K H p xs∨SqT K H p xs)∧mF x=true∧xs.all mF=true∧Q (.bl (if neg then !inV x xs else inV x xs)) H
theorem Kw:OpR X (compareOp .In) (rIn X.K false):=by
 intro pins s σ H x y v u Q I rx ry h
 obtain ⟨p,xs,rfl,hq,fx,fs,q⟩:=h
 cases ry
 rcases hq with hq | hq
 ·obtain ⟨its,r,pl,hz⟩:=I.list hq
  refine SeqAt.in_listAt (eqU x) pl.isList (fun w hw=>nA rx fx r fs w (by simpa using hw)) ⟨.bl _,H,I,rfl,?_⟩
  rw [show its.toArray.any (eqU x)=its.any (eqU x) by simp,zL r fs]
  exact q
 ·obtain ⟨its,r,pl,hz⟩:=I.tuple hq
  refine SeqAt.in_tupleAt (eqU x) pl (fun w hw=>nA rx fx r fs w (by simpa using hw)) ⟨.bl _,H,I,rfl,?_⟩
  rw [show its.toArray.any (eqU x)=its.any (eqU x) by simp,zL r fs]
  exact q
theorem fu.or {f:Value} {r r':List V→Hp→VK→Prop} (h:fu X f r) (h':fu X f r'):fu X f (fun xs H Q=>r xs H Q∨r' xs H Q):=by
 intro pins s σ H xs us Q I rs q
 rcases q with q | q
 ·exact h pins s σ H xs us Q I rs q
 ·exact h' pins s σ H xs us Q I rs q
theorem zM:fu X (.type "list") (fun xs H Q=>∃p ys,xs=[.ref p]∧(SqL X.K H p ys∨SqT X.K H p ys)∧∀l,H l=none→Q (.ref l) (upd H l (.lst ys))):=by
 intro pins s σ H xs us Q I r h
 obtain ⟨p,ys,rfl,hq,q⟩:=h
 obtain ⟨u,rfl,rx⟩:=vals1 r
 cases rx
 have fin:∀(its:List Value),Vals ys its→ys.length≤sizeLine→∀(h':Heap) (c':Nat),(∀b o',s.heap.get? b=some o'→h'.get? b=some o') →
   h'.get? s.heap.objs.size=some { cls:=.type "list", dict:=none,data:=.seq its.toArray c',slots:=#[] }→EP X pins σ Q (.ref s.heap.objs.size) { s with heap:=h' }:=fun its r' hz h' c' kp e =>
  ⟨.ref s.heap.objs.size,_,I.laid (t':=s.toks) kp (Nat.le_refl _) (show dW X.prog X.w _ h' _ (.lst ys) from ⟨hz,its,c',r',e⟩),rfl,q _ (I.hok.fresh (Nat.le_refl _))⟩
 rcases hq with hq | hq
 ·obtain ⟨its,r',pl,hz⟩:=I.list hq
  have hlen:=r'.length
  obtain ⟨o,ho,hc,n,hd⟩:=pl.isList
  exact call_list_seq p (.inl rfl) ho hc hd (fun h' c' kp e=>fin its r' hz h' c' kp e) (by simp only [List.size_toArray] <;> lia)
 ·obtain ⟨its,r',pl,hz⟩:=I.tuple hq
  have hlen:=r'.length
  obtain ⟨o,ho,hc,n,hd⟩:=pl
  exact call_list_seq p (.inr rfl) ho hc hd (fun h' c' kp e=>fin its r' hz h' c' kp e) (by simp only [List.size_toArray] <;> lia)
def tyV (K:W.Frag) (T:String) (x:V) (H:Hp):Prop:=match x with
 | .str _=>T = "str"
 | .int _=>T = "int"
 | .ref p=>(T = "list" ∧ ∃xs,SqL K H p xs)∨(T = "tuple" ∧ ∃o,K.lookup p=some o∧o.cls=.type "tuple" ∧ o.dict=none) ∨
   (T = "dict" ∧ ((∃kvs,H p=some (.dK kvs))∨∃kvs,H p=some (.dT kvs)))∨(T = "set" ∧ ∃S n,H p=some (.set S n))
 | _=>False
theorem V_ {pins:List (Addr×Obj)} {σ:St} {H:Hp} {s:Shared} {T:String} {x:V} {v:Value} (I:Inv X pins σ H s) (r:RelV x v) (ty:tyV X.K T x H) :
  s.TypeIs v T∧∀a,v=.ref a→∃ob,s.heap.get? a=some ob∧ob.dict=none:=by
 cases x with
 | str z =>
  obtain ⟨t,rfl⟩:=r
  cases (show T = "str" from ty)
  exact ⟨typeIs_str s z t,fun _ e=>nomatch e⟩
 | int i =>
  obtain ⟨t,rfl⟩:=r
  cases (show T = "int" from ty)
  exact ⟨typeIs_int s i t,fun _ e=>nomatch e⟩
 | ref p =>
  cases r
  rcases ty with ⟨rfl,xs,hq⟩ | ⟨rfl,o,hk,hc,hd⟩ | ⟨rfl,hk⟩ | ⟨rfl,S,n,hk⟩
  ·obtain ⟨its,_,pl,_⟩:=I.list hq
   refine ⟨pl.isList.typeIs,fun a e=>?_⟩
   cases e
   obtain ⟨o,n,e,c,hd,_⟩:=pl
   exact ⟨o,e,hd⟩
  ·refine ⟨⟨o,I.kIn p o hk,hc⟩,fun a e=>?_⟩
   cases e
   exact ⟨o,I.kIn _ o hk,hd⟩
  ·have z:∃o,s.heap.get? p=some o∧o.ExactDict:=by
    rcases hk with ⟨kvs,hk⟩ | ⟨kvs,hk⟩
    ·obtain ⟨_,_,_,_,o,_,_,e,ex,_⟩:=I.hok p _ hk
     exact ⟨o,e,ex⟩
    ·obtain ⟨_,_,_,_,o,_,_,e,ex,_⟩:=I.hok p _ hk
     exact ⟨o,e,ex⟩
   obtain ⟨o,e,ex⟩:=z
   refine ⟨⟨o,e,ex.1⟩,fun a e2=>?_⟩
   cases e2
   exact ⟨o,e,ex.2.1⟩
  ·obtain ⟨o,_,_,_,e,ex,_⟩:=I.hok p _ hk
   refine ⟨⟨o,e,ex.1⟩,fun a e2=>?_⟩
   cases e2
   exact ⟨o,e,ex.2.1⟩
 | _=>exact False.elim ty
def tBM (K:W.Frag) (T:String) (r:V→List V→Hp→VK→Prop) (to:TE) (t:TA):TE:=fun σ H Q=>to σ H fun x H1=>tyV K T x H1∧t σ H1 fun xs H2=>r x xs H2 Q
variable {o e:Expr} {es:List Expr} {to:TE} {t:TA} {name:Str} {apos cpos:Pos} {T id:String} {r:V→List V→Hp→VK→Prop}
theorem wW (pa:PlainAttrs T) (slot:Slot T name id) (hty:typeOf (.builtin id)=pure (.type "method_descriptor")) (hm:MtR X id r) (ho:PE X o to) (ha:PA X (e::es) t)
  (hbase:attributeBase o name X.env (eval o X.env)=eval o X.env:=by rfl)
  (hfew:((backTo cpos (starEach (e::es) X.env)).all (fun x=>!x.1) && (backToKw cpos (keywordEach [] X.env)).all (fun x=>x.1.isSome)
   && decide ((e::es).length + ([]:List Keyword).length + (if ([]:List Keyword).isEmpty then 0 else 1) < 30))=true:=by rfl)
  (hline:(apos.endLine == cpos.line)=true:=by rfl) (hs:starEach (e::es) X.env=(false,eval e X.env)::starEach es X.env:=by rfl) (hplain:(backTo cpos (starEach es X.env)).any (·.1)=false:=by rfl) :
  PE X (.Call (.Attribute o name apos) (e::es) [] cpos) (tBM X.K T r to t):=by
 intro pins s σ H Q I h
 refine wpAny_Call_method_late hbase hfew hline rfl (thn (ho pins s σ H _ I h) fun v s1 ⟨x,H1,I1,r1,ty,q1⟩=>?_)
 obtain ⟨h1,h2⟩:=V_ I1 r1 ty
 refine ⟨T,id,pa,slot,hty,h1,h2,?_⟩
 have hA:=ha cpos pins s1 σ H1 _ I1 q1
 rw [hs] at hA ⊢
 refine Calls.callWith_builtin (by show (false || (backTo cpos (starEach es X.env)).any (·.1))=false;rw [hplain] <;> rfl) (Calls.evalArgs_plain ?_)
 exact thn hA fun us s2 ⟨vs,H2,I2,r2,q2⟩=>hm pins s2 σ H2 x vs v us Q I2 r1 r2 q2
end
def MtM (X:Cx) (id:String) (r:V→List V→Hp→VK→Prop):Prop :=
 ∀(pins:List (Addr×Obj)) (s:Shared) (σ:St) (H:Hp) (x:V) (xs:List V) (v:Value) (us:List Value) (Q:VK),Inv X pins σ H s→RelV x v→Vals xs us→r x xs H Q →
  wpAny (model X.prog X.w) X.A (call (.builtin id) (v::us)) (EP X pins σ Q) X.xe s
theorem Vals.one:∀{x:V} {us:List Value},Vals [x] us→∃u,us=[u]∧RelV x u
 | _,_,.cons r .nil=>⟨_,rfl,r⟩
theorem Vals.two:∀{x y:V} {us:List Value},Vals [x,y] us→∃u v,us=[u,v]∧RelV x u∧RelV y v
 | _,_,_,.cons r (.cons q .nil)=>⟨_,_,rfl,r,q⟩
theorem Vals.zero:∀{us:List Value},Vals [] us→us=[]
 | _,.nil=>rfl
theorem Vals.eraseIdx:∀{xs:List V} {us:List Value} (i:Nat),Vals xs us→Vals (xs.eraseIdx i) (us.eraseIdx i)
 | _,_,_,.nil=>.nil
 | _,_,0,.cons _ t=>t
 | _,_,i + 1,.cons r t=>.cons r (Vals.eraseIdx i t)
theorem Vals.reverse {xs:List V} {us:List Value} (h:Vals xs us):Vals xs.reverse us.reverse:=by
 induction h with
 | nil=>exact .nil
 | cons r t ih=>rw [List.reverse_cons,List.reverse_cons];exact Vals.append ih (.cons r .nil)
theorem Vals.rep {xs:List V} {us:List Value} (h:Vals xs us):∀k:Nat,Vals (List.replicate k xs).flatten (List.replicate k us).flatten
 | 0=>.nil
 | k + 1=>by
  rw [List.replicate_succ,List.replicate_succ,List.flatten_cons,List.flatten_cons]
  exact Vals.append h (Vals.rep h k)
theorem wX {α:Type}:∀(l:List α) (i:Nat),(l.eraseIdx i).length≤l.length
 | [],_=>Nat.le_refl _
 | _::_,0=>Nat.le_succ _
 | _::r,i + 1=>Nat.succ_le_succ (wX r i)
theorem foldl_rep (its:List Value):∀(k:Nat) (acc:List Value),
  List.foldl (fun x1 x2=>x1++x2) acc.toArray (List.replicate k its.toArray)=(acc++(List.replicate k its).flatten).toArray
 | 0,acc=>by simp
 | k + 1,acc=>by
  have e:acc.toArray++its.toArray=(acc++its).toArray:=by simp
  have e2:(acc++its)++(List.replicate k its).flatten=acc++(List.replicate (k + 1) its).flatten:=by
   rw [List.replicate_succ,List.flatten_cons,List.append_assoc]
  rw [← e2,← foldl_rep its k (acc++its),← e,List.replicate_succ,List.foldl_cons]
section
variable {X:Cx} {pins:List (Addr×Obj)} {σ:St} {H:Hp} {s:Shared} {l b:Addr} {xs ys zs:List V}
theorem Inv.R3 {its its':List Value} {n:Nat} {f:Array Value→Array Value} {t':Nat} (I:Inv X pins σ H s) (hH:H l=some (.lst xs))
  (e:s.heap.get? l=some { cls:=.type "list", data:=.seq its.toArray n }) (hf:f its.toArray=its'.toArray) (hv:Vals ys its') (hz:ys.length≤sizeLine) :
  Inv X pins σ (upd H l (.lst ys)) { s with heap:=s.heap.update l (Obj.mapSeq f),toks:=t' }:=by
 have q:=PySem.IsL.update e f
 rw [hf] at q
 refine I.write (x:=l) (e:=l) (by rw [hH];exact trivial) (.inl rfl) (fun b' u hb hu=>(Heap.get?_update_other s.heap (Obj.mapSeq f) (Ne.symm hb)).trans hu) ⟨_,q⟩ ?_
 exact ⟨hz,its',_,hv,q⟩
theorem Inv.Zx {its:List Value} {t':Nat} (I:Inv X pins σ H s) (hv:Vals ys its) (hz:ys.length≤sizeLine) :
  Inv X pins σ (upd H s.heap.objs.size (.lst ys)) { s with heap:=s.heap.push { cls:=.type "list", data:=.seq its.toArray },toks:=t' } :=
 I.laid (fun _ _ q=>Heap.get?_push_of_some _ q) (Nat.le_refl _) ⟨hz,its,0,hv,Heap.get?_push_size _ rfl⟩
theorem Inv.fresh (I:Inv X pins σ H s):H s.heap.objs.size=none:=I.hok.fresh (Nat.le_refl _)
theorem Inv.zN (I:Inv X pins σ H s) (hH:H l=some (.lst xs)):xs.length≤sizeLine∧∃(its:List Value) (n:Nat),Vals xs its∧xs.length=its.length∧s.heap.get? l=some { cls:=.type "list", data:=.seq its.toArray n }:=by
 obtain ⟨z,its,n,r,e⟩:=I.hok l _ hH
 exact ⟨z,its,n,r,r.length,e⟩
theorem BK {n:Nat} (h:n≤sizeLine):Builtin.List.listTooLong n=false:=by
 unfold Builtin.List.listTooLong
 exact decide_eq_false (by lia)
end
section
variable {X:Cx}
def R4:V→List V→Hp→VK→Prop:=fun x vs H Q=>∃l xs y,x=.ref l∧vs=[y]∧H l=some (.lst xs)∧xs.length < sizeLine∧Q .non (upd H l (.lst (xs++[y])))
theorem wY:MtM X "list.append" R4:=by
 intro pins s σ H x vs v us Q I rx rv h
 obtain ⟨l,xs,y,rfl,rfl,hH,hz,q⟩:=h
 cases rx
 obtain ⟨u,rfl,ru⟩:=rv.one
 obtain ⟨z,its,n,r,hl,e⟩:=I.zN hH
 refine call_meets F.slot_list_append ⟨_,e,rfl⟩ F.entry_list_append (F.args_list_append_2 _ _) (PySem.list_append l its.toArray n u (by rw [List.size_toArray];lia)) ⟨e,?_⟩
 refine ⟨.non,_,I.R3 (its':=its++[u]) hH e (by simp) (r.append (.cons ru .nil)) ?_,rfl,q⟩
 rw [List.length_append,List.length_singleton]
 lia
def R5:V→List V→Hp→VK→Prop:=fun x vs H Q=>∃l b xs zs,x=.ref l∧vs=[.ref b]∧H l=some (.lst xs)∧H b=some (.lst zs)∧xs.length + zs.length≤sizeLine∧Q .non (upd H l (.lst (xs++zs)))
theorem Ky:MtM X "list.extend" R5:=by
 intro pins s σ H x vs v us Q I rx rv h
 obtain ⟨l,b,xs,zs,rfl,rfl,hH,hB,hz,q⟩:=h
 cases rx
 obtain ⟨u,rfl,ru⟩:=rv.one
 cases ru
 obtain ⟨z,its,n,r,hl,e⟩:=I.zN hH
 obtain ⟨z2,its2,n2,r2,hl2,e2⟩:=I.zN hB
 have hsz:its.toArray.size + its2.toArray.size≤sizeLine:=by rw [List.size_toArray,List.size_toArray];lia
 have M8:¬ (!its.toArray.isEmpty && Builtin.List.listTooLong (its.toArray.size + its2.toArray.size))=true:=by
  rw [BK hsz,Bool.and_false]
  exact Bool.false_ne_true
 refine call_meets F.slot_list_extend ⟨_,e,rfl⟩ F.entry_list_extend (F.args_list_extend_2 _ _)
  (AutoSeq1.list_extend_list_list_0 l its.toArray n b its2.toArray n2 M8 (by rw [List.size_toArray];lia) (by lia)) ⟨e,e2,?_⟩
 refine ⟨.non,_,I.R3 (its':=its++its2) hH e (by simp) (r.append r2) ?_,rfl,q⟩
 rw [List.length_append]
 lia
def Wa:V→List V→Hp→VK→Prop:=fun x vs H Q=>∃l xs i k y,x=.ref l∧vs=[.int i]∧H l=some (.lst xs)∧-(2 ^ 63)≤i∧i < 2 ^ 63∧seqIndex? i xs.length=some k∧xs[k]?=some y∧Q y (upd H l (.lst (xs.eraseIdx k)))
theorem M9:MtM X "list.pop" Wa:=by
 intro pins s σ H x vs v us Q I rx rv h
 obtain ⟨l,xs,i,k,y,rfl,rfl,hH,h1,h2,hk,hy,q⟩:=h
 cases rx
 obtain ⟨u,rfl,ru⟩:=rv.one
 obtain ⟨t,rfl⟩:=ru
 obtain ⟨z,its,n,r,hl,e⟩:=I.zN hH
 obtain ⟨w,hw,rw'⟩:=r.get hy
 refine call_meets F.slot_list_pop ⟨_,e,rfl⟩ F.entry_list_pop (F.args_list_pop_2 _ _)
  (MeetsSeq.list_pop_at l its.toArray n i t k w (fitsIndex_both h1 h2) (by rw [List.size_toArray,← hl];exact hk) (by rw [← Array.getElem?_toList];exact hw) (by rw [List.size_toArray];lia)) ⟨e,?_⟩
 refine ⟨y,_,I.R3 (its':=its.eraseIdx k) hH e ?_ (r.eraseIdx k) ?_,rw',q⟩
 ·show its.toArray.eraseIdxIfInBounds k=(its.eraseIdx k).toArray
  rw [List.eraseIdxIfInBounds_toArray]
 ·have:=wX xs k
  lia
def ac8:R2:=fun x y H Q=>∃l b xs zs,x=.ref l∧y=.ref b∧H l=some (.lst xs)∧H b=some (.lst zs)∧xs.length + zs.length≤sizeLine∧∀p,H p=none→Q (.ref p) (upd H p (.lst (xs++zs)))
theorem Wb:OpR X (binaryOp .Add) ac8:=by
 intro pins s σ H x y v u Q I rx ry h
 obtain ⟨l,b,xs,zs,rfl,rfl,hH,hB,hz,q⟩:=h
 cases rx
 cases ry
 obtain ⟨z,its,n,r,hl,e⟩:=I.zN hH
 obtain ⟨z2,its2,n2,r2,hl2,e2⟩:=I.zN hB
 refine PySem.P.add_list e e2 ?_ (by rw [List.size_toArray,List.size_toArray];lia)
 have ea:its.toArray++its2.toArray=(its++its2).toArray:=by simp
 rw [ea]
 exact ⟨.ref _,_,I.Zx (t':=s.toks) (r.append r2) (by rw [List.length_append];lia),rfl,q _ I.fresh⟩
def ac9:R2:=fun x y H Q=>∃l k xs,x=.ref l∧y=.int k∧H l=some (.lst xs)∧-(2 ^ 63)≤k∧k < 2 ^ 63∧xs.length * k.toNat≤sizeLine ∧
 ∀p,H p=none→Q (.ref p) (upd H p (.lst (List.replicate k.toNat xs).flatten))
theorem len_rep {α:Type} (xs:List α) (k:Nat):(List.replicate k xs).flatten.length=k * xs.length:=by
 induction k with
 | zero=>simp
 | succ k ih=>rw [List.replicate_succ,List.flatten_cons,List.length_append,ih,Nat.succ_mul,Nat.add_comm]
theorem Wc:OpR X (binaryOp .Mult) ac9:=by
 intro pins s σ H x y v u Q I rx ry h
 obtain ⟨l,k,xs,rfl,rfl,hH,h1,h2,hz,q⟩:=h
 cases rx
 obtain ⟨t,rfl⟩:=ry
 obtain ⟨z,its,n,r,hl,e⟩:=I.zN hH
 have hlen:its.toArray.size * k.toNat≤sizeLine:=by rw [List.size_toArray,← hl];exact hz
 have hcap:¬ its.toArray.size * k.toNat > (2 ^ 63 - 1) / 8:=by
  have:(sizeLine:Nat)≤(2 ^ 63 - 1) / 8:=by decide
  lia
 have hfit:¬ (!Builtin.List.listFitsIndex k)=true:=by
  rw [fitsIndex_both h1 h2]
  exact Bool.false_ne_true
 have M8:¬ Builtin.List.listTooLong (its.toArray.size * k.toNat)=true:=by
  rw [BK hlen]
  exact Bool.false_ne_true
 have hnew:List.foldl (fun x1 x2=>x1++x2) #[] (List.replicate (if its.toArray.isEmpty=true then 0 else k.toNat) its.toArray)=(List.replicate k.toNat its).flatten.toArray:=by
  have f0:∀m:Nat,List.foldl (fun x1 x2=>x1++x2) #[] (List.replicate m its.toArray)=(List.replicate m its).flatten.toArray:=fun m=>by
   have:=foldl_rep its m []
   rw [List.nil_append] at this
   exact this
  rw [f0]
  cases its with
  | nil=>simp
  | cons a r'=>rw [if_neg (by simp)]
 refine wpAny_binaryOp_repeat_ref (T := "list") (U := "int") (by decide) ⟨_,e,rfl⟩ (fun s'=>typeIs_int s' k t) noFill_list_mul F.fills_int_mul F.slot_int_rmul repeat_list F.slot_int_index.lookup
  (call_meets F.slot_int_rmul (typeIs_int s k t) F.entry_int_rmul (F.args_int_rmul_2 _ _) (int___rmul___int_list k t l its.toArray n)
   ⟨e,rfl,⟨_,e,rfl⟩,call_meets F.slot_list_mul ⟨_,e,rfl⟩ F.entry_list_mul (F.args_list_mul_2 _ _) (AutoListH.list___mul___list_int_3 l its.toArray n k t hfit hcap M8) ⟨e,?_⟩⟩)
 rw [hnew]
 exact ⟨.ref _,_,I.Zx (t':=s.toks) (r.rep k.toNat) (by rw [len_rep,Nat.mul_comm];exact hz),rfl,q _ I.fresh⟩
end
end L2
namespace Att
open PySem PySem.W PySem.Calls PyProof.Rows
theorem rQ {P:Params} {h:Heap}:∀(ns:List Int) (vs:List Value),WellAll P h vs (ns.map WData.int)→IntsAre vs ns:=by
 intro ns
 induction ns with
 | nil =>
  intro vs w
  rw [List.map_nil] at w
  cases w
  exact .nil
 | cons n ns ih =>
  intro vs w
  rw [List.map_cons] at w
  cases w with
  | cons a b =>
   cases a
   exact .cons _ _ (ih _ b)
theorem Kz {l:OpenLaw} {n:Nat} (hn:l.most=some n) {P:Params} {h:Heap} {args:List WData} {vals:List Value}
  (hpre:l.row.toRowW.claim.pre args=true) (hwl:WellAll P h vals args) :
  ∃a vs ns,vals=[Value.ref a]∧args=[WData.list (ns.map WData.int)]∧h.get? a=some { cls:=.type "list", data:=.seq vs.toArray }∧IntsAre vs ns∧ns.length≤n:=by
 have hsh:WShape.hasAll [] args [.list .int]=true:=(pre_splitW hpre).1
 have hc:l.pre.holds [] { args:=args }=true:=(pre_splitW hpre).2
 obtain ⟨d,r,rfl,h1,h2⟩:=hasAllW_cons hsh
 obtain rfl:=hasAllW_nil h2
 obtain ⟨xs,rfl,h3⟩:=hasW_list h1
 obtain ⟨ns,rfl⟩:=items_int h3
 have hlen:ns.length≤n:=by
  unfold OpenLaw.pre at hc
  have h4:(WTm.not (.lt (.lit (.int (n:Int))) (.len (.arg 0)))).holds [] { args:=[.list (ns.map .int)] }=true:=by
   have h4:=(holds_andW hc).1
   rw [hn] at h4
   exact h4
  have h5:=condW_of h4 (w_not (w_lt w_lit (w_len_list (w_arg rfl))))
  rw [List.length_map] at h5
  refine Nat.le_of_not_lt fun q=>?_
  have q':(n:Int) < ((ns.length:Nat):Int):=by lia
  first
   | (rw [decide_eq_true q'] at h5;exact absurd h5 (by decide))
   | (simp at h5;lia)
 cases hwl with
 | cons w1 w2 =>
  cases w2
  cases w1 with
  | list ho hall=>exact ⟨_,_,ns,rfl,rfl,ho,rQ ns _ hall,hlen⟩
theorem KC (l:OpenLaw) (args:List WData):l.row.toRowW.claim.post args (.bool true) args=true :=
 postW_of (r:=l.row.toRowW) (X:=(true == true))
  (show WShape.has [] (.bool true) .bool=true by first | rfl | decide | simp [WShape.has,WShape.arms,WShape.armsAll])
  (show (WTm.eq .res (.lit (.bool true))).value [] { args:=args,res:=some (.bool true),after:=args }=some (.bool (true == true)) from w_eq_bool (w_res rfl) w_lit) rfl
theorem BL {l:OpenLaw} {n:Nat} {q:Program} {loose:List Str} {XP:(Str→Option Value)→Heap→Prop} {YP:World→Heap→Prop} {d:DefRec}
  (hn:l.most=some n) (hdf:d.params.defaults=[])
  (call:∀(w:World) (s₀ s₁:Shared) (mg mb:Str→Option Value) (fa:Addr) (o:Obj) (pm cd doc:Value) (a:Addr) (vs:List Value) (ns:List Int),
   Ground q loose [] XP w s₀ mg mb s₁.heap→YP w s₁.heap →
   s₁.heap.get? fa=some o→o.data=.func (docDef d.name d.params d.body d.scope pm cd doc)→s₁.heap.CodeRec cd d.name→mg d.name=some (.ref fa) →
   s₁.heap.get? a=some { cls:=.type "list", data:=.seq vs.toArray }→IntsAre vs ns→ns.length≤n→s₁.gens=#[] →
   codeAny (model l.prog w) callerA (.call (.ref fa) ⟨[.ref a],[]⟩) (fun r s'=>r=.ok (.ret (.bool true))∧OldK s₁.heap s'.heap∧s'.os=s₁.os∧AllBare s'.gens) s₁) :
  WalkO q loose XP YP l.row.toRowW d [] (fun f vs=>PySem.call f vs):=by
 intro w s₀ s₁ mg mb G Y fa o pm cd doc dV kV ho hd hcd hD hmg hg args vals as hpre hlay hrd hwl hlo
 obtain rfl:dV=.none:=Dflts.none hD hdf
 obtain rfl:kV=.none:=Dflts.noKw hD
 obtain ⟨a,vs,ns,rfl,rfl,hobj,hints,hlen⟩:=Kz hn hpre hwl
 refine enter_call (codeAny_mono (call w s₀ s₁ mg mb fa o pm cd doc a vs ns G Y ho (fd_plain hd) hcd hmg hobj hints hlen hg) fun r s' hq=>?_)
 obtain ⟨rfl,h2,h3,h4⟩:=hq
 exact ⟨.inl ⟨.bool true,.bool true,[],rfl,fun _=>rfl,.bool true,KC l _,fun _=>⟨List.Pairwise.nil,fun _ hm=>(nomatch hm)⟩⟩,h2,h3,h4⟩
end Att
namespace L2
open PySem PySem.Spec PyProof.Rows
theorem wZ:∀{vs:List Value} {ns:List Int},IntsAre vs ns→Vals (ns.map V.int) vs
 | _,_,.nil=>.nil
 | _,_,.cons n t h=>.cons ⟨t,rfl⟩ (wZ h)
def inClass (s:Stmt) (j:Nat):Stmt:=match s with
 | .ClassDef _ _ _ body _ _ _ _ _ _ _=>body.getD j (.Pass ⟨0,0,0,0⟩)
 | _=>.Pass ⟨0,0,0,0⟩
def eX (s:Stmt):Arguments:=match s with
 | .FunctionDef _ a _ _ _ _ _ _ _ _=>a
 | _=>{ posonlyargs:=[],args:=[],vararg:=none,kwonlyargs:=[],kw_defaults:=[],kwarg:=none,defaults:=[] }
def dH (s:Stmt):List Stmt:=match s with
 | .FunctionDef _ _ b _ _ _ _ _ _ _=>b
 | _=>[]
def aH (s:Stmt):Scope:=match s with
 | .FunctionDef _ _ _ _ _ _ sc _ _ _=>sc
 | _=>{ kind:=.function,names:=[],isGenerator:=false,isCoroutine:=false }
abbrev CX0:CXT:=fun _ _ _ _ _ _=>False
abbrev E0:XK:=fun _ _ _=>False
theorem HN {X:Cx}:Passes CX0 X E0:=fun _ _ _ _ _ _ _ h=>h.elim
structure Fun (K:W.Frag) (x qual:Str) (st:Stmt) (f:Addr) (fd:FuncData):Prop where
 ex:∃(oc:Value) (od:Option Addr) (kV doc pm:Value) (an:Option Addr) (cdv ct:Value) (osl:Array (Option Value)),
  fd=W.fnOf x qual (eX st) (dH st) (aH st) .none kV doc pm an cdv ct∧K.lookup f=some ⟨oc,od,.func fd,osl⟩∧W.codeIn K cdv qual=true
 kp:W.keepIn K (.ref f)=true
section
variable {P:Program} {w:World} {K:W.Frag} {mg:Str→Option Value} {base:Heap}
theorem Fun.ok {x qual:Str} {st:Stmt} {f:Addr} {fd:FuncData} {N ps:List Str} {k:Nat} {sp:Sp} (F:Fun K x qual st f fd) (S:aU N ps (aH st)) (len:∀vs H Q E,sp vs H Q E→vs.length=ps.length)
  (hbody:∀(cdv:Value) (A:Around) (outer:List Env) (s:Shared) (H:Hp) (vs:List V) (Q:VK) (E:XK),Room k (A.deeper (envOfC qual (aH st) s.heap.objs.size f cdv))→sp vs H Q E →
   ∃t,PSs (rP CX0 P w K mg base N qual (aH st) f cdv A outer s H E).nox (dH st) t∧t { nx:=fun _ H'=>Q .non H',rt:=Q } (start N vs) H):i_ P w K mg base CX0 (k + 1) f fd ps sp:=by
 obtain ⟨oc,od,kV,doc,pm,an,cdv,ct,osl,rfl,lk,hcd⟩:=F.ex
 refine Bx lk hcd S len fun A outer s H vs Q E hr hsp=>?_
 obtain ⟨t,h,q⟩:=hbody cdv A outer s H vs Q E hr hsp
 exact ⟨t,h.nox,q⟩
theorem Fun.binds {x qual:Str} {st:Stmt} {f:Addr} {fd:FuncData} {ps:List Str} (F:Fun K x qual st f fd)
  (h:∀(kV doc pm:Value) (an:Option Addr) (cdv ct:Value) (us:List Value),us.length=ps.length→bindArgs (W.fnOf x qual (eX st) (dH st) (aH st) .none kV doc pm an cdv ct) ⟨us,[]⟩=pure (ps.zip us)):Binds K fd ps []:=by
 obtain ⟨oc,od,kV,doc,pm,an,cdv,ct,osl,rfl,lk,hcd⟩:=F.ex
 exact .all (h kV doc pm an cdv ct)
theorem pP {x qual:Str} {st:Stmt} {f:Addr} {oc:Value} {od an:Option Addr} {osl:Array (Option Value)} {kV doc pm cdv ct:Value} (l:K.lookup f=some ⟨oc,od,.func (W.fnOf x qual (eX st) (dH st) (aH st) .none kV doc pm an cdv ct),osl⟩)
  (c:W.codeIn K cdv qual=true) (k:W.keepIn K (.ref f)=true):Fun K x qual st f (W.fnOf x qual (eX st) (dH st) (aH st) .none kV doc pm an cdv ct):=⟨⟨oc,od,kV,doc,pm,an,cdv,ct,osl,rfl,l,c⟩,k⟩
end
section
variable {X:Cx}
theorem pv (i:Nat) {x:Str} {pos:Pos} (hN:X.N[i]?=some x:=by rfl) (hv:Vis X.env.scope x:=by first | exact Or.inl rfl | exact Or.inr (Or.inl rfl) | exact Or.inr (Or.inr rfl)) (hd:(x == ("__debug__" : Str))=false:=by decide)
  (hcd:(x == ("__classdict__" : Str))=false:=by decide):PE X (.Name x pos) (eG i):=VD hN hv hd hcd
end
theorem Zy {A B:Prop} (h:B):if false=true then A else B:=by
 rw [if_neg Bool.false_ne_true]
 exact h
theorem Zz {A B:Prop} (h:A):if true=true then A else B:=by
 rw [if_pos rfl]
 exact h
def Same (H H':Hp):Prop:=∀b o,H b=some o→H' b=some o
theorem Same.refl (H:Hp):Same H H:=fun _ _ h=>h
theorem Same.trans {H H1 H2:Hp} (a:Same H H1) (b:Same H1 H2):Same H H2:=fun c o h=>b c o (a c o h)
theorem Same.free {H H':Hp} (e:Same H H') {l:Addr} (h:H' l=Option.none):H l=Option.none:=by
 cases q:H l with
 | none=>rfl
 | some o =>
  rw [e l o q] at h
  cases h
theorem Same.seq {K:W.Frag} {H H':Hp} {a:Addr} {xs:List V} (e:Same H H') (h:SqL K H a xs):SqL K H' a xs:=by
 rcases h with (h | ⟨o,h⟩) | h
 ·exact .inl (.inl (e _ _ h))
 ·exact .inl (.inr ⟨o,e _ _ h⟩)
 ·exact .inr h
section
variable {κ:Type} [DecidableEq κ]
def tY (kvs:List (κ×V)) (k:κ):Option V:=(kvs.find? fun kv=>decide (kv.1=k)).map (·.2)
def putK (kvs:List (κ×V)) (k:κ) (v:V):List (κ×V) :=
 if (kvs.any fun kv=>decide (kv.1=k))=true then kvs.map (fun kv=>if kv.1=k then (kv.1,v) else kv) else kvs++[(k,v)]
def U8 (kvs:List (κ×V)) (k:κ):List (κ×V):=kvs.filter fun kv=>decide (kv.1≠k)
theorem BP {p:κ×V} {r:List (κ×V)} {k:κ} (e:p.1=k):tY (p::r) k=some p.2:=by simp [tY,List.find?_cons,e]
theorem BR {p:κ×V} {r:List (κ×V)} {k:κ} (e:¬ p.1=k):tY (p::r) k=tY r k:=by simp [tY,List.find?_cons,e]
theorem mL.getD {o:Option V} {u:Option Value} {d:V} {d':Value} (r:mL o u) (rd:RelV d d'):RelV (o.getD d) (u.getD d'):=by
 cases o with
 | none=>cases u with
  | none=>exact rd
  | some _=>exact (show False from r).elim
 | some _=>cases u with
  | none=>exact (show False from r).elim
  | some _=>exact r
theorem KV.val {kvs:List (κ×V)} {vs:List (κ×Value)} (r:KV kvs vs) (k:κ):mL (tY kvs k) (valueAt vs k):=by
 unfold KV at r
 induction r with
 | nil=>exact True.intro
 | @cons p q ps qs h t ih =>
  obtain ⟨h1,h2⟩:=h
  by_cases e:p.1=k
  ·have e':q.1=k:=h1.symm.trans e
   have b:valueAt (q::qs) k=some q.2:=by simp [valueAt,List.find?_cons,e']
   rw [BP e,b];exact h2
  ·have e':¬ q.1=k:=fun z=>e (h1.trans z)
   have b:valueAt (q::qs) k=valueAt qs k:=by simp [valueAt,List.find?_cons,e']
   rw [BR e,b];exact ih
theorem KV.any {kvs:List (κ×V)} {vs:List (κ×Value)} (r:KV kvs vs) (k:κ):(kvs.any fun kv=>decide (kv.1=k))=vs.any fun kv=>decide (kv.1=k):=by
 unfold KV at r
 induction r with
 | nil=>rfl
 | cons h t ih=>rw [List.any_cons,List.any_cons,ih,h.1]
theorem KV.drop {kvs:List (κ×V)} {vs:List (κ×Value)} (r:KV kvs vs) (k:κ):KV (U8 kvs k) (without vs k):=by
 unfold KV at r ⊢
 unfold U8 without
 induction r with
 | nil=>exact .nil
 | @cons p q ps qs h t ih =>
  obtain ⟨h1,h2⟩:=h
  rw [List.filter_cons,List.filter_cons]
  by_cases e:p.1=k
  ·have a:¬ decide (p.1≠k)=true:=by simp [e]
   have b:¬ decide (q.1≠k)=true:=by simp [h1.symm.trans e]
   rw [if_neg a,if_neg b];exact ih
  ·have e':¬ q.1=k:=fun z=>e (h1.trans z)
   have a:decide (p.1≠k)=true:=by simp [e]
   have b:decide (q.1≠k)=true:=by simp [e']
   rw [if_pos a,if_pos b];exact .cons ⟨h1,h2⟩ ih
theorem KV.keys {kvs:List (κ×V)} {vs:List (κ×Value)} (r:KV kvs vs):kvs.map (·.1)=vs.map (·.1):=by
 unfold KV at r
 induction r with
 | nil=>rfl
 | cons h t ih=>rw [List.map_cons,List.map_cons,ih,h.1]
theorem KV.length {kvs:List (κ×V)} {vs:List (κ×Value)} (r:KV kvs vs):kvs.length=vs.length:=Paired.length r
end
abbrev KT (H:Hp):List (List Key×V)→List (List Key×Addr×Value)→Prop:=Paired fun p q=>p.1=q.1∧H q.2.1=some (.tup (p.1.map kV))∧RelV p.2 q.2.2
theorem KT.val {H:Hp} {kvs:List (List Key×V)} {xs:List (List Key×Addr×Value)} (r:KT H kvs xs) (k:List Key):mL (tY kvs k) ((atKey xs k).map (·.2)):=by
 induction r with
 | nil=>exact True.intro
 | @cons p q ps qs h t ih =>
  obtain ⟨h1,_,h2⟩:=h
  by_cases e:p.1=k
  ·have e':q.1=k:=h1.symm.trans e
   have b:atKey (q::qs) k=some q.2:=by simp [atKey,List.find?_cons,e']
   rw [BP e,b];exact h2
  ·have e':¬ q.1=k:=fun z=>e (h1.trans z)
   have b:atKey (q::qs) k=atKey qs k:=by simp [atKey,List.find?_cons,e']
   rw [BR e,b];exact ih
def R6 (H:Hp) (a:Addr) (y:V) (r:Option V):Prop :=
 (∃kvs k,Rd H a (.dK kvs)∧y=kV k∧r=tY kvs k)∨∃kvs k b,Rd H a (.dT kvs)∧y=.ref b∧H b=some (.tup (k.map kV))∧r=tY kvs k
def R7 (H:Hp) (a:Addr) (y v:V) (H':Hp):Prop :=
 (∃kvs k,H a=some (.dK kvs)∧y=kV k∧kvs.length < sizeLine∧H'=upd H a (.dK (putK kvs k v))) ∨
 ∃kvs k b,H a=some (.dT kvs)∧y=.ref b∧H b=some (.tup (k.map kV))∧kvs.length < sizeLine∧H'=upd H a (.dT (putK kvs k v))
theorem R6.k {H:Hp} {a:Addr} {kvs:List (Key×V)} {k:Key} (e:H a=some (.dK kvs)):R6 H a (kV k) (tY kvs k):=.inl ⟨kvs,k,.inl e,rfl,rfl⟩
theorem R6.t {H:Hp} {a b:Addr} {kvs:List (List Key×V)} {k:List Key} (e:H a=some (.dT kvs)) (eb:H b=some (.tup (k.map kV))):R6 H a (.ref b) (tY kvs k):=.inr ⟨kvs,k,b,.inl e,rfl,eb,rfl⟩
theorem R7.k {H:Hp} {a:Addr} {kvs:List (Key×V)} {k:Key} {v:V} (e:H a=some (.dK kvs)) (hl:kvs.length < sizeLine):R7 H a (kV k) v (upd H a (.dK (putK kvs k v))):=.inl ⟨kvs,k,e,rfl,hl,rfl⟩
theorem R7.t {H:Hp} {a b:Addr} {kvs:List (List Key×V)} {k:List Key} {v:V} (e:H a=some (.dT kvs)) (eb:H b=some (.tup (k.map kV))) (hl:kvs.length < sizeLine) :
  R7 H a (.ref b) v (upd H a (.dT (putK kvs k v))):=.inr ⟨kvs,k,b,e,rfl,eb,hl,rfl⟩
end L2
set_option maxHeartbeats 4000000
namespace L2
open PySem PySem.Spec PyProof.Rows
section
variable {P:Program} {w:World} {K:W.Frag} {mg:Str→Option Value} {base:Heap} {CX:CXT} {x:Str} {ps:List Str} {sp:Sp} {j k:Nat}
structure Def (P:Program) (w:World) (K:W.Frag) (mg:Str→Option Value) (base:Heap) (CX:CXT) (k:Nat) (x:Str) (ps:List Str) (sp:Sp):Prop where
 ex:∃(f:Addr) (fd:FuncData),i_ P w K mg base CX k f fd ps sp∧mg x=some (.ref f)∧W.keepIn K (.ref f)=true∧Binds K fd ps []
def HasDef (K:W.Frag) (mg:Str→Option Value) (x:Str) (st:Stmt):Prop:=∃(f:Addr) (fd:FuncData),Fun K x x st f fd∧mg x=some (.ref f)
theorem HasDef.mk {st:Stmt} {f:Addr} {oc:Value} {od an:Option Addr} {osl:Array (Option Value)} {kV doc pm cdv ct:Value} (m:mg x=some (.ref f))
  (l:K.lookup f=some ⟨oc,od,.func (W.fnOf x x (eX st) (dH st) (aH st) .none kV doc pm an cdv ct),osl⟩)
  (c:W.codeIn K cdv x=true) (k:W.keepIn K (.ref f)=true):HasDef K mg x st:=⟨f,_,pP l c k,m⟩
theorem bU {st:Stmt} {N:List Str} (h:HasDef K mg x st) (S:aU N ps (aH st)) (len:∀vs H Q E,sp vs H Q E→vs.length=ps.length)
  (hb:∀(kV doc pm:Value) (an:Option Addr) (cdv ct:Value) (us:List Value),us.length=ps.length→bindArgs (W.fnOf x x (eX st) (dH st) (aH st) .none kV doc pm an cdv ct) ⟨us,[]⟩=pure (ps.zip us))
  (hbody:∀(f:Addr) (cdv:Value) (A:Around) (outer:List Env) (s:Shared) (H:Hp) (vs:List V) (Q:VK) (E:XK),Room k (A.deeper (envOfC x (aH st) s.heap.objs.size f cdv))→sp vs H Q E →
   ∃t,PSs (rP CX P w K mg base N x (aH st) f cdv A outer s H E).nox (dH st) t∧t { nx:=fun _ H'=>Q .non H',rt:=Q } (start N vs) H):Def P w K mg base CX (k + 1) x ps sp:=by
 obtain ⟨f,fd,F,m⟩:=h
 refine ⟨f,fd,?_,m,F.kp,F.binds hb⟩
 obtain ⟨oc,od,kV,doc,pm,an,cdv,ct,osl,rfl,lk,hcd⟩:=F.ex
 refine Bx lk hcd S len fun A outer s H vs Q E hr hsp=>?_
 obtain ⟨t,h,q⟩:=hbody f cdv A outer s H vs Q E hr hsp
 exact ⟨t,h.nox,q⟩
end
section
variable {X:Cx} {CX:CXT} {k m:Nat} {x:Str} {ps:List Str} {sp:Sp} {E:XK} {p pos:Pos} {e:Expr} {es:List Expr} {t:TA}
theorem aM (D:Def X.prog X.w X.K X.mg X.base CX k x ps sp) (hr:Room m X.A) (ha:PA X (e::es) t) (hk:k≤m:=by decide) (hx:Passes CX X E:=by exact HN) (hg:Gl X x:=by rfl)
  (hdb:(x == ("__debug__" : Str))=false:=by decide) (he:starEach (e::es) X.env=(false,eval e X.env)::starEach es X.env:=by rfl) (hpl:(backTo pos (starEach es X.env)).any (·.1)=false:=by rfl) :
  PE X (.Call (.Name x p) (e::es) [] pos) (HD sp [] E t):=by
 obtain ⟨f,fd,F,hm,kp,b⟩:=D.ex
 exact RT F (hr.mono hk) hg hm kp b .nil hx ha hdb he hpl
end
def mU (mg:Str→Option Value) (x:Str) (v:V):Prop:=∃u,mg x=some u∧RelV v u
theorem jm {X:Cx} {x:Str} {v:V} {pos:Pos} (h:mU X.mg x v) (hg:Gl X x:=by rfl) (hd:(x == ("__debug__" : Str))=false:=by decide):PE X (.Name x pos) (tC v) :=
 let ⟨_,e,r⟩:=h
 RK hg e r hd
section
variable {X:Cx} {T:String} {pos:Pos}
theorem jo {x:Str} (hg:Gl X x) (hm:X.mg x=none) (hv:bootBuiltins x=some (.type T)) (hn:x ≠ "__name__" := by decide) (hd:(x == ("__debug__" : Str))=false:=by decide):PE X (.Name x pos) (tC (.ty T)) :=
 RL hg hm hv rfl hn hd
def qW (K:W.Frag) (t:Value):V→Option Bool
 | .ty T=>W.kitOne K t (.type T)
 | .ref C=>W.kitOne K t (.ref C)
 | _=>none
theorem call_isinstance:fu X (.builtin "isinstance") (fun xs H Q=>∃x c t b,xs=[x,c]∧eF X.K H x t∧qW X.K t c=some b∧Q (.bl b) H):=by
 intro pins s σ H xs us Q I r h
 obtain ⟨x,c,t,b,rfl,ty,e,q⟩:=h
 obtain ⟨u,v,rfl,ru,rv⟩:=vals2 r
 cases c with
 | ty T =>
  obtain rfl:v=Value.type T:=rv
  exact wN I ru ty e fun tk=>⟨.bl b,H,I.tok _,rfl,q⟩
 | ref C =>
  obtain rfl:v=Value.ref C:=rv
  exact wN I ru ty e fun tk=>⟨.bl b,H,I.tok _,rfl,q⟩
 | _=>cases e
end
section
variable {X:Cx}
theorem tZ:∀{bs:List Bool} {us:List Value},Vals (bs.map V.bl) us→LSm.BoolsAre us bs
 | [],_,.nil=>.nil
 | b::bs,_,.cons r t=>by
  cases (show _=Value.bool b from r)
  exact .cons b (tZ t)
theorem BW (hc:X.calm=true):fu X (.builtin "all") (fun xs H Q=>∃(p:Addr) (bs:List Bool),xs=[.ref p]∧SqL X.K H p (bs.map V.bl)∧Q (.bl (bs.all id)) H):=by
 intro pins s σ H xs us Q I r h
 obtain ⟨p,bs,rfl,hq,q⟩:=h
 obtain ⟨u,rfl,rx⟩:=vals1 r
 cases rx
 obtain ⟨its,rv,pl,hz⟩:=I.list hq
 have hb:=tZ rv
 have hl:=pl.isList
 have hlt:p < s.heap.objs.size:=by obtain ⟨_,e,_⟩:=hl;exact Heap.lt_size e
 refine call_all_walk (wpAny_pyIter_list hl ?_)
 refine ⟨s.heap.objs.size,[s.heap.objs.size,p],[s.heap.objs.size],its.toArray.size,_,_,fun i=>(bs[i]?).getD true,rfl,Walks.list (A:=X.A.in1) (I.ok.hd hc) _ p (Nat.ne_of_lt hlt) its.toArray,
  ⟨⟨_,Heap.get?_push_size _ rfl,rfl,rfl⟩,hl.push _⟩,fun i v s' Q' E' hP hQ=>?_,fun h' tk hk=>?_⟩
 ·obtain ⟨b,e,rfl⟩:=hb.get i v (by simpa using hP)
  simp only [e,Option.getD_some] at hQ
  exact wpAny_truthy_bool hQ
 ·have e:((List.range its.toArray.size).all fun i=>(bs[i]?).getD true)=bs.all id:=by
   rw [List.size_toArray,hb.length];exact LSm.range_all bs
  rw [e]
  exact ⟨.bl _,H,I.kept (LSm.kept_iter hk),rfl,q⟩
end
section
variable {X:Cx}
theorem Gh:OpR X (compareOp .In) (fun x y H Q=>∃c j,x=.str ⟨#[c]⟩∧y=.str j∧Q (.bl (decide (c∈j.cps.toList))) H):=by
 intro pins s σ H x y v u Q I rx ry h
 obtain ⟨c,j,rfl,rfl,q⟩:=h
 obtain ⟨t,rfl⟩:=rx
 obtain ⟨t',rfl⟩:=ry
 exact in_str (cI I q (PySem.StrLaws.found_one j c).symm)
def Its (z:Str):It:=⟨fun i _=>i < z.cps.size,fun i H x H'=>H'=H∧∃c,z.cps[i]?=some c∧x=.str ⟨#[c]⟩,fun i _=>z.cps.size≤i⟩
section
variable {P:Program} {w:World} {K:W.Frag} {tg:Expr}
theorem KD (it:Addr) (z:Str) (t:Tok):Turn P w K tg (Its z) [it] it (fun i h=>h.IsStrIter it "str_ascii_iterator" z t i) where
 mem:=by simp
 obj:=fun i h st b hb=>by
  have e:b=it:=by simpa using hb
  subst e
  obtain ⟨o,e,c,d⟩:=st
  exact ⟨o,e,fun v z=>by rw [d] at z;cases z⟩
 keep:=fun i h h' st k=>let ⟨o,e,r⟩:=st;⟨o,k it (by simp) o e,r⟩
 item:=by
  intro X hP hw hK hc i pins s σ H E I hf st hg
  subst hP hw hK
  obtain ⟨f0,f1,f2,f3,f4,f5⟩:=hf it (by simp)
  have hi:i < z.cps.size:=hg
  refine wpAny_pyNext_ascii_item st (c:=z.cps[i]) (by simp [hi]) fun h' st' sb=>?_
  have I1:Inv X pins σ H { s with heap:=h',toks:=s.toks + 1 }:=I.turned (fun b o hb e=>sb.extBut b o hb e) f0 f1 f3 f4 f5
  obtain ⟨o,e,c,d⟩:=id st'
  exact ⟨_,rfl,Bq (s:={ s with heap:=h',toks:=s.toks + 1 }) e c d (by decide) ⟨.str ⟨#[z.cps[i]]⟩,H,I1,⟨_,rfl⟩,⟨rfl,z.cps[i],by simp [hi],rfl⟩,st',fun b hb=>(hf b hb).1⟩⟩
 done:=by
  intro X hP hw hK hc i pins s σ H E I hf st hg
  subst hP hw hK
  obtain ⟨f0,f1,f2,f3,f4,f5⟩:=hf it (by simp)
  have hi:z.cps.size≤i:=hg
  exact wpAny_pyNext_ascii_end (I.ok.hd hc) st (by simp [hi]) fun h' eb=>⟨rfl,I.turned (t':=s.toks) (fun b o hb e=>eb b o hb e) f0 f1 f3 f4 f5⟩
 self:=fun _ _ _ _ _ st h=>wpAny_pyIter_striter_ascii st h
theorem KH (it:Addr) (z:Str) (t:Tok):Turn P w K tg (Its z) [it] it (fun i h=>h.IsStrIter it "str_iterator" z t i) where
 mem:=by simp
 obj:=fun i h st b hb=>by
  have e:b=it:=by simpa using hb
  subst e
  obtain ⟨o,e,c,d⟩:=st
  exact ⟨o,e,fun v z=>by rw [d] at z;cases z⟩
 keep:=fun i h h' st k=>let ⟨o,e,r⟩:=st;⟨o,k it (by simp) o e,r⟩
 item:=by
  intro X hP hw hK hc i pins s σ H E I hf st hg
  subst hP hw hK
  obtain ⟨f0,f1,f2,f3,f4,f5⟩:=hf it (by simp)
  have hi:i < z.cps.size:=hg
  refine wpAny_pyNext_wide_item st (c:=z.cps[i]) (by simp [hi]) fun h' st' sb=>?_
  have I1:Inv X pins σ H { s with heap:=h',toks:=s.toks + 1 }:=I.turned (fun b o hb e=>sb.extBut b o hb e) f0 f1 f3 f4 f5
  obtain ⟨o,e,c,d⟩:=id st'
  exact ⟨_,rfl,Bq (s:={ s with heap:=h',toks:=s.toks + 1 }) e c d (by decide) ⟨.str ⟨#[z.cps[i]]⟩,H,I1,⟨_,rfl⟩,⟨rfl,z.cps[i],by simp [hi],rfl⟩,st',fun b hb=>(hf b hb).1⟩⟩
 done:=by
  intro X hP hw hK hc i pins s σ H E I hf st hg
  subst hP hw hK
  obtain ⟨f0,f1,f2,f3,f4,f5⟩:=hf it (by simp)
  have hi:z.cps.size≤i:=hg
  exact wpAny_pyNext_wide_end (I.ok.hd hc) st (by simp [hi]) fun h' eb=>⟨rfl,I.turned (t':=s.toks) (fun b o hb e=>eb b o hb e) f0 f1 f3 f4 f5⟩
 self:=fun _ _ _ _ _ st h=>wpAny_pyIter_striter_wide st h
end
def ZC (tl:TE):TI:=fun σ H R=>tl σ H fun x H1=>∃z,x=.str z∧R (Its z) H1
theorem Wd {tg l:Expr} {tl:TE} (hl:PE X l tl):PI X tg l (ZC tl):=by
 intro pins s σ H R I h
 refine thn (hl pins s σ H _ I h) fun v s1 ⟨x,H1,I1,r1,q1⟩=>?_
 obtain ⟨z,e,q⟩:=q1
 subst e
 obtain ⟨t,rfl⟩:=r1
 have fp:∀(b:Addr),b∈[s1.heap.objs.size]→jl X pins H1 b:=fun b hb=>by
  have e:b=s1.heap.objs.size:=by simpa using hb
  subst e
  exact I1.Fz (Nat.le_refl _) (I1.hok.fresh (Nat.le_refl _))
 cases ha:z.cps.all (· < 128)
 ·exact wpAny_pyIter_wide ha ⟨s1.heap.objs.size,[s1.heap.objs.size],_,_,H1,rfl,I1.kept (t':=s1.toks) fun b o e=>Heap.get?_push_of_some _ e,KH _ z t,⟨_,Heap.get?_push_size _ rfl,rfl,rfl⟩,fp,q⟩
 ·exact wpAny_pyIter_ascii ha ⟨s1.heap.objs.size,[s1.heap.objs.size],_,_,H1,rfl,I1.kept (t':=s1.toks) fun b o e=>Heap.get?_push_of_some _ e,KD _ z t,⟨_,Heap.get?_push_size _ rfl,rfl,rfl⟩,fp,q⟩
end
def eE (env:Env):List (Str×NameKind)→Option (List (Str×Addr))
 | []=>some []
 | (n,k)::r=>if k=.free then (env.cells.lookup n).bind fun c=>(eE env r).map fun cl=>cl++[(n,c)] else eE env r
theorem jc {env:Env}:∀{names:List (Str×NameKind)} {cl:List (Str×Addr)},eE env names=some cl→∀x c,cl.lookup x=some c→env.cells.lookup x=some c
 | [],cl,h,x,c,e=>by
  cases (Option.some.inj h)
  cases e
 | (n,k)::r,cl,h,x,c,e=>by
  unfold eE at h
  by_cases hk:k=.free
  ·rw [if_pos hk] at h
   cases hc:env.cells.lookup n with
   | none=>rw [hc] at h;cases h
   | some c' =>
    rw [hc] at h
    have h:(eE env r).map (fun cl=>cl++[(n,c')])=some cl:=h
    cases hr:eE env r with
    | none=>rw [hr] at h;cases h
    | some cl' =>
     rw [hr] at h
     have h:cl'++[(n,c')]=cl:=Option.some.inj h
     subst h
     rw [List.lookup_append] at e
     cases h2:cl'.lookup x with
     | some c2 =>
      rw [h2] at e
      have e:c2=c:=by simpa using e
      subst e
      exact jc hr x c2 h2
     | none =>
      rw [h2] at e
      have e:List.lookup x [(n,c')]=some c:=by simpa using e
      by_cases hx:x=n
      ·subst hx
       have:c'=c:=by simpa using e
       subst this
       exact hc
      ·have hb:(x == n)=false:=by simpa using hx
       simp [List.lookup_cons,hb] at e
  ·rw [if_neg hk] at h
   exact jc h x c e
theorem jd {env:Env}:∀(names:List (Str×NameKind)) (acc cl:List (Str×Addr)),eE env names=some cl →
  (forIn (m:=Sem) names acc fun x c=>if x.2 == NameKind.free then (do let a ← cellOf env x.1;pure (ForInStep.yield ((x.1,a)::c))) else pure (ForInStep.yield c))=pure (cl++acc)
 | [],acc,cl,h=>by
  cases (Option.some.inj h)
  rfl
 | (n,k)::r,acc,cl,h=>by
  unfold eE at h
  rw [List.forIn_cons]
  by_cases hk:k=.free
  ·rw [if_pos hk] at h
   cases hc:env.cells.lookup n with
   | none=>rw [hc] at h;cases h
   | some c' =>
    rw [hc] at h
    have h:(eE env r).map (fun cl=>cl++[(n,c')])=some cl:=h
    cases hr:eE env r with
    | none=>rw [hr] at h;cases h
    | some cl' =>
     rw [hr] at h
     have h:cl'++[(n,c')]=cl:=Option.some.inj h
     subst h
     have hb:(k == NameKind.free)=true:=by simpa using hk
     have:=jd r ((n,c')::acc) cl' hr
     have ec:cellOf env n=pure c':=by unfold cellOf;rw [hc]
     simp only [hb,if_true,ec,pure_bind,bind_assoc]
     rw [this]
     simp
  ·rw [if_neg hk] at h
   have hb:(k == NameKind.free)=false:=by simpa using hk
   have:=jd r acc cl h
   simp only [hb,Bool.false_eq_true,if_false,pure_bind]
   exact this
theorem mG {env:Env} {scope:Scope} {cl:List (Str×Addr)} (h:eE env scope.names=some cl):closureFor scope env=pure cl:=by
 have:=jd scope.names [] cl h
 rw [List.append_nil] at this
 have key:closureFor scope env=(forIn (m:=Sem) scope.names ([]:List (Str×Addr)) fun x c=>if x.2 == NameKind.free then (do let a ← cellOf env x.1;pure (ForInStep.yield ((x.1,a)::c))) else pure (ForInStep.yield c)) >>= fun cs=>pure cs:=by
  unfold closureFor
  rfl
 rw [key,this]
 rfl
theorem KJ {prog:Program} {w:World} {A:Around} {R:Result→Shared→Prop} {s:Shared} {elt target iter:Expr} {ifs:List Expr} {scope:Scope} {pos:Pos} {it acc:Value} {env:Env} (I:Nat→Shared→Prop)
  (turn:∀n s,I n s→wpAny (model prog w) A (pyNext it) (fun r s₁=>match r with
   | none=>R (.ok .next) s₁
   | some v=>wpAny (model prog w) A (letOwnedTupleGo target it v) (fun _ s₀=>wpAny (model prog w) A (assign target env v) (fun _ s₂ =>
     wpAny (model prog w) A (forIn ifs true fun c r=>if r=true then do let ok ← isTrue c env (eval c env);pure (ForInStep.yield ok) else pure (ForInStep.yield r)) (fun ok s₃ =>
      if ok=true then wpAny (model prog w) A (eval elt env) (fun x s₄ =>
       wpAny (model prog w) A (call (.builtin "list.append") [acc,x]) (fun _ s₅=>∃m,m < n∧I m s₅) (fun _ _=>False) s₄) (fun _ _=>False) s₃
      else ∃m,m < n∧I m s₃) (fun _ _=>False) s₂) (fun _ _=>False) s₀) (fun _ _=>False) s₁) (fun _ _=>False) s)
  (n:Nat) (h:I n s) :
  codeAny (model prog w) A (.compLoop (.ListComp elt [⟨target,iter,ifs,0⟩] scope pos) 0 it acc env) R s:=by
 refine codeAny_loop rfl I (fun n s hI=>?_) n h
 show wpAny _ A ((compTurn (.ListComp elt [⟨target,iter,ifs,0⟩] scope pos) 0 it acc env).onRaise (fun x=>do noteFrame x env;theTreesLotGoes x)) _ _ s
 refine wpAny_noted ?_
 rw [compTurn_list]
 refine wpAny_bind (wpAny_standAt (wpAny_bind (wpAny_mono (turn n s hI) (fun r s₁ h₁=>?_) fun _ _ h'=>h'.elim)))
 cases r with
 | none=>exact wpAny_pure h₁
 | some v =>
  refine wpAny_bind (wpAny_mono h₁ (fun _ s₀ h₀=>?_) fun _ _ h'=>h'.elim)
  refine wpAny_bind (wpAny_mono h₀ (fun _ s₂ h₂=>wpAny_bind (wpAny_mono h₂ (fun ok s₃ h₃=>?_) fun _ _ h'=>h'.elim)) fun _ _ h'=>h'.elim)
  cases ok with
  | false=>exact wpAny_pure ⟨rfl,h₃⟩
  | true =>
   exact wpAny_bind (wpAny_bind (wpAny_mono h₃ (fun x s₄ h₄=>wpAny_bind (wpAny_mono h₄ (fun _ s₅ h₅=>wpAny_pure (wpAny_pure ⟨rfl,h₅⟩)) fun _ _ h'=>h'.elim)) fun _ _ h'=>h'.elim))
def dX (X:Cx) (N:List Str) (scope:Scope) (cl:List (Str×Addr)) (pins:List (Addr×Obj)) (s:Shared) (H:Hp) (fp:List Addr):Cx where
 prog:=X.prog
 w:=X.w
 K:=X.K
 mg:=X.mg
 base:=X.base
 A:=X.A
 N:=N
 s₀:=s
 H₀:=H
 env:=compEnvC scope cl s.heap.objs.size X.env
 outer:=X.stack
 stack:=X.stack
 ex:=fp
 fn:=fun _=>false
 calm:=X.calm
 pn:=X.pn++pins
 xe:=fun _ _=>False
def eZ (nt:Nat) (fr:List Nat) (σ:St):St:=List.replicate nt none++fr.map fun i=>(σ[i]?).getD none
structure fB (X:Cx) (N:List Str) (nt:Nat) (fr:List Nat) (scope:Scope) (cl:List (Str×Addr)):Prop where
 len:N.length=nt + fr.length
 free:∀(j:Nat) (i:Nat) (x:Str),fr[j]?=some i→N[nt + j]?=some x→X.N[i]?=some x∧(∃c,cl.lookup x=some c)∧(X.env.kindOf x=some .cell∨X.env.kindOf x=some .free) ∧
  ((relabel scope X.env).names.lookup x=some .cell∨(relabel scope X.env).names.lookup x=some .free)
 cells:∀x c,cl.lookup x=some c→X.env.cells.lookup x=some c
 has:∀x,((relabel scope X.env).names.lookup x=some .cell∨(relabel scope X.env).names.lookup x=some .free)→∃c,cl.lookup x=some c
 kind:scope.kind=.function
theorem BX {X:Cx} {x:Str} (h:X.env.kindOf x=some .cell∨X.env.kindOf x=some .free):Vis X.env.scope x:=by
 rcases h with h | h
 ·exact .inr (.inl h)
 ·exact .inr (.inr h)
section
variable {X:Cx} {N:List Str} {nt:Nat} {fr:List Nat} {scope:Scope} {cl:List (Str×Addr)} {pins:List (Addr×Obj)} {σ:St} {H:Hp} {s:Shared} {fp:List Addr}
theorem R8 (I:Inv X pins σ H s) (cn:fB X N nt fr scope cl) (hf:∀b∈fp,jl X pins H b) (ho:∀b∈fp,b < s.heap.objs.size):(dX X N scope cl pins s H fp).Ok where
 mod:=I.mod
 kind:=cn.kind
 glob:=I.ok.glob
 blt:=I.ok.blt
 above:=Nat.le_refl _
 inj:=fun x y c h1 h2=>I.ok.inj x y c (cn.cells x c h1) (cn.cells y c h2)
 has:=fun x hx=>cn.has x hx
 cab:=fun x c h _=>by cases (show false=true from h)
 hd:=I.ok.hd
 frames:=I.ok.frames
 stk:=.inl rfl
 exf:=fun b hb=>⟨Nat.ne_of_lt (ho b hb),fun x c e=>(hf b hb).2.2.2.2.1 x c (cn.cells x c e)⟩
 bs:=I.bs
 bsz:=Nat.le_trans I.ok.bsz I.sz
 Kd:=fun b o e hb=>by
  rcases (hf b hb).2.2.2.1 with z | z
  ·exact I.ok.Kd b o e z
  ·exact absurd (Nat.lt_of_lt_of_le (Heap.lt_size e) (Nat.le_trans I.ok.bsz z)) (Nat.lt_irrefl _)
 Mg:=fun b hb z=>(List.mem_cons.mp (I.tE b z)).elim (fun e=>(hf b hb).2.1 e) fun e=>(hf b hb).2.2.1 e
 pL:=I.stack
 frf:=I.Ht
theorem M_ {h4:Heap} {t':Nat} (I:Inv X pins σ H s) (cn:fB X N nt fr scope cl) (hf:∀b∈fp,jl X pins H b) (ho:∀b∈fp,b < s.heap.objs.size)
  (k:∀b o,s.heap.get? b=some o→h4.get? b=some o) (hns:∃m,h4.Ns s.heap.objs.size m):Inv (dX X N scope cl pins s H fp) [] (eZ nt fr σ) H { s with heap:=h4,toks:=t' }:=by
 have ck:∀{c:Addr} {v:Option Value},s.heap.IsCell c v→h4.IsCell c v:=fun ⟨o,e,d⟩=>⟨o,k _ o e,d⟩
 refine ⟨R8 I cn hf ho,rfl,I.bare,Un.kept k,?_,fun x c e=>?_,?_,fun x c e=>?_,fun p hp=>?_,I.hok.kept k,?_⟩
 ·obtain ⟨m,hm⟩:=hns
  refine ⟨m,hm,fun i x v e1 e2 _=>?_⟩
  have e2:(eZ nt fr σ)[i]?=some (some v):=e2
  have e1:N[i]?=some x:=e1
  unfold eZ at e2
  by_cases hi:i < nt
  ·rw [List.getElem?_append_left (by simpa using hi),List.getElem?_replicate,if_pos hi] at e2
   cases e2
  ·obtain ⟨j,rfl⟩:∃j,i=nt + j:=⟨i - nt,by lia⟩
   rw [List.getElem?_append_right (by simp),List.length_replicate,Nat.add_sub_cancel_left,List.getElem?_map] at e2
   cases hj:fr[j]? with
   | none=>rw [hj] at e2;cases e2
   | some i' =>
    rw [hj] at e2
    have e2:(σ[i']?).getD none=some v:=Option.some.inj e2
    have e3:σ[i']?=some (some v):=by
     cases q:σ[i']? with
     | none=>rw [q] at e2;cases e2
     | some o=>rw [q] at e2;rw [show o=some v from e2]
    obtain ⟨hN,⟨c,hc⟩,hk,hk'⟩:=cn.free j i' x hj e1
    obtain ⟨m0,_,hl⟩:=I.loc
    obtain ⟨u,r,l⟩:=hl i' x v hN e3 (BX hk)
    refine ⟨u,r,.inr ⟨hk',c,hc,?_⟩⟩
    rcases l with ⟨hl',_⟩ | ⟨_,c',hc',hcell⟩
    ·rcases hk with z | z <;> (rw [hl'] at z;cases z)
    ·have hcc:=cn.cells x c hc
     rw [hc'] at hcc;cases hcc
     exact ck hcell
 ·obtain ⟨v,hv⟩:=I.cell x c (cn.cells x c e)
  exact ⟨v,ck hv⟩
 ·exact I.hok.fresh (Nat.le_refl _)
 ·exact I.mC x c (cn.cells x c e)
 ·have hp:p∈(X.pn++pins)++[]:=hp
  rw [List.append_nil] at hp
  obtain ⟨e,n,ne,nf,d⟩:=I.pin p hp
  exact ⟨k p.1 p.2 e,n,Nat.ne_of_lt (Heap.lt_size e),fun z=>(List.mem_cons.mp (I.tE p.1 z)).elim ne nf,d⟩
 ·show (eZ nt fr σ).length=N.length
  unfold eZ
  rw [cn.len,List.length_append,List.length_replicate,List.length_map]
theorem comp_back {H':Hp} {s1 s':Shared} {h':Heap} {σ':St} (I:Inv X pins σ H s) (hsz:s.heap.objs.size≤s1.heap.objs.size) (hos:s1.os=s.os) {H1:Hp} (hH:Un (frs X.stack) fp H H1 s.heap s1.heap)
  (hf:∀b∈fp,jl X pins H b)
  (J:Inv (dX X N scope cl pins s1 H1 fp) [] σ' H' s') (sb:Heap.SameBut s1.heap.objs.size s'.heap h'):Inv X pins σ H' { s' with heap:=h' }:=by
 have u:Un (frs X.stack) fp H H' s.heap s'.heap:=hH.trans J.base
 have lt:∀b o,s.heap.get? b=some o→b≠s1.heap.objs.size:=fun b o e=>Nat.ne_of_lt (Nat.lt_of_lt_of_le (Heap.lt_size e) hsz)
 have kk:∀b o,b≠s1.heap.objs.size→s'.heap.get? b=some o→h'.get? b=some o:=fun b o hb e=>sb.extBut b o hb e
 have u':Un (frs X.stack) fp H H' s.heap h':=⟨fun b o e n hb hx=>kk b o (lt b o e) (u.keep b o e n hb hx),fun b o e n hb hx=>let ⟨sl,z⟩:=u.slot b o e n hb hx;⟨sl,kk b _ (lt b o e) z⟩,u.free,
  fun b o e hx=>let ⟨o',z⟩:=u.there b o e hx;⟨o',kk b o' (lt b o e) z⟩,u.tups,u.pJ,u.pK⟩
 have nC:H' s1.heap.objs.size=none:=J.free
 refine I.call' (s':={ s' with heap:=h' }) (ch:=fp) (J.os.trans hos) u' (fun a o e=>?_) J.bare fun b hb=>⟨(hf b hb).2.2.2.1,(hf b hb).2.1,(hf b hb).2.2.2.2.1,(hf b hb).2.2.2.2.2⟩
 refine (J.hok a o e).stay (fun b v hb q=>kk b v ?_ q) (fun _ q=>q) fun _ _ q=>q
 rcases hb with z | z
 ·rintro rfl
  rw [← z,nC] at e;cases e
 ·rintro rfl
  rw [nC] at z;cases z
end
def dY (X:Cx) (N:List Str) (nt:Nat) (scope:Scope):List Nat→Nat→Bool
 | [],_=>true
 | i::r,j=>(match N[nt + j]? with
  | some x=>decide (X.N[i]?=some x) && decide (scope.names.lookup x=some .free) && (decide (X.env.kindOf x=some .cell) || decide (X.env.kindOf x=some .free))
  | none=>false) && dY X N nt scope r (j + 1)
theorem BZ {X:Cx} {N:List Str} {nt:Nat} {scope:Scope}:∀{fr:List Nat} {k:Nat},dY X N nt scope fr k=true→∀(j i:Nat) (x:Str),fr[j]?=some i→N[nt + (k + j)]?=some x →
  X.N[i]?=some x∧scope.names.lookup x=some .free∧(X.env.kindOf x=some .cell∨X.env.kindOf x=some .free)
 | [],_,_,j,i,x,e,_=>by simp at e
 | i0::r,k,h,j,i,x,e1,e2=>by
  unfold dY at h
  rw [Bool.and_eq_true] at h
  obtain ⟨h1,h2⟩:=h
  cases j with
  | zero =>
   have e1:i0=i:=by simpa using e1
   subst e1
   rw [Nat.add_zero] at e2
   rw [e2] at h1
   simp only [Bool.and_eq_true,Bool.or_eq_true,decide_eq_true_eq] at h1
   exact ⟨h1.1.1,h1.1.2,h1.2⟩
  | succ j =>
   exact BZ h2 j i x (by simpa using e1) (by rw [show nt + (k + 1 + j)=nt + (k + (j + 1)) by lia];exact e2)
theorem iC {env:Env}:∀{names:List (Str×NameKind)} {x:Str} {k':NameKind},
  (names.map fun (n,k)=>if (k == NameKind.free && env.scope.kind == .function && env.kindOf n == some .cell) then (n,NameKind.cell) else (n,k)).lookup x=some k' →
  ∃k,names.lookup x=some k∧(k=k'∨(k=.free∧k'=.cell))
 | [],_,_,h=>by simp at h
 | (n,k)::r,x,k',h=>by
  have h:List.lookup x ((if (k == NameKind.free && env.scope.kind == .function && env.kindOf n == some .cell)=true then (n,NameKind.cell) else (n,k))::r.map _)=some k':=h
  cases hx:x == n with
  | true =>
   by_cases hc:(k == NameKind.free && env.scope.kind == .function && env.kindOf n == some .cell)=true
   ·rw [if_pos hc] at h
    simp only [List.lookup_cons,hx] at h
    have hk:k=.free:=by
     simp only [Bool.and_eq_true,beq_iff_eq] at hc
     exact hc.1.1
    exact ⟨k,by simp [List.lookup_cons,hx],.inr ⟨hk,(Option.some.inj h).symm⟩⟩
   ·rw [if_neg hc] at h
    simp only [List.lookup_cons,hx] at h
    exact ⟨k,by simp [List.lookup_cons,hx],.inl (Option.some.inj h)⟩
  | false =>
   have h2:List.lookup x (r.map fun (n,k)=>if (k == NameKind.free && env.scope.kind == .function && env.kindOf n == some .cell) then (n,NameKind.cell) else (n,k))=some k':=by
    by_cases hc:(k == NameKind.free && env.scope.kind == .function && env.kindOf n == some .cell)=true
    ·rw [if_pos hc] at h;simpa only [List.lookup_cons,hx] using h
    ·rw [if_neg hc] at h;simpa only [List.lookup_cons,hx] using h
   obtain ⟨k2,e2,o2⟩:=iC h2
   exact ⟨k2,by simp only [List.lookup_cons,hx];exact e2,o2⟩
theorem nF {env:Env}:∀{names:List (Str×NameKind)} {x:Str},names.lookup x=some .free →
  (names.map fun (n,k)=>if (k == NameKind.free && env.scope.kind == .function && env.kindOf n == some .cell) then (n,NameKind.cell) else (n,k)).lookup x=some .cell ∨
  (names.map fun (n,k)=>if (k == NameKind.free && env.scope.kind == .function && env.kindOf n == some .cell) then (n,NameKind.cell) else (n,k)).lookup x=some .free
 | [],_,h=>by simp at h
 | (n,k)::r,x,h=>by
  show List.lookup x ((if (k == NameKind.free && env.scope.kind == .function && env.kindOf n == some .cell)=true then (n,NameKind.cell) else (n,k))::r.map _)=some .cell∨List.lookup x ((if (k == NameKind.free && env.scope.kind == .function && env.kindOf n == some .cell)=true then (n,NameKind.cell) else (n,k))::r.map _)=some .free
  cases hx:x == n with
  | true =>
   simp only [List.lookup_cons,hx] at h
   cases h
   by_cases hc:(NameKind.free == NameKind.free && env.scope.kind == .function && env.kindOf n == some .cell)=true
   ·rw [if_pos hc];left;simp [List.lookup_cons,hx]
   ·rw [if_neg hc];right;simp [List.lookup_cons,hx]
  | false =>
   simp only [List.lookup_cons,hx] at h
   have ih:=nF (env:=env) h
   by_cases hc:(k == NameKind.free && env.scope.kind == .function && env.kindOf n == some .cell)=true
   ·rw [if_pos hc];simpa only [List.lookup_cons,hx] using ih
   ·rw [if_neg hc];simpa only [List.lookup_cons,hx] using ih
theorem jB {env:Env}:∀{names:List (Str×NameKind)} {cl:List (Str×Addr)},eE env names=some cl→∀x,names.lookup x=some .free→∃c,cl.lookup x=some c
 | [],_,_,x,e=>by simp at e
 | (n,k)::r,cl,h,x,e=>by
  unfold eE at h
  by_cases hk:k=.free
  ·rw [if_pos hk] at h
   cases hc:env.cells.lookup n with
   | none=>rw [hc] at h;cases h
   | some c' =>
    rw [hc] at h
    have h:(eE env r).map (fun cl=>cl++[(n,c')])=some cl:=h
    cases hr:eE env r with
    | none=>rw [hr] at h;cases h
    | some cl' =>
     rw [hr] at h
     have h:cl'++[(n,c')]=cl:=Option.some.inj h
     subst h
     rw [List.lookup_append]
     cases h2:cl'.lookup x with
     | some c2=>exact ⟨c2,by simp⟩
     | none =>
      cases hx:x == n with
      | true=>exact ⟨c',by simp [List.lookup_cons,hx]⟩
      | false =>
       simp only [List.lookup_cons,hx] at e
       obtain ⟨c3,e3⟩:=jB hr x e
       rw [h2] at e3;cases e3
  ·rw [if_neg hk] at h
   cases hx:x == n with
   | true =>
    simp only [List.lookup_cons,hx] at e
    exact absurd (Option.some.inj e) hk
   | false =>
    simp only [List.lookup_cons,hx] at e
    exact jB h x e
theorem fB.of {X:Cx} {N:List Str} {nt:Nat} {fr:List Nat} {scope:Scope} {cl:List (Str×Addr)} (hcl:eE X.env scope.names=some cl) (hlen:N.length=nt + fr.length) (hB:dY X N nt scope fr 0=true)
  (hcell:∀y∈scope.names,y.2≠.cell) (hkind:scope.kind=.function):fB X N nt fr scope cl where
 len:=hlen
 free:=fun j i x e1 e2=>by
  obtain ⟨h1,h2,h3⟩:=BZ hB j i x e1 (by rw [Nat.zero_add];exact e2)
  exact ⟨h1,jB hcl x h2,h3,nF h2⟩
 cells:=jc hcl
 has:=fun x hx=>by
  have:scope.names.lookup x=some .free:=by
   rcases hx with hx | hx
   ·obtain ⟨k,e,o⟩:=iC (names:=scope.names) (env:=X.env) hx
    rcases o with rfl | ⟨rfl,_⟩
    ·exact absurd rfl (hcell _ (PySem.mem_of_lookup e))
    ·exact e
   ·obtain ⟨k,e,o⟩:=iC (names:=scope.names) (env:=X.env) hx
    rcases o with rfl | ⟨rfl,_⟩
    ·exact e
    ·exact e
  exact jB hcl x this
 kind:=hkind
def PIf (X:Cx) (ifs:List Expr) (t:TT):Prop :=
 ∀(pins:List (Addr×Obj)) (s:Shared) (σ:St) (H:Hp) (Q:Bool→Hp→Prop),Inv X pins σ H s→t σ H Q →
  wpAny (model X.prog X.w) X.A (forIn ifs true fun c r=>if r=true then do let ok ← isTrue c X.env (eval c X.env);pure (ForInStep.yield ok) else pure (ForInStep.yield r)) (TP X pins σ Q) X.xe s
def mH:TT:=fun _ H Q=>Q true H
theorem iM {X:Cx}:PIf X [] mH:=fun _ _ _ H _ I h=>wpAny_pure ⟨H,I,h⟩
theorem HS {X:Cx} {c:Expr} {t:TT} (h:PT X c t):PIf X [c] t:=by
 intro pins s σ H Q I hw
 rw [List.forIn_cons]
 simp only [if_true]
 refine wpAny_bind (wpAny_bind (thn (h pins s σ H Q I hw) fun b s1 q=>wpAny_pure ?_))
 exact wpAny_pure q
def nH (J:It) (nt:Nat) (fr:List Nat) (g:TG) (c:TT) (te:TE) (σ:St) (H1:Hp) (Q:VK) (acc:Addr):Prop :=
 ∃W:Nat→Nat→St→List V→Hp→Prop,(∃m,W 0 m (eZ nt fr σ) [] (upd H1 acc (.lst [])))∧∀i m σ' ys H',W i m σ' ys H'→H' acc=some (.lst ys) ∧
  ((J.stop i H'∧Q (.ref acc) H')∨(J.go i H'∧∀x H2,J.yld i H' x H2→g x σ' H2 fun σ2 H3=>c σ2 H3 fun b H4=>if b=true then
   te σ2 H4 fun y H5=>ys.length < sizeLine∧H5 acc=some (.lst ys)∧∃m',m' < m∧W (i + 1) m' σ2 (ys++[y]) (upd H5 acc (.lst (ys++[y])))
   else ∃m',m' < m∧W (i + 1) m' σ2 ys H4))
def qX (wi:TI) (nt:Nat) (fr:List Nat) (g:TG) (c:TT) (te:TE):TE:=fun σ H Q=>wi σ H fun J H1=>∀acc,H1 acc=none→nH J nt fr g c te σ H1 Q acc
section
variable {X:Cx} {target iter elt:Expr} {ifs:List Expr} {scope:Scope} {pos:Pos} {N:List Str} {nt:Nat} {fr:List Nat} {cl:List (Str×Addr)} {wi:TI} {g:TG} {c:TT} {te:TE}
theorem R9 {pins:List (Addr×Obj)} {σ:St} {H H1:Hp} {s:Shared} {fp:List Addr} (I:Inv X pins σ H s) (cn:fB X N nt fr scope cl) (hf:∀b∈fp,jl X pins H b) (ho:∀b∈fp,b < s.heap.objs.size) {H':Hp} (hn:∀b∈fp,H' b=none) :
  ∀b∈fp,jl (dX X N scope cl pins s H1 fp) [] H' b:=fun b hb =>
 ⟨hn b hb,Nat.ne_of_lt (ho b hb),fun z=>(List.mem_cons.mp (I.tE b z)).elim (hf b hb).2.1 (hf b hb).2.2.1,.inl hb,fun x c e=>(hf b hb).2.2.2.2.1 x c (cn.cells x c e),fun p hp=>(hf b hb).2.2.2.2.2 p (by
  have hp:p∈(X.pn++pins)++[]:=hp
  rw [List.append_nil] at hp
  exact hp)⟩
theorem t_ {pins:List (Addr×Obj)} {σ:St} {s:Shared} {Q:VK} {itv:Value} {RR:Value→Addr→Result→Shared→Prop} {E:Value→Shared→Prop}
  (hc:X.calm=true) (cn:fB X N nt fr scope cl) (hcell:∀y∈scope.names,y.2≠.cell)
  (hg:∀pins s H fp,PG (dX X N scope cl pins s H fp) target g) (hif:∀pins s H fp,PIf (dX X N scope cl pins s H fp) ifs c) (he:∀pins s H fp,PE (dX X N scope cl pins s H fp) elt te)
  (h:PIE X pins σ target (fun J H1=>∀acc,H1 acc=none→nH J nt fr g c te σ H1 Q acc) itv s)
  (hRR:∀(acc C:Addr) (s':Shared) (H':Hp),(∃m,s'.heap.Ns C m)→Inv X pins σ H' s'→jl X pins H' C→Q (.ref acc) H'→RR (.ref acc) C (.ok .next) s') :
  wpAny (model X.prog X.w) X.A (newList []) (fun acc s₃=>wpAny (model X.prog X.w) X.A (newFunctionEnv scope X.env.globals cl [] X.env.qual none .none (some X.env)) (fun cenv s₄ =>
   codeAny (model X.prog X.w) X.A (.compStart (.ListComp elt [⟨target,iter,ifs,0⟩] scope pos) 0 itv acc { cenv with scope:=relabel scope X.env }) (RR acc cenv.locals) s₄) E s₃) E s:=by
 obtain ⟨it,fp,tn,J,H2,e,I2,T,st2,f2,R⟩:=h
 subst e
 have fo:∀b∈fp,b < s.heap.objs.size:=fun b hb=>let ⟨o,e,_⟩:=T.obj 0 _ st2 b hb;Heap.lt_size e
 refine wpAny_newObj_type (wpAny_newFunctionEnv hcell (by intro y hy;simp at hy) (fun h₁ hns₁ hsb₁=>?_) cn.kind)
 dsimp only at hns₁ hsb₁ ⊢
 have ha:H2 s.heap.objs.size=none:=I2.hok.fresh (Nat.le_refl _)
 have I3:Inv X pins σ (upd H2 s.heap.objs.size (.lst [])) { s with heap:=s.heap.push { cls:=.type "list", data:=.seq ([]:List Value).toArray } } :=
  I2.laid (t':=s.toks) (fun b u e=>Heap.get?_push_of_some _ e) (Nat.le_refl _) ⟨Nat.zero_le _,[],0,.nil,Heap.get?_push_size _ rfl⟩
 generalize hs3:({ s with heap:=s.heap.push { cls:=.type "list", data:=.seq ([]:List Value).toArray } }:Shared)=s3 at I3
 have hh3:s3.heap=s.heap.push { cls:=.type "list", data:=.seq ([]:List Value).toArray }:=by rw [← hs3]
 have hsz:s3.heap.objs.size=s.heap.objs.size + 1:=by rw [hh3,Heap.size_push]
 have fne:∀b∈fp,b≠s.heap.objs.size:=fun b hb=>Nat.ne_of_lt (fo b hb)
 have f3:∀b∈fp,jl X pins (upd H2 s.heap.objs.size (.lst [])) b:=fun b hb=>⟨by rw [bW (fne b hb)];exact (f2 b hb).1,(f2 b hb).2⟩
 have fo3:∀b∈fp,b < s3.heap.objs.size:=fun b hb=>by rw [hsz];exact Nat.lt_succ_of_lt (fo b hb)
 have k3:∀b o,s3.heap.get? b=some o→h₁.get? b=some o:=fun b o e=>hsb₁.extBut b o (by rw [← hh3];exact Nat.ne_of_lt (Heap.lt_size e)) (by rw [← hh3];exact Heap.get?_push_of_some _ e)
 have hns:∃m,h₁.Ns s3.heap.objs.size m:=⟨_,by rw [hh3];exact hns₁⟩
 have I4:Inv (dX X N scope cl pins s3 (upd H2 s.heap.objs.size (.lst [])) fp) [] (eZ nt fr σ) (upd H2 s.heap.objs.size (.lst [])) { s3 with heap:=h₁,toks:=s3.toks + ([]:List (Str×Value)).length }:=M_ I3 cn f3 fo3 k3 hns
 have st4:tn 0 h₁:=T.keep 0 _ _ st2 fun b hb o e=>k3 b o (by rw [hh3];exact Heap.get?_push_of_some _ e)
 obtain ⟨W,⟨m0,w0⟩,turn⟩:=R s.heap.objs.size ha
 have stat:∀{H':Hp},(∀b∈fp,H' b=none)→∀b∈fp,jl (dX X N scope cl pins s3 (upd H2 s.heap.objs.size (.lst [])) fp) [] H' b:=fun hn=>R9 I3 cn f3 fo3 hn
 have hH:Un (frs X.stack) fp H2 (upd H2 s.heap.objs.size (.lst [])) s.heap s3.heap:=by
  rw [hh3]
  exact Un.laid (fun b u e=>Heap.get?_push_of_some _ e) (Nat.le_refl _) ha
 have back:∀{σ':St} {H':Hp} {s':Shared} {h':Heap},Inv (dX X N scope cl pins s3 (upd H2 s.heap.objs.size (.lst [])) fp) [] σ' H' s'→Heap.SameBut s3.heap.objs.size s'.heap h'→Inv X pins σ H' { s' with heap:=h' }:=fun J' sb =>
  comp_back I2 (by rw [hsz];exact Nat.le_succ _) (by rw [← hs3]) hH f2 J' sb
 have loop:codeAny (model X.prog X.w) X.A (.compLoop (.ListComp elt [⟨target,iter,ifs,0⟩] scope pos) 0 (.ref it) (.ref s.heap.objs.size) (compEnvC scope cl s3.heap.objs.size X.env)) (RR (.ref s.heap.objs.size) s3.heap.objs.size)
   { s3 with heap:=h₁,toks:=s3.toks + ([]:List (Str×Value)).length }:=by
  refine KJ (fun n s'=>∃i σ' ys H',Inv (dX X N scope cl pins s3 (upd H2 s.heap.objs.size (.lst [])) fp) [] σ' H' s'∧tn i s'.heap∧(∀b∈fp,H' b=none)∧W i n σ' ys H') ?_ m0
   ⟨0,_,[],_,I4,st4,fun b hb=>(f3 b hb).1,w0⟩
  rintro n s5 ⟨i,σ5,ys,H5,I5,st5,fr5,w5⟩
  obtain ⟨hacc,step⟩:=turn i n σ5 ys H5 w5
  rcases step with ⟨stop,q⟩ | ⟨go,step⟩
  ·refine thn (T.done (dX X N scope cl pins s3 (upd H2 s.heap.objs.size (.lst [])) fp) rfl rfl rfl hc i [] s5 σ5 H5 (fun _ _=>False) I5 (stat fr5) st5 stop) fun r s6 ⟨hr,I6⟩=>?_
   subst hr
   obtain ⟨m,hm,_⟩:=I6.loc
   exact hRR _ _ s6 H5 ⟨m,hm⟩ (back I6 (Heap.SameBut.refl _ _)) (I2.Fz (by rw [hsz];exact Nat.le_succ _) I6.free) q
  ·refine thn (T.item (dX X N scope cl pins s3 (upd H2 s.heap.objs.size (.lst [])) fp) rfl rfl rfl hc i [] s5 σ5 H5 (fun _ _=>False) I5 (stat fr5) st5 go) fun r s6 ⟨u,hr,h6⟩=>?_
   subst hr
   refine thn h6 fun _ s7 ⟨x,H7,I7,r7,y7,st7,fr7⟩=>?_
   have I7':=I7.pinned (stat fr7) (T.obj _ _ st7)
   refine thn (hg pins s3 _ fp _ s7 σ5 H7 x u _ I7' r7 (step x H7 y7)) fun _ s8 ⟨σ8,H8,I8,q8⟩=>?_
   have HW:∀{σ':St} {H':Hp} {s':Shared},Inv (dX X N scope cl pins s3 (upd H2 s.heap.objs.size (.lst [])) fp) ([]++tO fp s7.heap) σ' H' s'→tn (i + 1) s'.heap∧∀b∈fp,H' b=none:=fun {σ' H' s'} I' =>
    ⟨T.keep _ _ _ st7 fun b hb o e=>(I'.pin (b,o) (List.mem_append_right _ (List.mem_append_right _ (jy hb e)))).1,fun b hb=>by
     obtain ⟨o,e,d⟩:=T.obj _ _ st7 b hb
     exact (I'.pin (b,o) (List.mem_append_right _ (List.mem_append_right _ (jy hb e)))).2.1⟩
   refine thn (hif pins s3 _ fp _ s8 σ8 H8 _ I8 q8) fun ok s9 ⟨H9,I9,q9⟩=>?_
   cases ok with
   | false =>
    have q9:∃m',m' < n∧W (i + 1) m' σ8 ys H9:=q9
    obtain ⟨m',hm,w9⟩:=q9
    exact ⟨m',hm,i + 1,σ8,ys,H9,I9.jU,(HW I9).1,(HW I9).2,w9⟩
   | true =>
    rw [if_pos rfl]
    refine thn (he pins s3 _ fp _ s9 σ8 H9 _ I9 q9) fun z s10 ⟨y,H10,I10,r10,hz,ac_,m',hm,w10⟩=>?_
    refine thn (wY _ s10 σ8 H10 (.ref s.heap.objs.size) [y] (.ref s.heap.objs.size) [z] (fun v H'=>v=.non∧H'=upd H10 s.heap.objs.size (.lst (ys++[y]))) I10 rfl (.cons r10 .nil) ⟨_,ys,y,rfl,rfl,ac_,hz,rfl,rfl⟩) fun v s11 ⟨_,H11,I11,_,_,e11⟩=>?_
    subst e11
    exact ⟨m',hm,i + 1,σ8,ys++[y],_,I11.jU,(HW I11).1,(HW I11).2,w10⟩
 have fin:codeAny (model X.prog X.w) X.A (.compStart (.ListComp elt [⟨target,iter,ifs,0⟩] scope pos) 0 (.ref it) (.ref s.heap.objs.size) (compEnvC scope cl s3.heap.objs.size X.env)) (RR (.ref s.heap.objs.size) s3.heap.objs.size)
   { s3 with heap:=h₁,toks:=s3.toks + ([]:List (Str×Value)).length } :=
  codeAny_compStart_list loop (T.self _ 0 _ _ _ st4 loop)
 rw [← hs3] at fin
 exact fin
theorem iQ (hi:PI X target iter wi) (hg:∀pins s H fp,PG (dX X N scope cl pins s H fp) target g) (hif:∀pins s H fp,PIf (dX X N scope cl pins s H fp) ifs c) (he:∀pins s H fp,PE (dX X N scope cl pins s H fp) elt te)
  (hc:X.calm=true:=by rfl) (hcl:eE X.env scope.names=some cl:=by rfl) (hlen:N.length=nt + fr.length:=by rfl) (hB:dY X N nt scope fr 0=true:=by rfl)
  (hcell:∀y∈scope.names,y.2≠.cell:=by decide +kernel) (hkind:scope.kind=.function:=by rfl) (hnames:∀y∈scope.names,y.2=.local→scope.names.lookup y.1=some .local:=by decide +kernel)
  (hs:∀x,foldedSetIterable iter X.env x=pure x:=by intro _;rfl):PE X (.ListComp elt [⟨target,iter,ifs,0⟩] scope pos) (qX wi nt fr g c te):=by
 intro pins s σ H Q I h
 rw [eval_ListComp]
 refine wpAny_comprehension_free (use:=none) rfl hs (mG hcl) hkind hnames (thn (hi pins s σ H _ I h) fun xv s1 h1=>thn h1 fun itv s2 h2=>?_)
 exact t_ hc (fB.of hcl hlen hB hcell hkind) hcell hg hif he h2 fun acc C s' H' ⟨m,hm⟩ hI hF hq=>⟨m,hm,fun h' sb=>⟨.ref acc,H',hI.turned (t':=s'.toks) (fun b o hb e=>sb.extBut b o hb e) hF.1 hF.2.1 hF.2.2.2.1 hF.2.2.2.2.1 hF.2.2.2.2.2,rfl,hq⟩⟩
theorem HX {i:Nat} {y:Str} {py spos:Pos} (hN:X.N.Nodup) (hyi:X.N[i]?=some y) (hy:Loc X.env.scope y) (hi:PI X target iter wi) (hg:∀pins s H fp,PG (dX X N scope cl pins s H fp) target g) (hif:∀pins s H fp,PIf (dX X N scope cl pins s H fp) ifs c) (he:∀pins s H fp,PE (dX X N scope cl pins s H fp) elt te)
  (hsw:swapsWith (.ListComp elt [⟨target,iter,ifs,0⟩] scope pos) (some (.Name y py)) spos.line X.env=pure true:=by rfl)
  (hc:X.calm=true:=by rfl) (hcl:eE X.env scope.names=some cl:=by rfl) (hlen:N.length=nt + fr.length:=by rfl) (hB:dY X N nt scope fr 0=true:=by rfl)
  (hcell:∀y∈scope.names,y.2≠.cell:=by decide +kernel) (hkind:scope.kind=.function:=by rfl) (hnames:∀y∈scope.names,y.2=.local→scope.names.lookup y.1=some .local:=by decide +kernel)
  (hs:∀x,foldedSetIterable iter X.env x=pure x:=by intro _;rfl) (hf:X.fn y=true∨X.env.scope.names.lookup y=some .local:=by first | exact .inl rfl | exact .inr rfl | assumption) :
  PS X (.Assign [.Name y py] (.ListComp elt [⟨target,iter,ifs,0⟩] scope pos) spos) (Ms (qX wi nt fr g c te) (bQ i)):=by
 intro pins s σ H D I h
 rw [exec_Assign_Name_used _ _ _ _ hsw]
 refine wpAny_bind (wpAny_standAt (wpAny_bind ?_))
 show wpAny _ X.A (do let _ ← comprehension (.ListComp elt [⟨target,iter,ifs,0⟩] scope pos) scope X.env _ (newList []) false (eval iter X.env) (some (assign (.Name y py) X.env))) _ _ s
 refine wpAny_bind (wpAny_mono (wpAny_comprehension_free (use:=some (assign (.Name y py) X.env)) (Q:=fun _ s'=>SP X pins D .next s') rfl hs (mG hcl) hkind hnames (thn (hi pins s σ H _ I h) fun xv s1 h1=>thn h1 fun itv s2 h2=>?_)) (fun _ s' hq=>wpAny_pure (wpAny_pure hq)) fun _ _ e=>e)
 refine t_ (Q:=fun x H1=>bQ i x σ H1 D.nx) (RR:=fun acc C=>compPost (model X.prog X.w) X.A X.xe (some (assign (.Name y py) X.env)) (fun _ s'=>SP X pins D .next s') acc C) hc (fB.of hcl hlen hB hcell hkind) hcell hg hif he h2 fun acc C s' H' ⟨m,hm⟩ hI hF hq=>?_
 show wpAny _ X.A (assign (.Name y py) X.env (.ref acc)) _ _ _
 refine wpAny_assign_Name (wK hI hN hyi hy (v:=.ref acc) rfl (fun s3 I3 ⟨a,sb,ha⟩=>?_) hf)
 have hne:C≠a:=by
  rcases ha with rfl | ha
  ·exact hF.2.1
  ·exact fun z=>hF.2.2.2.2.1 y a ha z.symm
 refine ⟨m,hm.sameBut sb hne,fun h' sb'=>⟨_,H',I3.turned (t':=s3.toks) (fun b o hb e=>sb'.extBut b o hb e) hF.1 hF.2.1 hF.2.2.2.1 hF.2.2.2.2.1 hF.2.2.2.2.2,hq⟩⟩
end
structure ItemsOf (J:It) (xs:List V) (L:Hp→Prop):Prop where
 go:∀i H,L H→i < xs.length→J.go i H
 yld:∀i H x H',L H→i < xs.length→J.yld i H x H'→H'=H∧xs[i]?=some x
 stop:∀H,L H→J.stop xs.length H
theorem jC {K:W.Frag} {a:Addr} {xs:List V}:ItemsOf (Itl K a) xs (fun H=>SqL K H a xs) :=
 ⟨fun i H h hi=>⟨xs,xs[i],h,by simp [hi]⟩,fun i H x H' h hi y=>⟨y.1,y.2 xs h⟩,fun H h=>⟨xs,h,Nat.le_refl _⟩⟩
def fQ (lo:Int) (n:Nat):List V:=(List.range n).map fun i:Nat=>V.int (lo + (i:Int))
theorem qY {lo:Int} {n:Nat}:ItemsOf (Itr lo n) (fQ lo n) (fun _=>True) :=
 ⟨fun i H _ hi=>by show i < n;simpa [fQ] using hi,fun i H x H' _ hi y=>⟨y.1,by
  have hi:i < n:=by simpa [fQ] using hi
  rw [y.2];simp [fQ,hi]⟩,fun H _=>by show n≤_;simp [fQ]⟩
def mV (z:Str):List V:=z.cps.toList.map fun c=>V.str ⟨#[c]⟩
theorem items_str {z:Str}:ItemsOf (Its z) (mV z) (fun _=>True) :=
 ⟨fun i H _ hi=>by show i < z.cps.size;simpa [mV] using hi,fun i H x H' _ hi y=>⟨y.1,by
  obtain ⟨_,c,e,rfl⟩:=y
  have hi:i < z.cps.size:=by simpa [mV] using hi
  have e:z.cps[i]=c:=by simpa [hi] using e
  simp [mV,hi,e]⟩,fun H _=>by show z.cps.size≤_;simp [mV]⟩
def jR (xs:List V) (nt:Nat) (fvs:St) (Pv:Nat→List V→Hp→Prop):Nat→Nat→St→List V→Hp→Prop:=fun i m σ' ys H' =>
 m=xs.length - i∧i≤xs.length∧Pv i ys H'∧∃tv:List (Option V),tv.length=nt∧σ'=tv++fvs
theorem jR.next {xs:List V} {nt:Nat} {fvs:St} {Pv:Nat→List V→Hp→Prop} {i:Nat} {tv:List (Option V)} {ys:List V} {H:Hp} (hi:i < xs.length) (p:Pv (i + 1) ys H) (ht:tv.length=nt) :
  ∃m',m' < xs.length - i∧jR xs nt fvs Pv (i + 1) m' (tv++fvs) ys H:=⟨xs.length - (i + 1),by lia,rfl,hi,p,tv,ht,rfl⟩
theorem nJ {J:It} {xs:List V} {L:Hp→Prop} {σ:St} {H1:Hp} {nt:Nat} {fr:List Nat} {g:TG} {c:TT} {te:TE} {Q:VK} {acc:Addr} (it:ItemsOf J xs L) (Pv:Nat→List V→Hp→Prop)
  (h0:Pv 0 [] (upd H1 acc (.lst []))) (hL:∀i ys H',i≤xs.length→Pv i ys H'→L H'∧H' acc=some (.lst ys))
  (turn:∀i x tv ys H',xs[i]?=some x→i < xs.length→Pv i ys H'→tv.length=nt→g x (tv++fr.map fun i=>(σ[i]?).getD none) H' fun σ2 H3 =>
   c σ2 H3 fun b H4=>if b=true then te σ2 H4 fun y H5=>ys.length < sizeLine∧H5 acc=some (.lst ys)∧∃m',m' < xs.length - i∧jR xs nt (fr.map fun i=>(σ[i]?).getD none) Pv (i + 1) m' σ2 (ys++[y]) (upd H5 acc (.lst (ys++[y])))
    else ∃m',m' < xs.length - i∧jR xs nt (fr.map fun i=>(σ[i]?).getD none) Pv (i + 1) m' σ2 ys H4)
  (hd:∀ys H',Pv xs.length ys H'→Q (.ref acc) H'):nH J nt fr g c te σ H1 Q acc:=by
 refine ⟨jR xs nt (fr.map fun i=>(σ[i]?).getD none) Pv,⟨xs.length,by simp,Nat.zero_le _,h0,List.replicate nt none,by simp,rfl⟩,?_⟩
 rintro i m σ' ys H' ⟨rfl,hi,p,tv,htv,rfl⟩
 obtain ⟨l,ha⟩:=hL i ys H' hi p
 refine ⟨ha,?_⟩
 by_cases hlt:i < xs.length
 ·refine .inr ⟨it.go i H' l hlt,fun x H2 y=>?_⟩
  obtain ⟨rfl,hx⟩:=it.yld i H' x H2 l hlt y
  exact turn i x tv ys H2 hx hlt p htv
 ·have e:i=xs.length:=by lia
  subst e
  exact .inl ⟨it.stop H' l,hd ys H' p⟩
end L2
namespace L2
open PySem PySem.Spec PyProof.Rows PySem.SeqAt
inductive Dt where
 | non | bl (b:Bool) | int (i:Int) | str (x:Str) | lst (xs:List Dt) | tup (xs:List Dt)
mutual
def Rep (K:W.Frag) (H:Hp):Dt→V→Prop
 | .non,v=>v=.non
 | .bl b,v=>v=.bl b
 | .int i,v=>v=.int i
 | .str x,v=>v=.str x
 | .lst ds,v=>∃p xs,v=.ref p∧SqL K H p xs∧dI K H ds xs
 | .tup ds,v=>∃p xs,v=.ref p∧SqT K H p xs∧dI K H ds xs
def dI (K:W.Frag) (H:Hp):List Dt→List V→Prop
 | [],xs=>xs=[]
 | d::ds,xs=>∃x r,xs=x::r∧Rep K H d x∧dI K H ds r
end
mutual
def gF:Dt→Dt→Bool
 | .non,.non=>true
 | .bl a,.bl b=>a == b
 | .bl a,.int b=>(if a then 1 else 0) == b
 | .int a,.bl b=>a == (if b then 1 else 0)
 | .int a,.int b=>a == b
 | .str a,.str b=>a == b
 | .lst xs,.lst ys=>fC xs ys
 | .tup xs,.tup ys=>fC xs ys
 | _,_=>false
def fC:List Dt→List Dt→Bool
 | [],[]=>true
 | x::xs,y::ys=>gF x y && fC xs ys
 | _,_=>false
end
mutual
def gk:Dt→Nat
 | .lst xs=>iD xs + 1
 | .tup xs=>iD xs + 1
 | _=>0
def iD:List Dt→Nat
 | []=>0
 | x::xs=>max (gk x) (iD xs)
end
theorem dI.length {K:W.Frag} {H:Hp}:∀{ds:List Dt} {xs:List V},dI K H ds xs→ds.length=xs.length
 | [],xs,h=>by rw [show xs=[] from by simpa [dI] using h];rfl
 | d::ds,xs,h=>by
  obtain ⟨x,r,rfl,_,h2⟩:∃x r,xs=x::r∧Rep K H d x∧dI K H ds r:=by simpa [dI] using h
  simp [dI.length h2]
theorem dI.get {K:W.Frag} {H:Hp}:∀{ds:List Dt} {xs:List V} {j:Nat} {d:Dt},dI K H ds xs→ds[j]?=some d→∃x,xs[j]?=some x∧Rep K H d x
 | [],_,_,_,_,e=>by simp at e
 | d0::ds,xs,j,d,h,e=>by
  obtain ⟨x,r,rfl,h1,h2⟩:∃x r,xs=x::r∧Rep K H d0 x∧dI K H ds r:=by simpa [dI] using h
  cases j with
  | zero =>
   have e:d0=d:=by simpa using e
   subst e
   exact ⟨x,rfl,h1⟩
  | succ j =>
   obtain ⟨y,e1,e2⟩:=dI.get (j:=j) h2 (by simpa using e)
   exact ⟨y,by simpa using e1,e2⟩
theorem w6:∀{ds:List Dt} {j:Nat} {d:Dt},ds[j]?=some d→gk d≤iD ds
 | [],_,_,e=>by simp at e
 | d0::ds,j,d,e=>by
  cases j with
  | zero =>
   have e:d0=d:=by simpa using e
   subst e
   simp only [iD];lia
  | succ j =>
   have:=w6 (ds:=ds) (j:=j) (d:=d) (by simpa using e)
   simp only [iD];lia
theorem pQ:∀(ds es:List Dt),ds.length=es.length→((List.range ds.length).all fun j=>gF (ds.getD j .non) (es.getD j .non))=fC ds es
 | [],[],_=>rfl
 | [],_::_,h=>by simp at h
 | _::_,[],h=>by simp at h
 | d::ds,e::es,h=>by
  have h:ds.length=es.length:=by simpa using h
  rw [List.length_cons,List.range_succ_eq_map,List.all_cons,List.all_map]
  have:=pQ ds es h
  simp only [fC]
  rw [← this]
  rfl
theorem jD:∀(ds es:List Dt),ds.length≠es.length→fC ds es=false
 | [],[],h=>by simp at h
 | [],_::_,_=>rfl
 | _::_,[],_=>rfl
 | d::ds,e::es,h=>by
  have h:ds.length≠es.length:=fun z=>h (by simp [z])
  simp only [fC,jD ds es h,Bool.and_false]
mutual
theorem pR:∀d:Dt,gF d d=true
 | .non=>rfl
 | .bl b=>by simp [gF]
 | .int i=>by simp [gF]
 | .str x=>by simp [gF]
 | .lst xs=>by simp only [gF];exact iG xs
 | .tup xs=>by simp only [gF];exact iG xs
theorem iG:∀ds:List Dt,fC ds ds=true
 | []=>rfl
 | d::ds=>by simp only [fC,pR d,iG ds,Bool.and_true]
end
section
variable {X:Cx} {pins:List (Addr×Obj)} {σ:St} {H:Hp} {s:Shared}
theorem qZ {a:Addr} {xs ys:List V} (I:Inv X pins σ H s) (h:SqL X.K H a xs) (h':SqT X.K H a ys):False:=by
 obtain ⟨its,_,pl,_⟩:=I.list h
 obtain ⟨its',_,pt,_⟩:=I.tuple h'
 obtain ⟨o,n,e,c,_,_⟩:=pl
 obtain ⟨o',e',c',_⟩:=pt
 rw [e] at e';cases e'
 rw [c] at c'
 exact absurd c' (by decide)
mutual
theorem R_ (I:Inv X pins σ H s):∀(d d':Dt) (v:V),Rep X.K H d v→Rep X.K H d' v→d=d'
 | .non,d',v,h,h'=>by
  have h:v=.non:=by simpa [Rep] using h
  subst h
  cases d' <;> simp [Rep] at h' <;> rfl
 | .bl b,d',v,h,h'=>by
  have h:v=.bl b:=by simpa [Rep] using h
  subst h
  cases d' <;> simp [Rep] at h'
  rw [h']
 | .int b,d',v,h,h'=>by
  have h:v=.int b:=by simpa [Rep] using h
  subst h
  cases d' <;> simp [Rep] at h'
  rw [h']
 | .str b,d',v,h,h'=>by
  have h:v=.str b:=by simpa [Rep] using h
  subst h
  cases d' <;> simp [Rep] at h'
  rw [h']
 | .lst ds,d',v,h,h'=>by
  obtain ⟨p,xs,rfl,hq,hr⟩:∃p xs,v=.ref p∧SqL X.K H p xs∧dI X.K H ds xs:=by simpa only [Rep] using h
  cases d' with
  | lst es =>
   obtain ⟨p',ys,e,hq',hr'⟩:∃p' ys,V.ref p=.ref p'∧SqL X.K H p' ys∧dI X.K H es ys:=by simpa only [Rep] using h'
   cases e
   rw [I.tH hq' hq] at hr'
   rw [jW I ds es xs hr hr']
  | tup es =>
   obtain ⟨p',ys,e,hq',hr'⟩:∃p' ys,V.ref p=.ref p'∧SqT X.K H p' ys∧dI X.K H es ys:=by simpa only [Rep] using h'
   cases e
   exact (qZ I hq hq').elim
  | _=>simp [Rep] at h'
 | .tup ds,d',v,h,h'=>by
  obtain ⟨p,xs,rfl,hq,hr⟩:∃p xs,v=.ref p∧SqT X.K H p xs∧dI X.K H ds xs:=by simpa only [Rep] using h
  cases d' with
  | tup es =>
   obtain ⟨p',ys,e,hq',hr'⟩:∃p' ys,V.ref p=.ref p'∧SqT X.K H p' ys∧dI X.K H es ys:=by simpa only [Rep] using h'
   cases e
   rw [I.wL hq' hq] at hr'
   rw [jW I ds es xs hr hr']
  | lst es =>
   obtain ⟨p',ys,e,hq',hr'⟩:∃p' ys,V.ref p=.ref p'∧SqL X.K H p' ys∧dI X.K H es ys:=by simpa only [Rep] using h'
   cases e
   exact (qZ I hq' hq).elim
  | _=>simp [Rep] at h'
theorem jW (I:Inv X pins σ H s):∀(ds es:List Dt) (xs:List V),dI X.K H ds xs→dI X.K H es xs→ds=es
 | [],es,xs,h,h'=>by
  have h:xs=[]:=by simpa [dI] using h
  subst h
  cases es with
  | nil=>rfl
  | cons e es=>simp [dI] at h'
 | d::ds,es,xs,h,h'=>by
  obtain ⟨x,r,rfl,h1,h2⟩:∃x r,xs=x::r∧Rep X.K H d x∧dI X.K H ds r:=by simpa only [dI] using h
  cases es with
  | nil=>simp [dI] at h'
  | cons e es =>
   obtain ⟨x',r',e',h1',h2'⟩:∃x' r',x::r=x'::r'∧Rep X.K H e x'∧dI X.K H es r':=by simpa only [dI] using h'
   cases e'
   rw [R_ I d e x h1 h1',jW I ds es r h2 h2']
end
structure Eq3 (A:Around) (s:Shared) (u v:Value) (b:Bool):Prop where
 eq:EqAt A s u v b
 rc:RcAt A s u v b
 ne:RcNeAt A s u v (!b)
theorem nM (I:Inv X pins σ H s) {n:Nat} {A:Around} (ih:∀(d d':Dt) (x y:V) (u v:Value),gk d≤n→Rep X.K H d x→Rep X.K H d' y→RelV x u→RelV y v→Eq3 A.in1 s u v (gF d d'))
  {ds es:List Dt} {xs ys:List V} {us vs:List Value} (hd:iD ds≤n) (hx:dI X.K H ds xs) (hy:dI X.K H es ys) (ru:Vals xs us) (rv:Vals ys vs) :
  ∀j (h1:j < us.toArray.size) (h2:j < vs.toArray.size),EqAt A.in1 s us.toArray[j] vs.toArray[j] (gF (ds.getD j .non) (es.getD j .non)):=by
 intro j h1 h2
 have l1:j < ds.length:=by rw [hx.length,ru.length];simpa using h1
 have l2:j < es.length:=by rw [hy.length,rv.length];simpa using h2
 have e1:ds[j]?=some ds[j]:=by simp [l1]
 have e2:es[j]?=some es[j]:=by simp [l2]
 obtain ⟨x,ex,rx⟩:=hx.get e1
 obtain ⟨y,ey,ry⟩:=hy.get e2
 obtain ⟨u,eu,qu⟩:=ru.get ex
 obtain ⟨v,ev,qv⟩:=rv.get ey
 have h1':j < us.length:=by simpa using h1
 have h2':j < vs.length:=by simpa using h2
 have z1:us.toArray[j]=u:=by
  have:us[j]?=some us[j]:=by simp [h1']
  rw [this] at eu
  simpa using eu
 have z2:vs.toArray[j]=v:=by
  have:vs[j]?=some vs[j]:=by simp [h2']
  rw [this] at ev
  simpa using ev
 rw [z1,z2]
 have g1:ds.getD j .non=ds[j]:=by simp [List.getD,l1]
 have g2:es.getD j .non=es[j]:=by simp [List.getD,l2]
 rw [g1,g2]
 exact (ih _ _ x y u v (Nat.le_trans (w6 e1) hd) rx ry qu qv).eq
theorem KN (I:Inv X pins σ H s) {n:Nat} {A:Around} (hu:A.units < cLine) (ih:∀(d d':Dt) (x y:V) (u v:Value),gk d≤n→Rep X.K H d x→Rep X.K H d' y→RelV x u→RelV y v→Eq3 A.in1 s u v (gF d d'))
  {ds es:List Dt} {p q:Addr} (hd:iD ds≤n) (hp:Rep X.K H (.lst ds) (.ref p)) (hq:Rep X.K H (.lst es) (.ref q)):Eq3 A s (.ref p) (.ref q) (fC ds es):=by
 obtain ⟨p',xs,e,lx,hx⟩:∃p' xs,V.ref p=.ref p'∧SqL X.K H p' xs∧dI X.K H ds xs:=by simpa only [Rep] using hp
 cases e
 obtain ⟨q',ys,e,ly,hy⟩:∃q' ys,V.ref q=.ref q'∧SqL X.K H q' ys∧dI X.K H es ys:=by simpa only [Rep] using hq
 cases e
 obtain ⟨us,ru,pu,_⟩:=I.list lx
 obtain ⟨vs,rv,pv',_⟩:=I.list ly
 have both:RcAt A s (.ref p) (.ref q) (fC ds es)∧RcNeAt A s (.ref p) (.ref q) (!fC ds es):=by
  by_cases hl:ds.length=es.length
  ·have hsz:us.toArray.size=vs.toArray.size:=by simp [← ru.length,← rv.length,← hx.length,← hy.length,hl]
   have hz:us.toArray.size=ds.length:=by simp [← ru.length,← hx.length]
   have a:=RcAt.lists pu.isList pv'.isList hsz hu (nM I ih hd hx hy ru rv)
   have b:=RcNeAt.lists pu.isList pv'.isList hsz hu (nM I ih hd hx hy ru rv)
   rw [hz,pQ ds es hl] at a b
   exact ⟨a,b⟩
  ·have hsz:(us.toArray.size != vs.toArray.size)=true:=by simp [← ru.length,← rv.length,← hx.length,← hy.length,hl]
   rw [jD ds es hl]
   exact ⟨RcAt.lists_lengths pu.isList pv'.isList hsz hu,RcNeAt.lists_lengths pu.isList pv'.isList hsz hu⟩
 refine ⟨?_,both.1,both.2⟩
 by_cases hpq:p=q
 ·subst hpq
  have:ds=es:=by
   rw [I.tH ly lx] at hy
   exact jW I ds es xs hx hy
  subst this
  rw [iG]
  exact EqAt.same _
 ·exact EqAt.of_refs hpq both.1
theorem Nb (I:Inv X pins σ H s) {n:Nat} {A:Around} (hu:A.units < cLine) (ih:∀(d d':Dt) (x y:V) (u v:Value),gk d≤n→Rep X.K H d x→Rep X.K H d' y→RelV x u→RelV y v→Eq3 A.in1 s u v (gF d d'))
  {ds es:List Dt} {p q:Addr} (hd:iD ds≤n) (hp:Rep X.K H (.tup ds) (.ref p)) (hq:Rep X.K H (.tup es) (.ref q)):Eq3 A s (.ref p) (.ref q) (fC ds es):=by
 obtain ⟨p',xs,e,lx,hx⟩:∃p' xs,V.ref p=.ref p'∧SqT X.K H p' xs∧dI X.K H ds xs:=by simpa only [Rep] using hp
 cases e
 obtain ⟨q',ys,e,ly,hy⟩:∃q' ys,V.ref q=.ref q'∧SqT X.K H q' ys∧dI X.K H es ys:=by simpa only [Rep] using hq
 cases e
 obtain ⟨us,ru,pu,_⟩:=I.tuple lx
 obtain ⟨vs,rv,pv',_⟩:=I.tuple ly
 have hz:us.toArray.size=ds.length:=by simp [← ru.length,← hx.length]
 have hz':vs.toArray.size=es.length:=by simp [← rv.length,← hy.length]
 have key:((List.range (min us.toArray.size vs.toArray.size)).all (fun j=>gF (ds.getD j .non) (es.getD j .non)) && us.toArray.size == vs.toArray.size)=fC ds es:=by
  rw [hz,hz']
  by_cases hl:ds.length=es.length
  ·rw [← hl,Nat.min_self,pQ ds es hl];simp
  ·rw [jD ds es hl];simp [hl]
 have a:=RcAt.tuples pu pv' hu (nM I ih hd hx hy ru rv)
 have b:=RcNeAt.tuples pu pv' hu (nM I ih hd hx hy ru rv)
 rw [key] at a b
 refine ⟨?_,a,b⟩
 by_cases hpq:p=q
 ·subst hpq
  have:ds=es:=by
   rw [I.wL ly lx] at hy
   exact jW I ds es xs hx hy
  subst this
  rw [iG]
  exact EqAt.same _
 ·exact EqAt.of_refs hpq a
end
section
variable {X:Cx} {pins:List (Addr×Obj)} {σ:St} {H:Hp} {s:Shared}
theorem gq {ds:List Dt} {x:V} (h:Rep X.K H (.lst ds) x):∃p xs,x=.ref p∧SqL X.K H p xs:=by
 obtain ⟨p,xs,e,l,_⟩:∃p xs,x=.ref p∧SqL X.K H p xs∧dI X.K H ds xs:=by simpa only [Rep] using h
 exact ⟨p,xs,e,l⟩
theorem gw {ds:List Dt} {x:V} (h:Rep X.K H (.tup ds) x):∃p xs,x=.ref p∧SqT X.K H p xs:=by
 obtain ⟨p,xs,e,l,_⟩:∃p xs,x=.ref p∧SqT X.K H p xs∧dI X.K H ds xs:=by simpa only [Rep] using h
 exact ⟨p,xs,e,l⟩
theorem B_ (I:Inv X pins σ H s) {n:Nat} {A:Around} (ih:∀(d d':Dt) (x y:V) (u v:Value),gk d < n→Rep X.K H d x→Rep X.K H d' y→RelV x u→RelV y v→Eq3 A.in1 s u v (gF d d'))
  {d d':Dt} {x y:V} {u v:Value} (hu:A.units + n < cLine) (hd:gk d≤n) (hx:Rep X.K H d x) (hy:Rep X.K H d' y) (rx:RelV x u) (ry:RelV y v):Eq3 A s u v (gF d d'):=by
 have hu0:A.units < cLine:=by lia
 cases d with
 | non =>
  have e:x=V.non:=by simpa [Rep] using hx
  subst e
  cases rx
  cases d' with
  | non =>
   have e:y=V.non:=by simpa [Rep] using hy
   subst e
   cases ry
   exact ⟨(EqAt.same _),RcAt.none_none , RcNeAt.none_none ⟩
  | bl b =>
   have e:y=V.bl b:=by simpa [Rep] using hy
   subst e
   cases ry
   exact ⟨(EqAt.none_bool b),RcAt.none_bool b,RcNeAt.none_bool b⟩
  | int b =>
   have e:y=V.int b:=by simpa [Rep] using hy
   subst e
   obtain ⟨u,rfl⟩:=ry
   exact ⟨(EqAt.none_int b u),RcAt.none_int b u,RcNeAt.none_int b u⟩
  | str b =>
   have e:y=V.str b:=by simpa [Rep] using hy
   subst e
   obtain ⟨u,rfl⟩:=ry
   exact ⟨(EqAt.none_str b u),RcAt.none_str b u,RcNeAt.none_str b u⟩
  | lst b =>
   obtain ⟨pW,xsW,rfl,lW⟩:=gq hy
   cases ry
   obtain ⟨itW,_,plW,_⟩:=I.list lW
   exact ⟨EqAt.none_list  plW.isList hu0,RcAt.none_list  plW.isList hu0,RcNeAt.none_list  plW.isList hu0⟩
  | tup b =>
   obtain ⟨pW,xsW,rfl,lW⟩:=gw hy
   cases ry
   obtain ⟨itW,_,plW,_⟩:=I.tuple lW
   exact ⟨EqAt.none_tuple  plW hu0,RcAt.none_tuple  plW hu0,RcNeAt.none_tuple  plW hu0⟩
 | bl a =>
  have e:x=V.bl a:=by simpa [Rep] using hx
  subst e
  cases rx
  cases d' with
  | non =>
   have e:y=V.non:=by simpa [Rep] using hy
   subst e
   cases ry
   exact ⟨(EqAt.bool_none a),RcAt.bool_none a,RcNeAt.bool_none a⟩
  | bl b =>
   have e:y=V.bl b:=by simpa [Rep] using hy
   subst e
   cases ry
   exact ⟨(EqAt.bool_bool a b),RcAt.bool_bool a b,RcNeAt.bool_bool a b⟩
  | int b =>
   have e:y=V.int b:=by simpa [Rep] using hy
   subst e
   obtain ⟨u,rfl⟩:=ry
   exact ⟨(EqAt.bool_int a b u),RcAt.bool_int a b u,RcNeAt.bool_int a b u⟩
  | str b =>
   have e:y=V.str b:=by simpa [Rep] using hy
   subst e
   obtain ⟨u,rfl⟩:=ry
   exact ⟨(EqAt.bool_str a b u),RcAt.bool_str a b u,RcNeAt.bool_str a b u⟩
  | lst b =>
   obtain ⟨pW,xsW,rfl,lW⟩:=gq hy
   cases ry
   obtain ⟨itW,_,plW,_⟩:=I.list lW
   exact ⟨EqAt.bool_list a plW.isList hu0,RcAt.bool_list a plW.isList hu0,RcNeAt.bool_list a plW.isList hu0⟩
  | tup b =>
   obtain ⟨pW,xsW,rfl,lW⟩:=gw hy
   cases ry
   obtain ⟨itW,_,plW,_⟩:=I.tuple lW
   exact ⟨EqAt.bool_tuple a plW hu0,RcAt.bool_tuple a plW hu0,RcNeAt.bool_tuple a plW hu0⟩
 | int a =>
  have e:x=V.int a:=by simpa [Rep] using hx
  subst e
  obtain ⟨t,rfl⟩:=rx
  cases d' with
  | non =>
   have e:y=V.non:=by simpa [Rep] using hy
   subst e
   cases ry
   exact ⟨(EqAt.int_none a t),RcAt.int_none a t,RcNeAt.int_none a t⟩
  | bl b =>
   have e:y=V.bl b:=by simpa [Rep] using hy
   subst e
   cases ry
   exact ⟨(EqAt.int_bool a t b),RcAt.int_bool a t b,RcNeAt.int_bool a t b⟩
  | int b =>
   have e:y=V.int b:=by simpa [Rep] using hy
   subst e
   obtain ⟨u,rfl⟩:=ry
   exact ⟨(EqAt.int_int a t b u),RcAt.int_int a t b u,RcNeAt.int_int a t b u⟩
  | str b =>
   have e:y=V.str b:=by simpa [Rep] using hy
   subst e
   obtain ⟨u,rfl⟩:=ry
   exact ⟨(EqAt.int_str a t b u),RcAt.int_str a t b u,RcNeAt.int_str a t b u⟩
  | lst b =>
   obtain ⟨pW,xsW,rfl,lW⟩:=gq hy
   cases ry
   obtain ⟨itW,_,plW,_⟩:=I.list lW
   exact ⟨EqAt.int_list a t plW.isList hu0,RcAt.int_list a t plW.isList hu0,RcNeAt.int_list a t plW.isList hu0⟩
  | tup b =>
   obtain ⟨pW,xsW,rfl,lW⟩:=gw hy
   cases ry
   obtain ⟨itW,_,plW,_⟩:=I.tuple lW
   exact ⟨EqAt.int_tuple a t plW hu0,RcAt.int_tuple a t plW hu0,RcNeAt.int_tuple a t plW hu0⟩
 | str a =>
  have e:x=V.str a:=by simpa [Rep] using hx
  subst e
  obtain ⟨t,rfl⟩:=rx
  cases d' with
  | non =>
   have e:y=V.non:=by simpa [Rep] using hy
   subst e
   cases ry
   exact ⟨(EqAt.str_none a t),RcAt.str_none a t,RcNeAt.str_none a t⟩
  | bl b =>
   have e:y=V.bl b:=by simpa [Rep] using hy
   subst e
   cases ry
   exact ⟨(EqAt.str_bool a t b),RcAt.str_bool a t b,RcNeAt.str_bool a t b⟩
  | int b =>
   have e:y=V.int b:=by simpa [Rep] using hy
   subst e
   obtain ⟨u,rfl⟩:=ry
   exact ⟨(EqAt.str_int a t b u),RcAt.str_int a t b u,RcNeAt.str_int a t b u⟩
  | str b =>
   have e:y=V.str b:=by simpa [Rep] using hy
   subst e
   obtain ⟨u,rfl⟩:=ry
   exact ⟨(EqAt.str_str a t b u),RcAt.str_str a t b u,RcNeAt.str_str a t b u⟩
  | lst b =>
   obtain ⟨pW,xsW,rfl,lW⟩:=gq hy
   cases ry
   obtain ⟨itW,_,plW,_⟩:=I.list lW
   exact ⟨EqAt.str_list a t plW.isList hu0,RcAt.str_list a t plW.isList hu0,RcNeAt.str_list a t plW.isList hu0⟩
  | tup b =>
   obtain ⟨pW,xsW,rfl,lW⟩:=gw hy
   cases ry
   obtain ⟨itW,_,plW,_⟩:=I.tuple lW
   exact ⟨EqAt.str_tuple a t plW hu0,RcAt.str_tuple a t plW hu0,RcNeAt.str_tuple a t plW hu0⟩
 | lst a =>
  obtain ⟨pU,xsU,rfl,lU⟩:=gq hx
  cases rx
  obtain ⟨itU,_,plU,_⟩:=I.list lU
  cases d' with
  | non =>
   have e:y=V.non:=by simpa [Rep] using hy
   subst e
   cases ry
   exact ⟨EqAt.list_none  plU.isList hu0,RcAt.list_none  plU.isList hu0,RcNeAt.list_none  plU.isList hu0⟩
  | bl b =>
   have e:y=V.bl b:=by simpa [Rep] using hy
   subst e
   cases ry
   exact ⟨EqAt.list_bool b plU.isList hu0,RcAt.list_bool b plU.isList hu0,RcNeAt.list_bool b plU.isList hu0⟩
  | int b =>
   have e:y=V.int b:=by simpa [Rep] using hy
   subst e
   obtain ⟨u,rfl⟩:=ry
   exact ⟨EqAt.list_int b u plU.isList hu0,RcAt.list_int b u plU.isList hu0,RcNeAt.list_int b u plU.isList hu0⟩
  | str b =>
   have e:y=V.str b:=by simpa [Rep] using hy
   subst e
   obtain ⟨u,rfl⟩:=ry
   exact ⟨EqAt.list_str b u plU.isList hu0,RcAt.list_str b u plU.isList hu0,RcNeAt.list_str b u plU.isList hu0⟩
  | lst b =>
   obtain ⟨pW,xsW,rfl,lW⟩:=gq hy
   cases ry
   obtain ⟨itW,_,plW,_⟩:=I.list lW
   have hd:iD a + 1≤n:=by simpa only [gk] using hd
   exact KN I (n:=n - 1) hu0 (fun d d' x y u v h=>ih d d' x y u v (by lia)) (by lia) hx hy
  | tup b =>
   obtain ⟨pW,xsW,rfl,lW⟩:=gw hy
   cases ry
   obtain ⟨itW,_,plW,_⟩:=I.tuple lW
   exact ⟨EqAt.list_tuple plU.isList plW hu0,RcAt.list_tuple plU.isList plW hu0,RcNeAt.list_tuple plU.isList plW hu0⟩
 | tup a =>
  obtain ⟨pU,xsU,rfl,lU⟩:=gw hx
  cases rx
  obtain ⟨itU,_,plU,_⟩:=I.tuple lU
  cases d' with
  | non =>
   have e:y=V.non:=by simpa [Rep] using hy
   subst e
   cases ry
   exact ⟨EqAt.tuple_none  plU hu0,RcAt.tuple_none  plU hu0,RcNeAt.tuple_none  plU hu0⟩
  | bl b =>
   have e:y=V.bl b:=by simpa [Rep] using hy
   subst e
   cases ry
   exact ⟨EqAt.tuple_bool b plU hu0,RcAt.tuple_bool b plU hu0,RcNeAt.tuple_bool b plU hu0⟩
  | int b =>
   have e:y=V.int b:=by simpa [Rep] using hy
   subst e
   obtain ⟨u,rfl⟩:=ry
   exact ⟨EqAt.tuple_int b u plU hu0,RcAt.tuple_int b u plU hu0,RcNeAt.tuple_int b u plU hu0⟩
  | str b =>
   have e:y=V.str b:=by simpa [Rep] using hy
   subst e
   obtain ⟨u,rfl⟩:=ry
   exact ⟨EqAt.tuple_str b u plU hu0,RcAt.tuple_str b u plU hu0,RcNeAt.tuple_str b u plU hu0⟩
  | lst b =>
   obtain ⟨pW,xsW,rfl,lW⟩:=gq hy
   cases ry
   obtain ⟨itW,_,plW,_⟩:=I.list lW
   exact ⟨EqAt.tuple_list plU plW.isList hu0,RcAt.tuple_list plU plW.isList hu0,RcNeAt.tuple_list plU plW.isList hu0⟩
  | tup b =>
   obtain ⟨pW,xsW,rfl,lW⟩:=gw hy
   cases ry
   obtain ⟨itW,_,plW,_⟩:=I.tuple lW
   have hd:iD a + 1≤n:=by simpa only [gk] using hd
   exact Nb I (n:=n - 1) hu0 (fun d d' x y u v h=>ih d d' x y u v (by lia)) (by lia) hx hy
end
section
variable {X:Cx} {pins:List (Addr×Obj)} {σ:St} {H:Hp} {s:Shared}
theorem eq3 (I:Inv X pins σ H s):∀(n:Nat) (A:Around) (d d':Dt) (x y:V) (u v:Value),A.units + n < cLine→gk d≤n→Rep X.K H d x→Rep X.K H d' y→RelV x u→RelV y v→Eq3 A s u v (gF d d'):=by
 intro n
 induction n with
 | zero=>exact fun A d d' x y u v hu hd hx hy rx ry=>B_ I (n:=0) (fun _ _ _ _ _ _ h=>absurd h (Nat.not_lt_zero _)) hu hd hx hy rx ry
 | succ n ih=>exact fun A d d' x y u v hu hd hx hy rx ry=>B_ I (n:=n + 1) (fun d d' x y u v h hx hy rx ry=>ih A.in1 d d' x y u v (by show A.units + 1 + n < cLine;lia) (Nat.le_of_lt_succ h) hx hy rx ry) hu hd hx hy rx ry
end
section
variable {X:Cx}
theorem Sg {k:Nat} (hr:Room k X.A):OpR X (compareOp .Eq) (fun x y H Q=>∃d d',Rep X.K H d x∧Rep X.K H d' y∧gk d≤100∧Q (.bl (gF d d')) H):=by
 intro pins s σ H x y v u Q I rx ry h
 obtain ⟨d,d',h1,h2,hd,q⟩:=h
 exact (eq3 I 100 X.A d d' x y v u (by have:=hr.un;lia) hd h1 h2 rx ry).rc X.prog X.w X.xe _ ⟨.bl _,H,I,rfl,q⟩
theorem Sh {k:Nat} (hr:Room k X.A):OpR X (compareOp .NotEq) (fun x y H Q=>∃d d',Rep X.K H d x∧Rep X.K H d' y∧gk d≤100∧Q (.bl (!gF d d')) H):=by
 intro pins s σ H x y v u Q I rx ry h
 obtain ⟨d,d',h1,h2,hd,q⟩:=h
 exact (eq3 I 100 X.A d d' x y v u (by have:=hr.un;lia) hd h1 h2 rx ry).ne X.prog X.w X.xe _ ⟨.bl _,H,I,rfl,q⟩
end
end L2
namespace L2
open PySem PySem.Spec PyProof.Rows
def isW:V→Bool
 | .int _=>true
 | _=>false
def ZD:V→Bool
 | .int _=>true
 | .bl _=>true
 | _=>false
def isB:V→Bool
 | .bl _=>true
 | _=>false
def isS:V→Bool
 | .str _=>true
 | _=>false
theorem Nf (x:V):isW x=(ZD x && !isB x):=by cases x <;> rfl
section
variable {K:W.Frag} {H H':Hp} {x:V} {n:String}
theorem Ng (h:eF K H x (.type n)):qW K (.type n) (.ty "int")=some (ZD x):=by cases h <;> rfl
theorem HY (h:eF K H x (.type n)):qW K (.type n) (.ty "bool")=some (isB x):=by cases h <;> rfl
theorem Wf (h:eF K H x (.type n)):qW K (.type n) (.ty "str")=some (isS x):=by cases h <;> rfl
theorem Sq (h:eF K H x (.type n)):qW K (.type n) (.ty "list")=some (n == "list"):=by cases h <;> rfl
theorem Nh (h:eF K H x (.type n)):qW K (.type n) (.ty "tuple")=some (n == "tuple"):=by cases h <;> rfl
theorem eF.same {t:Value} (e:Same H H') (h:eF K H x t):eF K H' x t:=by
 cases h with
 | non=>exact .non
 | bl b=>exact .bl b
 | int i=>exact .int i
 | str y=>exact .str y
 | flt y=>exact .flt y
 | lst q=>exact .lst (e _ _ q)
 | frz q=>exact .frz (e _ _ q)
 | tup q=>exact .tup (e _ _ q)
 | dK q=>exact .dK (e _ _ q)
 | dT q=>exact .dT (e _ _ q)
 | ins q c a b d m=>exact .ins (e _ _ q) c a b d m
end
theorem ZF {α:Type} {c:α} {cs:List α}:atI (c::cs) (0:Int)=some c:=b_ (j:=0) rfl
theorem Ni {α:Type} {xs:List α} {i:Int} (h0:0≤i) (h1:i < xs.length):∃v,atI xs i=some v∧v∈xs:=by
 obtain ⟨j,rfl⟩:∃j:Nat,i=(j:Int):=⟨i.toNat,by lia⟩
 have hj:j < xs.length:=by lia
 exact ⟨xs[j],b_ (by simp [hj]),List.getElem_mem hj⟩
theorem Same.new {H:Hp} {p:Addr} {o:HO} (h:H p=none):Same H (upd H p o):=fun b u e=>by
 rw [bW (cu e h)]
 exact e
theorem Same.tup {K:W.Frag} {H H':Hp} {a:Addr} {xs:List V} (e:Same H H') (h:SqT K H a xs):SqT K H' a xs:=by
 rcases h with (h | ⟨o,h⟩) | h
 ·exact .inl (.inl (e _ _ h))
 ·exact .inl (.inr ⟨o,e _ _ h⟩)
 ·exact .inr h
def Off (p:Addr) (H H':Hp):Prop:=∀b,b≠p→H' b=H b
theorem Off.trans {p:Addr} {H H1 H2:Hp} (a:Off p H H1) (b:Off p H1 H2):Off p H H2:=fun c h=>(b c h).trans (a c h)
theorem Off.upd {p:Addr} {H:Hp} {o:HO}:Off p H (upd H p o):=fun _ h=>bW h
theorem cQ {n:Nat} (h:n≤1000000):n≤sizeLine:=Nat.le_trans h (by decide)
theorem Ss {P:Program} {w:World} {K:W.Frag} {mg:Str→Option Value} {base:Heap} {CX:CXT} {x:Str} {ps:List Str} {sp:Sp} {k:Nat} {st:Stmt} {N:List Str} {f:Addr} {fd:FuncData}
  (F:Fun K x x st f fd) (S:aU N ps (aH st)) (len:∀vs H Q E,sp vs H Q E→vs.length=ps.length)
  (hbody:∀(cdv:Value) (A:Around) (outer:List Env) (s:Shared) (H:Hp) (vs:List V) (Q:VK) (E:XK),Room k (A.deeper (envOfC x (aH st) s.heap.objs.size f cdv))→sp vs H Q E →
   ∃t,PSs (rP CX P w K mg base N x (aH st) f cdv A outer s H E).nox (dH st) t∧t { nx:=fun _ H'=>Q .non H',rt:=Q } (start N vs) H):i_ P w K mg base CX (k + 1) f fd ps sp:=by
 obtain ⟨oc,od,kV,doc,pm,an,cdv,ct,osl,rfl,lk,hcd⟩:=F.ex
 refine Bx lk hcd S len fun A outer s H vs Q E hr hsp=>?_
 obtain ⟨t,h,q⟩:=hbody cdv A outer s H vs Q E hr hsp
 exact ⟨t,h.nox,q⟩
structure Nj (B newId initId:String) (bm:List Value):Prop where
 call:ExcCallFacts B newId initId
 split:splitId newId=some (B, "__new__")
 kind:builtinKind newId=some .builtinFn
 row:Manifest.signature? newId=some ⟨.any,B,B,.cls,[⟨"args", .varPos,false⟩,⟨"kwargs", .varKw,false⟩]⟩
 hasB:bm.contains (.type B)=true
 ada:bm.contains (.type "BaseException")=true
 noA:bm.contains (.type "AttributeError")=false
 noN:bm.contains (.type "NameError")=false
 canon:Manifest.canonical newId=Manifest.canonical "BaseException.__new__"
theorem Nj.under {B newId initId:String} {bm:List Value} (F:Nj B newId initId bm) (R:Addr):Nj B newId initId (.ref R::bm) :=
 ⟨F.call,F.split,F.kind,F.row,by rw [List.contains_cons,F.hasB,Bool.or_true],by rw [List.contains_cons,F.ada,Bool.or_true],by rw [List.contains_cons,F.noA];rfl,by rw [List.contains_cons,F.noN];rfl,F.canon⟩
section
variable {prog:Program} {w:World} {M:Model} {A:Around} {E:Value→Shared→Prop} {R:Result→Shared→Prop} {h:Heap} {g:Array GenState} {d:Drawn} {t:Nat} {os:OsState}
variable {nm q:Str} {C N:Addr} {bs bm:List Value} {hdct:Bool} {sn:List Str} {sub:List Value} {ab:Bool} {col:Option Bool} {dd:Option Addr} {k0 k1 k2 k3 k5:Option Value} {B newId initId:String}
theorem Nj.has (F:Nj B newId initId bm):(Value.ref C::bm).contains (.type B)=true:=by rw [List.contains_cons,F.hasB,Bool.or_true]
end
def ZG (e C:Addr) (dx:Option Addr):HO:=.ext fun h=>∃t sl,h.get? e=some { cls:=.ref C,dict:=dx,data:=.fields #[.ref t,.none,.none,.none,.bool false,.none],slots:=sl }
def Wg (dx:Addr) (fs:List (Str×V)):HO:=.ext fun h=>∃mA,h.Ns1 dx mA∧(∀f,mL (fs.lookup f) (mA f))∧PySem.Within mA (fs.map (·.1))∧fs.length≤100
section
variable {X:Cx} {CX:CXT} {k m:Nat} {f C:Addr} {fd:FuncData} {ps:List Str} {sp:Sp} {E:XK} {x:Str} {p pos:Pos} {e:Expr} {es:List Expr} {t:TA} {bm:List Value}
structure adb (K:W.Frag) (C:Addr):Prop where
 ga:W.findIn K (.ref C) "__getattribute__" = some (some (.builtin "BaseException.__getattribute__"))
 gb:W.findIn K (.ref C) "__getattr__" = some none
 mb:W.mroIn K C (.type "BaseException")=some true
 hd:W.hasDictIn K C=true
end
mutual
def pyD:Dt→PyData
 | .non=>.none
 | .bl b=>.bool b
 | .int i=>.int i
 | .str x=>.str x
 | .lst xs=>.list (Wh xs)
 | .tup xs=>.tuple (Wh xs)
def Wh:List Dt→List PyData
 | []=>[]
 | x::xs=>pyD x::Wh xs
end
structure ZJ (K:W.Frag) (C R:Addr):Prop where
 g:adb K C
 mro:(W.clsIn K C).map (·.mro)=some [.ref C,.ref R,.type "ValueError", .type "Exception", .type "BaseException", .type "object"]
 ty:W.typeIn K (.ref C)=some (.type "type")
 ha:W.findIn K (.ref C) "__class__" = some (some (.builtin "object.__class__"))
 hn:W.specialIn K (.builtin "object.__class__") "__get__" = some (some (.builtin "getset_descriptor.__get__"))
 tk:W.takesIn K (.builtin "object.__class__")=some true
section
variable {prog:Program} {w:World} {A:Around} {E:Value→Shared→Prop} {s:Shared} {K:W.Frag} {e C R D:Addr} {oe:Obj} {odo:Option Obj}
theorem ZJ.in (G:ZJ K C R) (b:Value):W.mroIn K C b=some ([Value.ref C,.ref R,.type "ValueError", .type "Exception", .type "BaseException", .type "object"].contains b):=by
 obtain ⟨cd,hc,hm⟩:=Option.map_eq_some_iff.mp G.mro
 unfold W.mroIn
 rw [hc,Option.bind_some,hm]
 rfl
end
def ExcAt (H:Hp) (x C:Addr) (fs:List (Str×V)):Prop:=(fs=[]∧H x=some (ZG x C none))∨∃dx,H x=some (ZG x C (some dx))∧H dx=some (Wg dx fs)∧dx≠x
theorem ExcAt.same {H H':Hp} {x C:Addr} {fs:List (Str×V)} (e:Same H H') (h:ExcAt H x C fs):ExcAt H' x C fs:=by
 rcases h with ⟨a,b⟩ | ⟨dx,a,b,c⟩
 ·exact .inl ⟨a,e _ _ b⟩
 ·exact .inr ⟨dx,e _ _ a,e _ _ b,c⟩
section
variable {X:Cx}
theorem Gi:OpR X (binaryOp .Mult) (fun x y H Q=>∃z n,x=.str z∧y=.int n∧MulOk z n∧Q (.str (Txt.mul z n)) H):=by
 intro pins s σ H x y v u Q I rx ry h
 obtain ⟨z,n,rfl,rfl,ok,q⟩:=h
 obtain ⟨t,rfl⟩:=rx
 obtain ⟨t',rfl⟩:=ry
 exact SB.mul ok fun t'' k=>⟨.str _,H,I.tok _,⟨_,rfl⟩,q⟩
end
structure Shm (m d:Nat) (x:PyData):Prop where
 sh:x.showable=true
 ln:x.shown.length≤m
 dp:x.depth≤d
structure New (H H':Hp) (p:Addr) (o:HO):Prop where
 s:Same H H'
 e:H' p=some o
 n:∀a u,H a=some u→a≠p
theorem New.mk' {H:Hp} {p:Addr} {o:HO} (h:H p=none):New H (upd H p o) p o:=⟨Same.new h,cB,fun a u q=>cu q h⟩
section
variable {X:Cx} {es:List Expr} {t:TA} {pos:Pos}
def Nk (t:TA):TE:=fun σ H Q=>t σ H fun xs H1=>xs.length≤sizeLine∧∀p H',New H1 H' p (.tup xs)→Q (.ref p) H'
def Nm (t:TA):TE:=fun σ H Q=>t σ H fun xs H1=>xs.length≤sizeLine∧∀p H',New H1 H' p (.lst xs)→Q (.ref p) H'
theorem dg {x1} (h:PA X es t):PE X (.Tuple es x1 pos) (Nk t):=by
 intro pins s σ H Q I hq
 refine wpAny_Tuple_spliced (thn (h pos pins s σ H _ I hq) fun us s1 ⟨xs,H1,I1,r,z,q⟩=>⟨by rw [← r.length];exact z,?_⟩)
 have hf:H1 s1.heap.objs.size=none:=I1.hok.fresh (Nat.le_refl _)
 refine ⟨.ref s1.heap.objs.size,upd H1 s1.heap.objs.size (.tup xs),I1.laid (t':=s1.toks) (fun b u e=>Heap.get?_push_of_some _ e) (Nat.le_refl _) ?_,rfl,q _ _ (.mk' hf)⟩
 exact ⟨z,us,r,⟨_,Heap.get?_push_size _ rfl,rfl,_,rfl⟩⟩
theorem cj (h:PA X es t):PE X (.List es pos) (Nm t):=by
 intro pins s σ H Q I hq
 refine wpAny_List_spliced (thn (h pos pins s σ H _ I hq) fun us s1 ⟨xs,H1,I1,r,z,q⟩=>⟨by rw [← r.length];exact z,?_⟩)
 have hf:H1 s1.heap.objs.size=none:=I1.hok.fresh (Nat.le_refl _)
 refine ⟨.ref s1.heap.objs.size,upd H1 s1.heap.objs.size (.lst xs),I1.laid (t':=s1.toks) (fun b u e=>Heap.get?_push_of_some _ e) (Nat.le_refl _) ?_,rfl,q _ _ (.mk' hf)⟩
 exact ⟨z,us,0,r,Heap.get?_push_size _ rfl⟩
def Np:R2:=fun x y H Q=>∃l b xs zs,x=.ref l∧y=.ref b∧H l=some (.lst xs)∧H b=some (.lst zs)∧xs.length + zs.length≤sizeLine∧∀p H',New H H' p (.lst (xs++zs))→Q (.ref p) H'
theorem kZ:OpR X (binaryOp .Add) Np:=by
 intro pins s σ H x y v u Q I rx ry h
 obtain ⟨l,b,xs,zs,e1,e2,hH,hB,hz,q⟩:=h
 exact Wb pins s σ H x y v u Q I rx ry ⟨l,b,xs,zs,e1,e2,hH,hB,hz,fun p hp=>q p _ (.mk' hp)⟩
def Nq:R2:=fun x y H Q=>∃l k xs,x=.ref l∧y=.int k∧H l=some (.lst xs)∧-(2 ^ 63)≤k∧k < 2 ^ 63∧xs.length * k.toNat≤sizeLine∧∀p H',New H H' p (.lst (List.replicate k.toNat xs).flatten)→Q (.ref p) H'
theorem Sv:OpR X (binaryOp .Mult) Nq:=by
 intro pins s σ H x y v u Q I rx ry h
 obtain ⟨l,k,xs,e1,e2,hH,h1,h2,hz,q⟩:=h
 exact Wc pins s σ H x y v u Q I rx ry ⟨l,k,xs,e1,e2,hH,h1,h2,hz,fun p hp=>q p _ (.mk' hp)⟩
def Ia:V→List V→Hp→VK→Prop:=fun x vs H Q=>∃l xs y,x=.ref l∧vs=[y]∧H l=some (.lst xs)∧xs.length < sizeLine∧∀H',Off l H H'→H' l=some (.lst (xs++[y]))→Q .non H'
theorem Gj:MtM X "list.append" Ia:=by
 intro pins s σ H x vs v us Q I rx rv h
 obtain ⟨l,xs,y,e1,e2,hH,hz,q⟩:=h
 exact wY pins s σ H x vs v us Q I rx rv ⟨l,xs,y,e1,e2,hH,hz,q _ Off.upd cB⟩
theorem cJ {o e:Expr} {to te:TE} {apos cpos:Pos} (ho:PE X o to) (he:PE X e te) (hbase:attributeBase o "append" X.env (eval o X.env)=eval o X.env:=by rfl)
  (hfew:((backTo cpos (starEach [e] X.env)).all (fun x=>!x.1) && (backToKw cpos (keywordEach [] X.env)).all (fun x=>x.1.isSome)
   && decide (([e]:List Expr).length + ([]:List Keyword).length + (if ([]:List Keyword).isEmpty then 0 else 1) < 30))=true:=by rfl)
  (hline:(apos.endLine == cpos.line)=true:=by rfl) (hs:starEach [e] X.env=(false,eval e X.env)::starEach [] X.env:=by rfl) :
  PE X (.Call (.Attribute o "append" apos) [e] [] cpos) (tBM X.K "list" Ia to (jV te rO)) :=
 wW PySem.F.plainAttrs_list PySem.F.slot_list_append PySem.F.type_list_append Gj ho (aj he aq hs) hbase hfew hline hs (by rfl)
end
def Tel (t:TE) (σ:St) (H:Hp) (v:V):Prop:=∀Q:VK,Q v H→t σ H Q
def Nr (t:TA) (σ:St) (H:Hp) (vs:List V):Prop:=∀Q:List V→Hp→Prop,Q vs H→t σ H Q
section
variable {σ σ':St} {H:Hp} {v x y:V} {vs:List V} {t ta tb:TE} {tr:TA} {i j:Nat} {a C:Addr} {f g:Str} {fs:List (Str×V)} {Q:VK} {D:Ends} {s u:TS} {K:W.Frag} {tg:TG} {c:TT}
theorem Wi (h:σ[i]?=some (some v)):Tel (eG i) σ H v:=fun Q q=>⟨v,h,q⟩
theorem ade:Tel (tC v) σ H v:=fun Q q=>q
theorem Ib:Nr rO σ H []:=fun Q q=>q
theorem Ca (h:Tel t σ H v) (k:Nr tr σ H vs):Nr (jV t tr) σ H (v::vs):=fun Q q=>h _ (k _ q)
theorem Sw {Q:List V→Hp→Prop} (h:t σ H fun x H1=>tr σ H1 fun xs H2=>Q (x::xs) H2):jV t tr σ H Q:=h
theorem Wj {Q:List V→Hp→Prop} (h:Q [] H):rO σ H Q:=h
theorem Wk (h:s { D with nx:=u D } σ H):VH s u D σ H:=h
theorem ZK {nx bk ct:St→Hp→Prop} {rt:VK} (h:nx σ H):(Ends.mk nx rt bk ct).nx σ H:=h
theorem Sx (h:D.nx σ H):Mj D σ H:=h
theorem Wl (h:t σ H fun x H1=>tg x σ H1 D.nx):Ms t tg D σ H:=h
theorem Sy (h:tr σ H fun xs H1=>xs.length≤sizeLine∧∀p H',New H1 H' p (.tup xs)→Q (.ref p) H'):Nk tr σ H Q:=h
theorem SJ (h:tr σ H fun xs H1=>xs.length≤sizeLine∧∀p H',New H1 H' p (.lst xs)→Q (.ref p) H'):Nm tr σ H Q:=h
theorem ZL {r:R2} (h:ta σ H fun x H1=>tb σ H1 fun y H2=>r x y H2 Q):tOp r ta tb σ H Q:=h
theorem Wm (h:t σ H D.rt):VJ t D σ H:=h
theorem SM (h:t σ H fun _ H1=>D.nx σ H1):Mq t D σ H:=h
theorem ZM (h:c σ H fun b H1=>if b=true then s D σ H1 else u D σ H1):VL c s u D σ H:=h
theorem SN {Q:Bool→Hp→Prop} (h:t σ H fun x H'=>∃k,x=.bl k∧Q k H'):Hz t σ H Q:=h
theorem adf {Q:Bool→Hp→Prop} (h:t σ H fun x H'=>∃k,x=.bl k∧Q k H'):tB t σ H Q:=h
theorem ZP {r:List V→Hp→VK→Prop} (h:tr σ H fun vs H1=>r vs H1 Q):tCB r tr σ H Q:=h
end
section
variable {σ:St} {H:Hp} {te:TE} {tr:TA} {Q:VK} {c:TT} {fr:List Nat} {fvs:St} {n:Nat}
theorem uc {i:Nat} {x:V} (h:(fQ 0 n)[i]?=some x) (hi:i < n):x=.int i:=by
 have:(fQ 0 n)[i]?=some (V.int (0 + (i:Int))):=by simp [fQ,hi]
 rw [this] at h
 have:=Option.some.inj h
 rw [← this,Int.zero_add]
theorem zO {F:Nat→V} (hr:Nr tr σ H [.int (n:Int)]) (hn:n < 2 ^ 62) (hz:n≤1000000) (hf:(fr.map fun i=>(σ[i]?).getD none)=fvs)
  (turn:∀i H',i < n→Same H H'→Tel te (some (.int i)::fvs) H' (F i)) (k:∀p H',New H H' p (.lst ((List.range n).map F))→Q (.ref p) H'):qX (Bt tr) 1 fr (bQ 0) mH te σ H Q:=by
 refine hr _ ⟨n,rfl,by lia,by lia,fun acc hacc=>?_⟩
 subst hf
 rw [Int.toNat_natCast]
 refine nJ qY (fun i ys H'=>H'=upd H acc (.lst ys)∧ys=(List.range i).map F) ⟨rfl,rfl⟩ (fun i ys H' _ h=>⟨trivial,by rw [h.1];exact cB⟩) ?_ ?_
 ·rintro i x tv ys H' hx hi ⟨rfl,rfl⟩ htv
  obtain ⟨tv0,rfl⟩:∃a,tv=[a]:=List.length_eq_one_iff.mp htv
  have hi':i < n:=by simpa [fQ] using hi
  obtain rfl:=uc hx hi'
  unfold bQ mH
  dsimp only
  rw [if_pos rfl]
  refine turn i _ hi' (Same.new hacc) _ ⟨?_,cB,?_⟩
  ·rw [List.length_map,List.length_range]
   exact Nat.lt_of_lt_of_le hi' (cQ hz)
  ·exact jR.next (tv:=[some (V.int i)]) hi ⟨RG,by rw [List.range_succ,List.map_append];rfl⟩ rfl
 ·rintro ys H' ⟨rfl,rfl⟩
  rw [show (fQ 0 n).length=n by simp [fQ]]
  exact k acc _ (.mk' hacc)
end
def Nt (a C:Addr) (dx:Option Addr):HO:=.ext fun h=>∃oe vs,h.get? a=some oe∧oe.cls=.ref C∧oe.dict=dx∧oe.data=.fields vs
def Gk (H:Hp) (x C:Addr) (fs:List (Str×V)):Prop:=(fs=[]∧H x=some (Nt x C none))∨∃dx,H x=some (Nt x C (some dx))∧H dx=some (Wg dx fs)∧dx≠x
theorem Gk.same {H H':Hp} {x C:Addr} {fs:List (Str×V)} (e:Same H H') (h:Gk H x C fs):Gk H' x C fs:=by
 rcases h with ⟨a,b⟩ | ⟨dx,a,b,c⟩
 ·exact .inl ⟨a,e _ _ b⟩
 ·exact .inr ⟨dx,e _ _ a,e _ _ b,c⟩
theorem Gk.mk {H:Hp} {a C dx:Addr} {fs:List (Str×V)} (hd:H dx=some (Wg dx fs)) (ha:H a=none):Gk (upd H a (Nt a C (some dx))) a C fs :=
 .inr ⟨dx,cB,by rw [bW (cu hd ha)];exact hd,cu hd ha⟩
structure Nu (X:Cx) (pins:List (Addr×Obj)) (σ:St) (H:Hp) (s:Shared) (a C:Addr) (dx:Option Addr):Prop where
 I:Inv X pins σ H s
 ha:H a=some (Nt a C dx)
 tb:∃T oe vs oT ts,s.heap.get? a=some oe∧oe.data=.fields vs∧vs[1]?=some (.ref T)∧s.heap.get? T=some oT∧oT.data=.fields ts∧3 < ts.size∧H T=none∧T≠X.env.locals∧(T∈X.ex∨X.s₀.heap.objs.size≤T)∧(∀x c,X.env.cells.lookup x=some c→c≠T)∧∀p∈X.pn++pins,p.1≠T
section
variable {X:Cx} {x n:Str} {d:Addr} {i:Nat} {b₀:Stmt} {suite:List Stmt} {rest:List ExceptHandler} {th:Addr→TS} {tr:THd} {p pos:Pos}
theorem Nu.type {pins:List (Addr×Obj)} {σ:St} {H:Hp} {s:Shared} {a C:Addr} {dx:Option Addr} (c:Nu X pins σ H s a C dx):W.Looks (model X.prog X.w) s.heap (typeOf (.ref a)) (.ref C):=by
 obtain ⟨⟨oe,vs,ge,gc,gd,gf⟩,_,_⟩:dW X.prog X.w H s.heap a (Nt a C dx):=c.I.hok a _ c.ha
 exact gc▸(W.Looks.ld ge).andThen .now
end
def zP (K:W.Frag):List V→Hp→VK→Prop:=fun xs H Q=>∃x d t b,xs=[x,d]∧eF K H x t∧qW K t d=some b∧Q (.bl b) H
theorem cR {X:Cx}:fu X (.builtin "isinstance") (zP X.K):=call_isinstance
theorem Ie:∀{xs:List V} {us:List Value},xs.length=us.length→(∀(j:Nat) (x:V) (u:Value),xs[j]?=some x→us[j]?=some u→RelV x u)→Vals xs us
 | [],[],_,_=>.nil
 | [],_::_,h,_=>nomatch h
 | _::_,[],h,_=>nomatch h
 | x::xs,u::us,h,f=>.cons (f 0 x u rfl rfl) (Ie (Nat.succ.inj h) fun j y z e1 e2=>f (j + 1) y z (by simpa using e1) (by simpa using e2))
section
variable {X:Cx} {pins:List (Addr×Obj)} {σ:St} {H:Hp} {s:Shared} {h':Heap} {t':Nat} {ch:List Addr}
theorem Inv.zQ (I:Inv X pins σ H s) (hf:∀b∈ch,jl X pins H b) (k:∀b o,b ∉ ch→s.heap.get? b=some o→h'.get? b=some o):Inv X pins σ H { s with heap:=h',toks:=t' }:=by
 have off:∀b u,H b=some u→b ∉ ch:=fun b u e z=>by
  rw [(hf b z).1] at e
  cases e
 refine I.step (g':=s.gens) (d':=s.drawn) (ch:=ch) (fun b hb=>?_) (fun b o _ _ hc e _=>k b o hc e) (fun b o _ _ hc e _=>⟨o.slots,k b o hc e⟩) (fun _ _ _ _ n=>n)
  (fun b o hc e=>⟨o,k b o hc e⟩) (fun _ _ e=>e) (fun _ _ _ e=>e) (fun b ps e=>⟨#[],by rw [e];simp⟩) (fun m hm=>?_) (fun b u e=>?_) I.bare
 ·obtain ⟨_,f1,_,f3,f4,f5⟩:=hf b hb
  exact ⟨f3,f1,f4,f5⟩
 ·obtain ⟨o,es,ep,ho,r⟩:=hm
  exact ⟨o,es,ep,k _ o (fun z=>(hf _ z).2.1 rfl) ho,r⟩
 ·refine (I.hok b u e).stay (fun c v hc q=>k c v ?_ q) (fun _ q=>q) fun _ _ q=>q
  rcases hc with z | z
  ·rw [z];exact off b u e
  ·exact off c _ z
theorem Inv.ud {a:Addr} {o:HO} (I:Inv X pins σ H s) (hf:∀b∈ch,jl X pins H b) (k:∀b o,b ∉ ch→s.heap.get? b=some o→h'.get? b=some o) (ha:s.heap.objs.size≤a)
  (new:dW X.prog X.w (upd H a o) h' a o):Inv X pins σ (upd H a o) { s with heap:=h',toks:=t' }:=by
 have I1:Inv X pins σ H { s with heap:=h',toks:=t' }:=I.zQ hf k
 have hn:H a=none:=I.hok.fresh ha
 refine I.step (g':=s.gens) (d':=s.drawn) (ch:=ch) (fun b hb=>?_) (fun b u _ _ hc e _=>k b u hc e) (fun b u _ _ hc e _=>⟨u.slots,k b u hc e⟩)
  (fun b u _ e n=>by rw [bW (Nat.ne_of_lt (Nat.lt_of_lt_of_le (Heap.lt_size e) ha))];exact n)
  (fun b u hc e=>⟨u,k b u hc e⟩) (fun b xs e=>by rw [bW (cu e hn)];exact e) (fun b u x e=>by rw [bW (cu e hn)];exact e)
  (fun b ps e=>⟨#[],by rw [bW (cu e hn),e];simp⟩) (fun m hm=>?_) (fun b u e=>?_) I.bare
 ·obtain ⟨_,f1,_,f3,f4,f5⟩:=hf b hb
  exact ⟨f3,f1,f4,f5⟩
 ·obtain ⟨u,es,ep,ho,r⟩:=hm
  exact ⟨u,es,ep,k _ u (fun z=>(hf _ z).2.1 rfl) ho,r⟩
 ·by_cases hb:b=a
  ·subst hb
   rw [cB] at e
   cases e
   exact new
  ·rw [bW hb] at e
   exact (I1.hok b u e).stay (fun _ _ _ q=>q) (fun c q=>by rw [bW (cu q hn)];exact q) fun c xs q=>by rw [bW (cu q hn)];exact q
end
def Ite (K:W.Frag) (a:Addr) (xs:List V):It :=
 ⟨fun i H=>SqL K H a xs∧i < xs.length,fun i H x H'=>∃T v,x=.ref T∧xs[i]?=some v∧New H H' T (.tup [.int i,v]),fun i H=>SqL K H a xs∧xs.length≤i⟩
theorem KQ {P:Program} {w:World} {K:W.Frag} {elts:List Expr} {x1} {pos:Pos} (a e it:Addr) (xs:List V) (hei:e≠it) :
  Turn P w K (.Tuple elts x1 pos) (Ite K a xs) [e,it] e (fun i h=>(∃old,IsEnum h e it i old)∧h.IsListIter it a i) where
 mem:=by simp
 obj:=fun i h st b hb=>by
  obtain ⟨⟨old,he⟩,o,hi,hc,hd⟩:=st
  rcases List.mem_cons.mp hb with rfl | hb
  ·exact ⟨_,he,fun v z=>by
    have z':Data.fields _=Data.cell v:=z
    cases z'⟩
  ·rw [List.mem_singleton.mp hb]
   exact ⟨o,hi,fun v z=>by rw [hd] at z;cases z⟩
 keep:=fun i h h' st k=>by
  obtain ⟨⟨old,he⟩,hi⟩:=st
  exact ⟨⟨old,k e (by simp) _ he⟩,hi.at fun o q=>k it (by simp) o q⟩
 item:=by
  intro X hP hw hK hc i pins s σ H E I hf st hg
  subst hP hw hK
  obtain ⟨⟨old,he⟩,hi⟩:=st
  obtain ⟨hq,hlt⟩:=hg
  obtain ⟨its,rv,p,hz⟩:=I.list hq
  have hx:xs[i]?=some xs[i]:=by simp [hlt]
  generalize xs[i]=x at hx
  obtain ⟨u,hu,ru⟩:=rv.get hx
  refine wpAny_pyNext_enum_item he hi p.isList (x:=u) (by simpa using hu) hei fun h1 ho hi1 hT hsz hk=>?_
  refine ⟨_,rfl,wpAny_letOwnedTupleGo_enum ho fun h2 he2 hs2=>?_⟩
  have neT:s.heap.objs.size≠e:=Nat.ne_of_gt (Heap.lt_size he)
  have hT2:=(hs2.2 _ neT).trans hT
  have k2:∀b o,b ∉ [e,it]→s.heap.get? b=some o→h2.get? b=some o:=fun b o hb q=>by
   simp only [List.mem_cons,List.not_mem_nil,or_false,not_or] at hb
   exact (hs2.2 b hb.1).trans (hk b o hb.1 hb.2 q)
  have new:dW X.prog X.w (upd H s.heap.objs.size (.tup [.int i,x])) h2 s.heap.objs.size (.tup [.int i,x]) :=
   ⟨by show 2≤sizeLine;decide,[.int i s.toks,u],.cons ⟨_,rfl⟩ (.cons ru .nil),⟨_,hT2,rfl,_,rfl⟩⟩
  refine ⟨.ref s.heap.objs.size,_,I.ud (t':=s.toks + 1) hf k2 (Nat.le_refl _) new,rfl,⟨_,x,rfl,hx,.mk' (I.hok.fresh (Nat.le_refl _))⟩,⟨⟨u,by simpa using he2⟩,hi1.at fun o q=>(hs2.2 it hei.symm).trans q⟩,fun b hb=>?_⟩
  have hbn:=(hf b hb).1
  have hb':b < s.heap.objs.size:=by
   rcases List.mem_cons.mp hb with rfl | hb
   ·exact Heap.lt_size he
   ·rw [List.mem_singleton.mp hb]
    obtain ⟨o,q,_⟩:=hi
    exact Heap.lt_size q
  rw [bW (Nat.ne_of_lt hb')]
  exact hbn
 done:=by
  intro X hP hw hK hc i pins s σ H E I hf st hg
  subst hP hw hK
  obtain ⟨⟨old,he⟩,hi⟩:=st
  obtain ⟨hq,hle⟩:=hg
  obtain ⟨its,rv,p,hz⟩:=I.list hq
  have hl:=rv.length
  refine wpAny_pyNext_enum_end (I.ok.hd hc) he hi p.isList (by simp;lia) fun h' eb=>⟨rfl,I.zQ (t':=s.toks) (ch:=[e,it]) hf fun b o hb q=>eb b o (fun z=>hb (by simp [z])) q⟩
 self:=fun _ _ _ _ _ st h=>by
  obtain ⟨⟨old,he⟩,_⟩:=st
  exact wpAny_pyIter_enum he h
theorem KR:bootBuiltins "enumerate" = some (.type "enumerate"):=by decide +kernel
def Nv (K:W.Frag) (ta:TA):TI:=fun σ H R=>ta σ H fun vs H1=>∃a xs,vs=[.ref a]∧SqL K H1 a xs∧R (Ite K a xs) H1
theorem Ig {X:Cx} {elts:List Expr} {x1} {tpos:Pos} {a:Expr} {ta:TA} {p pos:Pos} (hg:Gl X "enumerate") (hm:X.mg "enumerate" = none) (ha:PA X [a] ta) (hs:starEach [a] X.env=[(false,eval a X.env)]:=by rfl) :
  PI X (.Tuple elts x1 tpos) (.Call (.Name "enumerate" p) [a] [] pos) (Nv X.K ta):=by
 intro pins s σ H R I h
 refine Call_ (iy I hg hm KR (PyProof.Rows.callWith_type1 (thn (ha pos pins s σ H _ I h) fun us s1 ⟨vs,H1,I1,r1,q1⟩=>?_) hs rfl))
 obtain ⟨l,xs,e,hq,q⟩:=q1
 subst e
 obtain ⟨u,rfl,r⟩:=vals1 r1
 cases r
 obtain ⟨its,rv,pl,hz⟩:=I1.list hq
 refine call_enumerate_list pl.isList fun h' he hi hsz hk=>?_
 have I2:Inv X pins σ H1 { s1 with heap:=h' }:=I1.kept (t':=s1.toks) hk
 refine wpAny_pyIter_enum he ?_
 refine ⟨s1.heap.objs.size + 1,[s1.heap.objs.size + 1,s1.heap.objs.size],_,Ite X.K l xs,H1,rfl,I2,KQ l _ _ xs (Nat.succ_ne_self _),⟨⟨.none,he⟩,hi⟩,fun b hb=>?_,q⟩
 have hb':s1.heap.objs.size≤b:=by
  rcases List.mem_cons.mp hb with rfl | hb
  ·exact Nat.le_succ _
  ·rw [List.mem_singleton.mp hb]
   exact Nat.le_refl _
 exact I1.Fz hb' (I1.hok.fresh hb')
theorem Nx {K:PySem.W.Frag} {a:Addr} {xs:List V} {g:TG} {tb:TS} {D:Ends} {σ:St} {H:Hp} (Pv:Nat→St→Hp→Prop) (h0:Pv 0 σ H) (hl:∀i σ H,i≤xs.length→Pv i σ H→SqL K H a xs)
  (hs:∀i x T σ H H',xs[i]?=some x→Pv i σ H→New H H' T (.tup [.int i,x])→g (.ref T) σ H' fun σ2 H2=>tb { D with nx:=Pv (i + 1),ct:=Pv (i + 1),bk:=D.nx } σ2 H2) (hd:∀σ H,Pv xs.length σ H→D.nx σ H) :
  ∃W:Nat→Nat→St→Hp→Prop,(∃m,W 0 m σ H)∧∀i m σ H,W i m σ H →
   ((Ite K a xs).stop i H∧D.nx σ H)∨((Ite K a xs).go i H∧∃N:St→Hp→Prop,(∀σ' H',N σ' H'→∃m',m' < m∧W (i + 1) m' σ' H')∧∀x H',(Ite K a xs).yld i H x H'→g x σ H' fun σ2 H2=>tb { D with nx:=N,ct:=N,bk:=D.nx } σ2 H2):=by
 refine ⟨fun i m σ H=>m=xs.length - i∧i≤xs.length∧Pv i σ H,⟨xs.length,by simp,Nat.zero_le _,h0⟩,?_⟩
 rintro i m σ H ⟨rfl,hi,p⟩
 have q:=hl i σ H hi p
 by_cases hlt:i < xs.length
 ·refine .inr ⟨⟨q,hlt⟩,Pv (i + 1),fun σ' H' p'=>⟨xs.length - (i + 1),by lia,rfl,hlt,p'⟩,fun x H' y=>?_⟩
  obtain ⟨T,v,rfl,hv,n⟩:=y
  exact hs i v T σ H H' hv p n
 ·have e:i=xs.length:=by lia
  subst e
  exact .inl ⟨⟨q,Nat.le_refl _⟩,hd σ H p⟩
theorem boot_reversed:bootBuiltins "reversed" = some (.type "reversed"):=by decide +kernel
theorem Gm:typeLookup (.type "list_reverseiterator") (Str.ofString "__len__")=pure none:=by rw [typeLookup_type,builtinLookup_eq_fast];kernel_rfl
theorem Ny:typeLookup (.type "list_reverseiterator") (Str.ofString "__length_hint__")=pure (some (.builtin "list_reverseiterator.__length_hint__")):=by rw [typeLookup_type,builtinLookup_eq_fast];kernel_rfl
theorem Nz {prog:Program} {w:World} {A:Around} {E:Value→Shared→Prop} {s:Shared} {r:Addr} {Q:Bool→Shared→Prop} (hT:s.TypeIs (.ref r) "list_reverseiterator") (h:Q false s) :
  wpAny (model prog w) A (Builtin.List.listLengthHint (.ref r)) Q E s:=by
 unfold Builtin.List.listLengthHint
 refine wpAny_bind (wpAny_specialOf hT Gm ?_)
 show wpAny _ _ (specialOf (Value.ref r) (Str.ofString "__length_hint__") >>= _) _ _ _
 refine wpAny_bind (wpAny_specialOf hT Ny ?_)
 generalize hid:("list_reverseiterator.__length_hint__" : String)=id0
 wp_delta
 rw [show splitId id0=some ("list_reverseiterator", "__length_hint__") from by subst hid;decide +kernel]
 subst hid
 refine wpAny_bind (wpAny_isInstance (T := "list_reverseiterator") (b:=true) hT (by rw [isSubtype_type];kernel_rfl) ?_)
 refine wpAny_ite_split (fun hab=>absurd hab (by decide)) (fun _=>?_)
 refine wpAny_ite_split (fun _=>?_) (fun hab=>absurd (by decide +kernel) hab)
 refine wpAny_ite_split (fun hab=>absurd hab (by decide +kernel)) (fun _=>?_)
 exact wpAny_pure h
section
variable {prog:Program} {w:World} {A:Around} {E:Value→Shared→Prop} {s:Shared} {I l S:Addr} {items:Array Value}
theorem Gn {R:Result→Shared→Prop} {c₀:Nat} {res:Value} (hh:A.handled=none) (hI:s.heap.IsRevIter I l ((items.size:Int) - 1)) (hl:s.heap.IsList l items) (hne:l≠I) (hSI:S≠I) (hSl:S≠l)
  (hS:s.heap.get? S=some { cls:=.type "list", data:=.seq #[] c₀ }) (hn:items.size≤sizeLine)
  (hR:∀h' tk acc' c',(∀b o,b≠S→b≠I→s.heap.get? b=some o→h'.get? b=some o)→h'.get? S=some { cls:=.type "list", dict:=none,data:=.seq acc' c',slots:=#[] }→PySem.ItemsOf (fun i v=>items[items.size - 1 - i]?=some v) acc' items.size →
   R (.ok (.ret res)) { s with heap:=h',toks:=tk }) :
  wpAny (model prog w) A.in1 (Builtin.List.listExtendWith (.ref S) (.ref I) res)
   (fun fin s'=>match fin with | .done f=>R (.ok f) s' | .again c'=>c'.quiet=true∧codeAny (model prog w) A c' R s') (fun e s'=>R (.error e) s') s:=by
 have W:=Walks.listRev (prog:=prog) (w:=w) (A:=A.in1) hh I l hne items
 have hSf:S ∉ [I,l]:=by simp [hSI,hSl]
 have st:(0:Nat)≤items.size∧s.heap.IsRevIter I l ((items.size:Int) - 1 - ((0:Nat):Int))∧s.heap.IsList l items:=⟨Nat.zero_le _,by simpa using hI,hl⟩
 have fin:codeAny (model prog w) A (.builtin "list.extend.loop" ⟨[.ref S,.ref I,res],[]⟩) R s:=by
  refine codeAny_extend_loopS W.toS hn S hSf res items.size 0 _ #[] c₀ rfl (Nat.zero_le _) st hS (PySem.ItemsOf.nil _) fun s' acc' c' hm hS' hacc=>?_
  rw [Moved.eq_with hm]
  exact hR s'.heap s'.toks acc' c' (fun b o h1 h2 q=>hm.heap b o (by simp [h1,h2]) q) hS' hacc
 unfold Builtin.List.listExtendWith
 refine wpAny_bind (wpAny_typeOf (T := "list_reverseiterator") hI.typeIs ?_)
 have h1:Builtin.List.listSameRef (.ref S) (.ref I)=false:=by simp [Builtin.List.listSameRef,hSI]
 have h2:(Value.type "list_reverseiterator" == Value.type "list")=false:=by decide
 have h3:(Value.type "list_reverseiterator" == Value.type "tuple")=false:=by decide
 simp only [h1,h2,h3,Bool.or_false,Bool.false_eq_true,if_false]
 refine wpAny_bind (wpAny_pyIter_revIter hI ?_)
 refine wpAny_bind (wpAny_holding (Nz hI.typeIs ?_))
 refine wpAny_ite_split (fun hab=>absurd hab (by first | decide | decide +kernel)) (fun _=>?_)
 exact wpAny_pure ⟨plainId_quiet PySem.F.plain_extend_loop _,fin⟩
theorem NK {R:Result→Shared→Prop} (hh:A.handled=none) (hI:s.heap.IsRevIter I l ((items.size:Int) - 1)) (hl:s.heap.IsList l items) (hne:l≠I) (hSI:S≠I) (hSl:S≠l)
  (hS:s.heap.get? S=some { cls:=.type "list", data:=.seq #[] }) (hn:items.size≤sizeLine)
  (hR:∀h' tk acc' c',(∀b o,b≠S→b≠I→s.heap.get? b=some o→h'.get? b=some o)→h'.get? S=some { cls:=.type "list", dict:=none,data:=.seq acc' c',slots:=#[] }→PySem.ItemsOf (fun i v=>items[items.size - 1 - i]?=some v) acc' items.size →
   R (.ok (.ret .none)) { s with heap:=h',toks:=tk }) :
  wpAny (model prog w) A.in1 (Builtin.«list.__init__» ⟨[.ref S,.ref I],[]⟩)
   (fun fin s'=>match fin with | .done f=>R (.ok f) s' | .again c'=>c'.quiet=true∧codeAny (model prog w) A c' R s') (fun e s'=>R (.error e) s') s:=by
 show wpAny _ _ (Builtin.List.listItems (.ref S) >>= fun old=>Builtin.List.listUpdate (.ref S) (fun _=>#[]) >>= fun _=>letGo old.toList.reverse >>= fun _=>Builtin.List.listExtendWith (.ref S) (.ref I) .none) _ _ s
 refine wpAny_bind ?_
 unfold Builtin.List.listItems
 refine wpAny_bind (wpAny_seqItems hS rfl (wpAny_pure (wpAny_bind ?_)))
 show wpAny _ _ (updateSeq S (fun _=>#[])) _ _ _
 refine wpAny_updateSeq hS rfl (wpAny_bind (wpAny_letGo ?_))
 have hS2:=Heap.get?_update_self (Obj.mapSeq (fun _=>(#[]:Array Value))) hS rfl
 have oth:∀b o,b≠S→s.heap.get? b=some o→(s.heap.update S (Obj.mapSeq (fun _=>(#[]:Array Value)))).get? b=some o:=fun b o hb q=>by
  rw [Heap.get?_update_other _ _ (Ne.symm hb)]
  exact q
 exact Gn (c₀:=_) hh (hI.at fun o q=>oth I o (Ne.symm hSI) q) (hl.at fun o q=>oth l o (Ne.symm hSl) q) hne hSI hSl hS2 hn fun h' tk acc' c' hk hS' hacc=>hR h' tk acc' c' (fun b o h1 h2 q=>hk b o h1 h2 (oth b o h1 q)) hS' hacc
theorem NP {Q:Value→Shared→Prop} (hh:A.handled=none) (hI:s.heap.IsRevIter I l ((items.size:Int) - 1)) (hl:s.heap.IsList l items) (hne:l≠I) (hn:items.size≤sizeLine)
  (hQ:∀h' tk acc' c',(∀b o,b≠I→s.heap.get? b=some o→h'.get? b=some o)→h'.get? s.heap.objs.size=some { cls:=.type "list", dict:=none,data:=.seq acc' c',slots:=#[] } →
   PySem.ItemsOf (fun i v=>items[items.size - 1 - i]?=some v) acc' items.size→Q (.ref s.heap.objs.size) { s with heap:=h',toks:=tk }) :
  wpAny (model prog w) A (call (.type "list") [.ref I]) Q E s:=by
 have hS:(s.heap.push { cls:=.type "list", data:=.seq #[] }).get? s.heap.objs.size=some { cls:=.type "list", data:=.seq #[] }:=Heap.get?_push_size _ rfl
 have up:∀b o,s.heap.get? b=some o→(s.heap.push { cls:=.type "list", data:=.seq #[] }).get? b=some o:=fun b o q=>Heap.get?_push_of_some _ q
 have hIlt:I < s.heap.objs.size:=by
  obtain ⟨o,q,_⟩:=hI
  exact Heap.lt_size q
 have adg:l < s.heap.objs.size:=by
  obtain ⟨o,q,_⟩:=hl
  exact Heap.lt_size q
 refine callType_codes PySem.F.called_list (PySem.F.typeCall_list_1 _) PySem.F.entry_list_init
  (Q₁:=fun v z=>v=.ref s.heap.objs.size∧z={ s with heap:=s.heap.push { cls:=.type "list", data:=.seq #[] } }) (code_list_new _ ⟨rfl,rfl⟩) ?_
 rintro _ _ ⟨rfl,rfl⟩
 refine ⟨⟨_,hS,rfl⟩,PySem.F.args_list_init_2 _ _,?_⟩
 refine NK (A:=A.in1) (s:={ s with heap:=s.heap.push { cls:=.type "list", data:=.seq #[] } }) hh (hI.at fun o q=>up I o q) (hl.at fun o q=>up l o q) hne (Nat.ne_of_gt hIlt) (Nat.ne_of_gt adg) hS hn fun h' tk acc' c' hk hS' hacc=>?_
 exact ⟨rfl,hQ h' tk acc' c' (fun b o hb q=>hk b o (Nat.ne_of_lt (Heap.lt_size q)) hb (up b o q)) hS' hacc⟩
end
def U9 (K:W.Frag) (ta:TA):TE:=fun σ H Q=>ta σ H fun vs H1=>∃a xs,vs=[.ref a]∧SqL K H1 a xs∧∀l H',New H1 H' l (.lst xs.reverse)→Q (.ref l) H'
theorem mW {X:Cx} {e:Expr} {ta:TA} {p1 p2 pos1 pos2:Pos} (hc:X.calm=true) (gl:Gl X "list") (ml:X.mg "list" = none) (gr:Gl X "reversed") (mr:X.mg "reversed" = none) (ha:PA X [e] ta)
  (h1:starEach [.Call (.Name "reversed" p2) [e] [] pos2] X.env=[(false,eval (.Call (.Name "reversed" p2) [e] [] pos2) X.env)]:=by rfl) (h2:starEach [e] X.env=[(false,eval e X.env)]:=by rfl) :
  PE X (.Call (.Name "list" p1) [.Call (.Name "reversed" p2) [e] [] pos2] [] pos1) (U9 X.K ta):=by
 intro pins s σ H Q I h
 refine wpAny_Call_Name_kw (iy I gl ml boot_list (PyProof.Rows.callWith_type1 ?_ h1 rfl))
 rw [h1]
 refine Calls.spliced_cons ?_
 refine Call_ (iy I gr mr boot_reversed (PyProof.Rows.callWith_type1 (thn (ha pos2 pins s σ H _ I h) fun us s1 ⟨vs,H1,I1,r1,q1⟩=>?_) h2 rfl))
 obtain ⟨a,xs,rfl,hq,q⟩:=q1
 obtain ⟨u,rfl,rx⟩:=vals1 r1
 cases rx
 obtain ⟨its,rv,pl,hz⟩:=I1.list hq
 have hlen:=rv.length
 refine call_reversed_list pl.isList (Calls.spliced_nil ?_)
 have hlt:a < s1.heap.objs.size:=by
  obtain ⟨o,q,_⟩:=pl.isList
  exact Heap.lt_size q
 have hrev:(s1.heap.push (revObj a ((its.toArray.size:Int) - 1))).IsRevIter s1.heap.objs.size a ((its.toArray.size:Int) - 1):=⟨_,Heap.get?_push_size _ rfl,rfl,rfl⟩
 refine NP (s:={ s1 with heap:=s1.heap.push (revObj a ((its.toArray.size:Int) - 1)) }) (I1.ok.hd hc) hrev (pl.isList.at fun o z=>Heap.get?_push_of_some _ z) (Nat.ne_of_lt hlt) (by rw [List.size_toArray,← hlen];exact hz) fun h' tk acc c hk hD hI=>?_
 have hk':∀b o,s1.heap.get? b=some o→h'.get? b=some o:=fun b o z=>hk b o (Nat.ne_of_lt (Heap.lt_size z)) (Heap.get?_push_of_some _ z)
 have hsz:(s1.heap.push (revObj a ((its.toArray.size:Int) - 1))).objs.size=s1.heap.objs.size + 1:=Heap.size_push ..
 have hge:s1.heap.objs.size≤(s1.heap.push (revObj a ((its.toArray.size:Int) - 1))).objs.size:=by rw [hsz];exact Nat.le_succ _
 refine ⟨.ref (s1.heap.push (revObj a ((its.toArray.size:Int) - 1))).objs.size,_,I1.laid (t':=tk) (o:=.lst xs.reverse) hk' hge ?_,rfl,q _ _ (.mk' (I1.hok.fresh hge))⟩
 refine ⟨by rw [List.length_reverse];exact hz,acc.toList,c,Ie (by
  have e:=hI.1
  have e2:acc.toList.length=acc.size:=Array.length_toList
  have e3:its.toArray.size=its.length:=List.size_toArray ..
  have e4:xs.reverse.length=xs.length:=List.length_reverse
  lia) fun j x u e1 e2=>?_,by simpa using hD⟩
 have e3:=hI.2 j u (by rw [← Array.getElem?_toList];exact e2)
 have hj:j < xs.length:=by
  have:=(List.getElem?_eq_some_iff.mp e1).1
  rwa [List.length_reverse] at this
 rw [List.getElem?_reverse hj] at e1
 obtain ⟨u',e4,r4⟩:=rv.get e1
 have e5:its[xs.length - 1 - j]?=some u:=by
  rw [List.size_toArray,← hlen] at e3
  simpa using e3
 rw [e5] at e4
 cases e4
 exact r4
section
variable {X:Cx}
def Cd:V→V→V→Hp→(Hp→Prop)→Prop:=fun o i v H Q=>∃p xs k j,o=.ref p∧i=.int k∧H p=some (.lst xs)∧ixN xs.length k=some j∧∀H',Off p H H'→H' p=some (.lst (xs.set j v))→Q H'
theorem pX:VP X Cd:=by
 intro pins s σ H o i v ov iv u Q I ro ri rv h
 obtain ⟨p,xs,k,j,e1,e2,hp,hj,q⟩:=h
 exact set_list pins s σ H o i v ov iv u Q I ro ri rv ⟨p,xs,k,j,e1,e2,hp,hj,q _ Off.upd cB⟩
def Wn (K:W.Frag):V→Option Int→Option Int→Hp→VK→Prop:=fun x lo hi H Q=>∃a xs,x=.ref a∧SqL K H a xs∧∀p H',New H H' p (.lst (pO xs lo hi))→Q (.ref p) H'
theorem fU:SlR X (Wn X.K):=by
 intro pins s σ H x v vl vu lo hi sl Q I rx hs pl pu h
 obtain ⟨a,xs,e,hx,q⟩:=h
 exact R0 pins s σ H x v vl vu lo hi sl Q I rx hs pl pu ⟨a,xs,e,hx,fun p hp=>q p _ (.mk' hp)⟩
def NQ (K:W.Frag):List V→Hp→VK→Prop:=fun xs H Q=>∃p ys,xs=[.ref p]∧(SqL K H p ys∨SqT K H p ys)∧∀l H',New H H' l (.lst ys)→Q (.ref l) H'
theorem je:fu X (.type "list") (NQ X.K):=by
 intro pins s σ H xs us Q I r h
 obtain ⟨p,ys,e,hq,q⟩:=h
 exact zM pins s σ H xs us Q I r ⟨p,ys,e,hq,fun l hl=>q l _ (.mk' hl)⟩
end
section
variable {σ:St} {H:Hp} {Q:VK} {v x y:V} {i j:Int} {K:W.Frag} {t ta tb tc:TE} {tr:TA} {s u:TS} {D:Ends} {c d:TT}
theorem wv0 {r:St} (h:Q v H):eG 0 (some v::r) H Q:=⟨v,rfl,h⟩
theorem wn0 {o:Option V} {r:St} {R:St→Hp→Prop} (h:R (some v::r) H):bQ 0 v (o::r) H R:=h
theorem wv1 {o0:Option V} {r:St} (h:Q v H):eG 1 (o0::some v::r) H Q:=⟨v,rfl,h⟩
theorem wn1 {o0:Option V} {o:Option V} {r:St} {R:St→Hp→Prop} (h:R (o0::some v::r) H):bQ 1 v (o0::o::r) H R:=h
theorem wv2 {o0 o1:Option V} {r:St} (h:Q v H):eG 2 (o0::o1::some v::r) H Q:=⟨v,rfl,h⟩
theorem wn2 {o0 o1:Option V} {o:Option V} {r:St} {R:St→Hp→Prop} (h:R (o0::o1::some v::r) H):bQ 2 v (o0::o1::o::r) H R:=h
theorem wv3 {o0 o1 o2:Option V} {r:St} (h:Q v H):eG 3 (o0::o1::o2::some v::r) H Q:=⟨v,rfl,h⟩
theorem wn3 {o0 o1 o2:Option V} {o:Option V} {r:St} {R:St→Hp→Prop} (h:R (o0::o1::o2::some v::r) H):bQ 3 v (o0::o1::o2::o::r) H R:=h
theorem wv4 {o0 o1 o2 o3:Option V} {r:St} (h:Q v H):eG 4 (o0::o1::o2::o3::some v::r) H Q:=⟨v,rfl,h⟩
theorem wn4 {o0 o1 o2 o3:Option V} {o:Option V} {r:St} {R:St→Hp→Prop} (h:R (o0::o1::o2::o3::some v::r) H):bQ 4 v (o0::o1::o2::o3::o::r) H R:=h
theorem wv5 {o0 o1 o2 o3 o4:Option V} {r:St} (h:Q v H):eG 5 (o0::o1::o2::o3::o4::some v::r) H Q:=⟨v,rfl,h⟩
theorem wn5 {o0 o1 o2 o3 o4:Option V} {o:Option V} {r:St} {R:St→Hp→Prop} (h:R (o0::o1::o2::o3::o4::some v::r) H):bQ 5 v (o0::o1::o2::o3::o4::o::r) H R:=h
theorem wv6 {o0 o1 o2 o3 o4 o5:Option V} {r:St} (h:Q v H):eG 6 (o0::o1::o2::o3::o4::o5::some v::r) H Q:=⟨v,rfl,h⟩
theorem wn6 {o0 o1 o2 o3 o4 o5:Option V} {o:Option V} {r:St} {R:St→Hp→Prop} (h:R (o0::o1::o2::o3::o4::o5::some v::r) H):bQ 6 v (o0::o1::o2::o3::o4::o5::o::r) H R:=h
theorem wv7 {o0 o1 o2 o3 o4 o5 o6:Option V} {r:St} (h:Q v H):eG 7 (o0::o1::o2::o3::o4::o5::o6::some v::r) H Q:=⟨v,rfl,h⟩
theorem wn7 {o0 o1 o2 o3 o4 o5 o6:Option V} {o:Option V} {r:St} {R:St→Hp→Prop} (h:R (o0::o1::o2::o3::o4::o5::o6::some v::r) H):bQ 7 v (o0::o1::o2::o3::o4::o5::o6::o::r) H R:=h
theorem wv8 {o0 o1 o2 o3 o4 o5 o6 o7:Option V} {r:St} (h:Q v H):eG 8 (o0::o1::o2::o3::o4::o5::o6::o7::some v::r) H Q:=⟨v,rfl,h⟩
theorem wn8 {o0 o1 o2 o3 o4 o5 o6 o7:Option V} {o:Option V} {r:St} {R:St→Hp→Prop} (h:R (o0::o1::o2::o3::o4::o5::o6::o7::some v::r) H):bQ 8 v (o0::o1::o2::o3::o4::o5::o6::o7::o::r) H R:=h
theorem wv9 {o0 o1 o2 o3 o4 o5 o6 o7 o8:Option V} {r:St} (h:Q v H):eG 9 (o0::o1::o2::o3::o4::o5::o6::o7::o8::some v::r) H Q:=⟨v,rfl,h⟩
theorem wn9 {o0 o1 o2 o3 o4 o5 o6 o7 o8:Option V} {o:Option V} {r:St} {R:St→Hp→Prop} (h:R (o0::o1::o2::o3::o4::o5::o6::o7::o8::some v::r) H):bQ 9 v (o0::o1::o2::o3::o4::o5::o6::o7::o8::o::r) H R:=h
theorem adh {o0 o1 o2 o3 o4 o5 o6 o7 o8 o9:Option V} {r:St} (h:Q v H):eG 10 (o0::o1::o2::o3::o4::o5::o6::o7::o8::o9::some v::r) H Q:=⟨v,rfl,h⟩
theorem adi {o0 o1 o2 o3 o4 o5 o6 o7 o8 o9:Option V} {o:Option V} {r:St} {R:St→Hp→Prop} (h:R (o0::o1::o2::o3::o4::o5::o6::o7::o8::o9::some v::r) H):bQ 10 v (o0::o1::o2::o3::o4::o5::o6::o7::o8::o9::o::r) H R:=h
theorem adk {o0 o1 o2 o3 o4 o5 o6 o7 o8 o9 o10:Option V} {r:St} (h:Q v H):eG 11 (o0::o1::o2::o3::o4::o5::o6::o7::o8::o9::o10::some v::r) H Q:=⟨v,rfl,h⟩
theorem adl {o0 o1 o2 o3 o4 o5 o6 o7 o8 o9 o10:Option V} {o:Option V} {r:St} {R:St→Hp→Prop} (h:R (o0::o1::o2::o3::o4::o5::o6::o7::o8::o9::o10::some v::r) H):bQ 11 v (o0::o1::o2::o3::o4::o5::o6::o7::o8::o9::o10::o::r) H R:=h
theorem adn {o0 o1 o2 o3 o4 o5 o6 o7 o8 o9 o10 o11:Option V} {r:St} (h:Q v H):eG 12 (o0::o1::o2::o3::o4::o5::o6::o7::o8::o9::o10::o11::some v::r) H Q:=⟨v,rfl,h⟩
theorem ado {o0 o1 o2 o3 o4 o5 o6 o7 o8 o9 o10 o11:Option V} {o:Option V} {r:St} {R:St→Hp→Prop} (h:R (o0::o1::o2::o3::o4::o5::o6::o7::o8::o9::o10::o11::some v::r) H):bQ 12 v (o0::o1::o2::o3::o4::o5::o6::o7::o8::o9::o10::o11::o::r) H R:=h
theorem adp {o0 o1 o2 o3 o4 o5 o6 o7 o8 o9 o10 o11 o12:Option V} {r:St} (h:Q v H):eG 13 (o0::o1::o2::o3::o4::o5::o6::o7::o8::o9::o10::o11::o12::some v::r) H Q:=⟨v,rfl,h⟩
theorem adq {o0 o1 o2 o3 o4 o5 o6 o7 o8 o9 o10 o11 o12:Option V} {o:Option V} {r:St} {R:St→Hp→Prop} (h:R (o0::o1::o2::o3::o4::o5::o6::o7::o8::o9::o10::o11::o12::some v::r) H):bQ 13 v (o0::o1::o2::o3::o4::o5::o6::o7::o8::o9::o10::o11::o12::o::r) H R:=h
theorem w_c (h:Q v H):tC v σ H Q:=h
theorem adt {f:Int→Int→V} (h:Q (f i j) H):rI0 f (.int i) (.int j) H Q:=⟨i,j,rfl,rfl,h⟩
theorem w_mod {f:Int→Int→V} (hj:0 < j) (h:Q (f i j) H):rI (fun _ j=>0 < j) f (.int i) (.int j) H Q:=⟨i,j,rfl,rfl,hj,h⟩
theorem w_div {f:Int→Int→V} (h0:0 < j) (h1:j < 1073741824) (h:Q (f i j) H):rI V2 f (.int i) (.int j) H Q:=⟨i,j,rfl,rfl,⟨h0,h1⟩,h⟩
theorem w_pow {f:Int→Int→V} (h0:0≤j) (h1:j≤1000000) (h2:i.natAbs < 2 ^ 64) (h:Q (f i j) H):rI V3 f (.int i) (.int j) H Q:=⟨i,j,rfl,rfl,⟨h0,h1,h2⟩,h⟩
theorem Wo {f:Int→Int→V} (h0:-(2 ^ 64) < i) (h1:i < 2 ^ 64) (h:Q (f i j) H):rI Km f (.int i) (.int j) H Q:=⟨i,j,rfl,rfl,.inl ⟨h0,h1⟩,h⟩
theorem Wq {f:Int→Int→V} (h0:-(2 ^ 64) < j) (h1:j < 2 ^ 64) (h:Q (f i j) H):rI Km f (.int i) (.int j) H Q:=⟨i,j,rfl,rfl,.inr ⟨h0,h1⟩,h⟩
theorem w_u {g:Int→V} (h:Q (g i) H):rU g (.int i) H Q:=⟨i,rfl,h⟩
theorem adu {r:V→Hp→VK→Prop} (h:ta σ H fun x H1=>r x H1 Q):tUn r ta σ H Q:=h
theorem ZQ (h:Q (.bl (decide (i=j))) H):rEq (.int i) (.int j) H Q:=⟨rfl,by rw [show decide (V.int i=V.int j)=decide (i=j) from decide_eq_decide.mpr ⟨fun e=>by cases e;rfl,fun e=>by rw [e]⟩];exact h⟩
theorem ZR (h:Q (.bl (!decide (i=j))) H):rNe (.int i) (.int j) H Q:=⟨rfl,by rw [show decide (V.int i=V.int j)=decide (i=j) from decide_eq_decide.mpr ⟨fun e=>by cases e;rfl,fun e=>by rw [e]⟩];exact h⟩
theorem ZS {a b:Str} (h:Q (.bl (decide (a=b))) H):rEq (.str a) (.str b) H Q:=⟨rfl,by rw [show decide (V.str a=V.str b)=decide (a=b) from decide_eq_decide.mpr ⟨fun e=>by cases e;rfl,fun e=>by rw [e]⟩];exact h⟩
theorem ZV {a b:Str} (h:Q (.bl (!decide (a=b))) H):rNe (.str a) (.str b) H Q:=⟨rfl,by rw [show decide (V.str a=V.str b)=decide (a=b) from decide_eq_decide.mpr ⟨fun e=>by cases e;rfl,fun e=>by rw [e]⟩];exact h⟩
theorem adv {k:Bool} {R:Bool→Prop} (h:R k):∃c,V.bl k=.bl c∧R c:=⟨k,rfl,h⟩
theorem w_not {R:Bool→Hp→Prop} (h:c σ H fun b H1=>R (!b) H1):VG c σ H R:=h
theorem w_and {R:Bool→Hp→Prop} (h:c σ H fun b H1=>if b=true then d σ H1 R else R false H1):VF c d σ H R:=h
theorem w_or {R:Bool→Hp→Prop} (h:c σ H fun b H1=>if b=true then R true H1 else d σ H1 R):tOr c d σ H R:=h
theorem Wr (h:ta σ H fun x H1=>∃c,x=.bl c∧Q (.bl (!c)) H1):Mi ta σ H Q:=h
theorem Ws (h:ta σ H fun x H1=>∃c,x=.bl c∧if c=true then tb σ H1 Q else Q (.bl false) H1):Mh ta tb σ H Q:=h
theorem ZW (h:c σ H fun b H1=>if b=true then ta σ H1 Q else tb σ H1 Q):tIf c ta tb σ H Q:=h
theorem SQ {r r':R2} (h:ta σ H fun x H1=>tb σ H1 fun y H2=>r x y H2 fun z H3=>∃k,z=.bl k∧if k=true then tc σ H3 fun w H4=>r' y w H4 Q else Q (.bl false) H3):zG r r' ta tb tc σ H Q:=h
theorem adw {nx bk ct:St→Hp→Prop} {rt:VK} (h:rt v H):(Ends.mk nx rt bk ct).rt v H:=h
theorem w_call {sp:Sp} {E:XK} (h:tr σ H fun vs H1=>sp vs H1 Q E):HD sp [] E tr σ H Q:=by
 have e:(fun vs H1=>sp (vs++[]) H1 Q E)=fun vs H1=>sp vs H1 Q E:=by
  funext vs H1
  rw [List.append_nil]
 show tr σ H fun vs H1=>sp (vs++[]) H1 Q E
 rw [e]
 exact h
theorem adx {T:String} {r:V→List V→Hp→VK→Prop} {to:TE} (h:to σ H fun x H1=>tyV K T x H1∧tr σ H1 fun xs H2=>r x xs H2 Q):tBM K T r to tr σ H Q:=h
theorem w_sub {to ti:TE} {ts:Mr} {R:St→Hp→Prop} (h:to σ H fun o H1=>ti σ H1 fun i H2=>ts o i v H2 fun H3=>R σ H3):VR to ti ts v σ H R:=h
theorem SX {r:V→Option Int→Option Int→Hp→VK→Prop} {tl th:TO} (h:t σ H fun x H1=>tl σ H1 fun l H2=>th σ H2 fun u H3=>r x l u H3 Q):tSl r t tl th σ H Q:=h
theorem NT {R:Option Int→Hp→Prop} (h:R none H):zH σ H R:=h
theorem Wt {R:Option Int→Hp→Prop} (h:t σ H fun x H1=>∃i,x=.int i∧R (some i) H1):M7 t σ H R:=h
theorem ZX {R:Int→Prop} (h:R i):∃k,V.int i=.int k∧R k:=⟨i,rfl,h⟩
theorem NZ {p:Addr} {xs:List V} (h:SqL K H p xs) (e:atI xs i=some v) (k:Q v H):RX K (.ref p) (.int i) H Q:=⟨p,xs,i,v,rfl,rfl,h,e,k⟩
theorem Z0 {p:Addr} {xs:List V} (h:SqT K H p xs) (e:atI xs i=some v) (k:Q v H):RZ K (.ref p) (.int i) H Q:=⟨p,xs,i,v,rfl,rfl,h,e,k⟩
def Gp (K:W.Frag):List V→Hp→VK→Prop:=fun xs H Q=>∃x n,xs=[x]∧Zu K x H n∧Q (.int n) H
theorem Wu {p:Addr} {xs:List V} (h:SqL K H p xs) (k:Q (.int xs.length) H):Gp K [.ref p] H Q:=⟨_,xs.length,rfl,.inl ⟨xs,h,rfl⟩,k⟩
theorem Wv {p:Addr} {xs:List V} (h:SqT K H p xs) (k:Q (.int xs.length) H):Gp K [.ref p] H Q:=⟨_,xs.length,rfl,.inr ⟨xs,h,rfl⟩,k⟩
theorem Ww {z:Str} (h:z.length≤sizeLine) (k:Q (.int z.length) H):Gp K [.str z] H Q:=⟨_,z.length,rfl,⟨h,rfl⟩,k⟩
def N5:List V→Hp→VK→Prop:=fun xs H Q=>∃i j,xs=[.int i,.int j]∧Q (.int (if j > i then j else i)) H
def N6:List V→Hp→VK→Prop:=fun xs H Q=>∃i j,xs=[.int i,.int j]∧Q (.int (if j < i then j else i)) H
theorem Z1 (h:Q (.int (max i j)) H):N5 [.int i,.int j] H Q:=⟨i,j,rfl,by
 rw [show (if j > i then j else i)=max i j by rw [Int.max_def];split <;> split <;> lia]
 exact h⟩
theorem Z2 (h:Q (.int (min i j)) H):N6 [.int i,.int j] H Q:=⟨i,j,rfl,by
 rw [show (if j < i then j else i)=min i j by rw [Int.min_def];split <;> split <;> lia]
 exact h⟩
def N7:List V→Hp→VK→Prop:=fun xs H Q=>(∃i,xs=[.int i]∧Q (.int i) H)∨∃k,xs=[.bl k]∧Q (.int (if k then 1 else 0)) H
theorem Wx {k:Bool} (h:Q (.int (if k then 1 else 0)) H):N7 [.bl k] H Q:=.inr ⟨k,rfl,h⟩
theorem w_is {x d:V} {tv:Value} {b:Bool} (ty:eF K H x tv) (e:qW K tv d=some b) (h:Q (.bl b) H):zP K [x,d] H Q:=⟨x,d,tv,b,rfl,ty,e,h⟩
def Wy:R2:=fun x y H Q=>y=.non∧Q (.bl (decide (x=.non))) H
def Ih:R2:=fun x y H Q=>y=.non∧Q (.bl (!decide (x=.non))) H
end
section
variable {X:Cx}
theorem dF:fu X (.builtin "len") (Gp X.K):=MJ
theorem fD (hc:X.calm=true):fu X (.builtin "max") N5:=Ko hc
theorem iu (hc:X.calm=true):fu X (.builtin "min") N6:=Kq hc
theorem k_:fu X (.type "int") N7:=Kr
theorem zR:OpR X (compareOp .Is) Wy:=V4
theorem fV:OpR X (compareOp .IsNot) Ih:=RN
end
section
variable {A B p:Prop} [Decidable p] {b:Bool}
theorem gG (h1:p→A) (h2:¬ p→B):if decide p=true then A else B:=by
 by_cases h:p
 ·rw [if_pos (decide_eq_true h)];exact h1 h
 ·rw [if_neg (by simpa using h)];exact h2 h
theorem i_b (h1:b=true→A) (h2:b=false→B):if b=true then A else B:=by
 cases b with
 | true=>exact Zz (h1 rfl)
 | false=>exact Zy (h2 rfl)
theorem i_T (h:b=true) (k:A):if b=true then A else B:=by rw [if_pos h];exact k
theorem i_F (h:b=false) (k:B):if b=true then A else B:=by rw [if_neg (by rw [h];exact Bool.false_ne_true)];exact k
theorem U_ (h:p) (k:A):if decide p=true then A else B:=by rw [if_pos (decide_eq_true h)];exact k
theorem Va (h:¬ p) (k:B):if decide p=true then A else B:=by rw [if_neg (by simpa using h)];exact k
theorem N8 (h:p) (k:B):if (!decide p)=true then A else B:=by rw [if_neg (by simpa using h)];exact k
theorem N_ (h:¬ p) (k:A):if (!decide p)=true then A else B:=by rw [if_pos (by simpa using h)];exact k
end
section
variable {H H0 H1 H2 H':Hp} {p q a:Addr} {o u:HO} {xs ys:List V}
theorem New.trans (n1:New H H1 p o) (n2:New H1 H2 q u):New H H2 q u:=⟨n1.s.trans n2.s,n2.e,fun a v e=>n2.n a v (n1.s a v e)⟩
def aJ (H:Hp) (ys:List V) (rows:List (List V)):Prop:=ys.length=rows.length∧∀(j:Nat) (r:List V),rows[j]?=some r→∃q,ys[j]?=some (.ref q)∧H q=some (.tup r)
theorem aJ.same {rows:List (List V)} (s:Same H H') (h:aJ H ys rows):aJ H' ys rows:=⟨h.1,fun j r e=>let ⟨q,a,b⟩:=h.2 j r e;⟨q,a,s _ _ b⟩⟩
theorem aJ.nil:aJ H [] []:=⟨rfl,fun j r e=>by simp at e⟩
theorem aJ.reverse {rows:List (List V)} (h:aJ H ys rows):aJ H ys.reverse rows.reverse:=by
 refine ⟨by rw [List.length_reverse,List.length_reverse,h.1],fun j r e=>?_⟩
 have hj:j < rows.length:=by
  have:=(List.getElem?_eq_some_iff.mp e).1
  rwa [List.length_reverse] at this
 rw [List.getElem?_reverse hj] at e
 obtain ⟨q,a,b⟩:=h.2 _ r e
 exact ⟨q,by rw [List.getElem?_reverse (by rw [h.1];exact hj),h.1];exact a,b⟩
end
section
variable {σ:St} {H:Hp} {Q:VK} {K:W.Frag} {tr:TA} {D:Ends} {i j:Int} {g:TG} {tb:TS} {a b:V} {p:Addr}
theorem Wz {i0 i1:Nat} {R:St→Hp→Prop} (hp:SqT K H p [a,b]) (h:bQ i0 a σ H fun σ1 H1=>bQ i1 b σ1 H1 R):Kf K 2 (iB (bQ i0) (iB (bQ i1) Ke)) (.ref p) σ H R :=
 ⟨p,_,rfl,hp,rfl,_,_,rfl,_,_,rfl,rfl,h⟩
end
def Oa (K:W.Frag):R2:=fun x y H Q=>∃d d',Rep K H d x∧Rep K H d' y∧gk d≤100∧Q (.bl (gF d d')) H
def Ce (K:W.Frag):R2:=fun x y H Q=>∃d d',Rep K H d x∧Rep K H d' y∧gk d≤100∧Q (.bl (!gF d d')) H
theorem uf {X:Cx} {k:Nat} (hr:Room k X.A):OpR X (compareOp .Eq) (Oa X.K):=Sg hr
theorem jX {X:Cx} {k:Nat} (hr:Room k X.A):OpR X (compareOp .NotEq) (Ce X.K):=Sh hr
theorem map_set {α:Type} {N j:Nat} {F:Nat→α} {v:α} (hj:j < N):((List.range N).map F).set j v=(List.range N).map (fun k=>if k=j then v else F k):=by
 apply List.ext_getElem?
 intro k
 rw [List.getElem?_set]
 by_cases hk:k < N
 ·by_cases e:j=k
  ·subst e
   simp [hj]
  ·have e':¬ k=j:=fun z=>e z.symm
   simp [hk,e,e']
 ·have e:¬ j=k:=by lia
  have h1:((List.range N).map F)[k]?=none:=by simp;lia
  have h2:((List.range N).map (fun k=>if k=j then v else F k))[k]?=none:=by simp;lia
  rw [if_neg e,h1,h2]
end L2
namespace L2
open PySem PySem.Spec PyProof.Rows PySem.SeqAt
section
variable {X:Cx} {a:Expr} {ta:TE} {pos:Pos}
def WD:R2:=fun x y H Q=>∃a b,x=.bl a∧y=.bl b∧Q (.bl (decide (a=b))) H
def Ob:R2:=fun x y H Q=>∃a b,x=.bl a∧y=.bl b∧Q (.bl (!decide (a=b))) H
theorem WK:OpR X (compareOp .Is) WD:=by
 intro pins s σ H x y v u Q I rx ry h
 obtain ⟨a,b,rfl,rfl,q⟩:=h
 cases rx
 cases ry
 exact wpAny_is_plain rfl (cI I q (by cases a <;> cases b <;> rfl))
theorem S5:OpR X (compareOp .IsNot) Ob:=by
 intro pins s σ H x y v u Q I rx ry h
 obtain ⟨a,b,rfl,rfl,q⟩:=h
 cases rx
 cases ry
 exact wpAny_isNot_plain rfl (cI I q (by cases a <;> cases b <;> rfl))
theorem Z4 {H:Hp} {Q:VK} {a b:Bool} (h:Q (.bl (decide (a=b))) H):WD (.bl a) (.bl b) H Q:=⟨a,b,rfl,rfl,h⟩
theorem WL {H:Hp} {Q:VK} {a b:Bool} (h:Q (.bl (!decide (a=b))) H):Ob (.bl a) (.bl b) H Q:=⟨a,b,rfl,rfl,h⟩
def idV:V→Bool
 | .non=>true
 | .bl _=>true
 | .int _=>true
 | .str _=>true
 | .ref _=>true
 | _=>false
theorem KY {A:Around} {s:Shared} {x:V} {u v:Value} (f:idV x=true) (ru:RelV x u) (rv:RelV x v):EqAt A s u v true:=by
 cases x with
 | non=>cases ru;cases rv;exact EqAt.same _
 | bl b=>cases ru;cases rv;exact EqAt.same _
 | ref b=>cases ru;cases rv;exact EqAt.same _
 | int i =>
  obtain ⟨t,rfl⟩:=ru
  obtain ⟨t',rfl⟩:=rv
  have:=EqAt.int_int (A:=A) (s:=s) i t i t'
  rwa [beq_self_eq_true] at this
 | str z =>
  obtain ⟨t,rfl⟩:=ru
  obtain ⟨t',rfl⟩:=rv
  have:=EqAt.str_str (A:=A) (s:=s) z t z t'
  rwa [beq_self_eq_true] at this
 | _=>exact absurd (show false=true from f) Bool.false_ne_true
end
theorem KZ {σ:St} {H:Hp} {wi:TI} {J:It} {xs:List V} {Lk:Hp→Prop} {c:TT} {Q:VK} {fr:List Nat} {fvs:St} {p:V→Bool} (hz:xs.length≤1000000) (hf:(fr.map fun i=>(σ[i]?).getD none)=fvs)
  (it:L2.ItemsOf J xs Lk) (hw:∀R:It→Hp→Prop,R J H→wi σ H R) (hL:∀H',Same H H'→Lk H')
  (turn:∀(i:Nat) (v:V) (H':Hp) (R:Bool→Hp→Prop),xs[i]?=some v→Same H H'→(∀H2,Same H' H2→R (p v) H2)→c (some v::fvs) H' R)
  (k:∀l H',New H H' l (.lst (xs.filter p))→Q (.ref l) H'):qX wi 1 fr (bQ 0) c (eG 0) σ H Q:=by
 refine hw _ fun acc hacc=>?_
 subst hf
 have Cg:∀b u,H b=some u→b≠acc:=fun b u e=>cu e hacc
 refine nJ it (fun i ys H'=>H' acc=some (.lst ys)∧Same H H'∧ys=(xs.take i).filter p) ⟨cB,Same.new hacc,by simp⟩ (fun i ys H' _ h=>⟨hL H' h.2.1,h.1⟩) ?_ ?_
 ·rintro i x tv ys H' hx hi ⟨ha,hs,rfl⟩ htv
  obtain ⟨tv0,rfl⟩:∃a,tv=[a]:=List.length_eq_one_iff.mp htv
  have tk:xs.take (i + 1)=xs.take i++[x]:=by
   rw [List.take_succ,hx]
   rfl
  unfold bQ
  refine turn i x H' _ hx hs fun H2 s2=>?_
  cases hp:p x with
  | true =>
   refine Zz ⟨x,rfl,?_,s2 _ _ ha,jR.next (tv:=[some x]) hi ⟨cB,fun b u e=>?_,?_⟩ rfl⟩
   ·refine Nat.lt_of_le_of_lt (List.length_filter_le _ _) (Nat.lt_of_lt_of_le ?_ (cQ hz))
    rw [List.length_take]
    lia
   ·rw [bW (Cg b u e)]
    exact s2 _ _ (hs _ _ e)
   ·rw [tk,List.filter_append]
    simp [hp]
  | false =>
   refine Zy (jR.next (tv:=[some x]) hi ⟨s2 _ _ ha,hs.trans s2,?_⟩ rfl)
   rw [tk,List.filter_append]
   simp [hp]
 ·rintro ys H' ⟨ha,hs,rfl⟩
  rw [List.take_length] at ha
  exact k acc H' ⟨hs,ha,Cg⟩
def zT (K:W.Frag) (te ts:TE):TE:=fun σ H Q=>te σ H fun x H1=>ts σ H1 fun y H2=>∃a xs,x=.ref a∧y=.int (-1)∧SqL K H2 a xs∧∀p H',New H2 H' p (.lst xs.reverse)→Q (.ref p) H'
theorem Oc {X:Cx} {e st:Expr} {te ts:TE} {pos p2:Pos} (he:PE X e te) (hst:PE X st ts):PE X (.Subscript e (.Slice none none (some st) p2) pos) (zT X.K te ts):=by
 intro pins s σ H Q I h
 refine Subscript_ (thn (he pins s σ H _ I h) fun v s1 ⟨x,H1,I1,r1,q1⟩=>?_)
 refine wpAny_Slice (wpAny_evalPart_none (wpAny_evalPart_none (wpAny_evalPart_some (thn (hst pins s1 σ H1 _ I1 q1) fun z s2 ⟨y,H2,I2,r2,q2⟩=>?_))))
 obtain ⟨a,xs,rfl,rfl,hx,q⟩:=q2
 cases r1
 obtain ⟨t,rfl⟩:=r2
 have I3:Inv X pins σ H2 { s2 with heap:=s2.heap.push { cls:=.type "slice", data:=.fields #[.none,.none,.int (-1) t] } }:=I2.kept (t':=s2.toks) fun b ob z=>Heap.get?_push_of_some _ z
 obtain ⟨its,r,ht,hz⟩:=I3.list hx
 have hlen:=r.length
 show wpAny (model X.prog X.w) X.A (subscriptTail e (.Slice none none (some st) p2) (.ref a) (.ref s2.heap.objs.size)) (EP X pins σ Q) X.xe { s2 with heap:=s2.heap.push { cls:=.type "slice", data:=.fields #[.none,.none,.int (-1) t] } }
 refine tail_any (ops:=[.ref a,.ref s2.heap.objs.size]) ht.isList.typeIs slot_list_getitem.lookup ?_ (by with_unfolding_all rfl)
 refine wpAny_getItem_list_slice (lo:=none) (hi:=none) (st:=some (-1)) ht.isList (Heap.IsSliceOf.new ..) .none .none (.int (-1) t) (by decide) ?_ (by rw [List.size_toArray] <;> lia)
 rw [W.krv_pick]
 refine ⟨.ref (s2.heap.push { cls:=.type "slice", data:=.fields #[.none,.none,.int (-1) t] }).objs.size,_,I3.laid (t':=s2.toks) (o:=.lst xs.reverse) (fun b ob z=>Heap.get?_push_of_some _ z) (Nat.le_refl _) ?_,rfl,q _ _ (.mk' (I3.hok.fresh (Nat.le_refl _)))⟩
 exact ⟨by rw [List.length_reverse];exact hz,its.reverse,0,r.reverse,Heap.get?_push_size _ rfl⟩
theorem S6 {σ:St} {H:Hp} {Q:VK} {K:W.Frag} {te ts:TE} (h:te σ H fun x H1=>ts σ H1 fun y H2=>∃a xs,x=.ref a∧y=.int (-1)∧SqL K H2 a xs∧∀p H',New H2 H' p (.lst xs.reverse)→Q (.ref p) H'):zT K te ts σ H Q:=h
def Kp (b:Addr) (H H':Hp):Prop:=∀x u,x≠b→H x=some u→H' x=some u
section
variable {b p:Addr} {H H1 H2:Hp} {o:HO}
theorem Kp.trans (a:Kp b H H1) (c:Kp b H1 H2):Kp b H H2:=fun x u n h=>c x u n (a x u n h)
theorem Same.kp (s:Same H H1):Kp b H H1:=fun x u _ h=>s x u h
theorem Off.kp (f:Off b H H1):Kp b H H1:=fun x u n h=>by rw [f x n];exact h
theorem Kp.same {H0:Hp} (s:Same H0 H) (k:Kp b H H1) (n:∀x u,H0 x=some u→x≠b):Same H0 H1:=fun x u e=>k x u (n x u e) (s x u e)
end
section
variable {X:Cx} {K:W.Frag}
theorem lu (h:X.K=K):IxR X (RZ K):=h▸bZ
end
def Gq (K:PySem.W.Frag) (a:Addr) (g:TG) (tb:TS) (D:Ends) (σ:St) (H:Hp):Prop:=∃W:Nat→Nat→St→Hp→Prop,(∃m,W 0 m σ H)∧∀i m σ H,W i m σ H →
 ((Itl K a).stop i H∧D.nx σ H)∨((Itl K a).go i H∧∃N:St→Hp→Prop,(∀σ' H',N σ' H'→∃m',m' < m∧W (i + 1) m' σ' H')∧∀x H',(Itl K a).yld i H x H'→g x σ H' fun σ2 H2=>tb { D with nx:=N,ct:=N,bk:=D.nx } σ2 H2)
theorem WM {K:W.Frag} {te:TE} {g:TG} {tb:TS} {D:Ends} {σ:St} {H:Hp} (h:te σ H fun x H1=>∃a,x=.ref a∧(∃xs,SqL K H1 a xs)∧Gq K a g tb D σ H1):tM (Br K te) g tb D σ H:=h
theorem g_ {K:W.Frag} {a:Addr} {xs:List V} {g:TG} {tb:TS} {D:Ends} {σ:St} {H:Hp} (Pv:Nat→St→Hp→Prop) (h0:Pv 0 σ H) (hl:∀i σ H,i≤xs.length→Pv i σ H→SqL K H a xs)
  (hs:∀i x σ H,xs[i]?=some x→Pv i σ H→g x σ H fun σ2 H2=>tb { D with nx:=Pv (i + 1),ct:=Pv (i + 1),bk:=D.nx } σ2 H2) (hd:∀σ H,Pv xs.length σ H→D.nx σ H):Gq K a g tb D σ H:=Mw Pv h0 hl hs hd
def dU (J:It) (nt:Nat) (fr:List Nat) (g:TG) (c:TT) (te:TE) (σ:St) (H1:Hp) (Q:VK):Prop:=∀acc,H1 acc=none→nH J nt fr g c te σ H1 Q acc
theorem S7 {K:W.Frag} {t0 te:TE} {nt:Nat} {fr:List Nat} {g:TG} {c:TT} {σ:St} {H:Hp} {Q:VK} (h:t0 σ H fun x H1=>∃a,x=.ref a∧(∃xs,SqL K H1 a xs)∧dU (Itl K a) nt fr g c te σ H1 Q):qX (Br K t0) nt fr g c te σ H Q:=h
theorem comp_map {J:It} {xs:List V} {Lk:Hp→Prop} {te:TE} {σ:St} {H:Hp} {Q:VK} {fr:List Nat} {fvs:St} {P:Nat→V→Prop} (it:L2.ItemsOf J xs Lk) (hz:xs.length≤1000000) (hf:(fr.map fun i=>(σ[i]?).getD none)=fvs) (hL:∀H',Same H H'→Lk H')
  (turn:∀(i:Nat) (v:V) (H':Hp) (R:VK),xs[i]?=some v→Same H H'→(∀y H2,Same H' H2→P i y→R y H2)→te (some v::fvs) H' R)
  (k:∀l H' ys,New H H' l (.lst ys)→ys.length=xs.length→(∀(i:Nat) (y:V),ys[i]?=some y→P i y)→Q (.ref l) H'):dU J 1 fr (bQ 0) mH te σ H Q:=by
 intro acc hacc
 subst hf
 have Cg:∀b u,H b=some u→b≠acc:=fun b u e=>cu e hacc
 refine nJ it (fun i ys H'=>H' acc=some (.lst ys)∧Same H H'∧ys.length=i∧∀(j:Nat) (y:V),ys[j]?=some y→P j y) ⟨cB,Same.new hacc,rfl,fun j y e=>by simp at e⟩ (fun i ys H' _ h=>⟨hL H' h.2.1,h.1⟩) ?_ ?_
 ·rintro i x tv ys H' hx hi ⟨ha,hs,hl,hp⟩ htv
  obtain ⟨tv0,rfl⟩:∃a,tv=[a]:=List.length_eq_one_iff.mp htv
  unfold bQ mH
  dsimp only
  rw [if_pos rfl]
  refine turn i x H' _ hx hs fun y H2 s2 py=>⟨?_,s2 _ _ ha,jR.next (tv:=[some x]) hi ⟨cB,fun b u e=>?_,by rw [List.length_append,hl];rfl,fun j z e=>?_⟩ rfl⟩
  ·rw [hl]
   exact Nat.lt_of_lt_of_le hi (cQ hz)
  ·rw [bW (Cg b u e)]
   exact s2 _ _ (hs _ _ e)
  ·by_cases hj:j < ys.length
   ·rw [List.getElem?_append_left hj] at e
    exact hp j z e
   ·rw [List.getElem?_append_right (by lia)] at e
    have hj2:j - ys.length=0:=by
     by_cases h0:j - ys.length=0
     ·exact h0
     ·rw [List.getElem?_eq_none (by simp;lia)] at e
      cases e
    rw [hj2] at e
    cases e
    have:j=i:=by lia
    rw [this]
    exact py
 ·rintro ys H' ⟨ha,hs,hl,hp⟩
  exact k acc H' ys ⟨hs,ha,Cg⟩ hl hp
section
variable {X:Cx} {pins:List (Addr×Obj)} {EX:St→XK} {k m:Nat} {x:Str} {ps:List Str} {sp:Sp} {p pos apos:Pos} {e o:Expr} {es:List Expr} {t:TA} {ta:TE} {f C:Addr} {fd:FuncData} {nm:Str}
structure Z5 (K:W.Frag) (C:Addr) (m:Str) (f:Addr):Prop where
 ga:W.specialIn K (.ref C) "__getattribute__" = some (some (.builtin "type.__getattribute__"))
 rd:W.readsIn K C (.type "type")=true
 at_:W.findCls K (.ref C) (.type "type") m=some (.val (.ref f))
 hi:W.handedIn (.ref f)=true
 kp:W.keepIn K (.ref f)=true
end
section
variable {P:Program} {w:World} {K:W.Frag} {mg:Str→Option Value} {base:Heap} {CX:CXT} {k:Nat} {x nm qual:Str} {ps:List Str} {sp:Sp} {C:Addr}
structure Met (P:Program) (w:World) (K:W.Frag) (mg:Str→Option Value) (base:Heap) (CX:CXT) (k:Nat) (C:Addr) (nm:Str) (ps:List Str) (sp:Sp):Prop where
 ex:∃(f:Addr) (fd:FuncData),i_ P w K mg base CX k f fd ps sp∧Meth K C nm f∧Binds K fd ps []
structure Mak (P:Program) (w:World) (K:W.Frag) (mg:Str→Option Value) (base:Heap) (CX:CXT) (k:Nat) (x:Str) (C:Addr) (ps:List Str) (sp:Sp):Prop where
 ex:∃(f:Addr) (fd:FuncData),i_ P w K mg base CX k f fd ps sp∧Mk K C f∧mg x=some (.ref C)∧Binds K fd ps []
def FnAt (K:W.Frag) (nm qual:Str) (st:Stmt) (f:Addr):Prop:=∃fd:FuncData,Fun K nm qual st f fd
structure lB (P:Program) (w:World) (K:W.Frag) (mg:Str→Option Value) (base:Heap) (CX:CXT) (k:Nat) (f:Addr) (ps:List Str) (sp:Sp):Prop where
 ex:∃fd:FuncData,i_ P w K mg base CX k f fd ps sp∧Binds K fd ps []
theorem lB.met {f:Addr} (t:lB P w K mg base CX k f ps sp) (m:Meth K C nm f):Met P w K mg base CX k C nm ps sp:=let ⟨fd,F,b⟩:=t.ex;⟨f,fd,F,m,b⟩
theorem lB.mak {f:Addr} (t:lB P w K mg base CX k f ps sp) (m:Mk K C f) (g:mg x=some (.ref C)):Mak P w K mg base CX k x C ps sp:=let ⟨fd,F,b⟩:=t.ex;⟨f,fd,F,m,g,b⟩
variable {st:Stmt} {N:List Str} {f:Addr}
theorem cZ (h:FnAt K nm qual st f) (S:aU N ps (aH st)) (len:∀vs H Q E,sp vs H Q E→vs.length=ps.length)
  (hb:∀(kV doc pm:Value) (an:Option Addr) (cdv ct:Value) (us:List Value),us.length=ps.length→bindArgs (W.fnOf nm qual (eX st) (dH st) (aH st) .none kV doc pm an cdv ct) ⟨us,[]⟩=pure (ps.zip us))
  (hbody:∀(f:Addr) (cdv:Value) (A:Around) (outer:List Env) (s:Shared) (H:Hp) (vs:List V) (Q:VK) (E:XK),Room k (A.deeper (envOfC qual (aH st) s.heap.objs.size f cdv))→sp vs H Q E →
   ∃t,PSs (rP CX P w K mg base N qual (aH st) f cdv A outer s H E).nox (dH st) t∧t { nx:=fun _ H'=>Q .non H',rt:=Q } (start N vs) H):lB P w K mg base CX (k + 1) f ps sp:=by
 obtain ⟨fd,F⟩:=h
 refine ⟨fd,?_,F.binds hb⟩
 obtain ⟨oc,od,kV,doc,pm,an,cdv,ct,osl,rfl,lk,hcd⟩:=F.ex
 refine Bx lk hcd S len fun A outer s H vs Q E hr hsp=>?_
 obtain ⟨t,h,q⟩:=hbody f cdv A outer s H vs Q E hr hsp
 exact ⟨t,h.nox,q⟩
end
section
variable {X:Cx} {CX:CXT} {k m:Nat} {x nm:Str} {ps:List Str} {sp:Sp} {E:XK} {p pos apos:Pos} {e o:Expr} {es:List Expr} {t:TA} {ta:TE} {C:Addr} {pins:List (Addr×Obj)} {EX:St→XK}
theorem Gs {pl:Sem Bool} (he:PE X o ta) (c:Cls X.K C) (D:Met X.prog X.w X.K X.mg X.base CX k C nm ps sp) (hr:Room m X.A) (ha:PA X (e::es) t) (hk:k≤m:=by decide) (hx:Passes CX X E:=by exact HN)
  (hst:starEach (e::es) X.env=(false,eval e X.env)::starEach es X.env:=by rfl) (hpl:(backTo pos (starEach es X.env)).any (·.1)=false:=by rfl)
  (ht:eval (.Call (.Attribute o nm apos) (e::es) [] pos) X.env=(do
   let ov ← eval o X.env
   standAt apos.atName
   let (f,first) ← holding [ov] (getMethod ov nm pl)
   callWith pos f first (backTo pos (starEach (e::es) X.env)) (backToKw pos (keywordEach [] X.env))):=by rfl) :
  PE X (.Call (.Attribute o nm apos) (e::es) [] pos) (wO C nm sp [] E ta t):=by
 obtain ⟨f,fd,F,mt,b⟩:=D.ex
 exact RV (pl:=pl) he c mt F (hr.mono hk) b .nil hx ha hst hpl ht
theorem cG {pl:Sem Bool} (he:PE X o ta) (c:Cls X.K C) (D:Met X.prog X.w X.K X.mg X.base CX k C nm ps sp) (hr:Room m X.A) (hk:k≤m:=by decide) (hx:Passes CX X E:=by exact HN)
  (ht:eval (.Call (.Attribute o nm apos) [] [] pos) X.env=(do
   let ov ← eval o X.env
   standAt apos.atName
   let (f,first) ← holding [ov] (getMethod ov nm pl)
   callWith pos f first (backTo pos (starEach [] X.env)) (backToKw pos (keywordEach [] X.env))):=by rfl) :
  PE X (.Call (.Attribute o nm apos) [] [] pos) (wO C nm sp [] E ta rO):=by
 obtain ⟨f,fd,F,mt,b⟩:=D.ex
 exact MP (pl:=pl) he c mt F (hr.mono hk) b .nil hx ht
end
end L2
namespace L2
open PySem PySem.Spec PyProof.Rows
def Bd (k:Nat) (x:Int):Prop:=0≤x∧x < 2 ^ k
theorem WQ (k:Nat):(0:Int) < 2 ^ k:=by
 have:(0:Nat) < 2 ^ k:=Nat.pow_pos (by decide)
 exact_mod_cast this
theorem Bd.mul {a b:Nat} {x y:Int} (hx:Bd a x) (hy:Bd b y):Bd (a + b) (x * y):=by
 refine ⟨Int.mul_nonneg hx.1 hy.1,?_⟩
 rw [Int.pow_add]
 exact Int.lt_of_le_of_lt (Int.mul_le_mul_of_nonneg_left (Int.le_of_lt hy.2) hx.1) (Int.mul_lt_mul_of_pos_right hx.2 (WQ b))
theorem Bd.le {k:Nat} {x y:Int} (h:Bd k x) (h0:0≤y) (hy:y≤x):Bd k y:=⟨h0,Int.lt_of_le_of_lt hy h.2⟩
theorem Od {σ:St} {H:Hp} {te:TE} {tr:TA} {Q:VK} {fr:List Nat} {fvs:St} {n:Nat} (Iv:Addr→Nat→List V→Hp→Prop) (hr:Nr tr σ H [.int (n:Int)]) (hz:n≤1000000) (hf:(fr.map fun i=>(σ[i]?).getD none)=fvs)
  (h0:∀acc H',New H H' acc (.lst [])→Iv acc 0 [] H') (ha:∀acc i ys H',Iv acc i ys H'→H' acc=some (.lst ys)∧ys.length=i)
  (turn:∀acc i ys H' (R:VK),i < n→Iv acc i ys H'→(∀y H2,H2 acc=some (.lst ys)→(∀H3,Off acc H2 H3→H3 acc=some (.lst (ys++[y]))→Iv acc (i + 1) (ys++[y]) H3)→R y H2)→te (some (.int i)::fvs) H' R)
  (k:∀acc ys H',Iv acc n ys H'→Q (.ref acc) H'):qX (Bt tr) 1 fr (bQ 0) mH te σ H Q:=by
 refine hr _ ⟨n,rfl,by lia,by lia,fun acc hacc=>?_⟩
 subst hf
 rw [Int.toNat_natCast]
 refine nJ qY (fun i ys H'=>Iv acc i ys H') (h0 acc _ (.mk' hacc)) (fun i ys H' _ h=>⟨trivial,(ha acc i ys H' h).1⟩) ?_ ?_
 ·rintro i x tv ys H' hx hi h htv
  obtain ⟨tv0,rfl⟩:∃a,tv=[a]:=List.length_eq_one_iff.mp htv
  have hi':i < n:=by simpa [fQ] using hi
  obtain rfl:=uc hx hi'
  unfold bQ mH
  dsimp only
  rw [if_pos rfl]
  refine turn acc i ys H' _ hi' h fun y H2 h1 h2=>⟨?_,h1,jR.next (tv:=[some (V.int i)]) hi (h2 _ Off.upd cB) rfl⟩
  rw [(ha acc i ys H' h).2]
  exact Nat.lt_of_lt_of_le hi' (cQ hz)
 ·rintro ys H' h
  rw [show (fQ 0 n).length=n by simp [fQ]] at h
  exact k acc ys H' h
def Vb:R2:=fun x y H Q=>∃i j,x=.str i∧y=.str j∧i.length + j.length≤sizeLine∧Q (.str (i++j)) H
def rJoin (K:W.Frag):V→List V→Hp→VK→Prop:=fun x xs H Q=>∃sep p ts,x=.str sep∧xs=[.ref p]∧SqL K H p (ts.map V.str)∧sep.length≤16∧(ts.map (fun t=>t.length)).sum + ts.length≤1048576∧Q (.str (sep.join ts)) H
theorem ug:∀{ts:List Str} {us:List Value},Vals (ts.map V.str) us→StrsAre us ts
 | [],_,.nil=>.nil
 | t::ts,_,.cons r h=>by
  obtain ⟨k,rfl⟩:=r
  exact .cons t k (ug h)
section
variable {X:Cx} {pos:Pos}
theorem rZ:OpR X (binaryOp .Add) Vb:=FN
theorem S8:MtR X "str.join" (rJoin X.K):=by
 intro pins s σ H x xs v us Q I rx rs h
 obtain ⟨sep,p,ts,rfl,rfl,hq,h1,h2,q⟩:=h
 obtain ⟨t,rfl⟩:=rx
 obtain ⟨u,rfl,r1⟩:=vals1 rs
 cases r1
 obtain ⟨its,r,pl,hz⟩:=I.list hq
 refine join_listW (items:=its.toArray) (ys:=ts) pl.isList (ug r) h1 h2 fun t' k=>⟨.str (sep.join ts),H,I.tok _,⟨t',?_⟩,q⟩
 show Value.str (Builtin.Str.glued sep ts) t'=_
 rw [StrLaws.glued_eq_join]
theorem S9 {o e:Expr} {to te:TE} {apos cpos:Pos} (ho:PE X o to) (he:PE X e te) (hbase:attributeBase o "join" X.env (eval o X.env)=eval o X.env:=by rfl)
  (hfew:((backTo cpos (starEach [e] X.env)).all (fun x=>!x.1) && (backToKw cpos (keywordEach [] X.env)).all (fun x=>x.1.isSome)
   && decide (([e]:List Expr).length + ([]:List Keyword).length + (if ([]:List Keyword).isEmpty then 0 else 1) < 30))=true:=by rfl)
  (hline:(apos.endLine == cpos.line)=true:=by rfl) (hs:starEach [e] X.env=(false,eval e X.env)::starEach [] X.env:=by rfl) :
  PE X (.Call (.Attribute o "join" apos) [e] [] cpos) (tBM X.K "str" (rJoin X.K) to (jV te rO)) :=
 wW PySem.F.plainAttrs_str PySem.F.slot_str_join PySem.F.type_str_join S8 ho (aj he aq hs) hbase hfew hline hs (by rfl)
end
def jf:V→Dt
 | .int i=>.int i
 | .str x=>.str x
 | .bl b=>.bl b
 | _=>.non
def fj:V→Bool
 | .int _=>true
 | .str _=>true
 | .bl _=>true
 | .non=>true
 | _=>false
section
variable {K:W.Frag} {H:Hp}
theorem Oe {v:V} (h:fj v=true):Rep K H (jf v) v:=by
 cases v <;> simp_all [fj,jf,Rep]
theorem lC:∀{vs:List V},(∀v∈vs,fj v=true)→dI K H (vs.map jf) vs
 | [],_=>by simp [dI]
 | v::vs,h=>by
  simp only [List.map_cons,dI]
  exact ⟨_,_,rfl,Oe (h v (List.mem_cons_self ..)),lC fun x hx=>h x (List.mem_cons_of_mem _ hx)⟩
theorem jY:∀vs:List V,iD (vs.map jf)=0
 | []=>rfl
 | v::vs=>by
  have:gk (jf v)=0:=by cases v <;> rfl
  simp [iD,this,jY vs]
abbrev uh (r:List V):Dt:=.tup (r.map jf)
theorem xg:∀{rows:List (List V)} {ys:List V},aJ H ys rows→(∀r∈rows,∀v∈r,fj v=true)→dI K H (rows.map uh) ys
 | [],ys,h,_=>by
  have:ys=[]:=List.eq_nil_of_length_eq_zero h.1
  subst this
  simp [dI]
 | r::rows,[],h,_=>by simp [aJ] at h
 | r::rows,y::ys,h,hf=>by
  obtain ⟨q,e,hq⟩:=h.2 0 r rfl
  cases e
  simp only [List.map_cons,dI]
  refine ⟨_,_,rfl,?_,xg (rows:=rows) (ys:=ys) ⟨by simpa using h.1,fun j r' e=>h.2 (j + 1) r' e⟩ fun x hx=>hf x (List.mem_cons_of_mem _ hx)⟩
  simp only [Rep]
  exact ⟨q,r,rfl,SqT.of hq,lC (hf r (List.mem_cons_self ..))⟩
theorem Ci:∀rows:List (List V),iD (rows.map uh)≤1
 | []=>by decide
 | r::rows=>by
  have h1:gk (uh r)=1:=by simp only [gk,jY]
  have h2:=Ci rows
  simp only [List.map_cons,iD,h1]
  lia
theorem jZ {p:Addr} {rows:List (List V)} {ys:List V} (hp:SqL K H p ys) (h:aJ H ys rows) (hf:∀r∈rows,∀v∈r,fj v=true):Rep K H (.lst (rows.map uh)) (.ref p):=by
 simp only [Rep]
 exact ⟨p,ys,rfl,hp,xg h hf⟩
theorem pY (rows:List (List V)):gk (.lst (rows.map uh))≤2:=by
 have:=Ci rows
 simp only [gk]
 lia
theorem Cj {d:Dt} {x y:V} {Q:VK} (hx:Rep K H d x) (hy:Rep K H d y) (hd:gk d≤100) (k:Q (.bl false) H):Ce K x y H Q :=
 ⟨d,d,hx,hy,hd,by rw [pR];exact k⟩
theorem Og {d:Dt} {x y:V} {Q:VK} (hx:Rep K H d x) (hy:Rep K H d y) (hd:gk d≤100) (k:Q (.bl true) H):Oa K x y H Q :=
 ⟨d,d,hx,hy,hd,by rw [pR];exact k⟩
theorem Ck {p:Addr} {ts:List Str} (h:SqL K H p (ts.map V.str)):Rep K H (.lst ((ts.map V.str).map jf)) (.ref p):=by
 simp only [Rep]
 exact ⟨p,_,rfl,h,lC fun v hv=>by obtain ⟨t,_,rfl⟩:=List.mem_map.mp hv;rfl⟩
theorem zU {p:Addr} (h:SqL K H p []):Rep K H (.lst []) (.ref p):=by
 simp only [Rep]
 exact ⟨p,_,rfl,h,by simp [dI]⟩
theorem S_ {p q:Addr} {ts:List Str} {Q:VK} (hp:SqL K H p (ts.map V.str)) (hq:SqL K H q []) (k:Q (.bl (!decide (ts=[]))) H):Ce K (.ref p) (.ref q) H Q :=
 ⟨_,_,Ck hp,zU hq,by simp only [gk,jY];decide,by
  cases ts with
  | nil=>simpa [gF,fC] using k
  | cons t ts=>simpa [gF,fC] using k⟩
theorem Tc {p q:Addr} {ts:List Str} {Q:VK} (hp:SqL K H p (ts.map V.str)) (hq:SqL K H q []) (k:Q (.bl (decide (ts=[]))) H):Oa K (.ref p) (.ref q) H Q :=
 ⟨_,_,Ck hp,zU hq,by simp only [gk,jY];decide,by
  cases ts with
  | nil=>simpa [gF,fC] using k
  | cons t ts=>simpa [gF,fC] using k⟩
end
section
variable {K:W.Frag} {σ:St} {H:Hp} {Q:VK} {ta tv:TE} {t:TA} {f m:Str} {C:Addr} {sp:Sp} {dvs:List V} {E:XK} {D:Ends}
theorem WR (h:ta σ H fun x H1=>∃a C dx fs v,x=.ref a∧H1 a=some (.ins C dx fs)∧Cls K C∧dJ K C f∧fs.lookup f=some v∧Q v H1):V5 K ta f σ H Q:=h
theorem w_fld {a dx:Addr} {fs:List (Str×V)} {v:V} {R:V→Prop} (ho:H a=some (.ins C dx fs)) (c:Cls K C) (n:dJ K C f) (l:fs.lookup f=some v) (k:R v) :
  ∃a' C' dx' fs' v',V.ref a=.ref a'∧H a'=some (.ins C' dx' fs')∧Cls K C'∧dJ K C' f∧fs'.lookup f=some v'∧R v':=⟨a,C,dx,fs,v,rfl,ho,c,n,l,k⟩
end
theorem K1 {H:Hp} {x dx C:Addr} (hx:H x=none) (hd:H dx=none):Same H (upd (upd H dx (.own x)) x (.ins C dx [])):=fun b u e=>by
 rw [bW (cu e hx),bW (cu e hd)]
 exact e
def Ii:V→List V→Hp→VK→Prop:=fun x vs H Q=>∃l b xs zs,x=.ref l∧vs=[.ref b]∧H l=some (.lst xs)∧H b=some (.lst zs)∧xs.length + zs.length≤sizeLine∧∀H',Off l H H'→H' l=some (.lst (xs++zs))→Q .non H'
section
variable {X:Cx}
theorem Td:MtM X "list.extend" Ii:=by
 intro pins s σ H x vs v us Q I rx rv h
 obtain ⟨l,b,xs,zs,e1,e2,hH,hB,hz,q⟩:=h
 exact Ky pins s σ H x vs v us Q I rx rv ⟨l,b,xs,zs,e1,e2,hH,hB,hz,q _ Off.upd cB⟩
theorem Te {o e:Expr} {to te:TE} {apos cpos:Pos} (ho:PE X o to) (he:PE X e te) (hbase:attributeBase o "extend" X.env (eval o X.env)=eval o X.env:=by rfl)
  (hfew:((backTo cpos (starEach [e] X.env)).all (fun x=>!x.1) && (backToKw cpos (keywordEach [] X.env)).all (fun x=>x.1.isSome)
   && decide (([e]:List Expr).length + ([]:List Keyword).length + (if ([]:List Keyword).isEmpty then 0 else 1) < 30))=true:=by rfl)
  (hline:(apos.endLine == cpos.line)=true:=by rfl) (hs:starEach [e] X.env=(false,eval e X.env)::starEach [] X.env:=by rfl) :
  PE X (.Call (.Attribute o "extend" apos) [e] [] cpos) (tBM X.K "list" Ii to (jV te rO)) :=
 wW PySem.F.plainAttrs_list PySem.F.slot_list_extend PySem.F.type_list_extend Td ho (aj he aq hs) hbase hfew hline hs (by rfl)
end
end L2
namespace L2
open PySem PySem.Spec PyProof.Rows PySem.SeqAt
section
variable {H H':Hp} {p a l:Addr} {o u:HO}
theorem New.at (n:New H H' p o) (h:H a=some u):H' a=some u:=n.s a u h
theorem Same.at (s:Same H H') (h:H a=some u):H' a=some u:=s a u h
theorem Off.at (f:Off l H H') (ne:a≠l) (h:H a=some u):H' a=some u:=by rw [f a ne];exact h
theorem Kp.at (k:Kp l H H') (ne:a≠l) (h:H a=some u):H' a=some u:=k a u ne h
def Gu (H:Hp) (p:Addr) (rows:List (List V)):Prop:=∃ys,H p=some (.lst ys)∧aJ H ys rows
theorem Gu.same {rows:List (List V)} (s:Same H H') (h:Gu H p rows):Gu H' p rows:=let ⟨ys,a,b⟩:=h;⟨ys,s _ _ a,b.same s⟩
end
section
variable {X:Cx} {id:String} {x nm:Str} {e v:Expr} {es:List Expr} {t:TA} {tv:TE} {p kp pos:Pos}
def Oh (X:Cx) (id:String) (nm:Str) (r:List V→V→Hp→VK→Prop):Prop:=∀(pins:List (Addr×Obj)) (s:Shared) (σ:St) (H:Hp) (xs:List V) (us:List Value) (y:V) (u:Value) (Q:VK),Inv X pins σ H s→Vals xs us→RelV y u→r xs y H Q →
 wpAny (model X.prog X.w) X.A (call (.builtin id) us [(nm,u)]) (EP X pins σ Q) X.xe s
def tCK (r:List V→V→Hp→VK→Prop) (t:TA) (tv:TE):TE:=fun σ H Q=>t σ H fun xs H1=>tv σ H1 fun y H2=>r xs y H2 Q
theorem Z6 {r:List V→V→Hp→VK→Prop} {σ:St} {H:Hp} {Q:VK} (h:t σ H fun xs H1=>tv σ H1 fun y H2=>r xs y H2 Q):tCK r t tv σ H Q:=h
theorem Oi {r:List V→V→Hp→VK→Prop} (hc:Oh X id nm r) (hg:Gl X x) (hm:X.mg x=none) (hv:bootBuiltins x=some (.builtin id)) (ha:PA X (e::es) t) (hw:PE X v tv) (hn:x ≠ "__name__" := by decide) (hdb:(x == ("__debug__" : Str))=false:=by decide)
  (he:backTo pos (starEach (e::es) X.env)=(false,eval e X.env)::backTo pos (starEach es X.env):=by rfl) (hpl:(backTo pos (starEach (e::es) X.env)).any (·.1)=false:=by rfl):PE X (.Call (.Name x p) (e::es) [⟨some nm,v,kp⟩] pos) (tCK r t tv):=by
 intro pins s σ H Q I h
 refine wpAny_Call_Name_kw (iy I hg hm hv ?_ hn hdb)
 refine callWith_kw (thn (ha pos pins s σ H _ I h) fun us s1 ⟨vs,H1,I1,r1,q1⟩=>?_) he hpl
 refine kws_cons (thn (hw pins s1 σ H1 _ I1 q1) fun z s2 ⟨y,H2,I2,r2,q2⟩=>kws_nil ?_)
 have hv2:Vals vs us:=r1
 exact hc pins s2 σ H2 vs us y z Q I2 hv2 r2 q2
end
theorem Cm:∀{ns:List Int} {us:List Value},Vals (ns.map V.int) us→IntsAre us ns
 | [],_,.nil=>.nil
 | n::ns,_,.cons r t=>by
  obtain ⟨k,rfl⟩:=r
  exact .cons n k (Cm t)
theorem q_:∀{us:List Value} {ns:List Int} {i:Nat} {v:Value},IntsAre us ns→us[i]?=some v→∃t,v=.int (ns.getD i 0) t
 | _,_,_,_,.nil,e=>by simp at e
 | _,_,0,_,.cons n t h,e=>by
  simp at e
  exact ⟨t,e.symm⟩
 | _,_,i + 1,_,.cons n t h,e=>by
  obtain ⟨t',e'⟩:=q_ (i:=i) h (by simpa using e)
  exact ⟨t',by rw [e'];simp⟩
theorem j4 (ns:List Int):∀n,n≤ns.length→preSum (fun i=>ns.getD i 0) n=(ns.take n).sum
 | 0,_=>by simp [preSum]
 | n + 1,h=>by
  rw [preSum,j4 ns n (by lia),List.take_succ,List.sum_append]
  have:ns[n]?=some ns[n]:=by simp
  rw [List.getD_eq_getElem?_getD,this]
  simp
theorem Gv {ns:List Int} (h:∀n∈ns,0≤n∧n≤1000000):0≤ns.sum∧ns.sum≤1000000 * (ns.length:Int):=by
 induction ns with
 | nil=>simp
 | cons a t ih =>
  have h1:=h a List.mem_cons_self
  have h2:=ih fun n hn=>h n (List.mem_cons_of_mem _ hn)
  rw [List.sum_cons,List.length_cons]
  lia
section
variable {X:Cx}
def Oj (K:W.Frag):List V→Hp→VK→Prop:=fun xs H Q=>∃(p:Addr) (ns:List Int),xs=[.ref p]∧SqL K H p (ns.map V.int)∧(∀n∈ns,0≤n∧n≤1000000)∧ns.length≤1000000∧Q (.int ns.sum) H
theorem xq (hc:X.calm=true):fu X (.builtin "sum") (Oj X.K):=by
 intro pins s σ H xs us Q I r h
 obtain ⟨p,ns,rfl,hq,hb,hz,q⟩:=h
 obtain ⟨u,rfl,rx⟩:=vals1 r
 cases rx
 obtain ⟨its,rv,pl,_⟩:=I.list hq
 have hi:=Cm rv
 have hn:its.length=ns.length:=by have:=rv.length;simpa using this.symm
 have hl:=pl.isList
 have hlt:p < s.heap.objs.size:=let ⟨_,e,_⟩:=hl;Heap.lt_size e
 have part:∀j,j≤ns.length→0≤(ns.take j).sum∧(ns.take j).sum≤1000000 * 1000000:=fun j hj=>by
  have b:=Gv (ns:=ns.take j) fun n hn=>hb n (List.mem_of_mem_take hn)
  have:(ns.take j).length≤1000000:=by rw [List.length_take];lia
  lia
 refine call_sum_walk (wpAny_pyIter_list hl ?_)
 refine ⟨s.heap.objs.size,[s.heap.objs.size,p],[s.heap.objs.size],its.toArray.size,_,_,fun i=>ns.getD i 0,rfl,Walks.list (A:=X.A.in1) (I.ok.hd hc) _ p (Nat.ne_of_lt hlt) its.toArray,
  ⟨⟨_,Heap.get?_push_size _ rfl,rfl,rfl⟩,hl.push _⟩,fun b hb'=>?_,fun i v hP=>q_ hi (by simpa using hP),fun j hj=>?_,fun h' tk t' hk=>?_⟩
 ·rcases List.mem_cons.mp hb' with rfl | hb'
  ·show _ < (s.heap.push _).objs.size
   rw [size_push']
   exact Nat.lt_succ_self _
  ·rw [List.mem_singleton.mp hb']
   show _ < (s.heap.push _).objs.size
   rw [size_push']
   exact Nat.lt_succ_of_lt hlt
 ·have hj':j < ns.length:=by rw [← hn];simpa using hj
  rw [j4 ns (j + 1) hj']
  have b1:=part (j + 1) hj'
  have b2:=hb (ns.getD j 0) (by rw [List.getD_eq_getElem?_getD,List.getElem?_eq_getElem hj'];exact List.getElem_mem hj')
  exact ⟨⟨by show _≤ns.getD j 0;lia,by show ns.getD j 0 < _;lia⟩,by lia,by lia⟩
 ·rw [List.size_toArray,hn,j4 ns _ (Nat.le_refl _),List.take_length]
  exact ⟨.int _,H,I.kept (LSm.kept_iter hk),⟨_,rfl⟩,q⟩
section
variable {P:Program} {w:World} {A:Around} {R:Result→Shared→Prop} {it:Addr} {fp wr:List Addr} {ns:List Int} {V0:Nat→Value→Prop} {St0:Nat→Heap→Prop} {kw:List (Str×Value)}
abbrev Ij (vs:Array Value) (c:Nat):Obj:={ cls:=.type "list", dict:=none,data:=.seq vs c,slots:=#[] }
end
theorem zV {P:Program} {w:World} {A:Around} {E:Value→Shared→Prop} {s:Shared} {id:String} {b:Builtin} {args:List Value} {kw:List (Str×Value)} {Q:Value→Shared→Prop} (hk:builtinKind id=none) (hp:plainId id=true)
  (hb:entryFor table id=some b) (ha:argsOk id ⟨args,kw⟩)
  (hc:wpAny (model P w) A.in1 (b ⟨args,kw⟩) (fun fin s1=>match fin with
   | .done f=>(match (Except.ok f:Result) with | .ok (.ret v)=>Q v s1 | .ok _=>False | .error e=>E e s1)
   | .again c=>c.quiet=true∧codeAny (model P w) A c (fun r s2=>match r with | .ok (.ret v)=>Q v s2 | .ok _=>False | .error e=>E e s2) s1) E s):wpAny (model P w) A (call (.builtin id) args kw) Q E s:=by
 refine wpAny_call (codeAny_call_builtin hp hb ?_)
 simp only [checkBuiltinCall,hk]
 unfold argsOk at ha
 cases hg:Manifest.signature? id with
 | none=>exact wpAny_pure hc
 | some sg =>
  rw [hg] at ha
  have ha2:Bind.checkArgs id sg ⟨args,kw⟩=pure ():=ha
  simp only [ha2]
  exact wpAny_pure hc
end
theorem cO {CX:CXT} {P:Program} {w:World} {K:W.Frag} {mg:Str→Option Value} {base:Heap} {N:List Str} {q:Str} {sc:Scope} {f:Addr} {cdv:Value} {A:Around} {outer:List Env} {s:Shared} {H:Hp} {E:XK}:(rP CX P w K mg base N q sc f cdv A outer s H E).nox.K=K:=rfl
theorem bT {CX:CXT} {P:Program} {w:World} {K:W.Frag} {mg:Str→Option Value} {base:Heap} {N:List Str} {q:Str} {sc:Scope} {f:Addr} {cdv:Value} {A:Around} {outer:List Env} {s:Shared} {H:Hp} {E:XK}:(rP CX P w K mg base N q sc f cdv A outer s H E).K=K:=rfl
def Hs (H:Hp) (a:Addr):Prop:=∃u,H a=some u
section
variable {H H':Hp} {a p l:Addr} {o u:HO}
theorem Hs.of (h:H a=some u):Hs H a:=⟨u,h⟩
theorem New.hs (n:New H H' p o):Hs H' p:=⟨o,n.e⟩
end
section
variable {H:Hp} {Q:VK} {K:W.Frag} {l b:Addr} {xs ys:List V} {y:V} {σ:St} {D:Ends}
theorem Z7 {R:Prop} (h:SqL K H l xs) (k:R):tyV K "list" (.ref l) H∧R:=⟨.inl ⟨rfl,_,h⟩,k⟩
theorem Z8 (h:H l=some (.lst xs)) (z:xs.length < sizeLine) (k:∀H',Off l H H'→H' l=some (.lst (xs++[y]))→Q .non H'):Ia (.ref l) [y] H Q:=⟨l,xs,y,rfl,rfl,h,z,k⟩
theorem Z9 (h:H l=some (.lst xs)) (e:H b=some (.lst ys)) (z:xs.length + ys.length≤sizeLine) (k:∀H',Off l H H'→H' l=some (.lst (xs++ys))→Q .non H'):Ii (.ref l) [.ref b] H Q:=⟨l,b,xs,ys,rfl,rfl,h,e,z,k⟩
theorem Gw {i:Int} {j:Nat} {v:V} {R:Hp→Prop} (h:H l=some (.lst xs)) (e:ixN xs.length i=some j) (k:∀H',Off l H H'→H' l=some (.lst (xs.set j v))→R H'):Cd (.ref l) (.int i) v H R:=⟨l,xs,i,j,rfl,rfl,h,e,k⟩
theorem Z_ {lo hi:Option Int} (h:SqL K H l xs) (k:∀p H',New H H' p (.lst (pO xs lo hi))→Q (.ref p) H'):Wn K (.ref l) lo hi H Q:=⟨l,xs,rfl,h,k⟩
theorem WT (h:H l=some (.lst xs)) (e:H b=some (.lst ys)) (z:xs.length + ys.length≤sizeLine) (k:∀p H',New H H' p (.lst (xs++ys))→Q (.ref p) H'):Np (.ref l) (.ref b) H Q:=⟨l,b,xs,ys,rfl,rfl,h,e,z,k⟩
theorem WW {n:Nat} (h:H l=some (.lst [y])) (z:n≤1000000) (k:∀p H',New H H' p (.lst (List.replicate n y))→Q (.ref p) H'):Nq (.ref l) (.int (n:Int)) H Q :=
 ⟨l,n,[y],rfl,rfl,h,by lia,by lia,by simp only [List.length_singleton,Int.toNat_natCast,Nat.one_mul];exact cQ z,fun p H' q=>k p H' (by
  have e:(List.replicate ((n:Int).toNat) [y]).flatten=List.replicate n y:=by
   rw [Int.toNat_natCast]
   clear z q k h
   induction n with
   | zero=>rfl
   | succ n ih=>rw [List.replicate_succ,List.flatten_cons,ih];rfl
  rw [← e];exact q)⟩
theorem WX (h:SqL K H l xs) (k:∀p H',New H H' p (.lst xs)→Q (.ref p) H'):NQ K [.ref l] H Q:=⟨l,xs,rfl,.inl h,k⟩
theorem w_sumL {ns:List Int} (h:SqL K H l (ns.map V.int)) (hb:∀n∈ns,0≤n∧n≤1000000) (hz:ns.length≤1000000) (k:Q (.int ns.sum) H):Oj K [.ref l] H Q:=⟨l,ns,rfl,h,hb,hz,k⟩
theorem WY {C dx:Addr} {fs:List (Str×V)} {m:Str} {R:Prop} (h:H l=some (.ins C dx fs)) (e:fs.lookup m=none) (k:R):∃a' dx' fs',V.ref l=.ref a'∧H a'=some (.ins C dx' fs')∧fs'.lookup m=none∧R:=⟨l,dx,fs,rfl,h,e,k⟩
theorem aac {n:Nat} {i:Int} (h0:0≤i) (h1:i < n):ixN n i=some i.toNat:=by unfold ixN;rw [if_pos h0,if_pos h1]
theorem ady {x y:V} {r:List V}:atI (x::y::r) 1=some y:=b_ (j:=1) rfl
theorem adz {x y z:V} {r:List V}:atI (x::y::z::r) 2=some z:=b_ (j:=2) rfl
theorem adA {x y z w:V} {r:List V}:atI (x::y::z::w::r) 3=some w:=b_ (j:=3) rfl
theorem adB {A B:Prop} (k:A):if (true:Bool)=true then A else B:=by rw [if_pos rfl];exact k
theorem adC {A B:Prop} (k:B):if (false:Bool)=true then A else B:=by rw [if_neg (by decide)];exact k
theorem aad {A B:Prop} (k:B):if (!true:Bool)=true then A else B:=by rw [if_neg (by decide)];exact k
theorem W0 (h:H l=some (.tup xs)) (k:Q (.bl true) H):zP K [.ref l,.ty "tuple"] H Q:=w_is (.tup h) (Nh (.tup h)) k
theorem W2 (h:H l=some (.lst xs)) (k:Q (.bl true) H):zP K [.ref l,.ty "list"] H Q:=w_is (.lst h) (Sq (.lst h)) k
theorem Cp {n:Nat} (h:n < 1000000):n < sizeLine:=Nat.lt_of_lt_of_le h (cQ (Nat.le_refl _))
theorem W4 {n i0 i1:Nat} {a b:V} {R:St→Hp→Prop} (hn:n=2) (hp:SqT K H l [a,b]) (h:bQ i0 a σ H fun σ1 H1=>bQ i1 b σ1 H1 R):Kf K n (iB (bQ i0) (iB (bQ i1) Ke)) (.ref l) σ H R:=by
 subst hn
 exact Wz hp h
theorem Ik {i:Int} (h:SqL K H l xs) (h0:0≤i) (h1:i < xs.length) (k:∀v∈xs,Q v H):RX K (.ref l) (.int i) H Q:=let ⟨v,e,m⟩:=Ni h0 h1;NZ h e (k v m)
theorem su {rows:List (List V)} {i:Nat} {v:V} (h:aJ H xs rows) (e:xs[i]?=some v):∃r q,rows[i]?=some r∧v=.ref q∧H q=some (.tup r):=by
 have hi:i < rows.length:=by rw [← h.1];exact (List.getElem?_eq_some_iff.mp e).1
 obtain ⟨q,e1,e2⟩:=h.2 i rows[i] (by simp)
 rw [e] at e1
 exact ⟨rows[i],q,by simp,Option.some.inj e1,e2⟩
theorem lD {te:TE} {fr:List Nat} {fvs:St} {rows:List (List V)} {F:List V→V} (hq:H l=some (.lst xs)) (tp:aJ H xs rows) (hz:xs.length≤1000000) (hf:(fr.map fun i=>(σ[i]?).getD none)=fvs)
  (turn:∀(q:Addr) (r:List V) (H':Hp) (R:VK),r∈rows→Same H H'→H' q=some (.tup r)→(∀H2,Same H' H2→R (F r) H2)→te (some (.ref q)::fvs) H' R)
  (k:∀p H',New H H' p (.lst (rows.map F))→Q (.ref p) H'):dU (Itl K l) 1 fr (bQ 0) mH te σ H Q:=by
 refine comp_map (P:=fun i y=>∃r,rows[i]?=some r∧y=F r) (jC (xs:=xs)) hz hf (fun H' s=>s.seq (SqL.of hq)) (fun i v H' R hv s kk=>?_) fun p H' ys n hl hP=>k p H' ?_
 ·obtain ⟨r,q,e1,rfl,e2⟩:=su tp hv
  exact turn q r H' R (List.mem_of_getElem? e1) s (s _ _ e2) fun H2 s2=>kk _ _ s2 ⟨r,e1,rfl⟩
 ·have e:ys=rows.map F:=by
   apply List.ext_getElem?
   intro i
   rw [List.getElem?_map]
   by_cases hi:i < ys.length
   ·obtain ⟨r,e1,e2⟩:=hP i ys[i] (by simp)
    rw [e1,List.getElem?_eq_getElem hi,e2]
    rfl
   ·have:¬ i < rows.length:=by rw [← tp.1];lia
    rw [List.getElem?_eq_none (by lia),List.getElem?_eq_none (by lia)]
    rfl
  rw [e] at n
  exact n
end
section
variable {K:W.Frag} {g:TG} {tb:TS} {D:Ends} {σ:St} {H:Hp} {tr:TA}
def wF (lo:Int) (n:Nat) (g:TG) (tb:TS) (D:Ends) (σ:St) (H:Hp):Prop:=∃W:Nat→Nat→St→Hp→Prop,(∃m,W 0 m σ H)∧∀i m σ H,W i m σ H →
 ((Itr lo n).stop i H∧D.nx σ H)∨((Itr lo n).go i H∧∃N:St→Hp→Prop,(∀σ' H',N σ' H'→∃m',m' < m∧W (i + 1) m' σ' H')∧∀x H',(Itr lo n).yld i H x H'→g x σ H' fun σ2 H2=>tb { D with nx:=N,ct:=N,bk:=D.nx } σ2 H2)
theorem Tf {lo:Int} {n:Nat} (Pv:Nat→St→Hp→Prop) (h0:Pv 0 σ H) (hs:∀i σ H,i < n→Pv i σ H→g (.int (lo + i)) σ H fun σ2 H2=>tb { D with nx:=Pv (i + 1),ct:=Pv (i + 1),bk:=D.nx } σ2 H2) (hd:∀σ H,Pv n σ H→D.nx σ H):wF lo n g tb D σ H:=wM Pv h0 hs hd
theorem Tg (h:tr σ H fun vs H1=>∃j:Int,vs=[.int j]∧-(2 ^ 62)≤j∧j < 2 ^ 62∧wF 0 j.toNat g tb D σ H1):tM (Bt tr) g tb D σ H:=h
theorem Ti (h:tr σ H fun vs H1=>∃i j:Int,vs=[.int i,.int j]∧(-(2 ^ 62)≤i∧i < 2 ^ 62∧-(2 ^ 62)≤j∧j < 2 ^ 62)∧wF i (j - i).toNat g tb D σ H1):tM (Mu tr) g tb D σ H:=h
def Gx (K:PySem.W.Frag) (a:Addr) (xs:List V) (g:TG) (tb:TS) (D:Ends) (σ:St) (H:Hp):Prop:=∃W:Nat→Nat→St→Hp→Prop,(∃m,W 0 m σ H)∧∀i m σ H,W i m σ H →
      ((Ite K a xs).stop i H∧D.nx σ H)∨((Ite K a xs).go i H∧∃N:St→Hp→Prop,(∀σ' H',N σ' H'→∃m',m' < m∧W (i + 1) m' σ' H')∧∀x H',(Ite K a xs).yld i H x H'→g x σ H' fun σ2 H2=>tb { D with nx:=N,ct:=N,bk:=D.nx } σ2 H2)
theorem W5 (h:tr σ H fun vs H1=>∃a xs,vs=[.ref a]∧SqL K H1 a xs∧Gx K a xs g tb D σ H1):tM (Nv K tr) g tb D σ H:=h
theorem adD {a:Addr} {xs:List V} (h:SqL K H a xs) (k:Gx K a xs g tb D σ H):∃a' xs',[V.ref a]=[.ref a']∧SqL K H a' xs'∧Gx K a' xs' g tb D σ H:=⟨a,xs,rfl,h,k⟩
theorem Il {a:Addr} {xs:List V} (Pv:Nat→St→Hp→Prop) (h0:Pv 0 σ H) (hl:∀i σ H,i≤xs.length→Pv i σ H→SqL K H a xs)
  (hs:∀i x T σ H H',xs[i]?=some x→Pv i σ H→New H H' T (.tup [.int i,x])→g (.ref T) σ H' fun σ2 H2=>tb { D with nx:=Pv (i + 1),ct:=Pv (i + 1),bk:=D.nx } σ2 H2) (hd:∀σ H,Pv xs.length σ H→D.nx σ H):Gx K a xs g tb D σ H:=Nx Pv h0 hl hs hd
theorem adE {a:Addr} {xs:List V} (h:SqL K H a xs) (k:Gq K a g tb D σ H):∃a',V.ref a=.ref a'∧(∃xs,SqL K H a' xs)∧Gq K a' g tb D σ H:=⟨a,rfl,⟨xs,h⟩,k⟩
theorem adF {a:Addr} {xs:List V} {nt:Nat} {fr:List Nat} {c:TT} {te:TE} {Q:VK} (h:SqL K H a xs) (k:dU (Itl K a) nt fr g c te σ H Q):∃a',V.ref a=.ref a'∧(∃xs,SqL K H a' xs)∧dU (Itl K a') nt fr g c te σ H Q:=⟨a,rfl,⟨xs,h⟩,k⟩
end
section
variable {K:W.Frag} {σ:St} {H:Hp} {Q:VK} {ta tv:TE} {t:TA} {f m:Str} {C:Addr} {sp:Sp} {E:XK} {D:Ends}
def Tj (K:W.Frag) (f:Str) (y x:V) (H:Hp) (R:Hp→Prop):Prop:=∃a C dx fs,x=.ref a∧H a=some (.ins C dx fs)∧Cls K C∧dJ K C f∧fs.length < 1000∧R (upd H a (.ins C dx (gU f y fs)))
theorem Ol (h:tv σ H fun y H1=>ta σ H1 fun x H2=>Tj K f y x H2 fun H3=>D.nx σ H3):V6 K ta tv f D σ H:=h
theorem W6 {l dx:Addr} {fs:List (Str×V)} {y:V} {R:Hp→Prop} (ho:H l=some (.ins C dx fs)) (c:Cls K C) (n:dJ K C f) (z:fs.length < 1000) (k:∀H',Off l H H'→H' l=some (.ins C dx (gU f y fs))→R H'):Tj K f y (.ref l) H R :=
 ⟨l,C,dx,fs,rfl,ho,c,n,z,k _ Off.upd cB⟩
def Gy (C:Addr) (sp:Sp) (E:XK) (t:TA):TE:=fun σ H Q=>t σ H fun vs H1=>∀x dx H2,New H1 H2 x (.ins C dx [])→sp (.ref x::vs) H2 (fun v H3=>v=.non∧Q (.ref x) H3) E
theorem Om (h:t σ H fun vs H1=>∀x dx H2,New H1 H2 x (.ins C dx [])→sp (.ref x::vs) H2 (fun v H3=>v=.non∧Q (.ref x) H3) E):Gy C sp E t σ H Q:=h
theorem Oo (h:ta σ H fun x H1=>∃a dx fs,x=.ref a∧H1 a=some (.ins C dx fs)∧fs.lookup m=none∧t σ H1 fun vs H2=>sp (x::vs) H2 Q E):wO C m sp [] E ta t σ H Q:=by
 have e:(fun (x:V) (H1:Hp)=>∃a dx fs,x=.ref a∧H1 a=some (.ins C dx fs)∧fs.lookup m=none∧t σ H1 fun vs H2=>sp (x::(vs++[])) H2 Q E)=fun x H1=>∃a dx fs,x=.ref a∧H1 a=some (.ins C dx fs)∧fs.lookup m=none∧t σ H1 fun vs H2=>sp (x::vs) H2 Q E:=by
  simp only [List.append_nil]
 show ta σ H fun x H1=>∃a dx fs,x=.ref a∧H1 a=some (.ins C dx fs)∧fs.lookup m=none∧t σ H1 fun vs H2=>sp (x::(vs++[])) H2 Q E
 rw [e]
 exact h
end
section
variable {X:Cx} {CX:CXT} {k m:Nat} {x:Str} {ps:List Str} {sp:Sp} {E:XK} {p pos:Pos} {e:Expr} {es:List Expr} {t:TA} {C:Addr}
theorem sy (D:Mak X.prog X.w X.K X.mg X.base CX k x C ps sp) (hr:Room m X.A) (ha:PA X (e::es) t) (hk:k + 1≤m:=by decide) (hx:Passes CX X E:=by exact HN) (hg:Gl X x:=by rfl)
  (hdb:(x == ("__debug__" : Str))=false:=by decide) (he:starEach (e::es) X.env=(false,eval e X.env)::starEach es X.env:=by rfl) (hpl:(backTo pos (starEach es X.env)).any (·.1)=false:=by rfl) :
  PE X (.Call (.Name x p) (e::es) [] pos) (Gy C sp E t):=by
 obtain ⟨f,fd,F,M,g,b⟩:=D.ex
 intro pins s σ H Q I h
 refine wpAny_Call_Name_kw (zB I hg g ?_ hdb)
 refine W.callWith_K (h₀:=X.base) I.ok.mod.kin M.kp (thn (ha pos pins s σ H _ I h) fun us s1 ⟨vs,H1,I1,r,q⟩=>⟨I1.kIn,?_⟩) he hpl
 refine M4 M F (hr.mono hk) b .nil hx I1 r fun y dy h1 h2 h3=>?_
 rw [List.append_nil]
 exact q y dy _ ⟨K1 h1 h2,cB,fun a u z=>cu z h1⟩
end
def adG:V→Int→Bool
 | .int i,lo=>decide (lo≤i)
 | _,_=>false
def inB:V→Int→Int→Bool
 | .int i,lo,hi=>decide (lo≤i) && decide (i≤hi)
 | _,_,_=>false
section
variable {K:W.Frag} {H:Hp} {Q:VK} {E:XK} {x:V} {n:String} {p q:Addr} {a b c lo hi:Int}
def nO (K:W.Frag):Sp:=fun vs H Q _=>∃x n,vs=[x]∧eF K H x (.type n)∧Q (.bl (isW x)) H
theorem Io (ty:eF K H x (.type n)) (k:Q (.bl (isW x)) H):nO K [x] H Q E:=⟨x,n,rfl,ty,k⟩
def mX (K:W.Frag):Sp:=fun vs H Q _=>∃x n lo,vs=[x,.int lo]∧eF K H x (.type n)∧Q (.bl (adG x lo)) H
theorem Tp (k:Q (.bl (decide (lo≤a))) H):mX K [.int a,.int lo] H Q E:=⟨_,_,lo,rfl,.int _,k⟩
def jE (K:W.Frag):Sp:=fun vs H Q _=>∃x n lo hi,vs=[x,.int lo,.int hi]∧eF K H x (.type n)∧Q (.bl (inB x lo hi)) H
theorem Oq (ty:eF K H x (.type n)) (k:Q (.bl (inB x lo hi)) H):jE K [x,.int lo,.int hi] H Q E:=⟨x,n,lo,hi,rfl,ty,k⟩
def uo (K:W.Frag):Sp:=fun vs H Q _=>∃x n,vs=[x]∧eF K H x (.type n)∧Q (.bl (inB x 16 240)) H
def pZ:Sp:=fun vs H Q _=>∃(q:Addr) (a b:Int),vs=[.ref q]∧H q=some (.tup [.int a,.int b])∧Q (.int (a + b)) H
theorem aae (h:H q=some (.tup [.int a,.int b])) (k:Q (.int (a + b)) H):pZ [.ref q] H Q E:=⟨q,a,b,rfl,h,k⟩
def aaf (ws:List (Nat×Nat)):List (List V):=ws.map fun w=>[V.int (w.1:Nat),V.int (w.2:Nat)]
theorem fG (ws:List (Nat×Nat)):(aaf ws).length=ws.length:=List.length_map ..
def uq (K:W.Frag):Sp:=fun vs H Q _=>∃(a:Addr) (ns:List Int) (k:Int),vs=[.ref a,.int k]∧SqL K H a (ns.map V.int)∧0≤k∧∀c:Int,Q (.int c) H
theorem Tq {ns:List Int} {m:Int} (h:SqL K H p (ns.map V.int)) (h0:0≤m) (k:∀c:Int,Q (.int c) H):uq K [.ref p,.int m] H Q E:=⟨p,ns,m,rfl,h,h0,k⟩
def zW:Sp:=fun vs H Q _=>∃c:Int,vs=[.int c]∧∀(p:Addr) (a b:Int) (H':Hp),New H H' p (.lst [.int a,.int b,.int 0])→Q (.ref p) H'
theorem W7 (k:∀(p:Addr) (x y:Int) (H':Hp),New H H' p (.lst [.int x,.int y,.int 0])→Q (.ref p) H'):zW [.int a] H Q E:=⟨a,rfl,k⟩
end
section
variable {K:W.Frag} {g:TG} {tb:TS} {D:Ends} {σ:St} {H H':Hp} {Q:VK} {l p q:Addr} {xs ys:List V} {rows:List (List V)}
theorem gH {n:Nat} (Pv:Nat→St→Hp→Prop) (h0:Pv 0 σ H) (hs:∀i σ H,i < n→Pv i σ H→g (.int i) σ H fun σ2 H2=>tb { D with nx:=Pv (i + 1),ct:=Pv (i + 1),bk:=D.nx } σ2 H2) (hd:∀σ H,Pv n σ H→D.nx σ H):wF 0 n g tb D σ H :=
 wM Pv h0 (fun i σ H hi h=>by rw [Int.zero_add];exact hs i σ H hi h) hd
theorem aJ.snoc {r:List V} (h:aJ H ys rows) (hq:H q=some (.tup r)):aJ H (ys++[.ref q]) (rows++[r]):=by
 refine ⟨by rw [List.length_append,List.length_append,h.1];rfl,fun j s z=>?_⟩
 by_cases hj:j < rows.length
 ·rw [List.getElem?_append_left hj] at z
  obtain ⟨x,e1,e2⟩:=h.2 j s z
  exact ⟨x,by rw [List.getElem?_append_left (by rw [h.1];exact hj)];exact e1,e2⟩
 ·have hj2:j=rows.length:=by
   have:=(List.getElem?_eq_some_iff.mp z).1
   rw [List.length_append,List.length_singleton] at this
   lia
  subst hj2
  rw [List.getElem?_append_right (Nat.le_refl _),Nat.sub_self] at z
  cases z
  exact ⟨q,by rw [← h.1,List.getElem?_append_right (Nat.le_refl _),Nat.sub_self];rfl,hq⟩
theorem Ot {zs:List V} (hp:H p=some (.lst ys)) (tp:aJ H ys rows) (hf:∀r∈rows,∀v∈r,fj v=true) (hq:H q=some (.lst [])) (k:Q (.bl (!decide (rows=[]))) H):Ce K (.ref p) (.ref q) H Q :=
 ⟨_,_,jZ (SqL.of hp) tp hf,zU (SqL.of hq),Nat.le_trans (pY _) (by decide),by
  cases rows with
  | nil=>simpa [gF,fC] using k
  | cons a t=>simpa [gF,fC] using k⟩
def IsPair (H:Hp) (v:V):Option (Nat×Nat)→Prop
 | none=>v=.non
 | some w=>∃q,v=.ref q∧H q=some (.tup [.int (w.1:Nat),.int (w.2:Nat)])
theorem IsPair.same {v:V} {o:Option (Nat×Nat)} (s:Same H H') (h:IsPair H v o):IsPair H' v o:=by
 cases o with
 | none=>exact h
 | some w=>obtain ⟨q,e1,e2⟩:=h;exact ⟨q,e1,s _ _ e2⟩
end
theorem Cq {K:W.Frag} {l:Addr} {σ:St} {H:Hp} {xs:List V} {c:TT} {Q:VK} {fr:List Nat} {fvs:St} {p:V→Bool} (hq:SqL K H l xs) (hz:xs.length≤1000000) (hf:(fr.map fun i=>(σ[i]?).getD none)=fvs)
  (turn:∀(v:V) (H':Hp) (R:Bool→Hp→Prop),v∈xs→Same H H'→(∀H2,Same H' H2→R (p v) H2)→c (some v::fvs) H' R)
  (k:∀l H',New H H' l (.lst (xs.filter p))→Q (.ref l) H'):dU (Itl K l) 1 fr (bQ 0) c (eG 0) σ H Q:=by
 have:=KZ (σ:=σ) (H:=H) (wi:=fun _ H R=>R (Itl K l) H) (J:=Itl K l) (c:=c) (Q:=Q) (fr:=fr) (fvs:=fvs) (p:=p) hz hf (jC (K:=K) (a:=l) (xs:=xs)) (fun R h=>h) (fun H' s=>s.seq hq) (fun i v H' R hv s kk=>turn v H' R (List.mem_of_getElem? hv) s kk) k
 exact this
def isTup:HO→Bool
 | .tup _=>true
 | .frz _ _=>true
 | _=>false
def Tst (H H':Hp):Prop:=∀q u,isTup u=true→H q=some u→H' q=some u
inductive Im where
 | tup (q:Addr) (r:List V)
 | tps (ys:List V) (rs:List (List V))
 | fct (φ:Hp→Prop) (st:∀H H',Tst H H'→φ H→φ H')
def Im.holds (H:Hp):Im→Prop
 | .tup q r=>H q=some (.tup r)
 | .tps ys rs=>aJ H ys rs
 | .fct φ _=>φ H
theorem Im.stay {H H':Hp} (t:Tst H H'):∀{f:Im},f.holds H→f.holds H'
 | .tup q r,h=>t q _ rfl h
 | .tps ys rs,h=>⟨h.1,fun j r e=>let ⟨q,a,b⟩:=h.2 j r e;⟨q,a,t q _ rfl b⟩⟩
 | .fct φ st,h=>st H H' t h
class SH (H0:outParam Hp) (M:outParam (List Addr)) (H:Hp) (L:outParam (List (Addr×HO))) (I:outParam (List Im)):Prop where
 fr:∀b u,b ∉ M→H0 b=some u→H b=some u
 im:∀f∈I,f.holds H
 at':∀c∈L,H c.1=some c.2
 nd:(L.map (·.1)).Nodup
 mu:∀c∈L,isTup c.2=false
 ch:∀c∈L,c.1∈M∨∀b u,H0 b=some u→b≠c.1
inductive Up (l:Addr) (o':HO):List (Addr×HO)→List (Addr×HO)→Prop
 | head {o:HO} {L:List (Addr×HO)}:Up l o' ((l,o)::L) ((l,o')::L)
 | tail {c:Addr×HO} {L L':List (Addr×HO)} (h:Up l o' L L'):Up l o' (c::L) (c::L')
theorem Up.keys {l:Addr} {o':HO} {L L':List (Addr×HO)} (h:Up l o' L L'):L'.map (·.1)=L.map (·.1):=by
 induction h with
 | head=>rfl
 | tail h ih=>rw [List.map_cons,List.map_cons,ih]
theorem Up.mem {l:Addr} {o':HO} {L L':List (Addr×HO)} (h:Up l o' L L'):l∈L.map (·.1):=by
 induction h with
 | head=>exact List.mem_cons_self
 | tail h ih=>exact List.mem_cons_of_mem _ ih
theorem Up.each {l:Addr} {o':HO} {L L':List (Addr×HO)} (h:Up l o' L L') (nd:(L.map (·.1)).Nodup):∀c∈L',c=(l,o')∨(c∈L∧c.1≠l):=by
 induction h with
 | @head o L =>
  intro c hc
  rcases List.mem_cons.mp hc with rfl | hc
  ·exact .inl rfl
  ·refine .inr ⟨List.mem_cons_of_mem _ hc,fun z=>?_⟩
   rw [List.map_cons] at nd
   exact (List.nodup_cons.mp nd).1 (by show l∈_;rw [← z];exact List.mem_map_of_mem (f:=(·.1)) hc)
 | @tail d L L' h ih =>
  intro c hc
  rw [List.map_cons] at nd
  have nd':=List.nodup_cons.mp nd
  rcases List.mem_cons.mp hc with rfl | hc
  ·exact .inr ⟨List.mem_cons_self,fun z=>nd'.1 (z▸h.mem)⟩
  ·rcases ih nd'.2 c hc with e | ⟨e1,e2⟩
   ·exact .inl e
   ·exact .inr ⟨List.mem_cons_of_mem _ e1,e2⟩
theorem Up.src {l:Addr} {o':HO} {L L':List (Addr×HO)} (h:Up l o' L L'):∃o,(l,o)∈L:=by
 induction h with
 | head=>exact ⟨_,List.mem_cons_self⟩
 | tail h ih=>obtain ⟨o,ho⟩:=ih;exact ⟨o,List.mem_cons_of_mem _ ho⟩
inductive Pk (c:Addr×HO):List (Addr×HO)→List (Addr×HO)→Prop
 | head {L:List (Addr×HO)}:Pk c (c::L) L
 | tail {d:Addr×HO} {L R:List (Addr×HO)} (h:Pk c L R):Pk c (d::L) (d::R)
inductive Sb:List (Addr×HO)→List (Addr×HO)→Prop
 | nil {L:List (Addr×HO)}:Sb [] L
 | cons {c:Addr×HO} {L' L R:List (Addr×HO)} (h:Pk c L R) (t:Sb L' R):Sb (c::L') L
theorem Pk.mem {c:Addr×HO} {L R:List (Addr×HO)} (h:Pk c L R):c∈L∧∀d∈R,d∈L:=by
 induction h with
 | head=>exact ⟨List.mem_cons_self,fun d hd=>List.mem_cons_of_mem _ hd⟩
 | tail h ih =>
  refine ⟨List.mem_cons_of_mem _ ih.1,fun d hd=>?_⟩
  rcases List.mem_cons.mp hd with rfl | hd
  ·exact List.mem_cons_self
  ·exact List.mem_cons_of_mem _ (ih.2 d hd)
theorem Pk.nd {c:Addr×HO} {L R:List (Addr×HO)} (h:Pk c L R) (nd:(L.map (·.1)).Nodup):(R.map (·.1)).Nodup∧∀d∈R,d.1≠c.1:=by
 induction h with
 | head =>
  rw [List.map_cons] at nd
  have:=List.nodup_cons.mp nd
  exact ⟨this.2,fun d hd z=>this.1 (z▸List.mem_map_of_mem hd)⟩
 | @tail d L R h ih =>
  rw [List.map_cons] at nd
  have nd':=List.nodup_cons.mp nd
  obtain ⟨i1,i2⟩:=ih nd'.2
  refine ⟨by
   rw [List.map_cons,List.nodup_cons]
   refine ⟨fun z=>?_,i1⟩
   obtain ⟨x,hx,ex⟩:=List.mem_map.mp z
   exact nd'.1 (ex▸List.mem_map_of_mem (h.mem.2 x hx)),fun x hx=>?_⟩
  rcases List.mem_cons.mp hx with rfl | hx
  ·exact fun z=>nd'.1 (z▸List.mem_map_of_mem h.mem.1)
  ·exact i2 x hx
theorem Sb.mem {L' L:List (Addr×HO)} (h:Sb L' L):∀c∈L',c∈L:=by
 induction h with
 | nil=>intro c hc;cases hc
 | cons h t ih =>
  intro c hc
  rcases List.mem_cons.mp hc with rfl | hc
  ·exact h.mem.1
  ·exact h.mem.2 c (ih c hc)
theorem Sb.nd {L' L:List (Addr×HO)} (h:Sb L' L):(L.map (·.1)).Nodup→(L'.map (·.1)).Nodup:=by
 induction h with
 | nil=>intro _;exact List.nodup_nil
 | cons h t ih =>
  intro nd
  obtain ⟨n1,n2⟩:=h.nd nd
  rw [List.map_cons,List.nodup_cons]
  refine ⟨fun z=>?_,ih n1⟩
  obtain ⟨x,hx,ex⟩:=List.mem_map.mp z
  exact n2 x (t.mem x hx) ex
section
variable {H0 H H':Hp} {M:List Addr} {L L':List (Addr×HO)} {I I':List Im} {p q l a:Addr} {o o' u:HO} {xs ys r:List V} {rs:List (List V)} {K:W.Frag}
theorem SH.nil:SH H M H [] []:=⟨fun _ _ _ h=>h,(fun _ h=>by cases h),(fun _ h=>by cases h),List.nodup_nil,(fun _ h=>by cases h),(fun _ h=>by cases h)⟩
theorem SH.jg (F:SH H0 M H0 L I) (hm:p∈M) (h:H0 p=some o) (ht:isTup o=false) (ne:∀c∈L,c.1≠p):SH H0 M H0 ((p,o)::L) I:=by
 refine ⟨F.fr,F.im,?_,?_,?_,?_⟩
 ·intro c hc
  rcases List.mem_cons.mp hc with rfl | hc
  ·exact h
  ·exact F.at' c hc
 ·rw [List.map_cons,List.nodup_cons]
  refine ⟨fun z=>?_,F.nd⟩
  obtain ⟨x,hx,ex⟩:=List.mem_map.mp z
  exact ne x hx ex
 ·intro c hc
  rcases List.mem_cons.mp hc with rfl | hc
  ·exact ht
  ·exact F.mu c hc
 ·intro c hc
  rcases List.mem_cons.mp hc with rfl | hc
  ·exact .inl hm
  ·exact F.ch c hc
theorem SH.zX (F:SH H0 M H L I) (h:H q=some (.tup r)):SH H0 M H L (.tup q r::I):=⟨F.fr,fun f hf=>by
 rcases List.mem_cons.mp hf with rfl | hf
 ·exact h
 ·exact F.im f hf,F.at',F.nd,F.mu,F.ch⟩
theorem SH.fW (F:SH H0 M H L I) (h:aJ H ys rs):SH H0 M H L (.tps ys rs::I):=⟨F.fr,fun f hf=>by
 rcases List.mem_cons.mp hf with rfl | hf
 ·exact h
 ·exact F.im f hf,F.at',F.nd,F.mu,F.ch⟩
theorem SH.lZ {φ:Hp→Prop} {st:∀H H',Tst H H'→φ H→φ H'} (F:SH H0 M H L I) (h:φ H):SH H0 M H L (.fct φ st::I):=⟨F.fr,fun f hf=>by
 rcases List.mem_cons.mp hf with rfl | hf
 ·exact h
 ·exact F.im f hf,F.at',F.nd,F.mu,F.ch⟩
theorem SH.same (F:SH H0 M H L I) (s:Same H H'):SH H0 M H' L I:=⟨fun b u n e=>s b u (F.fr b u n e),fun f hf=>Im.stay (fun q u _ e=>s q u e) (F.im f hf),fun c hc=>s _ _ (F.at' c hc),F.nd,F.mu,F.ch⟩
theorem SH.newT (F:SH H0 M H L I) (n:New H H' q (.tup r)):SH H0 M H' L (.tup q r::I):=(F.same n.s).zX n.e
theorem SH.aag (F:SH H0 M H L I) (n:New H H' p o) (ht:isTup o=false):SH H0 M H' ((p,o)::L) I:=by
 have F':=F.same n.s
 refine ⟨F'.fr,F'.im,?_,?_,?_,?_⟩
 ·intro c hc
  rcases List.mem_cons.mp hc with rfl | hc
  ·exact n.e
  ·exact F'.at' c hc
 ·rw [List.map_cons,List.nodup_cons]
  refine ⟨fun z=>?_,F.nd⟩
  obtain ⟨x,hx,ex⟩:=List.mem_map.mp z
  exact n.n _ _ (F.at' x hx) ex
 ·intro c hc
  rcases List.mem_cons.mp hc with rfl | hc
  ·exact ht
  ·exact F.mu c hc
 ·intro c hc
  rcases List.mem_cons.mp hc with rfl | hc
  ·by_cases hm:p∈M
   ·exact .inl hm
   ·exact .inr fun b u e z=>by
     by_cases hb:b∈M
     ·exact hm (by have z':b=p:=z;rw [← z'];exact hb)
     ·exact n.n b u (F.fr b u hb e) z
  ·exact F.ch c hc
theorem SH.newL (F:SH H0 M H L I) (n:New H H' p (.lst xs)):SH H0 M H' ((p,.lst xs)::L) I:=F.aag n rfl
theorem SH.adH {C dx:Addr} {fs:List (Str×V)} (F:SH H0 M H L I) (n:New H H' p (.ins C dx fs)):SH H0 M H' ((p,.ins C dx fs)::L) I:=F.aag n rfl
theorem SH.newR (F:SH H0 M H L I) (n:New H H' p (.lst ys)) (t:aJ H' ys rs):SH H0 M H' ((p,.lst ys)::L) (.tps ys rs::I):=(F.newL n).fW t
theorem SH.kp (F:SH H0 M H L I) (k:Kp l H H') (e:H' l=some o') (u:Up l o' L L') (ht:isTup o'=false:=by rfl):SH H0 M H' L' I:=by
 obtain ⟨o,ho⟩:=u.src
 have hl:=F.at' _ ho
 have hu:=F.mu _ ho
 refine ⟨fun b w nb e0=>k b w (fun z=>?_) (F.fr b w nb e0),fun f hf=>Im.stay (fun q v hv e1=>k q _ (fun z=>?_) e1) (F.im f hf),fun c hc=>?_,by rw [u.keys];exact F.nd,fun c hc=>?_,fun c hc=>?_⟩
 ·rcases F.ch _ ho with h | h
  ·exact nb (by rw [z];exact h)
  ·exact h b w e0 z
 ·rw [z,hl] at e1
  cases e1
  rw [hu] at hv
  cases hv
 ·rcases u.each F.nd c hc with rfl | ⟨h1,h2⟩
  ·exact e
  ·exact k _ _ h2 (F.at' c h1)
 ·rcases u.each F.nd c hc with rfl | ⟨h1,h2⟩
  ·exact ht
  ·exact F.mu c h1
 ·rcases u.each F.nd c hc with rfl | ⟨h1,h2⟩
  ·exact F.ch (l,o) ho
  ·exact F.ch c h1
theorem SH.aah (F:SH H0 M H L I) (f:Off l H H') (e:H' l=some (.lst xs)) (u:Up l (.lst xs) L L'):SH H0 M H' L' I:=F.kp f.kp e u rfl
theorem SH.kpL (F:SH H0 M H L I) (f:Kp l H H') (e:H' l=some (.lst xs)) (u:Up l (.lst xs) L L'):SH H0 M H' L' I:=F.kp f e u rfl
theorem SH.adI {C dx:Addr} {fs:List (Str×V)} (F:SH H0 M H L I) (f:Off l H H') (e:H' l=some (.ins C dx fs)) (u:Up l (.ins C dx fs) L L'):SH H0 M H' L' I:=F.kp f.kp e u rfl
theorem SH.raw (F:SH H0 M H L I) (m:(a,o)∈L):H a=some o:=F.at' _ m
theorem SH.tup (F:SH H0 M H L I) (m:.tup q r∈I):H q=some (.tup r):=F.im _ m
theorem SH.tps (F:SH H0 M H L I) (m:.tps ys rs∈I):aJ H ys rs:=F.im _ m
theorem SH.old (F:SH H0 M H L I) (h:H0 a=some u) (n:a ∉ M):H a=some u:=F.fr a u n h
theorem SH.sq (F:SH H0 M H L I) (h:SqL K H0 a xs) (n:a ∉ M):SqL K H a xs:=by
 rcases h with (h | ⟨o,h⟩) | h
 ·exact .inl (.inl (F.fr a _ n h))
 ·exact .inl (.inr ⟨o,F.fr a _ n h⟩)
 ·exact .inr h
theorem SH.sub (F:SH H0 M H L I) (s:Sb L' L) (t:∀f∈I',f∈I):SH H0 M H L' I':=⟨F.fr,fun f hf=>F.im f (t f hf),fun c hc=>F.at' c (s.mem c hc),s.nd F.nd,fun c hc=>F.mu c (s.mem c hc),fun c hc=>F.ch c (s.mem c hc)⟩
theorem SH.sm (F:SH H0 [] H L I):Same H0 H:=fun b u e=>F.fr b u List.not_mem_nil e
theorem SH.kpo (F:SH H0 [p] H L I):Kp p H0 H:=fun b u n e=>F.fr b u (fun z=>n (List.mem_singleton.mp z)) e
theorem SH.nw (F:SH H0 [] H L I) (m:(q,o)∈L):New H0 H q o:=⟨F.sm,F.at' _ m,fun b u e=>by
 rcases F.ch _ m with h | h
 ·exact absurd h List.not_mem_nil
 ·exact h b u e⟩
theorem SH.fresh (F:SH H0 M H L I) (m:(q,o)∈L) (n:q ∉ M):∀b u,H0 b=some u→b≠q:=fun b u e=>by
 rcases F.ch _ m with h | h
 ·exact absurd h n
 ·exact h b u e
theorem nm0:a ∉ ([]:List Addr):=List.not_mem_nil
theorem nm1 (h:a≠p):a ∉ [p]:=fun z=>h (List.mem_singleton.mp z)
theorem SH.app (F:SH H0 M H L I) (m:.tps ys rs∈I) (m':.tup q r∈I):SH H0 M H L (.tps (ys++[.ref q]) (rs++[r])::I):=F.fW ((F.tps m).snoc (F.tup m'))
end
class Go (G:Prop) (G':outParam Prop):Prop where
 go:G'→G
theorem go1 {G G':Prop} [h:Go G G'] (k:G'):G:=h.go k
class LkL (L:List (Addr×HO)) (a:Addr) (o:outParam HO):Prop where
 m:(a,o)∈L
class LkI (I:List Im) (a:Addr) (r:outParam (List V)):Prop where
 m:.tup a r∈I
class LkP (I:List Im) (ys:List V) (rs:outParam (List (List V))):Prop where
 m:.tps ys rs∈I
class LkU (L:List (Addr×HO)) (l:Addr) (o:HO) (L':outParam (List (Addr×HO))):Prop where
 u:Up l o L L'
class Old (H0:Hp) (M:List Addr) (a:Addr) (o:outParam HO):Prop where
 e:H0 a=some o
 n:a ∉ M
class W8 (K:W.Frag) (H0:Hp) (M:List Addr) (a:Addr) (xs:outParam (List V)):Prop where
 e:SqL K H0 a xs
 n:a ∉ M
class fY (H0:Hp) (ys:List V) (rs:outParam (List (List V))):Prop where
 e:aJ H0 ys rs
class Hat (H:Hp) (a:Addr) (o:outParam HO):Prop where
 e:H a=some o
class SqA (K:W.Frag) (H:Hp) (a:Addr) (xs:outParam (List V)):Prop where
 e:SqL K H a xs
class SqB (K:W.Frag) (H:Hp) (a:Addr) (xs:outParam (List V)):Prop where
 e:SqT K H a xs
class TpA (H:Hp) (ys:List V) (rs:outParam (List (List V))):Prop where
 e:aJ H ys rs
class AtI (xs:List V) (i:Int) (v:outParam V):Prop where
 e:atI xs i=some v
section
variable {H0 H H':Hp} {M:List Addr} {L L':List (Addr×HO)} {I:List Im} {a p l:Addr} {o o':HO} {c:Addr×HO} {f:Im} {r xs ys:List V} {rs:List (List V)} {K:W.Frag} {v v0 v1 v2 v3:V}
instance afi [h:LkL L a o]:LkL (c::L) a o:=⟨List.mem_cons_of_mem _ h.m⟩
instance afj:LkL ((a,o)::L) a o:=⟨List.mem_cons_self⟩
instance afk [h:LkI I a r]:LkI (f::I) a r:=⟨List.mem_cons_of_mem _ h.m⟩
instance afl:LkI (.tup a r::I) a r:=⟨List.mem_cons_self⟩
instance afm [h:LkP I ys rs]:LkP (f::I) ys rs:=⟨List.mem_cons_of_mem _ h.m⟩
instance afn:LkP (.tps ys rs::I) ys rs:=⟨List.mem_cons_self⟩
instance afo [h:LkU L l o L']:LkU (c::L) l o (c::L'):=⟨.tail h.u⟩
instance afp:LkU ((l,o')::L) l o ((l,o)::L):=⟨.head⟩
instance abK [F:SH H0 M H L I] [h:Old H0 M a o]:Hat H a o:=⟨F.fr a o h.n h.e⟩
instance abL [F:SH H0 M H L I] [h:LkI I a r]:Hat H a (.tup r):=⟨F.tup h.m⟩
instance abM [F:SH H0 M H L I] [h:LkL L a o]:Hat H a o:=⟨F.raw h.m⟩
instance abN [F:SH H0 M H L I] [h:W8 K H0 M a xs]:SqA K H a xs:=⟨F.sq h.e h.n⟩
instance abO [h:Hat H a (.lst xs)]:SqA K H a xs:=⟨.of h.e⟩
instance abP [h:Hat H a (.tup xs)]:SqB K H a xs:=⟨.of h.e⟩
instance abQ {H0:Hp} {L:List (Addr×HO)} {I:List Im} [F:SH H0 [] H L I] [h:fY H0 ys rs]:TpA H ys rs:=⟨h.e.same F.sm⟩
instance abS [F:SH H0 M H L I] [h:LkP I ys rs]:TpA H ys rs:=⟨F.tps h.m⟩
instance at0:AtI (v::r) 0 v:=⟨ZF⟩
instance at1:AtI (v0::v::r) 1 v:=⟨ady⟩
instance at2:AtI (v0::v1::v::r) 2 v:=⟨adz⟩
instance at3:AtI (v0::v1::v2::v::r) 3 v:=⟨adA⟩
variable {Z:Addr→Hp→Prop} {R:Hp→Prop} {C dx:Addr} {fs:List (Str×V)}
instance adJ [F:SH H0 M H L I]:Go (∀p H',New H H' p (.tup xs)→Z p H') (∀H' p,SH H0 M H' L (.tup p xs::I)→Z p H'):=⟨fun k p H' n=>k H' p (F.newT n)⟩
instance adK [F:SH H0 M H L I]:Go (∀p H',New H H' p (.lst xs)→Z p H') (∀H' p,SH H0 M H' ((p,.lst xs)::L) I→Z p H'):=⟨fun k p H' n=>k H' p (F.newL n)⟩
instance adL [F:SH H0 M H L I] [u:LkU L l (.lst xs) L']:Go (∀H',Off l H H'→H' l=some (.lst xs)→R H') (∀H',SH H0 M H' L' I→R H'):=⟨fun k H' f e=>k H' (F.aah f e u.u)⟩
instance abT [F:SH H0 M H L I] [u:LkU L l (.ins C dx fs) L']:Go (∀H',Off l H H'→H' l=some (.ins C dx fs)→R H') (∀H',SH H0 M H' L' I→R H'):=⟨fun k H' f e=>k H' (F.adI f e u.u)⟩
instance ae2 [F:SH H0 M H L I] [u:LkU L l (.lst xs) L']:Go (∀H',Kp l H H'→H' l=some (.lst xs)→R H') (∀H',SH H0 M H' L' I→R H'):=⟨fun k H' f e=>k H' (F.kpL f e u.u)⟩
instance abU [F:SH H0 M H L I]:Go (∀H',Same H H'→R H') (∀H',SH H0 M H' L I→R H'):=⟨fun k H' s=>k H' (F.same s)⟩
instance abV [F:SH H0 M H L I]:Go (∀p ys H',New H H' p (.lst ys)→aJ H' ys rs→Z p H') (∀H' p ys,ys.length=rs.length→SH H0 M H' ((p,.lst ys)::L) (.tps ys rs::I)→Z p H'):=⟨fun k p ys H' n t=>k H' p ys t.1 (F.newR n t)⟩
def Sd (A B:Prop):Prop:=A∧B
theorem sd {A B:Prop} (a:A) (b:B):Sd A B:=⟨a,b⟩
class ak (K:W.Frag) (C:Addr) (f:Str):Prop where
 c:Cls K C
 n:dJ K C f
class FLk (fs:List (Str×V)) (f:Str) (v:outParam V):Prop where
 e:fs.lookup f=some v
class FNo (fs:List (Str×V)) (f:Str):Prop where
 e:fs.lookup f=none
theorem SH.nwC {H0:Hp} {L:List (Addr×HO)} {I:List Im} [F:SH H0 [] H L I] [h:LkL L p o]:New H0 H p o:=F.nw h.m
theorem bM [h:Hat H a o]:H a=some o:=h.e
variable {Q:VK} {E:XK} {R':Prop} {σ:St} {i j:Int} {f m:Str} {y:V} {b:Addr} {lo hi:Option Int}
instance adM [F:SH H0 M H L I] {Z:Addr→Addr→Hp→Prop}:Go (∀x dx H',New H H' x (.ins C dx [])→Z x dx H') (∀H' x dx,SH H0 M H' ((x,.ins C dx [])::L) I→Z x dx H'):=⟨fun k p dx H' n=>k H' p dx (F.adH n)⟩
instance abW {n:Nat}:Go (n≤sizeLine∧∀p H',New H H' p o→Z p H') (Sd (n≤sizeLine) (∀p H',New H H' p o→Z p H')):=⟨id⟩
instance abX [h:Hat H l (.tup xs)]:Go (zP K [.ref l,.ty "tuple"] H Q) (Q (.bl true) H):=⟨W0 h.e⟩
instance abY [h:Hat H l (.lst xs)]:Go (zP K [.ref l,.ty "list"] H Q) (Q (.bl true) H):=⟨W2 h.e⟩
instance abZ [h:SqB K H l xs]:Go (Gp K [.ref l] H Q) (Q (.int xs.length) H):=⟨Wv h.e⟩
instance ab0 [h:SqA K H l xs]:Go (Gp K [.ref l] H Q) (Q (.int xs.length) H):=⟨Wu h.e⟩
instance adN [h:SqA K H l xs] [e:AtI xs i v]:Go (RX K (.ref l) (.int i) H Q) (Q v H):=⟨NZ h.e e.e⟩
instance adO [h:SqB K H l xs] [e:AtI xs i v]:Go (RZ K (.ref l) (.int i) H Q) (Q v H):=⟨Z0 h.e e.e⟩
instance adP [h:SqA K H l xs]:Go (tyV K "list" (.ref l) H∧R') R':=⟨Z7 h.e⟩
instance adQ [h:Hat H l (.lst xs)]:Go (Ia (.ref l) [y] H Q) (Sd (xs.length < sizeLine) (∀H',Off l H H'→H' l=some (.lst (xs++[y]))→Q .non H')):=⟨fun s=>Z8 h.e s.1 s.2⟩
instance adR [h:Hat H l (.lst xs)] [h2:Hat H b (.lst ys)]:Go (Ii (.ref l) [.ref b] H Q) (Sd (xs.length + ys.length≤sizeLine) (∀H',Off l H H'→H' l=some (.lst (xs++ys))→Q .non H')):=⟨fun s=>Z9 h.e h2.e s.1 s.2⟩
instance adS [h:SqA K H l xs]:Go (Wn K (.ref l) lo hi H Q) (∀p H',New H H' p (.lst (pO xs lo hi))→Q (.ref p) H'):=⟨Z_ h.e⟩
instance ab1 [h:Hat H l (.lst xs)] [h2:Hat H b (.lst ys)]:Go (Np (.ref l) (.ref b) H Q) (Sd (xs.length + ys.length≤sizeLine) (∀p H',New H H' p (.lst (xs++ys))→Q (.ref p) H')):=⟨fun s=>WT h.e h2.e s.1 s.2⟩
instance ab2 [h:SqA K H l xs]:Go (NQ K [.ref l] H Q) (∀p H',New H H' p (.lst xs)→Q (.ref p) H'):=⟨WX h.e⟩
instance ab3 {n:Nat} [h:Hat H l (.lst [y])]:Go (Nq (.ref l) (.int (n:Int)) H Q) (Sd (n≤1000000) (∀p H',New H H' p (.lst (List.replicate n y))→Q (.ref p) H')):=⟨fun s=>WW h.e s.1 s.2⟩
instance ab4 {n i0 i1:Nat} {a b:V} {R:St→Hp→Prop} [h:SqB K H l [a,b]]:Go (Kf K n (iB (bQ i0) (iB (bQ i1) Ke)) (.ref l) σ H R) (Sd (n=2) (bQ i0 a σ H fun σ1 H1=>bQ i1 b σ1 H1 R)):=⟨fun s=>W4 s.1 h.e s.2⟩
instance adT {f:Int→Int→V}:Go (rI (fun _ j=>0 < j) f (.int i) (.int j) H Q) (Sd (0 < j) (Q (f i j) H)):=⟨fun s=>w_mod s.1 s.2⟩
instance adU {f:Int→Int→V}:Go (rI V2 f (.int i) (.int j) H Q) (Sd (0 < j∧j < 1073741824) (Q (f i j) H)):=⟨fun s=>w_div s.1.1 s.1.2 s.2⟩
instance adV {f:Int→Int→V}:Go (rI V3 f (.int i) (.int j) H Q) (Sd (0≤j∧j≤1000000∧i.natAbs < 2 ^ 64) (Q (f i j) H)):=⟨fun s=>w_pow s.1.1 s.1.2.1 s.1.2.2 s.2⟩
instance adW {f:Int→Int→V}:Go (rI Km f (.int i) (.int j) H Q) (Sd ((-(2 ^ 64) < i∧i < 2 ^ 64)∨(-(2 ^ 64) < j∧j < 2 ^ 64)) (Q (f i j) H)):=⟨fun s=>s.1.elim (fun h=>Wo h.1 h.2 s.2) (fun h=>Wq h.1 h.2 s.2)⟩
instance aai [h:Hat H a (.ins C dx fs)] [k:ak K C f] [e:FLk fs f v] {R:V→Prop}:Go (∃a' C' dx' fs' v',V.ref a=.ref a'∧H a'=some (.ins C' dx' fs')∧Cls K C'∧dJ K C' f∧fs'.lookup f=some v'∧R v') (R v):=⟨w_fld h.e k.c k.n e.e⟩
instance Yw [h:Hat H l (.ins C dx fs)] [e:FNo fs m]:Go (∃a' dx' fs',V.ref l=.ref a'∧H a'=some (.ins C dx' fs')∧fs'.lookup m=none∧R') R':=⟨WY h.e e.e⟩
instance ab5 [h:Hat H l (.ins C dx fs)] [k:ak K C f]:Go (Tj K f y (.ref l) H R) (Sd (fs.length < 1000) (∀H',Off l H H'→H' l=some (.ins C dx (gU f y fs))→R H')):=⟨fun s=>W6 h.e k.c k.n s.1 s.2⟩
end
instance Yx {σ:L2.St} {H:Hp} {D:Ends} {s u:TS}:Go (VH s u D σ H) (s (Ends.mk (u D) (Ends.rt D) (Ends.bk D) (Ends.ct D)) σ H):=⟨Wk⟩
instance Yy {σ:L2.St} {H:Hp} {t:TE} {D:Ends} {tg:TG}:Go (Ms t tg D σ H) ((t σ H fun (x:V) (H1:Hp) ↦ tg x σ H1 (Ends.nx D))):=⟨Wl⟩
instance Yz {σ:L2.St} {H:Hp} {t:TE} {D:Ends}:Go (VJ t D σ H) (t σ H (Ends.rt D)):=⟨Wm⟩
instance aaj {σ:L2.St} {H:Hp} {D:Ends} {s u:TS} {c:TT}:Go (VL c s u D σ H) ((c σ H fun (b:Bool) (H1:Hp) ↦ if b=true then s D σ H1 else u D σ H1)):=⟨ZM⟩
instance W9 {σ:L2.St} {H:Hp} {t:TE} {D:Ends}:Go (Mq t D σ H) ((t σ H fun (x:V) (H1:Hp) ↦ Ends.nx D σ H1)):=⟨SM⟩
instance W_ {σ:L2.St} {H:Hp} {D:Ends}:Go (Mj D σ H) (Ends.nx D σ H):=⟨Sx⟩
instance aak {σ:L2.St} {H:Hp} {nx bk ct:L2.St→Hp→Prop} {rt:VK}:Go (Ends.nx (Ends.mk nx rt bk ct) σ H) (nx σ H):=⟨ZK⟩
instance ab6 {H:Hp} {v:V} {nx bk ct:L2.St→Hp→Prop} {rt:VK}:Go (Ends.rt (Ends.mk nx rt bk ct) v H) (rt v H):=⟨adw⟩
instance Xa {σ:L2.St} {H:Hp} {t:TE} {Q:Bool→Hp→Prop}:Go (Hz t σ H Q) ((t σ H fun (x:V) (H':Hp) ↦ ∃(k:Bool),x=V.bl k∧Q k H')):=⟨SN⟩
instance ab7 {σ:L2.St} {H:Hp} {t:TE} {Q:Bool→Hp→Prop}:Go (tB t σ H Q) ((t σ H fun (x:V) (H':Hp) ↦ ∃(k:Bool),x=V.bl k∧Q k H')):=⟨adf⟩
instance aal {σ:L2.St} {H:Hp} {ta tb:TE} {Q:VK} {r:R2}:Go (tOp r ta tb σ H Q) ((ta σ H fun (x:V) (H1:Hp) ↦ tb σ H1 fun (y:V) (H2:Hp) ↦ r x y H2 Q)):=⟨ZL⟩
instance aam {σ:L2.St} {H:Hp} {tr:TA} {Q:VK} {r:List V→Hp→VK→Prop}:Go (tCB r tr σ H Q) ((tr σ H fun (vs:List V) (H1:Hp) ↦ r vs H1 Q)):=⟨ZP⟩
instance Xb {σ:L2.St} {H:Hp} {t:TE} {tr:TA} {Q:List V→Hp→Prop}:Go (jV t tr σ H Q) ((t σ H fun (x:V) (H1:Hp) ↦ tr σ H1 fun (xs:List V) (H2:Hp) ↦ Q (x::xs) H2)):=⟨Sw⟩
instance YB {σ:L2.St} {H:Hp} {Q:List V→Hp→Prop}:Go (rO σ H Q) (Q [] H):=⟨Wj⟩
instance YC {σ:L2.St} {H:Hp} {Q:VK} {tr:TA} {sp:Sp} {E:XK}:Go (HD sp [] E tr σ H Q) ((tr σ H fun (vs:List V) (H1:Hp) ↦ sp vs H1 Q E)):=⟨w_call⟩
instance adX {σ:L2.St} {H:Hp} {Q:VK} {v:V}:Go (tC v σ H Q) (Q v H):=⟨w_c⟩
instance adY {H:Hp} {Q:VK} {v:V} {r:L2.St}:Go (eG 0 (some v::r) H Q) (Q v H):=⟨wv0⟩
instance adZ {H:Hp} {Q:VK} {v:V} {o0:Option V} {r:L2.St}:Go (eG 1 (o0::some v::r) H Q) (Q v H):=⟨wv1⟩
instance ad0 {H:Hp} {Q:VK} {v:V} {o0 o1:Option V} {r:L2.St}:Go (eG 2 (o0::o1::some v::r) H Q) (Q v H):=⟨wv2⟩
instance ad1 {H:Hp} {Q:VK} {v:V} {o0 o1 o2:Option V} {r:L2.St}:Go (eG 3 (o0::o1::o2::some v::r) H Q) (Q v H):=⟨wv3⟩
instance ad2 {H:Hp} {Q:VK} {v:V} {o0 o1 o2 o3:Option V} {r:L2.St}:Go (eG 4 (o0::o1::o2::o3::some v::r) H Q) (Q v H):=⟨wv4⟩
instance ad3 {H:Hp} {Q:VK} {v:V} {o0 o1 o2 o3 o4:Option V} {r:L2.St}:Go (eG 5 (o0::o1::o2::o3::o4::some v::r) H Q) (Q v H):=⟨wv5⟩
instance ad4 {H:Hp} {Q:VK} {v:V} {o0 o1 o2 o3 o4 o5:Option V} {r:L2.St}:Go (eG 6 (o0::o1::o2::o3::o4::o5::some v::r) H Q) (Q v H):=⟨wv6⟩
instance ad5 {H:Hp} {Q:VK} {v:V} {o0 o1 o2 o3 o4 o5 o6:Option V} {r:L2.St}:Go (eG 7 (o0::o1::o2::o3::o4::o5::o6::some v::r) H Q) (Q v H):=⟨wv7⟩
instance ad6 {H:Hp} {Q:VK} {v:V} {o0 o1 o2 o3 o4 o5 o6 o7:Option V} {r:L2.St}:Go (eG 8 (o0::o1::o2::o3::o4::o5::o6::o7::some v::r) H Q) (Q v H):=⟨wv8⟩
instance ad7 {H:Hp} {Q:VK} {v:V} {o0 o1 o2 o3 o4 o5 o6 o7 o8:Option V} {r:L2.St}:Go (eG 9 (o0::o1::o2::o3::o4::o5::o6::o7::o8::some v::r) H Q) (Q v H):=⟨wv9⟩
instance ab8 {H:Hp} {Q:VK} {v:V} {o0 o1 o2 o3 o4 o5 o6 o7 o8 o9:Option V} {r:L2.St}:Go (eG 10 (o0::o1::o2::o3::o4::o5::o6::o7::o8::o9::some v::r) H Q) (Q v H):=⟨adh⟩
instance ab9 {H:Hp} {Q:VK} {v:V} {o0 o1 o2 o3 o4 o5 o6 o7 o8 o9 o10:Option V} {r:L2.St}:Go (eG 11 (o0::o1::o2::o3::o4::o5::o6::o7::o8::o9::o10::some v::r) H Q) (Q v H):=⟨adk⟩
instance ab_ {H:Hp} {Q:VK} {v:V} {o0 o1 o2 o3 o4 o5 o6 o7 o8 o9 o10 o11:Option V} {r:L2.St}:Go (eG 12 (o0::o1::o2::o3::o4::o5::o6::o7::o8::o9::o10::o11::some v::r) H Q) (Q v H):=⟨adn⟩
instance acd {H:Hp} {Q:VK} {v:V} {o0 o1 o2 o3 o4 o5 o6 o7 o8 o9 o10 o11 o12:Option V} {r:L2.St}:Go (eG 13 (o0::o1::o2::o3::o4::o5::o6::o7::o8::o9::o10::o11::o12::some v::r) H Q) (Q v H):=⟨adp⟩
instance ad8 {H:Hp} {v:V} {o:Option V} {r:L2.St} {R:L2.St→Hp→Prop}:Go (bQ 0 v (o::r) H R) (R (some v::r) H):=⟨wn0⟩
instance ad9 {H:Hp} {v:V} {o0 o:Option V} {r:L2.St} {R:L2.St→Hp→Prop}:Go (bQ 1 v (o0::o::r) H R) (R (o0::some v::r) H):=⟨wn1⟩
instance ad_ {H:Hp} {v:V} {o0 o1 o:Option V} {r:L2.St} {R:L2.St→Hp→Prop}:Go (bQ 2 v (o0::o1::o::r) H R) (R (o0::o1::some v::r) H):=⟨wn2⟩
instance aea {H:Hp} {v:V} {o0 o1 o2 o:Option V} {r:L2.St} {R:L2.St→Hp→Prop}:Go (bQ 3 v (o0::o1::o2::o::r) H R) (R (o0::o1::o2::some v::r) H):=⟨wn3⟩
instance aeb {H:Hp} {v:V} {o0 o1 o2 o3 o:Option V} {r:L2.St} {R:L2.St→Hp→Prop}:Go (bQ 4 v (o0::o1::o2::o3::o::r) H R) (R (o0::o1::o2::o3::some v::r) H):=⟨wn4⟩
instance aec {H:Hp} {v:V} {o0 o1 o2 o3 o4 o:Option V} {r:L2.St} {R:L2.St→Hp→Prop}:Go (bQ 5 v (o0::o1::o2::o3::o4::o::r) H R) (R (o0::o1::o2::o3::o4::some v::r) H):=⟨wn5⟩
instance aed {H:Hp} {v:V} {o0 o1 o2 o3 o4 o5 o:Option V} {r:L2.St} {R:L2.St→Hp→Prop}:Go (bQ 6 v (o0::o1::o2::o3::o4::o5::o::r) H R) (R (o0::o1::o2::o3::o4::o5::some v::r) H):=⟨wn6⟩
instance aee {H:Hp} {v:V} {o0 o1 o2 o3 o4 o5 o6 o:Option V} {r:L2.St} {R:L2.St→Hp→Prop}:Go (bQ 7 v (o0::o1::o2::o3::o4::o5::o6::o::r) H R) (R (o0::o1::o2::o3::o4::o5::o6::some v::r) H):=⟨wn7⟩
instance aef {H:Hp} {v:V} {o0 o1 o2 o3 o4 o5 o6 o7 o:Option V} {r:L2.St} {R:L2.St→Hp→Prop}:Go (bQ 8 v (o0::o1::o2::o3::o4::o5::o6::o7::o::r) H R) (R (o0::o1::o2::o3::o4::o5::o6::o7::some v::r) H):=⟨wn8⟩
instance aeg {H:Hp} {v:V} {o0 o1 o2 o3 o4 o5 o6 o7 o8 o:Option V} {r:L2.St} {R:L2.St→Hp→Prop}:Go (bQ 9 v (o0::o1::o2::o3::o4::o5::o6::o7::o8::o::r) H R) (R (o0::o1::o2::o3::o4::o5::o6::o7::o8::some v::r) H):=⟨wn9⟩
instance ace {H:Hp} {v:V} {o0 o1 o2 o3 o4 o5 o6 o7 o8 o9 o:Option V} {r:L2.St} {R:L2.St→Hp→Prop}:Go (bQ 10 v (o0::o1::o2::o3::o4::o5::o6::o7::o8::o9::o::r) H R) (R (o0::o1::o2::o3::o4::o5::o6::o7::o8::o9::some v::r) H):=⟨adi⟩
instance acf {H:Hp} {v:V} {o0 o1 o2 o3 o4 o5 o6 o7 o8 o9 o10 o:Option V} {r:L2.St} {R:L2.St→Hp→Prop}:Go (bQ 11 v (o0::o1::o2::o3::o4::o5::o6::o7::o8::o9::o10::o::r) H R) (R (o0::o1::o2::o3::o4::o5::o6::o7::o8::o9::o10::some v::r) H):=⟨adl⟩
instance acg {H:Hp} {v:V} {o0 o1 o2 o3 o4 o5 o6 o7 o8 o9 o10 o11 o:Option V} {r:L2.St} {R:L2.St→Hp→Prop}:Go (bQ 12 v (o0::o1::o2::o3::o4::o5::o6::o7::o8::o9::o10::o11::o::r) H R) (R (o0::o1::o2::o3::o4::o5::o6::o7::o8::o9::o10::o11::some v::r) H):=⟨ado⟩
instance ach {H:Hp} {v:V} {o0 o1 o2 o3 o4 o5 o6 o7 o8 o9 o10 o11 o12 o:Option V} {r:L2.St} {R:L2.St→Hp→Prop}:Go (bQ 13 v (o0::o1::o2::o3::o4::o5::o6::o7::o8::o9::o10::o11::o12::o::r) H R) (R (o0::o1::o2::o3::o4::o5::o6::o7::o8::o9::o10::o11::o12::some v::r) H):=⟨adq⟩
instance aci {H:Hp} {Q:VK} {i j:Int} {f:Int→Int→V}:Go (rI0 f (V.int i) (V.int j) H Q) (Q (f i j) H):=⟨adt⟩
instance aeh {H:Hp} {Q:VK} {i:Int} {g:Int→V}:Go (rU g (V.int i) H Q) (Q (g i) H):=⟨w_u⟩
instance acj {σ:L2.St} {H:Hp} {Q:VK} {ta:TE} {r:V→Hp→VK→Prop}:Go (tUn r ta σ H Q) ((ta σ H fun (x:V) (H1:Hp) ↦ r x H1 Q)):=⟨adu⟩
instance aan {H:Hp} {Q:VK} {i j:Int}:Go (rEq (V.int i) (V.int j) H Q) (Q (V.bl (decide (i=j))) H):=⟨ZQ⟩
instance aao {H:Hp} {Q:VK} {i j:Int}:Go (rNe (V.int i) (V.int j) H Q) (Q (V.bl !decide (i=j)) H):=⟨ZR⟩
instance aap {H:Hp} {Q:VK} {a b:Str}:Go (rEq (V.str a) (V.str b) H Q) (Q (V.bl (decide (a=b))) H):=⟨ZS⟩
instance aaq {H:Hp} {Q:VK} {a b:Str}:Go (rNe (V.str a) (V.str b) H Q) (Q (V.bl !decide (a=b)) H):=⟨ZV⟩
instance acn {k:Bool} {R:Bool→Prop}:Go (∃(c:Bool),V.bl k=V.bl c∧R c) (R k):=⟨adv⟩
instance aar {σ:L2.St} {H:Hp} {c:TT} {R:Bool→Hp→Prop}:Go (VG c σ H R) ((c σ H fun (b:Bool) (H1:Hp) ↦ R (!b) H1)):=⟨w_not⟩
instance aas {σ:L2.St} {H:Hp} {c d:TT} {R:Bool→Hp→Prop}:Go (VF c d σ H R) ((c σ H fun (b:Bool) (H1:Hp) ↦ if b=true then d σ H1 R else R false H1)):=⟨w_and⟩
instance aco {σ:L2.St} {H:Hp} {c d:TT} {R:Bool→Hp→Prop}:Go (tOr c d σ H R) ((c σ H fun (b:Bool) (H1:Hp) ↦ if b=true then R true H1 else d σ H1 R)):=⟨w_or⟩
instance YD {σ:L2.St} {H:Hp} {Q:VK} {ta:TE}:Go (Mi ta σ H Q) ((ta σ H fun (x:V) (H1:Hp) ↦ ∃(c:Bool),x=V.bl c∧Q (V.bl !c) H1)):=⟨Wr⟩
instance YF {σ:L2.St} {H:Hp} {Q:VK} {ta tb:TE}:Go (Mh ta tb σ H Q) ((ta σ H fun (x:V) (H1:Hp) ↦ ∃(c:Bool),x=V.bl c∧if c=true then tb σ H1 Q else Q (V.bl false) H1)):=⟨Ws⟩
instance aat {σ:L2.St} {H:Hp} {Q:VK} {ta tb:TE} {c:TT}:Go (tIf c ta tb σ H Q) ((c σ H fun (b:Bool) (H1:Hp) ↦ if b=true then ta σ H1 Q else tb σ H1 Q)):=⟨ZW⟩
instance Xc {σ:L2.St} {H:Hp} {Q:VK} {ta tb tc:TE} {r r':R2}:Go (zG r r' ta tb tc σ H Q) ((ta σ H fun (x:V) (H1:Hp) ↦ tb σ H1 fun (y:V) (H2:Hp) ↦ r x y H2 fun (z:V) (H3:Hp) ↦ ∃(k:Bool),z=V.bl k∧if k=true then tc σ H3 fun (w:V) (H4:Hp) ↦ r' y w H4 Q else Q (V.bl false) H3)):=⟨SQ⟩
instance acp {σ:L2.St} {H:Hp} {Q:VK} {K:W.Frag} {tr:TA} {T:String} {r:V→List V→Hp→VK→Prop} {to:TE}:Go (tBM K T r to tr σ H Q) ((to σ H fun (x:V) (H1:Hp) ↦ tyV K T x H1∧tr σ H1 fun (xs:List V) (H2:Hp) ↦ r x xs H2 Q)):=⟨adx⟩
instance aau {σ:L2.St} {H:Hp} {v:V} {to ti:TE} {ts:Mr} {R:L2.St→Hp→Prop}:Go (VR to ti ts v σ H R) ((to σ H fun (o:V) (H1:Hp) ↦ ti σ H1 fun (i:V) (H2:Hp) ↦ ts o i v H2 fun (H3:Hp) ↦ R σ H3)):=⟨w_sub⟩
instance Xd {σ:L2.St} {H:Hp} {Q:VK} {t:TE} {r:V→Option Int→Option Int→Hp→VK→Prop} {tl th:TO}:Go (tSl r t tl th σ H Q) ((t σ H fun (x:V) (H1:Hp) ↦ tl σ H1 fun (l:Option Int) (H2:Hp) ↦ th σ H2 fun (u:Option Int) (H3:Hp) ↦ r x l u H3 Q)):=⟨SX⟩
instance Vc {σ:L2.St} {H:Hp} {R:Option Int→Hp→Prop}:Go (zH σ H R) (R none H):=⟨NT⟩
instance YG {σ:L2.St} {H:Hp} {t:TE} {R:Option Int→Hp→Prop}:Go (M7 t σ H R) ((t σ H fun (x:V) (H1:Hp) ↦ ∃(i:Int),x=V.int i∧R (some i) H1)):=⟨Wt⟩
instance aav {i:Int} {R:Int→Prop}:Go (∃(k:Int),V.int i=V.int k∧R k) (R i):=⟨ZX⟩
instance aaw {H:Hp} {Q:VK} {i j:Int}:Go (N5 [V.int i,V.int j] H Q) (Q (V.int (max i j)) H):=⟨Z1⟩
instance aax {H:Hp} {Q:VK} {i j:Int}:Go (N6 [V.int i,V.int j] H Q) (Q (V.int (min i j)) H):=⟨Z2⟩
instance YH {H:Hp} {Q:VK} {k:Bool}:Go (N7 [V.bl k] H Q) (Q (V.int (if k=true then 1 else 0)) H):=⟨Wx⟩
instance Xe {σ:L2.St} {H:Hp} {tr:TA} {Q:VK}:Go (Nk tr σ H Q) ((tr σ H fun (xs:List V) (H1:Hp) ↦ List.length xs≤sizeLine∧∀(p:Addr) (H':Hp),New H1 H' p (HO.tup xs)→Q (V.ref p) H')):=⟨Sy⟩
instance Xf {σ:L2.St} {H:Hp} {tr:TA} {Q:VK}:Go (Nm tr σ H Q) ((tr σ H fun (xs:List V) (H1:Hp) ↦ List.length xs≤sizeLine∧∀(p:Addr) (H':Hp),New H1 H' p (HO.lst xs)→Q (V.ref p) H')):=⟨SJ⟩
instance aay {H:Hp} {Q:VK} {a b:Bool}:Go (WD (V.bl a) (V.bl b) H Q) (Q (V.bl (decide (a=b))) H):=⟨Z4⟩
instance YJ {H:Hp} {Q:VK} {a b:Bool}:Go (Ob (V.bl a) (V.bl b) H Q) (Q (V.bl !decide (a=b)) H):=⟨WL⟩
instance Xg {σ:L2.St} {H:Hp} {Q:VK} {K:W.Frag} {te ts:TE}:Go (zT K te ts σ H Q) ((te σ H fun (x:V) (H1:Hp) ↦ ts σ H1 fun (y:V) (H2:Hp) ↦ ∃(a:Addr),∃(xs:List V),x=V.ref a∧y=V.int (-1)∧SqL K H2 a xs∧∀(p:Addr) (H':Hp),New H2 H' p (HO.lst (List.reverse xs))→Q (V.ref p) H')):=⟨S6⟩
instance YK {K:W.Frag} {σ:L2.St} {H:Hp} {Q:VK} {ta:TE} {f:Str}:Go (V5 K ta f σ H Q) ((ta σ H fun (x:V) (H1:Hp) ↦ ∃(a:Addr),∃(C:Addr),∃(dx:Addr),∃(fs:List (Str×V)),∃(v:V),x=V.ref a∧H1 a=some (HO.ins C dx fs)∧Cls K C∧dJ K C f∧List.lookup f fs=some v∧Q v H1)):=⟨WR⟩
instance Vd {σ:L2.St} {H:Hp} {Q:VK} {ta:TE} {t:TA} {m:Str} {C:Addr} {sp:Sp} {E:XK}:Go (wO C m sp [] E ta t σ H Q) ((ta σ H fun (x:V) (H1:Hp) ↦ ∃(a:Addr),∃(dx:Addr),∃(fs:List (Str×V)),x=V.ref a∧H1 a=some (HO.ins C dx fs)∧List.lookup m fs=none∧t σ H1 fun (vs:List V) (H2:Hp) ↦ sp (x::vs) H2 Q E)):=⟨Oo⟩
instance Ve {σ:L2.St} {H:Hp} {Q:VK} {t:TA} {C:Addr} {sp:Sp} {E:XK}:Go (Gy C sp E t σ H Q) ((t σ H fun (vs:List V) (H1:Hp) ↦ ∀(x dx:Addr) (H2:Hp),New H1 H2 x (HO.ins C dx [])→sp (V.ref x::vs) H2 (fun (v:V) (H3:Hp) ↦ v=V.non∧Q (V.ref x) H3) E)):=⟨Om⟩
instance Vf {K:W.Frag} {σ:L2.St} {H:Hp} {ta tv:TE} {f:Str} {D:Ends}:Go (V6 K ta tv f D σ H) ((tv σ H fun (y:V) (H1:Hp) ↦ ta σ H1 fun (x:V) (H2:Hp) ↦ Tj K f y x H2 fun (H3:Hp) ↦ Ends.nx D σ H3)):=⟨Ol⟩
instance acq {A B:Prop}:Go (if true=true then A else B) (A):=⟨adB⟩
instance acr {A B:Prop}:Go (if false=true then A else B) (B):=⟨adC⟩
instance aaz {A B:Prop}:Go (if (!true)=true then A else B) (B):=⟨aad⟩
instance aaA {t:TA} {tv:TE} {r:List V→V→Hp→VK→Prop} {σ:L2.St} {H:Hp} {Q:VK}:Go (tCK r t tv σ H Q) ((t σ H fun (xs:List V) (H1:Hp) ↦ tv σ H1 fun (y:V) (H2:Hp) ↦ r xs y H2 Q)):=⟨Z6⟩
instance YL {K:W.Frag} {g:TG} {tb:TS} {D:Ends} {σ:L2.St} {H:Hp} {tr:TA}:Go (tM (Nv K tr) g tb D σ H) ((tr σ H fun (vs:List V) (H1:Hp) ↦ ∃(a:Addr),∃(xs:List V),vs=[V.ref a]∧SqL K H1 a xs∧Gx K a xs g tb D σ H1)):=⟨W5⟩
instance Xh {g:TG} {tb:TS} {D:Ends} {σ:L2.St} {H:Hp} {tr:TA}:Go (tM (Bt tr) g tb D σ H) ((tr σ H fun (vs:List V) (H1:Hp) ↦ ∃(j:Int),vs=[V.int j]∧-2 ^ 62≤j∧j < 2 ^ 62∧wF 0 (Int.toNat j) g tb D σ H1)):=⟨Tg⟩
instance Xi {g:TG} {tb:TS} {D:Ends} {σ:L2.St} {H:Hp} {tr:TA}:Go (tM (Mu tr) g tb D σ H) ((tr σ H fun (vs:List V) (H1:Hp) ↦ ∃(i:Int),∃(j:Int),vs=[V.int i,V.int j]∧(-2 ^ 62≤i∧i < 2 ^ 62∧-2 ^ 62≤j∧j < 2 ^ 62)∧wF i (Int.toNat (j - i)) g tb D σ H1)):=⟨Ti⟩
instance YM {K:W.Frag} {te:TE} {g:TG} {tb:TS} {D:Ends} {σ:L2.St} {H:Hp}:Go (tM (Br K te) g tb D σ H) ((te σ H fun (x:V) (H1:Hp) ↦ ∃(a:Addr),x=V.ref a∧(∃(xs:List V),SqL K H1 a xs)∧Gq K a g tb D σ H1)):=⟨WM⟩
instance Xj {K:W.Frag} {t0 te:TE} {nt:Nat} {fr:List Nat} {g:TG} {c:TT} {σ:L2.St} {H:Hp} {Q:VK}:Go (qX (Br K t0) nt fr g c te σ H Q) ((t0 σ H fun (x:V) (H1:Hp) ↦ ∃(a:Addr),x=V.ref a∧(∃(xs:List V),SqL K H1 a xs)∧dU (Itl K a) nt fr g c te σ H1 Q)):=⟨S7⟩
section
variable {K:W.Frag} {H:Hp} {Q:VK} {E:XK} {x:V} {n:String} {p q:Addr} {a b c lo hi:Int} {ns:List Int} {m:Int}
instance aaB:Go (mX K [.int a,.int lo] H Q E) (Q (.bl (decide (lo≤a))) H):=⟨Tp⟩
instance Xk:Go (jE K [.int a,.int lo,.int hi] H Q E) (Q (.bl (decide (lo≤a) && decide (a≤hi))) H):=⟨fun k=>⟨_,_,lo,hi,rfl,.int _,k⟩⟩
instance aaC:Go (uo K [.int a] H Q E) (Q (.bl (decide (16≤a) && decide (a≤240))) H):=⟨fun k=>⟨_,_,rfl,.int _,k⟩⟩
instance aaD [h:Hat H q (.tup [.int a,.int b])]:Go (pZ [.ref q] H Q E) (Q (.int (a + b)) H):=⟨aae h.e⟩
instance aaE [h:SqA K H p (ns.map V.int)]:Go (uq K [.ref p,.int m] H Q E) (Sd (0≤m) (∀c:Int,Q (.int c) H)):=⟨fun s=>Tq h.e s.1 s.2⟩
instance acs:Go (zW [.int a] H Q E) (∀x y:Int,∀(p:Addr) (H':Hp),New H H' p (.lst [.int x,.int y,.int 0])→Q (.ref p) H'):=⟨fun k=>W7 fun p x y H' n=>k x y p H' n⟩
end
end L2
namespace L2
open PySem PySem.Spec PyProof.Rows
def Itq (lo st:Int) (n:Nat):It:={ go:=fun i _=>i < n,yld:=fun i H x H'=>H'=H∧x=.int (lo + i * st),stop:=fun i _=>n≤i }
theorem Gz {P:Program} {w:World} {K:W.Frag} {tg:Expr} (z:Addr) (lo st:Int) (n:Nat):Turn P w K tg (Itq lo st n) [z] z (fun i h=>IsRangeIter h z (lo + (i:Nat) * st) ((n:Int) - (i:Nat)) st):=by
 refine ⟨List.mem_singleton.mpr rfl,?_,?_,?_,?_,fun _ _ _ _ _ g h=>wpAny_pyIter_rangeiter g h⟩
 ·intro i h g b hb
  rw [List.mem_singleton.mp hb]
  refine ⟨_,g,fun v y=>?_⟩
  have y:Data.fields _=Data.cell v:=y
  cases y
 ·exact fun i h h' g k=>k z (List.mem_singleton.mpr rfl) _ g
 ·intro X e1 e2 e3 hc i pins s σ H E I hf g hg
  subst e1
  subst e2
  subst e3
  have fp:=hf z (List.mem_singleton.mpr rfl)
  refine (Walks.range (prog:=X.prog) (w:=X.w) (I.ok.hd hc) z lo st n).item i s _ _ hg g ?_
  rintro v h' tk ⟨t,rfl⟩ g2 kk
  have I1:Inv X pins σ H { s with heap:=h',toks:=tk }:=by
   refine I.turned (it:=z) (fun b o hb e=>kk b o (fun y=>hb (List.mem_singleton.mp y)) e) ?_ ?_ ?_ ?_ ?_
   ·exact fp.1
   ·exact fp.2.1
   ·exact fp.2.2.2.1
   ·exact fp.2.2.2.2.1
   ·exact fp.2.2.2.2.2
  exact ⟨_,rfl,Bq (s:={ s with heap:=h',toks:=tk }) (n := "range_iterator") g2 rfl rfl (by decide) ⟨.int (lo + i * st),H,I1,⟨t,rfl⟩,⟨rfl,rfl⟩,g2,fun b hb=>(hf b hb).1⟩⟩
 ·intro X e1 e2 e3 hc i pins s σ H E I hf g hg
  subst e1
  subst e2
  subst e3
  have fp:=hf z (List.mem_singleton.mpr rfl)
  have hg:n≤i:=hg
  refine wpAny_pyNext_range_end (I.ok.hd hc) g (by lia) fun h' eb=>⟨rfl,?_⟩
  refine I.turned (it:=z) (t':=s.toks) (fun b o hb e=>eb b o hb e) ?_ ?_ ?_ ?_ ?_
  ·exact fp.1
  ·exact fp.2.1
  ·exact fp.2.2.2.1
  ·exact fp.2.2.2.2.1
  ·exact fp.2.2.2.2.2
section
variable {tr:TA} {g:TG} {tb:TS} {D:Ends} {σ:St} {H:Hp}
def Tr (lo st:Int) (n:Nat) (g:TG) (tb:TS) (D:Ends) (σ:St) (H:Hp):Prop:=∃W:Nat→Nat→St→Hp→Prop,(∃m,W 0 m σ H)∧∀i m σ H,W i m σ H →
      ((Itq lo st n).stop i H∧D.nx σ H)∨((Itq lo st n).go i H∧∃N:St→Hp→Prop,(∀σ' H',N σ' H'→∃m',m' < m∧W (i + 1) m' σ' H')∧∀x H',(Itq lo st n).yld i H x H'→g x σ H' fun σ2 H2=>tb { D with nx:=N,ct:=N,bk:=D.nx } σ2 H2)
theorem Tt {lo st:Int} {n:Nat} (Pv:Nat→St→Hp→Prop) (h0:Pv 0 σ H) (hs:∀i σ H,i < n→Pv i σ H→g (.int (lo + i * st)) σ H fun σ2 H2=>tb { D with nx:=Pv (i + 1),ct:=Pv (i + 1),bk:=D.nx } σ2 H2) (hd:∀σ H,Pv n σ H→D.nx σ H):Tr lo st n g tb D σ H:=by
 refine ⟨fun i m σ H=>m=n - i∧i≤n∧Pv i σ H,⟨n,by simp,Nat.zero_le _,h0⟩,?_⟩
 rintro i m σ H ⟨rfl,hi,p⟩
 by_cases hl:i < n
 ·refine .inr ⟨hl,Pv (i + 1),fun σ' H' p'=>⟨n - (i + 1),by lia,rfl,hl,p'⟩,?_⟩
  rintro x H' ⟨rfl,rfl⟩
  exact hs i σ H' hl p
 ·have e:i=n:=by lia
  subst e
  exact .inl ⟨Nat.le_refl _,hd σ H p⟩
variable {K:W.Frag} {a:Addr} {xs:List V} {nt:Nat} {fr:List Nat} {c:TT} {te:TE} {Q:VK} {n m:Int}
instance aei [h:SqA K H a xs]:Go (∃a',V.ref a=.ref a'∧(∃xs,SqL K H a' xs)∧dU (Itl K a') nt fr g c te σ H Q) (dU (Itl K a) nt fr g c te σ H Q):=⟨adF h.e⟩
instance aej [h:SqA K H a xs]:Go (∃a',V.ref a=.ref a'∧(∃xs,SqL K H a' xs)∧Gq K a' g tb D σ H) (Gq K a g tb D σ H):=⟨adE h.e⟩
instance aek [h:SqA K H a xs]:Go (∃a' xs',[V.ref a]=[.ref a']∧SqL K H a' xs'∧Gx K a' xs' g tb D σ H) (Gx K a xs g tb D σ H):=⟨adD h.e⟩
end
class K3 (L:List (Addr×HO)) (a b:Addr):Prop where
 ne:(L.map (·.1)).Nodup→a≠b
section
variable {L R L':List (Addr×HO)} {a b:Addr} {o:HO} {c:Addr×HO} {H0 H:Hp} {M:List Addr} {I:List Im}
instance ae3 [h:K3 L a b]:K3 (c::L) a b:=⟨fun nd=>h.ne (by rw [List.map_cons] at nd;exact (List.nodup_cons.mp nd).2)⟩
instance ae4 {o':HO} [h:LkL L a o]:K3 ((b,o')::L) a b:=⟨fun nd z=>by
 rw [List.map_cons] at nd
 exact (List.nodup_cons.mp nd).1 (by show b∈_;rw [← z];exact List.mem_map_of_mem (f:=(·.1)) h.m)⟩
instance ae5 {o':HO} [h:LkL L b o]:K3 ((a,o')::L) a b:=⟨fun nd z=>by
 rw [List.map_cons] at nd
 exact (List.nodup_cons.mp nd).1 (by show a∈_;rw [z];exact List.mem_map_of_mem (f:=(·.1)) h.m)⟩
theorem SH.neC [F:SH H0 M H L I] [h:K3 L a b]:a≠b:=h.ne F.nd
class PkC (c:Addr×HO) (L:List (Addr×HO)) (R:outParam (List (Addr×HO))):Prop where
 p:Pk c L R
class SbC (L' L:List (Addr×HO)):Prop where
 s:Sb L' L
instance afq {d:Addr×HO} [h:PkC c L R]:PkC c (d::L) (d::R):=⟨.tail h.p⟩
instance afr:PkC c (c::L) L:=⟨.head⟩
instance afs:SbC [] L:=⟨.nil⟩
instance aft [h:PkC c L R] [t:SbC L' R]:SbC (c::L') L:=⟨.cons h.p t.s⟩
theorem SH.zY (F:SH H0 M H L I) [h:SbC L' L]:SH H0 M H L' []:=F.sub h.s (fun _ h=>by cases h)
end
instance acu {H:Hp} {Q:VK} {v:V} {o0 o1 o2 o3 o4 o5 o6 o7 o8 o9 o10 o11 o12 o13:Option V} {r:St}:Go (eG 14 (o0::o1::o2::o3::o4::o5::o6::o7::o8::o9::o10::o11::o12::o13::some v::r) H Q) (Q v H):=⟨fun h=>⟨v,rfl,h⟩⟩
instance acv {H:Hp} {v:V} {o0 o1 o2 o3 o4 o5 o6 o7 o8 o9 o10 o11 o12 o13 o:Option V} {r:St} {R:St→Hp→Prop}:Go (bQ 14 v (o0::o1::o2::o3::o4::o5::o6::o7::o8::o9::o10::o11::o12::o13::o::r) H R) (R (o0::o1::o2::o3::o4::o5::o6::o7::o8::o9::o10::o11::o12::o13::some v::r) H):=⟨fun h=>h⟩
end L2
namespace L2
open PySem PySem.Spec PyProof.Rows PySem.SeqAt
section
variable {K:W.Frag} {H0 H:Hp} {M:List Addr} {L L':List (Addr×HO)} {I:List Im} {l b a p:Addr} {xs ys r:List V} {v v0 v1 y:V} {Q:VK} {R:Hp→Prop} {R':Prop} {te:TE} {fvs σ:St} {fr:List Nat} {i j:Int} {Z:Addr→Hp→Prop}
instance YQ:Go (V.non=V.non∧R') R':=⟨fun k=>⟨rfl,k⟩⟩
instance acw [h:Hat H l (.lst xs)]:Go (Cd (.ref l) (.int i) v H R) (Sd (0≤i∧i < xs.length) (∀H',Off l H H'→H' l=some (.lst (xs.set i.toNat v))→R H')):=⟨fun s=>Gw h.e (aac s.1.1 s.1.2) s.2⟩
instance aaF {g:TG} {tb:TS} {D:Ends}:Go (∃j:Int,[V.int i]=[.int j]∧-(2 ^ 62)≤j∧j < 2 ^ 62∧wF 0 j.toNat g tb D σ H) (Sd (-(2 ^ 62)≤i∧i < 2 ^ 62) (wF 0 i.toNat g tb D σ H)):=⟨fun s=>⟨i,rfl,s.1.1,s.1.2,s.2⟩⟩
instance aaG {g:TG} {tb:TS} {D:Ends}:Go (∃i' j':Int,[V.int i,V.int j]=[.int i',.int j']∧(-(2 ^ 62)≤i'∧i' < 2 ^ 62∧-(2 ^ 62)≤j'∧j' < 2 ^ 62)∧wF i' (j' - i').toNat g tb D σ H) (Sd (-(2 ^ 62)≤i∧i < 2 ^ 62∧-(2 ^ 62)≤j∧j < 2 ^ 62) (wF i (j - i).toNat g tb D σ H)):=⟨fun s=>⟨i,j,rfl,s.1,s.2⟩⟩
end
end L2
namespace L2
open PySem PySem.Spec PyProof.Rows
abbrev j5 (x:Str) (p1 p2 p3:Pos) (j:Nat):Expr:=.Subscript (.Name x p1) (.Constant (.int 1) j p2) p3
structure nQ (x:Str) (scope:Scope):Prop where
 kind:scope.kind=.function
 co:scope.isCoroutine=false
 gen:scope.isGenerator=false
 loc:scope.names.lookup x=some .local
 Xl:∀y∈scope.names,y.2≠.cell
 aaH:(x == ("__debug__" : Str))=false
theorem Xm {prog:Program} {w:World} {A:Around} {s:Shared} {f q c':Addr} {x qual:Str} {params:Arguments} {scope:Scope} {pm ctv u:Value} {p1 p2 p3:Pos} {j:Nat} {its:List Value} {Q:Value→Shared→Prop} {E:Value→Shared→Prop}
  (hroom:A.depth < recursionLimit) (ho:s.heap.get? f=some (W.kla_obj "<lambda>" qual params (j5 x p1 p2 p3 j) scope [] pm c' ctv)) (hcd:s.heap.CodeRec (.ref c') qual) (hlim:s.heap.NoLimit) (S:nQ x scope)
  (hbind:bindArgs (W.kla_fn "<lambda>" qual params (j5 x p1 p2 p3 j) scope [] pm (.ref c') ctv) ⟨[.ref q],[]⟩=pure [(x,.ref q)])
  (ht:IsTup s.heap q its.toArray) (hi:its[1]?=some u) (h:∀h' tk,(∀b o,s.heap.get? b=some o→h'.get? b=some o)→Q u { s with heap:=h',toks:=tk }):wpAny (model prog w) A (call (.ref f) [.ref q]) Q E s:=by
 refine wpAny_call ?_
 refine W.kla_callFunE hroom ho rfl S.co S.gen rfl hcd ?_
 rw [hbind]
 refine wpAny_pure ?_
 refine wpAny_newFunctionEnv S.Xl (fun y hy=>?_) (fun h1 hns hsb=>?_) S.kind
 ·rw [List.mem_singleton.mp hy]
  exact S.loc
 ·have hk1:∀b o,s.heap.get? b=some o→h1.get? b=some o:=fun b o e=>hsb.extBut b o (Nat.ne_of_lt (Heap.lt_size e)) (Heap.get?_push_of_some _ e)
  refine ⟨hlim.keeps hk1,W.kla_codeExpr ?_⟩
  refine Subscript_ (wpAny_Name (wpAny_loadName_local S.kind S.loc hns (v:=.ref q) (by simp) ?_) S.aaH)
  refine wpAny_Constant_int ?_
  have ht1:IsTup h1 q its.toArray:=by
   obtain ⟨o,e,r⟩:=ht
   exact ⟨o,hk1 _ _ e,r⟩
  have hlen:1 < its.length:=(List.getElem?_eq_some_iff.mp hi).1
  refine subscriptTail_builtinR (x:=u) (IsTup.typeIs ht1) slot_tuple_getitem.lookup (getItem_tuple (j:=1) ht1 (by decide) (by decide) ?_ (by simpa using hi) ⟨rfl,?_⟩) ?_
  ·rw [List.size_toArray]
   unfold seqIndex?
   simp
   lia
  ·exact h h1 _ hk1
  ·rfl
theorem dW.is {P:Program} {w:World} {H:Hp} {h:Heap} {a:Addr} {o:HO} (x:dW P w H h a o):∃ob,h.get? a=some ob:=by
 cases o with
 | lst xs=>obtain ⟨_,_,_,_,e⟩:=x;exact ⟨_,e⟩
 | tup xs=>obtain ⟨_,_,_,ob,e,_⟩:=x;exact ⟨_,e⟩
 | dK kvs=>obtain ⟨_,_,_,_,ob,_,_,e,_⟩:=x;exact ⟨_,e⟩
 | dT kvs=>obtain ⟨_,_,_,_,ob,_,_,e,_⟩:=x;exact ⟨_,e⟩
 | set S n=>obtain ⟨ob,_,_,_,e,_⟩:=x;exact ⟨_,e⟩
 | ins C dx fs=>obtain ⟨_,_,_,e,_⟩:=x;exact ⟨_,e⟩
 | own y=>exact x
 | xd fs=>obtain ⟨_,⟨ob,_,_,e,_⟩,_⟩:=x;exact ⟨_,e⟩
 | rng lo hi=>obtain ⟨_,_,_,e⟩:=x;exact ⟨_,e⟩
 | frz ob u=>exact ⟨_,x.1⟩
 | tbl ps=>exact ⟨_,x⟩
 | met f y=>exact ⟨_,x⟩
 | ext φ=>exact x.2.1
def mY (h:Heap) (L:Addr):List (Addr×Obj):=(List.range h.objs.size).filterMap fun b=>if b=L then none else (h.get? b).map fun o=>(b,o)
theorem mZ {h:Heap} {L b:Addr} {o:Obj} (e:h.get? b=some o) (n:b≠L):(b,o)∈mY h L:=by
 unfold mY
 refine List.mem_filterMap.mpr ⟨b,List.mem_range.mpr (Heap.lt_size e),?_⟩
 rw [if_neg n,e]
 rfl
theorem xr {h:Heap} {L:Addr} {p:Addr×Obj} (m:p∈mY h L):h.get? p.1=some p.2∧p.1≠L:=by
 unfold mY at m
 obtain ⟨b,_,e⟩:=List.mem_filterMap.mp m
 split at e
 ·cases e
 ·rename_i n
  cases q:h.get? b with
  | none=>rw [q] at e;cases e
  | some o =>
   rw [q] at e
   cases e
   exact ⟨q,n⟩
theorem Xn {h:Heap} {a:Addr} {m m':Str→Option Value} (x:h.Ns a m) (y:h.Ns a m'):m=m':=by
 obtain ⟨o,es,ep,e,d,_,f⟩:=x
 obtain ⟨o',es',ep',e',d',_,f'⟩:=y
 rw [e] at e'
 cases e'
 rw [d] at d'
 cases d'
 funext k
 rw [← f k,← f' k]
theorem Inv.aaI {X:Cx} {pins:List (Addr×Obj)} {σ:St} {H:Hp} {s:Shared} {h':Heap} {t':Nat} {D:Addr} {o:HO} {m:Str→Option Value} (I:Inv X pins σ H s) (k:∀b u,b≠X.env.locals→s.heap.get? b=some u→h'.get? b=some u)
  (hm:s.heap.Ns X.env.locals m) (hm':h'.Ns X.env.locals m) (hn:s.heap.get? D=none) (new:dW X.prog X.w (upd H D o) h' D o):Inv X pins σ (upd H D o) { s with heap:=h',toks:=t' }:=by
 have hD:H D=none:=by
  cases q:H D with
  | none=>rfl
  | some u =>
   obtain ⟨ob,e⟩:=(I.hok D u q).is
   rw [hn] at e
   cases e
 have nL:∀b u,H b=some u→b≠X.env.locals:=fun b u e z=>by rw [z,I.free] at e;cases e
 have nD:∀{b:Addr} {u:HO},H b=some u→upd H D o b=some u:=fun {b u} e=>by rw [bW (fun z=>by rw [z,hD] at e;cases e)];exact e
 refine I.step (g':=s.gens) (d':=s.drawn) (ch:=[]) (fun _ z=>nomatch z) (fun b u n _ _ e _=>k b u n e) (fun b u n _ _ e _=>⟨u.slots,k b u n e⟩) (fun b u _ e q=>?_) (fun b u _ e=>?_) (fun b xs e=>nD e) (fun b u v e=>nD e) (fun b ps e=>⟨#[],by rw [nD e];simp⟩) (fun m2 hm2=>?_) (fun b u e=>?_) I.bare
 ·rw [bW (fun z=>by rw [z,hn] at e;cases e)]
  exact q
 ·by_cases n:b=X.env.locals
  ·obtain ⟨ob,_,_,e2,_⟩:=hm'
   exact ⟨ob,by rw [n];exact e2⟩
  ·exact ⟨u,k b u n e⟩
 ·rw [Xn hm2 hm]
  exact hm'
 ·by_cases hb:b=D
  ·rw [hb,cB] at e
   cases e
   rw [hb]
   exact new
  ·rw [bW hb] at e
   refine (I.hok b u e).stay (fun c v hc q=>k c v ?_ q) (fun c q=>nD q) fun c xs q=>nD q
   rcases hc with z | z
   ·rw [z]
    exact nL b u e
   ·exact nL c _ z
def nR (H:Hp) (f:Addr):Prop:=∃(qual x:Str) (params:Arguments) (p1 p2 p3:Pos) (j:Nat) (scope:Scope) (pm ctv:Value) (c':Addr) (oc:Obj) (vs:Array Value) (t:Tok),
 H f=some (.frz (W.kla_obj "<lambda>" qual params (j5 x p1 p2 p3 j) scope [] pm c' ctv) (.own f))∧H c'=some (.frz oc (.own c'))∧oc.data=.fields vs∧vs[1]?=some (.str qual t)∧nQ x scope ∧
 ∀q:Addr,bindArgs (W.kla_fn "<lambda>" qual params (j5 x p1 p2 p3 j) scope [] pm (.ref c') ctv) ⟨[.ref q],[]⟩=pure [(x,.ref q)]
def ur (ks:List Int) (xs ys:List V):Prop:=∃ps:List (Int×V),ps.Perm (ks.zip xs)∧ys=ps.map Prod.snd∧ps.Pairwise fun a b=>a.1≤b.1
def Ou (K:W.Frag):List V→V→Hp→VK→Prop:=fun vs y H Q=>∃(l f:Addr) (xs:List V) (ks:List Int),vs=[.ref l]∧y=.ref f∧nR H f∧SqL K H l xs∧ks.length=xs.length∧xs.length < 64 ∧
 (∀(i:Nat) v k,xs[i]?=some v→ks[i]?=some k→∃q r,v=.ref q∧H q=some (.tup r)∧r[1]?=some (.int k))∧∀D ys H',New H H' D (.lst ys)→ur ks xs ys→Q (.ref D) H'
def rA:Value→V
 | .ref a=>.ref a
 | _=>.non
theorem xu:∀{xs:List V} {us:List Value},Vals xs us→(∀v∈xs,∃q,v=.ref q)→xs=us.map rA∧∀u∈us,∃q,u=.ref q
 | _,_,.nil,_=>⟨rfl,fun _ h=>by cases h⟩
 | _,_,.cons r t,h=>by
  obtain ⟨e1,e2⟩:=xu t fun v hv=>h v (List.mem_cons_of_mem _ hv)
  obtain ⟨q,rfl⟩:=h _ List.mem_cons_self
  cases r
  refine ⟨by rw [List.map_cons,← e1];rfl,fun u hu=>?_⟩
  rcases List.mem_cons.mp hu with rfl | hu
  ·exact ⟨q,rfl⟩
  ·exact e2 u hu
theorem xG:∀{us:List Value},(∀u∈us,∃q,u=.ref q)→Vals (us.map rA) us
 | [],_=>.nil
 | u::us,h=>by
  obtain ⟨q,rfl⟩:=h u List.mem_cons_self
  exact .cons rfl (xG fun v hv=>h v (List.mem_cons_of_mem _ hv))
theorem GC {X:Cx} {K:W.Frag} {k:Nat} (hK:X.K=K) (hr:Room k X.A):Oh X "sorted" "key" (Ou K):=by
 intro pins s σ H vs us y u Q I rv ry h
 subst hK
 obtain ⟨l,f,xs,ks,rfl,rfl,lam,hq,hl,h64,hk,q⟩:=h
 cases ry
 rcases rv with _ | ⟨r,_ | _⟩
 cases r
 obtain ⟨its,rv,p,hz⟩:=I.list hq
 obtain ⟨m,hm,_⟩:=id I.loc
 obtain ⟨qual,x,params,p1,p2,p3,j,scope,pm,ctv,c',oc,cv,t,ef,ec,ed,e1,S,hb⟩:=lam
 have hlen:its.length=xs.length:=rv.length.symm
 have nL:∀{b:Addr} {u:HO},H b=some u→b≠X.env.locals:=fun {b u} e z=>by rw [z,I.free] at e;cases e
 have refs:∀v∈xs,∃q,v=V.ref q:=fun v hv=>by
  obtain ⟨i,hi,e⟩:=List.getElem_of_mem hv
  obtain ⟨q,r,e2,_⟩:=hk i v (ks[i]'(by lia)) (by rw [← e];simp) (by simp)
  exact ⟨q,e2⟩
 obtain ⟨xb,ub⟩:=xu rv refs
 have keep:∀{h:Heap} {own:List (Addr×Obj)},News { objs:=#[] } X.env.locals h (mY s.heap X.env.locals++own)→∀b o,b≠X.env.locals→s.heap.get? b=some o→h.get? b=some o:=fun N b o n e=>(N (b,o) (List.mem_append_left _ (mZ e n))).1
 refine ksk_sorted (h₀:={ objs:=#[] }) (L:=X.env.locals) (m:=m) (news:=mY s.heap X.env.locals) (b:=false) (vs:=its) (kz:=ks) (f:=.ref f) ⟨hm,fun b o e=>?_,Nat.zero_le _⟩ (fun p hp=>⟨(xr hp).1,(xr hp).2,rfl⟩) p.isList (by lia) (by lia) (ksk_s1 _ _) (fun x=>ksk_l1 _ _) (fun x=>ksk_t1 f x) ?_ ?_
 ·have e:Heap.get? { objs:=#[] } b=some o:=e
  simp [Heap.get?] at e
 ·intro i v k hv hki h tk own F N
  have kp:=keep N
  have hx:xs[i]?=some (rA v):=by rw [xb,List.getElem?_map,hv];rfl
  obtain ⟨q,r,e2,e3,e4⟩:=hk i _ k hx hki
  obtain ⟨q',rfl⟩:=ub v (List.mem_of_getElem? hv)
  cases e2
  obtain ⟨_,its2,rv2,ob,et,ec2⟩:=I.hok q _ e3
  obtain ⟨u2,eu,ru⟩:=rv2.get e4
  obtain ⟨t2,rfl⟩:=ru
  have lim:h.NoLimit:=I.ok.mod.nolimit.keeps fun b o e=>kp b o (Nat.ne_of_lt (Nat.lt_of_lt_of_le (Heap.lt_size e) (Nat.le_trans I.ok.bsz I.ok.above))) (I.bk b o e)
  refine Xm (A:=X.A.in1.in1) (s:={ s with heap:=h,toks:=tk }) (show X.A.depth < _ from hr.depth) (kp _ _ (nL ef) (I.hok f _ ef).1) ⟨c',oc,cv,t,rfl,kp _ _ (nL ec) (I.hok c' _ ec).1,ed,e1⟩ lim S (hb q) (its:=its2) ⟨ob,kp _ _ (nL e3) et,ec2⟩ eu fun h' tk' k2=>?_
  exact KskEnd.intro (s₁:={ s with heap:=h,toks:=tk }) (news':=mY s.heap X.env.locals++own) ⟨F.ns.keeps k2,fun b o e=>k2 b o (F.keep b o e),F.above⟩ (fun p hp=>⟨k2 _ _ (N p hp).1,(N p hp).2⟩) fun p hp=>hp
 ·intro D h' tk out c F N hD out'
  obtain ⟨ps,pp,eo,pw⟩:=out'
  have hn:s.heap.get? D=none:=by
   cases e:s.heap.get? D with
   | none=>rfl
   | some o =>
    have:=hD (D,o) (mZ e (N (D,seqObj "list" out c) List.mem_cons_self).2.1)
    exact absurd this (Nat.lt_irrefl _)
  have hin:∀u∈out.toList,∃q,u=Value.ref q:=fun u hu=>by
   rw [eo] at hu
   obtain ⟨pr,h1,rfl⟩:=List.mem_map.mp hu
   have:=pp.mem_iff.mp h1
   exact ub _ (List.of_mem_zip (show (pr.1,pr.2)∈ks.zip its from this)).2
  have lo:out.toList.length=xs.length:=by
   rw [eo,List.length_map,pp.length_eq,List.length_zip]
   lia
  refine ⟨.ref D,upd H D (.lst (out.toList.map rA)),I.aaI (t':=tk) (fun b u n e=>(N (b,u) (List.mem_cons_of_mem _ (mZ e n))).1) hm F.ns hn ?_,rfl,q D _ _ (New.mk' ?_) ⟨ps.map fun pr=>(pr.1,rA pr.2),?_,?_,?_⟩⟩
  ·refine ⟨by rw [List.length_map,lo];exact hz,out.toList,c,xG hin,?_⟩
   exact (N (D,seqObj "list" out c) List.mem_cons_self).1
  ·cases e:H D with
   | none=>rfl
   | some u =>
    obtain ⟨ob,e2⟩:=(I.hok D u e).is
    rw [hn] at e2
    cases e2
  ·have:=pp.map fun pr:Int×Value=>(pr.1,rA pr.2)
   rw [xb]
   have e3:(ks.zip its).map (fun pr:Int×Value=>(pr.1,rA pr.2))=ks.zip (its.map rA):=by
    rw [List.zip_map_right]
    rfl
   rw [← e3]
   exact this
  ·rw [eo,List.map_map,List.map_map]
   rfl
  ·exact List.pairwise_map.mpr (pw.imp fun h=>by simpa using h)
theorem Inv.grow {X:Cx} {pins:List (Addr×Obj)} {σ:St} {H H':Hp} {s:Shared} {h':Heap} {t':Nat} (I:Inv X pins σ H s) (k:∀b u,H b=none→s.heap.get? b=some u→h'.get? b=some u∧H' b=none)
  (kt:∀b u,H b=some u→(H' b=some u∧∀o,s.heap.get? b=some o→h'.get? b=some o)∨∃ps more,u=.tbl ps∧H' b=some (.tbl (ps++more))∧h'.get? b=some { cls:=.none,data:=.fields (ps++more) })
  (new:∀b u,H b=none→H' b=some u→dW X.prog X.w H' h' b u):Inv X pins σ H' { s with heap:=h',toks:=t' }:=by
 have same:∀{b:Addr} {u:HO},H b=some u→(∀ps,u≠.tbl ps)→H' b=some u∧∀o,s.heap.get? b=some o→h'.get? b=some o:=fun {b u} e n=>by
  rcases kt b u e with z | ⟨ps,_,z,_⟩
  ·exact z
  ·exact absurd z (n ps)
 obtain ⟨m0,⟨oL,esL,epL,eL,rL⟩,_⟩:=id I.loc
 have kL:=(k _ _ I.free eL).1
 refine I.step (g':=s.gens) (d':=s.drawn) (ch:=[]) (fun _ z=>nomatch z) (fun b u n _ _ e q=>(k b u q e).1) (fun b u n _ _ e q=>⟨u.slots,(k b u q e).1⟩) (fun b u _ e q=>(k b u q e).2) (fun b u _ e=>?_) (fun b xs e=>(same e (by intro _ z;cases z)).1) (fun b u v e=>(same e (by intro _ z;cases z)).1) (fun b ps e=>?_) (fun m2 hm2=>?_) (fun b u e=>?_) I.bare
 ·cases q:H b with
  | none=>exact ⟨u,(k b u q e).1⟩
  | some v =>
   rcases kt b v q with z | ⟨ps,more,_,_,z⟩
   ·exact ⟨u,z.2 u e⟩
   ·exact ⟨_,z⟩
 ·rcases kt b _ e with z | ⟨ps',more,z,z2,_⟩
  ·exact ⟨#[],by rw [z.1];simp⟩
  ·cases z
   exact ⟨more,z2⟩
 ·obtain ⟨o,es,ep,e,r⟩:=hm2
  rw [eL] at e
  cases e
  exact ⟨_,es,ep,kL,r⟩
 ·cases q:H b with
  | none=>exact new b u q e
  | some v =>
   rcases kt b v q with z | ⟨ps,more,rfl,z2,z3⟩
   ·rw [z.1] at e
    cases e
    refine (I.hok b _ q).stay (fun c o hc e2=>?_) (fun c e2=>(same e2 (by intro _ z;cases z)).1) fun c xs e2=>(same e2 (by intro _ z;cases z)).1
    rcases hc with rfl | hc
    ·exact z.2 o e2
    ·exact (same hc (by intro _ z;cases z)).2 o e2
   ·rw [z2] at e
    cases e
    exact z3
def TabOk (pos:Pos) (qual:Str) (ps:Array Value) (H:Hp):Prop:=ps=#[]∨∃(c':Addr) (oc:Obj) (vs:Array Value) (t:Tok),ps=#[rawInt pos.line,rawInt pos.col,.ref c']∧H c'=some (.frz oc (.own c'))∧oc.data=.fields vs∧vs[1]?=some (.str qual t)
def Bm (mg:Str→Option Value) (base:Heap):Prop:=∃bm ob,mg "__builtins__" = some (.ref bm)∧bm≠builtinsNs∧base.get? bm=some ob∧ob.cls=.type "module" ∧ ob.dict=some builtinsNs∧ob.data=.plain
def aaJ (P:Addr) (pos:Pos) (qual:Str):TE:=fun _ H Q=>∃ps,H P=some (.tbl ps)∧TabOk pos qual ps H∧∀f ps' H',Kp P H H'→H' P=some (.tbl ps')→TabOk pos qual ps' H'→nR H' f→Q (.ref f) H'
theorem Xo {X:Cx} {c P:Addr} {qual x:Str} {params:Arguments} {scope:Scope} {p1 p2 p3 pos:Pos} {j:Nat} (B:Bm X.mg X.base) (hc:X.env.code=.ref c) (hK:W.codeHdIn X.K c P=true) (hq:X.env.qual++("<lambda>" : Str)=qual) (S:nQ x scope)
  (hdef:defaultsOf params X.env=([],[]):=by rfl) (hcl:closureFor scope X.env=pure []:=by rfl)
  (hb:∀(pm ctv:Value) (c' q:Addr),bindArgs (W.kla_fn "<lambda>" qual params (j5 x p1 p2 p3 j) scope [] pm (.ref c') ctv) ⟨[.ref q],[]⟩=pure [(x,.ref q)]:=by intros;rfl) :
  PE X (.Lambda params (j5 x p1 p2 p3 j) scope pos) (aaJ P pos qual):=by
 intro pins s σ H Q I h
 obtain ⟨ps,eP,tk,q⟩:=h
 have hP:s.heap.get? P=some (W.tabObj ps):=I.hok P _ eP
 obtain ⟨bm,ob,b1,b2,b3,b4,b5,b6⟩:=B
 have hg:s.heap.Ns mainGlobals X.mg:=I.ok.mod.glob.keeps I.bk
 have nob:∀{b:Addr} {o:Obj},X.base.get? b=some o→b≠P:=fun {b o} e z=>by
  have:=(I.bs b o e).2
  rw [z,eP] at this
  cases this
 have nG:mainGlobals≠P:=by
  obtain ⟨o,_,_,e,_⟩:=I.ok.mod.glob
  exact nob e
 have nbG:bm≠mainGlobals:=fun z=>by
  obtain ⟨o,es,ep,e,hd,_⟩:=I.ok.mod.glob
  rw [z,e] at b3
  cases b3
  rw [hd] at b6
  cases b6
 have BA:s.heap.BuiltinsAt X.mg P:=⟨bm,ob,b1,b2,nbG,nob b3,I.bk _ _ b3,b4,b5,b6⟩
 have CH:=W.codeHd_of_K I.kIn hK
 refine W.kla_eval hdef ?_
 rw [hq]
 have nP:∀{b:Addr},H b=none→b≠P:=fun {b} e z=>by rw [z,eP] at e;cases e
 rcases tk with rfl | ⟨c',oc,vs,t,rfl,e1,e2,e3⟩
 ·refine W.kla_makeFunction hcl I.ok.glob hg hc CH hP trivial rfl nG BA fun c' ctv h' tk' hx hge hlt hrec hP'=>?_
  obtain ⟨c2,oc,vs,t,z,hoc,hd,hv⟩:=hrec
  cases z
  have fc:H c'=none:=I.hok.fresh hge
  have hsz:s.heap.objs.size≤h'.objs.size:=Nat.le_trans hge (Nat.le_of_lt hlt)
  have ff:H h'.objs.size=none:=I.hok.fresh hsz
  have ncf:c'≠h'.objs.size:=Nat.ne_of_lt hlt
  have ncP:c'≠P:=nP fc
  have nfP:h'.objs.size≠P:=nP ff
  generalize hf:h'.objs.size=f at *
  generalize hob:W.kla_obj "<lambda>" qual params (j5 x p1 p2 p3 j) scope [] ((X.mg "__name__").getD .none) c' ctv=fo
  let H':Hp:=upd (upd (upd H P (.tbl (#[]++#[rawInt pos.line,rawInt pos.col,.ref c']))) c' (.frz oc (.own c'))) f (.frz fo (.own f))
  have hP2:H' P=some (.tbl #[rawInt pos.line,rawInt pos.col,.ref c']):=by
   show upd _ _ _ _=_
   rw [bW (Ne.symm nfP),bW (Ne.symm ncP),cB]
   simp
  have hc2:H' c'=some (.frz oc (.own c')):=by
   show upd _ _ _ _=_
   rw [bW ncf,cB]
  have hf2:H' f=some (.frz fo (.own f)):=cB
  have old:∀{b:Addr},b≠P→b≠c'→b≠f→H' b=H b:=fun {b} n1 n2 n3=>by
   show upd _ _ _ _=_
   rw [bW n3,bW n2,bW n1]
  have push:∀{b:Addr} {o:Obj},h'.get? b=some o→(h'.push fo).get? b=some o:=fun e=>Heap.get?_push_of_some _ e
  have I':Inv X pins σ H' { s with heap:=h'.push fo,toks:=tk' }:=by
   refine I.grow (fun b u n e=>?_) (fun b u e=>?_) fun b u n e=>?_
   ·have lt:=Heap.lt_size e
    have n2:b≠c':=Nat.ne_of_lt (Nat.lt_of_lt_of_le lt hge)
    have n3:b≠f:=Nat.ne_of_lt (Nat.lt_of_lt_of_le lt hsz)
    exact ⟨push (hx b u (nP n) e),by rw [old (nP n) n2 n3];exact n⟩
   ·by_cases hbP:b=P
    ·right
     rw [hbP,eP] at e
     cases e
     exact ⟨#[],#[rawInt pos.line,rawInt pos.col,.ref c'],rfl,by rw [hbP,hP2];simp,by rw [hbP];exact push hP'⟩
    ·left
     have n2:b≠c':=fun z=>by rw [z,fc] at e;cases e
     have n3:b≠f:=fun z=>by rw [z,ff] at e;cases e
     exact ⟨by rw [old hbP n2 n3];exact e,fun o e4=>push (hx b o hbP e4)⟩
   ·by_cases hbf:b=f
    ·rw [hbf,hf2] at e
     cases e
     have e5:(h'.push fo).get? f=some fo:=by
      rw [← hf]
      exact Heap.get?_push_size _ (by rw [← hob];rfl)
     rw [hbf]
     exact ⟨e5,_,e5⟩
    ·by_cases hbc:b=c'
     ·rw [hbc,hc2] at e
      cases e
      rw [hbc]
      exact ⟨push hoc,_,push hoc⟩
     ·have hbP:b≠P:=nP n
      rw [old hbP hbc hbf,n] at e
      cases e
  refine ⟨.ref f,H',I',rfl,q f _ H' (fun b u n e=>?_) hP2 (.inr ⟨c',oc,vs,t,rfl,hc2,hd,hv⟩) ⟨qual,x,params,p1,p2,p3,j,scope,_,ctv,c',oc,vs,t,by rw [hf2,← hob],hc2,hd,hv,S,hb _ _ _⟩⟩
  have n2:b≠c':=fun z=>by rw [z,fc] at e;cases e
  have n3:b≠f:=fun z=>by rw [z,ff] at e;cases e
  rw [old n n2 n3]
  exact e
 ·have hcode:codeAmong pos (#[rawInt pos.line,rawInt pos.col,Value.ref c']).toList=some (.ref c'):=by
   show (if ((pos.line:Int) == (pos.line:Int) && (pos.col:Int) == (pos.col:Int))=true then some (Value.ref c') else _)=_
   simp
  refine W.kla_makeFunctionHit hcl I.ok.glob hg hc CH hP trivial hcode BA fun ctv h' tk' hx hsz=>?_
  have ff:H h'.objs.size=none:=I.hok.fresh hsz
  generalize hob:({ cls:=Value.type "function", data:=Data.func (W.kla_fn "<lambda>" qual params (j5 x p1 p2 p3 j) scope [] ((X.mg "__name__").getD .none) (.ref c') ctv) }:Obj)=fo
  have e5:(h'.push fo).get? h'.objs.size=some fo:=Heap.get?_push_size _ (by rw [← hob];rfl)
  have k2:∀{b:Addr} {u:HO},H b=some u→upd H h'.objs.size (.frz fo (.own h'.objs.size)) b=some u:=fun {b u} e=>by
   rw [bW (fun z=>by rw [z,ff] at e;cases e)]
   exact e
  refine ⟨.ref h'.objs.size,upd H h'.objs.size (.frz fo (.own h'.objs.size)),I.laid (t':=tk') (fun b u e=>Heap.get?_push_of_some _ (hx b u e)) hsz ⟨e5,_,e5⟩,rfl,q _ _ _ (fun b u n e=>k2 e) (k2 eP) (.inr ⟨c',oc,vs,t,rfl,k2 e1,e2,e3⟩) ⟨qual,x,params,p1,p2,p3,j,scope,_,ctv,c',oc,vs,t,by rw [cB,← hob],k2 e1,e2,e3,S,hb _ _ _⟩⟩
section
variable {P:Program} {w:World} {K:W.Frag} {mg:Str→Option Value} {base:Heap} {CX:CXT} {k:Nat} {nm qual:Str} {st:Stmt} {f c:Addr} {N ps:List Str} {sp:Sp}
theorem K4 (h:∃fd,Fun K nm qual st f fd∧fd.code=.ref c) (S:aU N ps (aH st)) (len:∀vs H Q E,sp vs H Q E→vs.length=ps.length)
  (hb:∀(kV doc pm:Value) (an:Option Addr) (cdv ct:Value) (us:List Value),us.length=ps.length→bindArgs (W.fnOf nm qual (eX st) (dH st) (aH st) .none kV doc pm an cdv ct) ⟨us,[]⟩=pure (ps.zip us))
  (hbody:∀(f:Addr) (A:Around) (outer:List Env) (s:Shared) (H:Hp) (vs:List V) (Q:VK) (E:XK),Room k (A.deeper (envOfC qual (aH st) s.heap.objs.size f (.ref c)))→sp vs H Q E →
   ∃t,PSs (rP CX P w K mg base N qual (aH st) f (.ref c) A outer s H E).nox (dH st) t∧t { nx:=fun _ H'=>Q .non H',rt:=Q } (start N vs) H):lB P w K mg base CX (k + 1) f ps sp:=by
 obtain ⟨fd,F,hc⟩:=h
 refine ⟨fd,?_,F.binds hb⟩
 obtain ⟨oc,od,kV,doc,pm,an,cdv,ct,osl,rfl,lk,hcd⟩:=F.ex
 obtain rfl:cdv=.ref c:=hc
 refine Bx lk hcd S len fun A outer s H vs Q E hr hsp=>?_
 obtain ⟨t,h,q⟩:=hbody f A outer s H vs Q E hr hsp
 exact ⟨t,h.nox,q⟩
end
def Ov (ts:List Addr) (H:Hp):Prop:=(∀p∈ts,H p=some (.tbl #[]))∧∀b,b ∉ ts→H b=none∨∃o xs,H b=some (.frz o (.lst xs))
theorem K5 {P:Program} {w:World} {K:W.Frag} {mg mb:Str→Option Value} {CX:CXT} {k:Nat} {fa a:Addr} {fd:FuncData} {x:Str} {sp:Sp} {s₁:Shared} {vs:List Value} {ns:List Int} {ts:List Addr}
  (KX:K.In s₁.heap) (hns:s₁.heap.Ns mainGlobals mg) (hb:s₁.heap.Ns builtinsNs mb) (hbb:∀x:Str,x ≠ "__name__" → mb x=bootBuiltins x) (hlim:s₁.heap.NoLimit) (hg:s₁.gens=#[]) (hB:Bm mg s₁.heap)
  (hts:∀p∈ts,s₁.heap.get? p=some (W.tabObj #[])) (hct:∀p∈ts,isCodeTable s₁.heap p) (hKt:∀p∈ts,K.lookup p=none)
  (ha:s₁.heap.get? a=some { cls:=.type "list", data:=.seq vs.toArray }) (hi:IntsAre vs ns) (hl:ns.length≤sizeLine) (hr:Room k callerA)
  (F:∀base:Heap,K.In base→base.Ns mainGlobals mg→Bm mg base→i_ P w K mg base CX k fa fd [x] sp) (hbind:∀(s:Shared) (u:Value),BindsTo s fd ⟨[u],[]⟩ [(x,u)])
  (hsp:∀H:Hp,Ov ts H→a ∉ ts→SqL K H a (ns.map V.int)→sp [.ref a] H (fun v _=>v=.bl true) fun _ _ _=>False)
  (hCX:∀H e s',CX [] H s₁ (fun _ _ _=>False) e s'→False) :
  codeAny (model P w) callerA (.call (.ref fa) ⟨[.ref a],[]⟩) (fun r s'=>r=.ok (.ret (.bool true))∧OldK s₁.heap s'.heap∧s'.os=s₁.os∧AllBare s'.gens) s₁:=by
 have rv:=wZ hi
 have lenV:=hi.length
 have nat:a ∉ ts:=fun z=>by
  have:=hts a z
  rw [ha] at this
  cases this
 have core:∀H:Hp,Ov ts H→SqL K H a (ns.map V.int)→HOk P w H s₁.heap→(∀b,b ∉ ts→H b≠none→b=a)→(H a≠none→K.lookup a=none) →
   codeAny (model P w) callerA (.call (.ref fa) ⟨[.ref a],[]⟩) (fun r s'=>r=.ok (.ret (.bool true))∧OldK s₁.heap s'.heap∧s'.os=s₁.os∧AllBare s'.gens) s₁:=by
  intro H hO hS hok hA hK
  have kindOf:∀{b:Addr} {o:Obj},s₁.heap.get? b=some o→H b≠none→o=W.tabObj #[]∨o={ cls:=.type "list", data:=.seq vs.toArray }:=fun {b o} e n=>by
   by_cases hb:b∈ts
   ·left
    have:=hts b hb
    rw [e] at this
    exact Option.some.inj this
   ·right
    have:=hA b hb n
    rw [this,ha] at e
    exact (Option.some.inj e).symm
  have keep:∀{b:Addr} {o:Obj},s₁.heap.get? b=some o→o≠W.tabObj #[]→o≠{ cls:=.type "list", data:=.seq vs.toArray }→(wA s₁.heap H).get? b=some o:=fun {b o} e n1 n2=>Bl e (by
   cases q:H b with
   | none=>rfl
   | some u =>
    rcases kindOf e (by rw [q];simp) with z | z
    ·exact absurd z n1
    ·exact absurd z n2)
  have nsK:∀{b:Addr} {m:Str→Option Value},s₁.heap.Ns b m→(wA s₁.heap H).Ns b m:=fun {b m} ⟨o,es,ep,e,d,r⟩=>⟨o,es,ep,keep e (fun z=>by rw [z] at d;cases d) (fun z=>by rw [z] at d;cases d),d,r⟩
  have hKb:K.In (wA s₁.heap H):=fun b o e=>Bl (KX b o e) (by
   cases q:H b with
   | none=>rfl
   | some u =>
    by_cases hb:b∈ts
    ·rw [hKt b hb] at e
     cases e
    ·have z:=hA b hb (by rw [q];simp)
     rw [z] at e q
     rw [hK (by rw [q];simp)] at e
     cases e)
  have hBb:Bm mg (wA s₁.heap H):=by
   obtain ⟨bm,ob,b1,b2,b3,b4,b5,b6⟩:=hB
   exact ⟨bm,ob,b1,b2,keep b3 (fun z=>by rw [z] at b4;cases b4) (fun z=>by rw [z] at b6;cases b6),b4,b5,b6⟩
  have hM:Mod K mg (wA s₁.heap H):=⟨hKb,nsK hns,⟨mb,nsK hb,hbb⟩,let ⟨mc,h1,h2⟩:=hlim;⟨mc,nsK h1,h2⟩⟩
  have e0:Ga P w K mg (wA s₁.heap H) callerA [] s₁ H:=⟨rfl,hM,fun b o e=>RJ e,Nat.le_of_eq (Kc _ _),trivial,fun b hb=>absurd (show b∈([]:List Addr) from hb) (by simp),hok,.of_eq hg⟩
  refine codeAny_mono ((F _ hKb (nsK hns) hBb).run callerA [] s₁ H ⟨[.ref a],[]⟩ [.ref a] [.ref a] _ _ hr e0 (hbind s₁ (.ref a)) (.cons rfl .nil) (hsp H hO nat hS)) fun r s' h=>?_
  rcases r with e | fl
  ·exact (hCX H e s' h).elim
  ·rcases fl with _ | _ | _ | u
   ·exact False.elim h
   ·exact False.elim h
   ·exact False.elim h
   ·obtain ⟨v,H',os,bare,un,hok',r',q⟩:=h
    obtain rfl:v=.bl true:=q
    obtain rfl:u=Value.bool true:=r'
    refine ⟨rfl,?_,os,bare⟩
    have each:∀b o,s₁.heap.get? b=some o→s'.heap.get? b=some o∨(b∈ts∧o=W.tabObj #[]∧∃more,s'.heap.get? b=some (W.tabObj (#[]++more))):=fun b o e=>by
     cases q:H b with
     | none=>exact .inl (un.keep b o e q (fun z=>absurd (show b∈([]:List Addr) from z) (by simp)) (by simp))
     | some u =>
      by_cases hb:b∈ts
      ·right
       have e1:=hts b hb
       rw [e] at e1
       obtain ⟨more,e2⟩:=un.pK b #[] (hO.1 b hb)
       exact ⟨hb,Option.some.inj e1,more,hok' b _ e2⟩
      ·left
       rcases hO.2 b hb with z | ⟨ob,xs,z⟩
       ·rw [q] at z
        cases z
       ·have e1:=(hok b _ z).1
        rw [e] at e1
        cases e1
        exact (hok' b _ (un.pJ b _ _ z)).1
    refine ⟨fun b o e=>?_,fun b o e=>?_⟩
    ·rcases each b o e with z | ⟨hb,rfl,more,z⟩
     ·exact .inl z
     ·exact .inr (.inl ⟨hct b hb,rfl,#[],more,rfl,z⟩)
    ·rcases each b o e with z | ⟨_,_,more,z⟩
     ·exact ⟨_,z⟩
     ·exact ⟨_,z⟩
 cases hk:K.lookup a with
 | some o =>
  have e:=KX a o hk
  rw [ha] at e
  cases e
  refine core (fun b=>if b∈ts then some (.tbl #[]) else none) ⟨fun p hp=>if_pos hp,fun b hb=>.inl (if_neg hb)⟩ (.inr ⟨_,vs.toArray,_,hk,rfl,rfl,rfl,by rw [List.size_toArray,lenV];exact hl,by simpa using rv⟩) (fun b u z=>?_) (fun b hb z=>absurd (if_neg hb) z) fun z=>absurd (if_neg nat) z
  by_cases hb:b∈ts
  ·have z':=(if_pos hb).symm.trans z
   cases z'
   exact hts b hb
  ·have z':=(if_neg hb).symm.trans z
   cases z'
 | none =>
  refine core (fun b=>if b∈ts then some (.tbl #[]) else if b=a then some (.frz { cls:=.type "list", data:=.seq vs.toArray } (.lst (ns.map V.int))) else none) ⟨fun p hp=>if_pos hp,fun b hb=>?_⟩ (.inl (.inr ⟨{ cls:=.type "list", data:=.seq vs.toArray },?_⟩)) (fun b u z=>?_) (fun b hb z=>?_) fun _=>hk
  ·by_cases h:b=a
   ·exact .inr ⟨_,_,(if_neg hb).trans (if_pos h)⟩
   ·exact .inl ((if_neg hb).trans (if_neg h))
  ·exact (if_neg nat).trans (if_pos rfl)
  ·by_cases hb:b∈ts
   ·have z':=(if_pos hb).symm.trans z
    cases z'
    exact hts b hb
   ·by_cases h:b=a
    ·have z':=((if_neg hb).trans (if_pos h)).symm.trans z
     cases z'
     rw [h]
     exact ⟨ha,by rw [List.length_map];exact hl,vs,_,rv,ha⟩
    ·have z':=((if_neg hb).trans (if_neg h)).symm.trans z
     cases z'
  ·by_cases h:b=a
   ·exact h
   ·exact absurd ((if_neg hb).trans (if_neg h)) z
theorem Ow {l:W.OpenLaw} {n k:Nat} {q:Program} {loose:List Str} {XP:(Str→Option Value)→Heap→Prop} {YP:World→Heap→Prop} {d:DefRec} {K:Params→W.Frag} {CX:World→CXT} {sp:World→Sp} {x:Str} {ts:List Addr}
  (hn:l.most=some n) (hn2:n≤sizeLine) (hdf:d.params.defaults=[]) (hr:Room k callerA)
  (hY:∀(w:World) (h:Heap),YP w h→(K w.params).In h∧∀p∈ts,h.get? p=some (W.tabObj #[]))
  (F:∀(w:World) (mg:Str→Option Value) (fa:Addr) (h:Heap),(K w.params).In h→h.Ns mainGlobals mg→mg d.name=some (.ref fa)→(∀p∈ts,(K w.params).lookup p=none∧∃c,W.codeHdIn (K w.params) c p=true) ∧
   ∃fd:FuncData,(∀(s:Shared) (u:Value),BindsTo s fd ⟨[u],[]⟩ [(x,u)]) ∧
    ∀base:Heap,(K w.params).In base→base.Ns mainGlobals mg→Bm mg base→i_ l.prog w (K w.params) mg base (CX w) k fa fd [x] (sp w))
  (hsp:∀(w:World) (H:Hp) (a:Addr) (ns:List Int),ns.length≤n→Ov ts H→a ∉ ts→SqL (K w.params) H a (ns.map V.int)→sp w [.ref a] H (fun v _=>v=.bl true) fun _ _ _=>False)
  (hCX:∀(w:World) (H:Hp) (s:Shared) (e:Value) (s':Shared),CX w [] H s (fun _ _ _=>False) e s'→False) :
  W.WalkO q loose XP YP l.row.toRowW d [] (fun f vs=>PySem.call f vs):=by
 refine Att.BL hn hdf fun w s₀ s₁ mg mb fa o pm cd doc a vs ns G Y ho hd hcd hmg hobj hints hlen hg=>?_
 obtain ⟨KX,hts⟩:=hY w _ Y
 obtain ⟨hT,fd,hb,hF⟩:=F w mg fa _ KX G.T.g hmg
 refine K5 KX G.T.g G.T.b G.T.builtins G.T.nolimit hg G.T.bmain hts (fun p hp=>?_) (fun p hp=>(hT p hp).1) hobj hints (Nat.le_trans hlen hn2) hr hF hb (fun H hO hn hS=>hsp w H a ns hlen hO hn hS) fun H e s'=>hCX w H s₁ e s'
 obtain ⟨c,hc⟩:=(hT p hp).2
 obtain ⟨o,vs,_,_,_,_,_,_,_,e1,e2,e3,e4,_⟩:=W.codeHd_of_K KX hc
 exact ⟨c,o,vs,e1,e2,e3,e4⟩
end L2
namespace L2
open PySem PySem.Spec PyProof.Rows PySem.SeqAt
def tx (cs:List Nat):Str:=⟨cs.toArray⟩
theorem jh (cs:List Nat):(tx cs).length=cs.length:=by simp [tx,Str.length]
theorem Ox (cs:List Nat):(tx cs).cps.toList=cs:=by simp [tx]
theorem p8 {a b:List Nat} (h:tx a=tx b):a=b:=by
 have:=congrArg (fun z:Str=>z.cps.toList) h
 simpa [tx] using this
def Xp:R2:=fun x y H Q=>∃z j,x=.str z∧y=.int j∧z.length≤sizeLine∧Q (.str (Txt.slice z none (some j))) H
def aaK (te th:TE):TE:=fun σ H Q=>te σ H fun x H1=>th σ H1 fun y H2=>Xp x y H2 Q
section
variable {X:Cx} {e hi:Expr} {te th:TE} {p2 pos:Pos}
theorem Oz (he:PE X e te) (hu:PE X hi th):PE X (.Subscript e (.Slice none (some hi) none p2) pos) (aaK te th):=by
 intro pins s σ H Q I h
 refine Subscript_ (thn (he pins s σ H _ I h) fun v s1 ⟨x,H1,I1,r1,q1⟩=>?_)
 refine wpAny_Slice (wpAny_evalPart_none (wpAny_evalPart_some (thn (hu pins s1 σ H1 _ I1 q1) fun vu s3 ⟨y,H3,I3,pu,z,j,e1,e2,hz,q3⟩=>wpAny_evalPart_none ?_)))
 subst e1
 subst e2
 obtain ⟨t,rfl⟩:=r1
 obtain ⟨t2,rfl⟩:=pu
 obtain ⟨Tn,id,h1,h2,h3⟩:=SBH.sliceItem_ns (prog:=X.prog) (w:=X.w) (A:=X.A) (E:=X.xe) (s:=s3) (P:=fun h=>∀b o,s3.heap.get? b=some o→h.get? b=some o) (Q:=EP X pins σ Q) (x:=z) (t:=t) (j:=j) (uj:=t2) (fun h ob k b o e4=>Heap.get?_push_of_some _ (k b o e4)) (fun _ _ e4=>e4) (fun h' t' k kp=>⟨.str _,H3,I3.kept kp,⟨t',rfl⟩,q3⟩) hz
 exact tail_any (ops:=[.ref s3.heap.objs.size,.str z t]) h2 h1 h3 (by with_unfolding_all rfl)
def Vg:R2:=fun x y H Q=>∃z n,x=.str z∧y=.int n∧MulOk z n∧Q (.str (Txt.mul z n)) H
theorem Tv:OpR X (binaryOp .Mult) Vg:=Gi
def OD:V→List V→Hp→VK→Prop:=fun x vs H Q=>∃l xs i y,x=.ref l∧vs=[.int i]∧H l=some (.lst xs)∧0≤i∧i < xs.length∧xs.length≤1000000∧xs[i.toNat]?=some y∧∀H',Off l H H'→H' l=some (.lst (xs.eraseIdx i.toNat))→Q y H'
theorem Tw:MtM X "list.pop" OD:=by
 intro pins s σ H x vs v us Q I rx rv h
 obtain ⟨l,xs,i,y,e1,e2,hH,h0,h1,hz,hy,q⟩:=h
 refine M9 pins s σ H x vs v us Q I rx rv ⟨l,xs,i,i.toNat,y,e1,e2,hH,by lia,by lia,?_,hy,q _ Off.upd cB⟩
 unfold seqIndex?
 simp only [show ¬ i < 0 from by lia,if_false,h0,h1,decide_true,Bool.and_self,if_true]
theorem Tz {o e:Expr} {to te:TE} {apos cpos:Pos} (ho:PE X o to) (he:PE X e te) (hbase:attributeBase o "pop" X.env (eval o X.env)=eval o X.env:=by rfl)
  (hfew:((backTo cpos (starEach [e] X.env)).all (fun x=>!x.1) && (backToKw cpos (keywordEach [] X.env)).all (fun x=>x.1.isSome)
   && decide (([e]:List Expr).length + ([]:List Keyword).length + (if ([]:List Keyword).isEmpty then 0 else 1) < 30))=true:=by rfl)
  (hline:(apos.endLine == cpos.line)=true:=by rfl) (hs:starEach [e] X.env=(false,eval e X.env)::starEach [] X.env:=by rfl) :
  PE X (.Call (.Attribute o "pop" apos) [e] [] cpos) (tBM X.K "list" OD to (jV te rO)) :=
 wW PySem.F.plainAttrs_list PySem.F.slot_list_pop PySem.F.type_list_pop Tw ho (aj he aq hs) hbase hfew hline hs (by rfl)
end
theorem OJ (cs:List Nat) (j:Nat):Txt.slice (tx cs) none (some (j:Int))=tx (cs.take j):=by
 have hn:¬ ((j:Int) < 0):=by lia
 have hix:Builtin.Str.strSliceIndices none (some (j:Int)) 1 (tx cs).length=List.range (min j cs.length):=by
  unfold Builtin.Str.strSliceIndices sliceRange
  dsimp only
  rw [jh]
  simp only [show (1:Int) > 0 from by decide,if_true,hn,if_false]
  have e1:max (0:Int) (min (j:Int) (cs.length:Int))=((min j cs.length:Nat):Int):=by lia
  rw [e1]
  by_cases h:(0:Int) < ((min j cs.length:Nat):Int)
  ·rw [if_pos h]
   have e2:((((min j cs.length:Nat):Int) - 0 + 1 - 1) / 1).toNat=min j cs.length:=by
    rw [Int.ediv_one]
    lia
   rw [e2]
   have e3:(fun k:Nat=>((0:Int) + 1 * (k:Int)).toNat)=id:=by
    funext k
    show ((0:Int) + 1 * (k:Int)).toNat=k
    lia
   rw [e3,List.map_id]
  ·rw [if_neg h]
   have:min j cs.length=0:=by lia
   rw [this]
   rfl
 unfold Txt.slice
 rw [hix,List.length_range,jh]
 by_cases h:min j cs.length=cs.length
 ·rw [if_pos (by rw [h];simp)]
  rw [List.take_of_length_le (by lia)]
 ·rw [if_neg (by simp [h])]
  unfold tx
  congr 2
  have hfm:∀(n:Nat),n≤cs.length→(List.range n).filterMap (fun i=>cs.toArray[i]?)=cs.take n:=by
   intro n
   induction n with
   | zero=>intro _;rfl
   | succ n ih =>
    intro hn
    rw [List.range_succ,List.filterMap_append,ih (by lia),List.take_succ,List.filterMap_cons,List.filterMap_nil]
    have:cs.toArray[n]?=cs[n]?:=by simp
    rw [this]
    cases cs[n]? <;> rfl
  have:=hfm (min j cs.length) (by lia)
  rw [this]
  by_cases hj:j≤cs.length
  ·rw [show min j cs.length=j by lia]
  ·exact absurd (by lia) h
theorem Xq (c:Nat) (n:Int):Txt.mul (tx [c]) n=tx (List.replicate n.toNat c):=by
 have h:=mul_one_list c n
 have e:(tx [c])=⟨#[c]⟩:=rfl
 rw [e]
 have:∀z:Str,z=tx z.cps.toList:=fun z=>by cases z;simp [tx]
 rw [this (Txt.mul ⟨#[c]⟩ n),h]
theorem qd (a b:List Nat):tx a++tx b=tx (a++b):=by
 show Str.append _ _=_
 unfold Str.append tx
 simp
section
variable {K:W.Frag} {H0 H:Hp} {M:List Addr} {L L':List (Addr×HO)} {I:List Im} {l P f:Addr} {xs ys:List V} {v y:V} {Q:VK} {R:Hp→Prop} {te th:TE} {σ:St} {i:Int} {cs ds:List Nat} {j c:Nat} {pos:Pos} {qual:Str} {ps:Array Value}
instance ael:Go (aaK te th σ H Q) (te σ H fun x H1=>th σ H1 fun y H2=>Xp x y H2 Q):=⟨id⟩
instance acy:Go (Xp (.str (tx cs)) (.int i) H Q) (Sd (0≤i∧cs.length≤1000) (Q (.str (tx (cs.take i.toNat))) H)):=⟨fun s=>⟨_,i,rfl,rfl,by rw [jh];exact cQ (by have:=s.1.2;lia),by
 have:=OJ cs i.toNat
 rw [show ((i.toNat:Nat):Int)=i by have:=s.1.1;lia] at this
 rw [this]
 exact s.2⟩⟩
instance acz:Go (Zv (.str (tx cs)) (.int i) H Q) (Sd (0≤i∧i < cs.length∧cs.length≤1000) (∀c:Nat,cs[i.toNat]?=some c→Q (.str (tx [c])) H)):=⟨fun s=>by
 obtain ⟨⟨h0,h1,h2⟩,k⟩:=s
 have hl:i.toNat < cs.length:=by lia
 refine ⟨tx cs,i,cs[i.toNat],rfl,rfl,by rw [jh];exact cQ (by lia),?_,k _ (by simp)⟩
 rw [Ox]
 obtain ⟨n,rfl⟩:∃n:Nat,i=(n:Int):=⟨i.toNat,by lia⟩
 exact b_ (by simp)⟩
instance aaL:Go (Vb (.str (tx cs)) (.str (tx ds)) H Q) (Sd (cs.length + ds.length≤1000) (Q (.str (tx (cs++ds))) H)):=⟨fun s=>⟨_,_,rfl,rfl,by rw [jh,jh];exact cQ (by have:=s.1;lia),by rw [qd];exact s.2⟩⟩
instance aaM:Go (Vg (.str (tx [c])) (.int i) H Q) (Sd (0≤i∧i≤1000) (Q (.str (tx (List.replicate i.toNat c))) H)):=⟨fun s=>by
 obtain ⟨⟨h0,h1⟩,k⟩:=s
 refine ⟨_,i,rfl,rfl,⟨?_,fun a b=>?_,fun a b=>?_⟩,by rw [Xq];exact k⟩
 ·rw [decide_eq_false (by lia),decide_eq_false (by lia)]
  rfl
 ·rw [jh]
  have:(1:Int)≤(2 ^ 63 - 1) / i:=by
   rw [Int.le_ediv_iff_mul_le (by lia)]
   lia
  simp only [List.length_cons,List.length_nil]
  lia
 ·unfold Builtin.Str.tooLong
  rw [jh]
  refine decide_eq_false ?_
  have:=cQ (n:=1 * i.toNat) (by lia)
  simp only [List.length_cons,List.length_nil]
  lia⟩
instance aem [h:Hat H l (.lst xs)]:Go (OD (.ref l) [.int i] H Q) (Sd (0≤i∧i < xs.length∧xs.length≤1000000) (∀y:V,xs[i.toNat]?=some y→∀H',Off l H H'→H' l=some (.lst (xs.eraseIdx i.toNat))→Q y H')):=⟨fun s=>by
 obtain ⟨⟨h0,h1,h2⟩,k⟩:=s
 have hl:i.toNat < xs.length:=by lia
 exact ⟨l,xs,i,xs[i.toNat],rfl,rfl,h.e,h0,h1,h2,by simp,k _ (by simp)⟩⟩
theorem Xr {n i0 i1 i2 i3:Nat} {a b c d:V} {R:St→Hp→Prop} (hn:n=4) (hp:SqT K H l [a,b,c,d]) (h:bQ i0 a σ H fun σ1 H1=>bQ i1 b σ1 H1 fun σ2 H2=>bQ i2 c σ2 H2 fun σ3 H3=>bQ i3 d σ3 H3 R):Kf K n (iB (bQ i0) (iB (bQ i1) (iB (bQ i2) (iB (bQ i3) Ke)))) (.ref l) σ H R:=by
 subst hn
 exact ⟨l,_,rfl,hp,rfl,_,_,rfl,_,_,rfl,_,_,rfl,_,_,rfl,rfl,h⟩
instance acA {n i0 i1 i2 i3:Nat} {a b c d:V} {R:St→Hp→Prop} [h:SqB K H l [a,b,c,d]]:Go (Kf K n (iB (bQ i0) (iB (bQ i1) (iB (bQ i2) (iB (bQ i3) Ke)))) (.ref l) σ H R) (Sd (n=4) (bQ i0 a σ H fun σ1 H1=>bQ i1 b σ1 H1 fun σ2 H2=>bQ i2 c σ2 H2 fun σ3 H3=>bQ i3 d σ3 H3 R)):=⟨fun s=>Xr s.1 h.e s.2⟩
theorem TabOk.st:∀H H',Tst H H'→TabOk pos qual ps H→TabOk pos qual ps H':=fun H H' t h=>by
 rcases h with h | ⟨c',oc,vs,t',e,e1,e2⟩
 ·exact .inl h
 ·exact .inr ⟨c',oc,vs,t',e,t _ _ rfl e1,e2⟩
theorem nR.st:∀H H',Tst H H'→nR H f→nR H' f:=fun H H' t h=>by
 obtain ⟨a1,a2,a3,a4,a5,a6,a7,a8,a9,a10,a11,a12,a13,a14,e1,e2,r⟩:=h
 exact ⟨a1,a2,a3,a4,a5,a6,a7,a8,a9,a10,a11,a12,a13,a14,t _ _ rfl e1,t _ _ rfl e2,r⟩
abbrev gJ (pos:Pos) (qual:Str) (ps:Array Value):Im:=.fct (TabOk pos qual ps) TabOk.st
abbrev Xu (f:Addr):Im:=.fct (fun H=>nR H f) nR.st
class K6 (I:List Im) (pos:Pos) (qual:Str) (ps:Array Value):Prop where
 m:gJ pos qual ps∈I
class aaN (I:List Im) (f:Addr):Prop where
 m:Xu f∈I
instance ae6 {g:Im} [h:K6 I pos qual ps]:K6 (g::I) pos qual ps:=⟨List.mem_cons_of_mem _ h.m⟩
instance ae7:K6 (gJ pos qual ps::I) pos qual ps:=⟨List.mem_cons_self⟩
instance ae8:aaN (Xu f::I) f:=⟨List.mem_cons_self⟩
theorem SH.tab [F:SH H0 M H L I] [h:K6 I pos qual ps]:TabOk pos qual ps H:=F.im _ h.m
instance aen [F:SH H0 M H L I] [e:LkL L P (.tbl ps)] [t:K6 I pos qual ps]:Go (aaJ P pos qual σ H Q) (∀(f:Addr) (ps':Array Value) (H':Hp),Kp P H H'→H' P=some (.tbl ps')→TabOk pos qual ps' H'→nR H' f→Q (.ref f) H'):=⟨fun k=>⟨ps,F.raw e.m,F.im _ t.m,k⟩⟩
instance aeo [F:SH H0 M H L I] [u:LkU L P (.tbl ps) L']:Go (∀H',Kp P H H'→H' P=some (.tbl ps)→TabOk pos qual ps H'→R H') (∀H',SH H0 M H' L' (gJ pos qual ps::I)→R H'):=⟨fun k H' f e t=>k H' ((F.kp f e u.u rfl).lZ t)⟩
instance aep [F:SH H0 M H L I] [u:LkU L P (.tbl ps) L']:Go (∀H',Kp P H H'→H' P=some (.tbl ps)→TabOk pos qual ps H'→nR H' f→R H') (∀H',SH H0 M H' L' (Xu f::gJ pos qual ps::I)→R H'):=⟨fun k H' f e t g=>k H' (((F.kp f e u.u rfl).lZ t).lZ g)⟩
end
def nT (c:Nat):Bool:=decide (97≤c) && decide (c≤122)
def Ip (c:Nat):Bool:=decide (48≤c) && decide (c≤57)
def LET:Str := "abcdefghijklmnopqrstuvwxyz"
def SGN:Str := "abcdefghijklmnopqrstuvwxyz0123456789"
theorem TF (c:Nat):decide (c∈LET.cps.toList)=nT c:=by
 rw [show LET.cps.toList=List.range' 97 26 by decide +kernel]
 unfold nT
 rw [Bool.eq_iff_iff]
 simp only [decide_eq_true_eq,List.mem_range'_1,Bool.and_eq_true]
 lia
theorem TJ (c:Nat):decide (c∈SGN.cps.toList)=(nT c || Ip c):=by
 rw [show SGN.cps.toList=List.range' 97 26++List.range' 48 10 by decide +kernel]
 unfold nT Ip
 rw [Bool.eq_iff_iff]
 simp only [decide_eq_true_eq,List.mem_append,List.mem_range'_1,Bool.and_eq_true,Bool.or_eq_true]
 lia
structure gV (cs:List Nat):Prop where
 lo:1≤cs.length
 hi:cs.length≤8
 hd:∀c,cs[0]?=some c→nT c=true
 all:∀c∈cs,(nT c || Ip c)=true
structure Rw where
 nm:List Nat
 st:Nat
 sz:Nat
 pn:Nat
abbrev dM (r:Rw):List V:=[.str (tx r.nm),.int (r.st:Nat),.int (r.sz:Nat),.int (r.pn:Nat)]
def aP (rs:List Rw):List (List V):=rs.map dM
theorem bL (rs:List Rw):(aP rs).length=rs.length:=List.length_map ..
structure GoodR (n:Nat) (r:Rw):Prop where
 nm:gV r.nm
 sz:1≤r.sz
 le:r.st + r.sz≤n
def Apart (r s:Rw):Prop:=r.nm≠s.nm∧(r.st + r.sz≤s.st∨s.st + s.sz≤r.st)
theorem Apart.symm {r s:Rw} (h:Apart r s):Apart s r:=⟨fun z=>h.1 z.symm,h.2.elim .inr .inl⟩
structure Lay (n:Nat) (rs:List Rw):Prop where
 good:∀r∈rs,GoodR n r
 ap:rs.Pairwise Apart
 few:rs.length≤40
def Asc (rs:List Rw):Prop:=rs.Pairwise fun r s=>r.st + r.sz≤s.st
theorem Lay.perm {n:Nat} {rs qs:List Rw} (h:Lay n rs) (p:rs.Perm qs):Lay n qs:=⟨fun r hr=>h.good r (p.mem_iff.mpr hr),(p.pairwise_iff (fun {a b}=>Apart.symm)).mp h.ap,by rw [← p.length_eq];exact h.few⟩
theorem dj {H:Hp} {rs:List Rw} {ys:List V} {i:Nat} {v:V} (h:aJ H ys (aP rs)) (e:ys[i]?=some v):∃r q,rs[i]?=some r∧v=.ref q∧H q=some (.tup (dM r)):=by
 obtain ⟨r,q,e1,e2,e3⟩:=su h e
 unfold aP at e1
 rw [List.getElem?_map] at e1
 cases e4:rs[i]? with
 | none=>rw [e4] at e1;cases e1
 | some w=>rw [e4] at e1;cases e1;exact ⟨w,q,rfl,e2,e3⟩
theorem Cr {α β:Type} {f:α→β} {l:List β} {m:List α} (p:l.Perm (m.map f)):∃k:List α,k.Perm m∧l=k.map f:=by
 generalize hm:m.map f=m' at p
 induction p generalizing m with
 | nil=>exact ⟨[],by rw [List.map_eq_nil_iff.mp hm],rfl⟩
 | cons x p ih =>
  cases m with
  | nil=>cases hm
  | cons a t =>
   rw [List.map_cons] at hm
   injection hm with h1 h2
   obtain ⟨k,pk,ek⟩:=ih h2
   exact ⟨a::k,pk.cons a,by rw [List.map_cons,h1,ek]⟩
 | swap x y l =>
  cases m with
  | nil=>cases hm
  | cons a t =>
   cases t with
   | nil=>rw [List.map_cons] at hm;injection hm with h1 h2;cases h2
   | cons b u =>
    rw [List.map_cons,List.map_cons] at hm
    injection hm with h1 h2
    injection h2 with h2 h3
    exact ⟨b::a::u,List.Perm.swap a b u,by rw [List.map_cons,List.map_cons,h1,h2,h3]⟩
 | trans p1 p2 ih1 ih2 =>
  obtain ⟨k,pk,ek⟩:=ih2 hm
  obtain ⟨k2,pk2,ek2⟩:=ih1 ek.symm
  exact ⟨k2,pk2.trans pk,ek2⟩
theorem O1:∀{as bs:List Rw},as.Perm bs→as.Pairwise (fun r s=>r.st≤s.st)→bs.Pairwise (fun r s=>r.st < s.st)→as=bs:=by
 intro as
 induction as with
 | nil=>intro bs p _ _;exact (List.nil_perm.mp p).symm
 | cons a t ih =>
  intro bs p ha hb
  cases bs with
  | nil=>exact absurd p.length_eq (by simp)
  | cons b u =>
   have e:a=b:=by
    rcases List.mem_cons.mp (p.mem_iff.mp List.mem_cons_self) with h | h
    ·exact h
    ·have h1:=(List.pairwise_cons.mp hb).1 a h
     rcases List.mem_cons.mp (p.mem_iff.mpr (List.mem_cons_self (a:=b) (l:=u))) with h2 | h2
     ·exact h2.symm
     ·have h3:=(List.pairwise_cons.mp ha).1 b h2
      lia
   subst e
   rw [ih (List.perm_cons a |>.mp p) (List.pairwise_cons.mp ha).2 (List.pairwise_cons.mp hb).2]
theorem O2 {rs:List Rw} {ys:List V}:(rs.map fun r=>((r.st:Nat):Int)).zip ys=(rs.zip ys).map fun p=>(((p.1.st:Nat):Int),p.2):=by
 rw [List.zip_map_left]
 rfl
theorem K7 {H:Hp} {rs as:List Rw} {ys zs:List V} (t:aJ H ys (aP rs)) (p:rs.Perm as) (ha:as.Pairwise fun r s=>r.st < s.st) (s:ur (rs.map fun r=>((r.st:Nat):Int)) ys zs):aJ H zs (aP as):=by
 obtain ⟨ps,pp,rfl,pw⟩:=s
 rw [O2] at pp
 obtain ⟨qs,pq,rfl⟩:=Cr pp
 have hl:ys.length=rs.length:=by rw [t.1,bL]
 have e1:(rs.zip ys).map Prod.fst=rs:=List.map_fst_zip (by lia)
 have pf:(qs.map Prod.fst).Perm rs:=by
  have:=pq.map Prod.fst
  rw [e1] at this
  exact this
 have hq:qs.map Prod.fst=as:=by
  refine O1 (pf.trans p) ?_ ha
  rw [List.pairwise_map] at pw ⊢
  exact pw.imp fun h=>by lia
 have each:∀x∈qs,∃q,x.2=.ref q∧H q=some (.tup (dM x.1)):=fun x hx=>by
  have hx:=pq.mem_iff.mp hx
  obtain ⟨i,hi,e⟩:=List.getElem_of_mem hx
  rw [List.length_zip] at hi
  rw [List.getElem_zip] at e
  obtain ⟨r,q,e2,e3,e4⟩:=dj t (v:=ys[i]'(by lia)) (i:=i) (by simp)
  rw [List.getElem?_eq_getElem (by lia)] at e2
  refine ⟨q,by rw [← e];exact e3,?_⟩
  rw [← e]
  show H q=some (.tup (dM rs[i]))
  rw [Option.some.inj e2]
  exact e4
 refine ⟨by rw [bL,← hq,List.length_map,List.length_map,List.length_map],fun j r e=>?_⟩
 unfold aP at e
 rw [← hq,List.map_map,List.getElem?_map] at e
 cases e5:qs[j]? with
 | none=>rw [e5] at e;cases e
 | some x =>
  rw [e5] at e
  cases e
  obtain ⟨q,e6,e7⟩:=each x (List.mem_of_getElem? e5)
  exact ⟨q,by rw [List.map_map,List.getElem?_map,e5];show some x.2=_;rw [e6],e7⟩
theorem Asc.lt {n:Nat} {rs:List Rw} (h:Asc rs) (g:∀r∈rs,GoodR n r):rs.Pairwise fun r s=>r.st < s.st:=by
 refine List.Pairwise.imp_of_mem ?_ h
 intro a b ha hb hab
 have:=(g a ha).sz
 lia
def aaO:R2:=fun x y H Q=>∃c j,x=.str ⟨#[c]⟩∧y=.str j∧Q (.bl (decide (c∈j.cps.toList))) H
section
variable {X:Cx} {K:W.Frag} {H:Hp} {Q:VK} {z:Str} {cs:List Nat} {c:Nat} {t0 te:TE} {nt:Nat} {fr:List Nat} {g:TG} {cc:TT} {σ fvs:St} {p f l:Addr} {bs:List Bool} {ys:List V} {rs:List Rw}
theorem O3:OpR X (compareOp .In) aaO:=Gh
instance aer:Go (aaO (.str (tx [c])) (.str z) H Q) (Q (.bl (decide (c∈z.cps.toList))) H):=⟨fun k=>⟨c,z,rfl,rfl,k⟩⟩
instance acB:Go (zP K [.str z,.ty "str"] H Q) (Q (.bl true) H):=⟨fun k=>w_is (eF.str (K:=K) (H:=H) z) (Wf (eF.str (K:=K) (H:=H) z)) k⟩
instance acC:Go (Gp K [.str (tx cs)] H Q) (Sd (cs.length≤1000) (Q (.int cs.length) H)):=⟨fun s=>Ww (by rw [jh];exact cQ (by have:=s.1;lia)) (by rw [jh];exact s.2)⟩
instance aaP:Go (qX (ZC t0) nt fr g cc te σ H Q) (t0 σ H fun x H1=>∃z,x=.str z∧dU (Its z) nt fr g cc te σ H1 Q):=⟨id⟩
instance YS:Go (∃z',V.str z=.str z'∧dU (Its z') nt fr g cc te σ H Q) (dU (Its z) nt fr g cc te σ H Q):=⟨fun k=>⟨z,rfl,k⟩⟩
theorem Xv {F:Nat→V} (hz:cs.length≤1000) (hf:(fr.map fun i=>(σ[i]?).getD none)=fvs) (turn:∀(c:Nat) (H':Hp) (R:VK),c∈cs→Same H H'→(∀H2,Same H' H2→R (F c) H2)→te (some (.str (tx [c]))::fvs) H' R)
  (k:∀p H',New H H' p (.lst (cs.map F))→Q (.ref p) H'):dU (Its (tx cs)) 1 fr (bQ 0) mH te σ H Q:=by
 have e0:mV (tx cs)=cs.map fun c=>V.str (tx [c]):=by
  unfold mV
  rw [Ox]
  rfl
 refine comp_map (P:=fun i y=>∃c,cs[i]?=some c∧y=F c) (items_str (z:=tx cs)) (by rw [e0,List.length_map];lia) hf (fun _ _=>trivial) (fun i v H' R hv s kk=>?_) fun p H' ys n hl hP=>k p H' ?_
 ·rw [e0,List.getElem?_map] at hv
  cases e:cs[i]? with
  | none=>rw [e] at hv;cases hv
  | some c =>
   rw [e] at hv
   cases hv
   exact turn c H' R (List.mem_of_getElem? e) s fun H2 s2=>kk _ _ s2 ⟨c,e,rfl⟩
 ·have e:ys=cs.map F:=by
   rw [e0,List.length_map] at hl
   apply List.ext_getElem?
   intro i
   rw [List.getElem?_map]
   by_cases hi:i < ys.length
   ·obtain ⟨c,e1,e2⟩:=hP i ys[i] (by simp)
    rw [e1,List.getElem?_eq_getElem hi,e2]
    rfl
   ·rw [List.getElem?_eq_none (by lia),List.getElem?_eq_none (by lia)]
    rfl
  rw [e] at n
  exact n
instance aes [h:SqA K H p (bs.map V.bl)]:Go (∃(p':Addr) (bs':List Bool),[V.ref p]=[.ref p']∧SqL K H p' (bs'.map V.bl)∧Q (.bl (bs'.all id)) H) (Q (.bl (bs.all id)) H):=⟨fun k=>⟨p,bs,rfl,h.e,k⟩⟩
instance aaQ {H0:Hp} {M:List Addr} {L:List (Addr×HO)} {I:List Im} [F:SH H0 M H L I] [h:SqA K H l ys] [t:TpA H ys (aP rs)] [m:aaN I f]:Go (Ou K [.ref l] (.ref f) H Q) (Sd (rs.length < 64) (∀D zs H',New H H' D (.lst zs)→ur (rs.map fun r=>((r.st:Nat):Int)) ys zs→Q (.ref D) H')):=⟨fun s=>by
 have hl:ys.length=rs.length:=by rw [t.e.1,bL]
 refine ⟨l,f,ys,rs.map fun r=>((r.st:Nat):Int),rfl,rfl,F.im _ m.m,h.e,by rw [List.length_map,hl],by rw [hl];exact s.1,fun i v k hv hk=>?_,s.2⟩
 obtain ⟨r,q,e1,e2,e3⟩:=dj t.e hv
 rw [List.getElem?_map,e1] at hk
 cases hk
 exact ⟨q,_,e2,e3,rfl⟩⟩
instance aaR {H0:Hp} {M:List Addr} {L:List (Addr×HO)} {I:List Im} {Z:Addr→Hp→Prop} [F:SH H0 M H L I]:Go (∀p ys H',New H H' p (.lst ys)→aJ H' ys (aP rs)→Z p H') (∀H' p ys,ys.length=rs.length→SH H0 M H' ((p,.lst ys)::L) (.tps ys (aP rs)::I)→Z p H'):=⟨fun k p ys H' n t=>k H' p ys (by rw [t.1,bL]) (F.newR n t)⟩
end
end L2
namespace L2
open PySem PySem.Spec PyProof.Rows
end L2
namespace L2
open PySem PySem.W PySem.Spec PyProof.Rows
section
variable {n:Nat} {rk:Nat→Int} {α β:Type}
def Pp (n:Nat) (p:Array Nat):Prop:=p.Perm (List.range n).toArray
theorem Pp.size {p:Array Nat} (h:Pp n p):p.size=n:=by
 have:=h.size_eq
 simpa using this
theorem Pp.ne {p:Array Nat} (h:Pp n p) {a b:Nat} (ha:a < n) (hb:b < n) (hab:a≠b):p.getD a 0≠p.getD b 0:=by
 have hs:=h.size
 have e:∀k (hk:k < n),p.getD k 0=p.toList[k]'(by simpa [hs] using hk):=fun k hk=>by
  rw [Array.getD_eq_getD_getElem?,Array.getElem?_eq_getElem (by lia)]
  rfl
 have nd:p.toList.Nodup:=(Array.perm_iff_toList_perm.mp h).nodup_iff.mpr (by simpa using List.nodup_range)
 rw [e a ha,e b hb]
 intro z
 exact hab ((List.getElem_inj nd).mp z)
theorem Pp.rev {p:Array Nat} (h:Pp n p) {i j:Nat}:Pp n (kas_rev p i j):=(mirror_perm _ _ _ _).trans h
end
end L2
namespace L2
open PySem PySem.W PySem.Calls PySem.Spec PyProof.Rows
section
variable {prog:Program} {w:World} {A:Around} {E:Value→Shared→Prop} {s:Shared} {h₀:Heap} {L:Addr} {m:Str→Option Value} {news:List (Addr×Obj)} {vs:List Value}
inductive F2 {α β:Type} (R:α→β→Prop):List α→List β→Prop
 | nil:F2 R [] []
 | cons {a b l m}:R a b→F2 R l m→F2 R (a::l) (b::m)
theorem F2.length_eq {α β:Type} {R:α→β→Prop}:∀{l:List α} {m:List β},F2 R l m→l.length=m.length
 | _,_,.nil=>rfl
 | _,_,.cons _ h=>congrArg (· + 1) h.length_eq
end
end L2
namespace L2
open PySem PySem.Spec PyProof.Rows PySem.SeqAt
section
variable {K:W.Frag} {H:Hp} {Q:VK} {l p q:Addr} {x:V} {r xs ys zs:List V} {rs:List Rw}
variable {σ:St} {nt:Nat} {fr:List Nat} {g:TG} {c:TT} {te t0:TE}
theorem Ir (h:H p=some (.tup r)) (hf:∀v∈r,fj v=true):Rep K H (uh r) (.ref p):=by
 simp only [Rep]
 exact ⟨p,r,rfl,SqT.of h,lC hf⟩
theorem TQ:gk (uh r)≤100:=by
 simp only [gk,jY]
 lia
variable {R:St→Hp→Prop}
end
end L2
namespace L2
open PySem PySem.W PySem.Spec PyProof.Rows
section
variable {CX:CXT} {P:Program} {w:World} {K:W.Frag} {mg:Str→Option Value} {base:Heap} {k m:Nat} {x:Str} {ps:List Str} {sp:Sp} {ds:List Value} {dvs:List V}
structure aaS (P:Program) (w:World) (K:W.Frag) (mg:Str→Option Value) (base:Heap) (CX:CXT) (k:Nat) (x:Str) (ps:List Str) (sp:Sp) (ds:List Value):Prop where
 ex:∃(f:Addr) (fd:FuncData),i_ P w K mg base CX k f fd ps sp∧mg x=some (.ref f)∧W.keepIn K (.ref f)=true∧Binds K fd ps []∧Binds K fd ps ds
theorem aaS.all (D:aaS P w K mg base CX k x ps sp ds):Def P w K mg base CX k x ps sp :=
 let ⟨f,fd,F,a,b,c,_⟩:=D.ex
 ⟨f,fd,F,a,b,c⟩
end
end L2
namespace L2
open PySem PySem.Spec PyProof.Rows PySem.SeqAt
section
variable {K:W.Frag} {H:Hp} {Q:VK} {σ:St} {t:TE} {ts:List TE} {a b cs:List Nat} {c n:Nat} {ps:List (List Nat)} {p l q:Addr} {xs ys r:List V} {lo hi:Option Int} {R:Str→Prop} {S:Int→Prop} {v v0 v1 v2 v3 v4 v5:V} {i:Int} {z:Str} {bb:Bool}
instance YT [h:Hat H p (.lst [])] [h2:Hat H q (.lst [])]:Go (Oa K (.ref p) (.ref q) H Q) (Q (.bl true) H):=⟨fun k=>Tc (ts:=[]) (SqL.of h.e) (SqL.of h2.e) k⟩
instance acD:Go (Wy (.ref p) .non H Q) (Q (.bl false) H):=⟨fun k=>⟨rfl,k⟩⟩
instance acE:Go (Wy .non .non H Q) (Q (.bl true) H):=⟨fun k=>⟨rfl,k⟩⟩
instance aaT:Go (Ih (.int i) .non H Q) (Q (.bl true) H):=⟨fun k=>⟨rfl,k⟩⟩
instance aaU:Go (Ih (.ref p) .non H Q) (Q (.bl true) H):=⟨fun k=>⟨rfl,k⟩⟩
instance aaV:Go (Ih .non .non H Q) (Q (.bl false) H):=⟨fun k=>⟨rfl,k⟩⟩
end
theorem uw {xs:List V} {i:Nat}:pO xs (some (i:Int)) none=xs.drop i:=by
 unfold pO
 rw [HT.HF]
 show (xs.drop (min i xs.length)).take (xs.length - min i xs.length)=_
 by_cases h:i≤xs.length
 ·rw [show min i xs.length=i by lia,List.take_of_length_le (by rw [List.length_drop];lia)]
 ·rw [List.drop_of_length_le (by lia),List.drop_of_length_le (by lia)]
  simp
end L2
namespace L2
open PySem PySem.W PySem.Calls PySem.Spec PyProof.Rows
end L2
namespace L2
open PySem PySem.Spec PyProof.Rows PySem.SeqAt
end L2
namespace L2
open PySem PySem.W PySem.Spec PyProof.Rows
end L2
namespace L2
open PySem PySem.Spec PyProof.Rows
section
variable {X:Cx}
theorem K8 (a d:Value):argsOk "min" ⟨[a],[(("default" : Str),d)]⟩:=by unfold argsOk;kernel_rfl
end
theorem small_down {a:Int} (h0:-1≤a) (h1:a≤1000000):Builtin.Range.small a (-1) (-1)=true∧Builtin.Range.rangeSize a (-1) (-1)=a + 1:=by
 have hs:Builtin.Range.rangeSize a (-1) (-1)=a + 1:=by
  unfold Builtin.Range.rangeSize
  rw [if_neg (by decide)]
  split
  ·rw [show (-(-1):Int)=1 by decide,Int.ediv_one]
   lia
  ·lia
 have fit:∀x:Int,-2000000≤x→x≤2000000→Builtin.Range.rangeFitsLong x=true:=fun x y1 y2=>by
  unfold Builtin.Range.rangeFitsLong
  rw [decide_eq_true (by lia),decide_eq_true (by lia)]
  rfl
 refine ⟨?_,hs⟩
 unfold Builtin.Range.small
 rw [hs,fit a (by lia) (by lia),fit (-1) (by decide) (by decide),fit _ (by lia) (by lia)]
 first
  | rfl
  | (rw [if_neg (by decide)];rw [fit _ (by lia) (by lia)];first | rfl | simp)
  | simp
theorem aaW {x:Int}:Builtin.divisionGoesByPylong x (-1)=false:=by
 unfold Builtin.divisionGoesByPylong
 have e:(if ((-1:Int) == 0)=true then 0 else (-1:Int).natAbs.log2 / 30 + 1)=1:=by decide
 simp only [Bool.and_eq_false_iff,decide_eq_false_iff_not]
 left
 rw [e]
 lia
section
variable {X:Cx} {tg:Expr}
def Vh (ta:TA):TI:=fun σ H R=>ta σ H fun vs H1=>∃i:Int,vs=[.int i,.int (-1),.int (-1)]∧(-1≤i∧i≤1000000)∧R (Itq i (-1) (i + 1).toNat) H1
theorem O4 {pins:List (Addr×Obj)} {σ:St} {H:Hp} {s:Shared} {R:It→Hp→Prop} {E:Value→Shared→Prop} {lo:Int} {t u v:Tok} {tk:Nat} (I:Inv X pins σ H s) (h0:-1≤lo) (h1:lo≤1000000)
  (q:R (Itq lo (-1) (lo + 1).toNat) H):wpAny (model X.prog X.w) X.A (pyIter (.ref s.heap.objs.size)) (PIE X pins σ tg R) E { s with heap:=s.heap.push { cls:=.type "range", data:=.fields #[.int lo t,.int (-1) u,.int (-1) v] },toks:=tk }:=by
 obtain ⟨sm,sz⟩:=small_down h0 h1
 refine wpAny_pyIter_range (IsRange.new ..) sm ?_
 generalize hh:s.heap.push { cls:=.type "range", data:=.fields #[.int lo t,.int (-1) u,.int (-1) v] }=hp
 have I1:Inv X pins σ H { s with heap:=hp,toks:=tk }:=by
  rw [← hh]
  exact I.kept fun b o e=>Heap.get?_push_of_some _ e
 refine ⟨hp.objs.size,[hp.objs.size],_,_,H,rfl,I1.kept (t':=tk) fun b o e=>Heap.get?_push_of_some _ e,Gz _ lo (-1) (lo + 1).toNat,?_,fun b hb=>?_,q⟩
 ·show IsRangeIter _ _ (lo + ((0:Nat):Int) * (-1)) (((((lo + 1).toNat:Nat):Int)) - ((0:Nat):Int)) (-1)
  rw [show lo + ((0:Nat):Int) * (-1)=lo by simp,show (((lo + 1).toNat:Nat):Int) - ((0:Nat):Int)=Builtin.Range.rangeSize lo (-1) (-1) by rw [sz];lia]
  exact Heap.get?_push_size _ rfl
 ·rw [List.mem_singleton.mp hb]
  exact I1.Fz (Nat.le_refl _) (I1.hok.fresh (Nat.le_refl _))
theorem K9 {a b c:Expr} {ta:TA} {p pos:Pos} (hg:Gl X "range") (hm:X.mg "range" = none) (ha:PA X [a,b,c] ta) (h1:starEach [a,b,c] X.env=(false,eval a X.env)::starEach [b,c] X.env:=by rfl) (h2:((backTo pos (starEach [b,c] X.env)).any fun x=>x.fst)=false:=by rfl) :
  PI X tg (.Call (.Name "range" p) [a,b,c] [] pos) (Vh ta):=by
 intro pins s σ H R I h
 refine Call_ (iy I hg hm boot_range (PyProof.Rows.callWith_type1 (thn (ha pos pins s σ H _ I h) fun us s1 ⟨vs,H1,I1,r1,i,e,⟨q1,q2⟩,q⟩=>?_) h1 h2))
 subst e
 rcases r1 with _ | ⟨⟨t,rfl⟩,_ | ⟨⟨t2,rfl⟩,_ | ⟨⟨t3,rfl⟩,_ | _⟩⟩⟩
 exact call_range_3 (by decide) (O4 I1 q1 q2 q) (.inl aaW)
end
section
variable {K:W.Frag} {H:Hp} {Q:VK} {σ:St} {tr:TA} {g:TG} {tb:TS} {D:Ends} {i:Int} {p q:Addr} {ns:List Int} {d:Int} {a b c:V} {R:St→Hp→Prop}
instance acF:Go (tM (Vh tr) g tb D σ H) (tr σ H fun vs H1=>∃i:Int,vs=[.int i,.int (-1),.int (-1)]∧(-1≤i∧i≤1000000)∧Tr i (-1) (i + 1).toNat g tb D σ H1):=⟨id⟩
instance aeu:Go (∃i':Int,[V.int i,V.int (-1),V.int (-1)]=[.int i',.int (-1),.int (-1)]∧(-1≤i'∧i'≤1000000)∧Tr i' (-1) (i' + 1).toNat g tb D σ H) (Sd (-1≤i∧i≤1000000) (Tr i (-1) (i + 1).toNat g tb D σ H)):=⟨fun s=>⟨i,rfl,s.1,s.2⟩⟩
end
end L2
namespace L2
open PySem PySem.W PySem.Calls PySem.Spec PyProof.Rows
end L2
namespace L2
open PySem PySem.Spec PyProof.Rows PySem.SeqAt
theorem eF.kept {K:W.Frag} {H H':Hp} {v:V} {t:Value} (h:eF K H v t) (k:∀a u,v=.ref a→H a=some u→H' a=some u):eF K H' v t:=by
 cases h with
 | non=>exact .non
 | bl b=>exact .bl b
 | int i=>exact .int i
 | str x=>exact .str x
 | flt x=>exact .flt x
 | lst e=>exact .lst (k _ _ rfl e)
 | frz e=>exact .frz (k _ _ rfl e)
 | tup e=>exact .tup (k _ _ rfl e)
 | dK e=>exact .dK (k _ _ rfl e)
 | dT e=>exact .dT (k _ _ rfl e)
 | ins e a b c d f=>exact .ins (k _ _ rfl e) a b c d f
def aaX (x y:V) (b:Bool):Prop:=(x=y∧idV x=true∧b=true)∨∃s t,x=.str s∧y=.str t∧b=(s == t)
theorem aaX.at {A:Around} {s:Shared} {x y:V} {u v:Value} {b:Bool} (h:aaX x y b) (ru:RelV x u) (rv:RelV y v):EqAt A s u v b:=by
 rcases h with ⟨rfl,hi,rfl⟩ | ⟨p,q,rfl,rfl,rfl⟩
 ·exact KY hi ru rv
 ·obtain ⟨t,rfl⟩:=ru
  obtain ⟨t',rfl⟩:=rv
  exact EqAt.str_str (A:=A) (s:=s) p t q t'
end L2
namespace L2
open PySem PySem.W PySem.Spec PyProof.Rows PySem.SeqAt
section
variable {K:W.Frag} {H:Hp} {Q:VK} {σ:St} {p q:Addr} {xs ys:List V} {te th:TE} {cs ds:List Nat} {j i:Int} {nms:List (List Nat)} {b:Bool} {a c:Nat}
theorem TV (a:List Nat) (nms:List (List Nat)):inV (.str (tx a)) (nms.map fun cs=>V.str (tx cs))=decide (a∈nms):=by
 unfold inV
 induction nms with
 | nil=>simp
 | cons b t ih =>
  rw [List.map_cons,List.any_cons,ih]
  have e:eqV (.str (tx b)) (.str (tx a))=decide (a=b):=by
   by_cases h:a=b
   ·subst h
    simp [eqV]
   ·rw [decide_eq_false h]
    have:tx b≠tx a:=fun z=>h (p8 z).symm
    simp [eqV,this]
  rw [e]
  by_cases h:a=b <;> simp [h]
instance aaY [h:SqA K H p (nms.map fun cs=>V.str (tx cs))]:Go (rIn K false (.str (tx cs)) (.ref p) H Q) (Q (.bl (decide (cs∈nms))) H):=⟨fun k=>⟨_,_,rfl,.inl h.e,rfl,List.all_eq_true.mpr (fun z hz=>by obtain ⟨b,_,rfl⟩:=List.mem_map.mp hz;rfl),by rw [if_neg (by decide),TV];exact k⟩⟩
end
theorem SH.over {H0 H H':Hp} {M M2:List Addr} {A R L2:List (Addr×HO)} {I I2:List Im} (F:SH H0 M H (A++R) I) (G:SH H M2 H' L2 I2) (e:A.map (·.1)=M2):SH H0 M H' (L2++R) (I2++I):=by
 have nd:=F.nd
 rw [List.map_append,e] at nd
 obtain ⟨nd1,nd2,nd3⟩:=List.nodup_append.mp nd
 have inA:∀{b},b∈M2→∃c∈A,c.1=b:=fun h=>by rw [← e] at h;exact List.mem_map.mp h
 have st:Tst H H':=fun q u tu hq=>by
  refine G.fr q u (fun hm=>?_) hq
  obtain ⟨c,hc,rfl⟩:=inA hm
  have h1:=F.at' c (List.mem_append_left _ hc)
  have h2:=F.mu c (List.mem_append_left _ hc)
  rw [hq] at h1
  cases h1
  rw [h2] at tu
  cases tu
 have rn:∀{c},c∈R→c.1 ∉ M2:=fun hc hm=>nd3 _ hm _ (List.mem_map.mpr ⟨_,hc,rfl⟩) rfl
 refine ⟨fun b u nb e0=>?_,fun f hf=>?_,fun c hc=>?_,?_,fun c hc=>?_,fun c hc=>?_⟩
 ·refine G.fr b u (fun hm=>?_) (F.fr b u nb e0)
  obtain ⟨c,hc,rfl⟩:=inA hm
  rcases F.ch c (List.mem_append_left _ hc) with h | h
  ·exact nb h
  ·exact h _ u e0 rfl
 ·rcases List.mem_append.mp hf with hf | hf
  ·exact G.im f hf
  ·exact Im.stay st (F.im f hf)
 ·rcases List.mem_append.mp hc with hc | hc
  ·exact G.at' c hc
  ·exact G.fr _ _ (rn hc) (F.at' c (List.mem_append_right _ hc))
 ·rw [List.map_append]
  refine List.nodup_append.mpr ⟨G.nd,nd2,fun a ha b hb=>?_⟩
  obtain ⟨c,hc,rfl⟩:=List.mem_map.mp ha
  obtain ⟨d,hd,rfl⟩:=List.mem_map.mp hb
  rcases G.ch c hc with h | h
  ·exact fun z=>rn hd (z▸h)
  ·exact fun z=>h d.1 _ (F.at' d (List.mem_append_right _ hd)) z.symm
 ·rcases List.mem_append.mp hc with hc | hc
  ·exact G.mu c hc
  ·exact F.mu c (List.mem_append_right _ hc)
 ·rcases List.mem_append.mp hc with hc | hc
  ·rcases G.ch c hc with h | h
   ·obtain ⟨d,hd,ed⟩:=inA h
    rw [← ed]
    exact F.ch d (List.mem_append_left _ hd)
   ·by_cases hm:c.1∈M
    ·exact .inl hm
    ·exact .inr fun b u e0 z=>h b u (F.fr b u (by rw [z];exact hm) e0) z
  ·exact F.ch c (List.mem_append_right _ hc)
theorem O5 {r s:Rw} (h:dM r=dM s):r=s:=by
 have h:[V.str (tx r.nm),V.int (r.st:Nat),V.int (r.sz:Nat),V.int (r.pn:Nat)]=[V.str (tx s.nm),V.int (s.st:Nat),V.int (s.sz:Nat),V.int (s.pn:Nat)]:=h
 simp only [List.cons.injEq,V.str.injEq,V.int.injEq,and_true] at h
 obtain ⟨h1,h2,h3,h4⟩:=h
 have h1:=p8 h1
 cases r
 cases s
 simp only [Rw.mk.injEq]
 exact ⟨h1,Int.ofNat.inj h2,Int.ofNat.inj h3,Int.ofNat.inj h4⟩
section
variable {K:W.Frag} {H:Hp} {Q:VK} {σ:St} {l:Addr} {xs:List V} {rs:List Rw} {fr:List Nat} {fvs:St} {c:TT}
theorem xH {H H':Hp} {p:V→Bool} {pr:Rw→Bool} (s:Same H H') (hp:∀q r,H q=some (.tup (dM r))→p (.ref q)=pr r):∀{xs:List V} {rs:List Rw},aJ H xs (aP rs)→aJ H' (xs.filter p) (aP (rs.filter pr))
 | [],[],_=>aJ.nil
 | [],r::rs,h=>absurd h.1 (by simp [aP])
 | x::xs,[],h=>absurd h.1 (by simp [aP])
 | x::xs,r::rs,h=>by
  obtain ⟨q,e1,e2⟩:=h.2 0 (dM r) rfl
  have ht:aJ H xs (aP rs):=⟨by simpa [aP] using h.1,fun j w e=>h.2 (j + 1) w (by simpa [aP] using e)⟩
  cases e1
  have ih:=xH s hp ht
  rw [List.filter_cons,List.filter_cons,hp q r e2]
  cases pr r with
  | false=>exact ih
  | true =>
   refine ⟨by have:=ih.1;simpa [aP] using this,fun j w e=>?_⟩
   cases j with
   | zero =>
    cases e
    exact ⟨q,rfl,s _ _ e2⟩
   | succ j=>exact ih.2 j w (by simpa [aP] using e)
theorem wG {pr:Rw→Bool} (hq:H l=some (.lst xs)) (tp:aJ H xs (aP rs)) (hz:xs.length≤1000000) (hf:(fr.map fun i=>(σ[i]?).getD none)=fvs)
  (turn:∀(q:Addr) (r:Rw) (H':Hp) (R:Bool→Hp→Prop),r∈rs→Same H H'→H' q=some (.tup (dM r))→(∀H2,Same H' H2→R (pr r) H2)→c (some (.ref q)::fvs) H' R)
  (k:∀l' ys H',New H H' l' (.lst ys)→aJ H' ys (aP (rs.filter pr))→ys.length≤xs.length→Q (.ref l') H'):dU (Itl K l) 1 fr (bQ 0) c (eG 0) σ H Q:=by
 classical
 let p:V→Bool:=fun v=>match v with | .ref q=>decide (∃r,H q=some (.tup (dM r))∧pr r=true) | _=>false
 have hp:∀q r,H q=some (.tup (dM r))→p (.ref q)=pr r:=fun q r e=>by
  show decide (∃s,H q=some (.tup (dM s))∧pr s=true)=pr r
  cases h:pr r with
  | true=>exact decide_eq_true ⟨r,e,h⟩
  | false =>
   refine decide_eq_false fun ⟨s,e2,h2⟩=>?_
   rw [e] at e2
   have:=O5 (HO.tup.inj (Option.some.inj e2))
   rw [← this,h] at h2
   cases h2
 refine Cq (p:=p) (SqL.of hq) hz hf (fun v H' R hv s kk=>?_) fun l' H' n=>k l' _ H' n (xH n.s hp tp) (List.length_filter_le _ _)
 obtain ⟨i,hi,e⟩:=List.getElem_of_mem hv
 obtain ⟨r,q,e1,rfl,e2⟩:=dj tp (i:=i) (v:=v) (by rw [← e];simp)
 exact turn q r H' R (List.mem_of_getElem? e1) s (s _ _ e2) fun H2 s2=>by rw [← hp q r e2];exact kk H2 s2
end
inductive qe (H:Hp):V→Prop
 | flt {v:V} (h:v=.non∨(∃b,v=.bl b)∨(∃i,v=.int i)∨∃z,v=.str z):qe H v
 | lst {q:Addr} {xs:List V} (e:H q=some (.lst xs)):qe H (.ref q)
 | tup {q:Addr} {xs:List V} (e:H q=some (.tup xs)):qe H (.ref q)
theorem qe.kept {H H':Hp} {v:V} (h:qe H v) (k:∀a u,v=.ref a→H a=some u→H' a=some u):qe H' v:=by
 cases h with
 | flt h=>exact .flt h
 | lst e=>exact .lst (k _ _ rfl e)
 | tup e=>exact .tup (k _ _ rfl e)
theorem qe.same {H H':Hp} {v:V} (h:qe H v) (s:Same H H'):qe H' v:=h.kept fun a u _ e=>s a u e
theorem qe.ty {H:Hp} {v:V} (h:qe H v) (K:W.Frag):∃n,eF K H v (.type n):=by
 cases h with
 | flt h =>
  rcases h with rfl | ⟨b,rfl⟩ | ⟨i,rfl⟩ | ⟨z,rfl⟩
  ·exact ⟨_,.non⟩
  ·exact ⟨_,.bl b⟩
  ·exact ⟨_,.int i⟩
  ·exact ⟨_,.str z⟩
 | lst e=>exact ⟨_,.lst e⟩
 | tup e=>exact ⟨_,.tup e⟩
theorem qe.id {H:Hp} {v:V} (h:qe H v):idV v=true:=by
 cases h with
 | flt h=>rcases h with rfl | ⟨b,rfl⟩ | ⟨i,rfl⟩ | ⟨z,rfl⟩ <;> rfl
 | lst e=>rfl
 | tup e=>rfl
end L2
namespace L2
open PySem PySem.W PySem.Calls PySem.Spec PyProof.Rows
abbrev swBody (x:Str) (p1 p2 p3 p4 p5 p6 p7:Pos) (j j2 j3:Nat):Expr:=.Tuple [.Subscript (.Name x p1) (.Constant (.int 1) j p2) p3,.Subscript (.Name x p4) (.Constant (.int 0) j2 p5) p6] j3 p7
def GD (H:Hp) (f:Addr):Prop:=∃(qual x:Str) (params:Arguments) (p1 p2 p3 p4 p5 p6 p7:Pos) (j j2 j3:Nat) (scope:Scope) (pm ctv:Value) (c':Addr) (oc:Obj) (vs:Array Value) (t:Tok),
 H f=some (.frz (W.kla_obj "<lambda>" qual params (swBody x p1 p2 p3 p4 p5 p6 p7 j j2 j3) scope [] pm c' ctv) (.own f))∧H c'=some (.frz oc (.own c'))∧oc.data=.fields vs∧vs[1]?=some (.str qual t)∧nQ x scope ∧
 ∀q:Addr,bindArgs (W.kla_fn "<lambda>" qual params (swBody x p1 p2 p3 p4 p5 p6 p7 j j2 j3) scope [] pm (.ref c') ctv) ⟨[.ref q],[]⟩=pure [(x,.ref q)]
section
variable {K:W.Frag} {H0 H:Hp} {M:List Addr} {L L':List (Addr×HO)} {I:List Im} {Q:VK} {l f P:Addr} {ys:List V} {ws:List (Nat×Nat)} {pos:Pos} {qual:Str} {ps:Array Value} {σ:St} {R:Hp→Prop}
theorem GD.st:∀H H',Tst H H'→GD H f→GD H' f:=fun H H' t h=>by
 obtain ⟨a1,a2,a3,a4,a5,a6,a7,a8,a9,a10,a11,a12,a13,a14,a15,a16,a17,a18,a19,a20,e1,e2,r⟩:=h
 exact ⟨a1,a2,a3,a4,a5,a6,a7,a8,a9,a10,a11,a12,a13,a14,a15,a16,a17,a18,a19,a20,t _ _ rfl e1,t _ _ rfl e2,r⟩
end
end L2
namespace L2
open PySem PySem.W PySem.Spec PyProof.Rows
end L2
namespace L2
open PySem PySem.Spec PyProof.Rows PySem.SeqAt
abbrev flD (v:V):PyData:=pyD (jf v)
inductive ThD (H:Hp):V→PyData→Prop
 | flat {v:V} (h:fj v=true) (z:Shm 500 1 (flD v)):ThD H v (flD v)
 | lst {p:Addr} {vs:List V} (e:H p=some (.lst vs)) (h:∀v∈vs,fj v=true) (z:Shm 500 1 (.list (vs.map flD))):ThD H (.ref p) (.list (vs.map flD))
 | tup {p:Addr} {vs:List V} (e:H p=some (.tup vs)) (h:∀v∈vs,fj v=true) (z:Shm 500 1 (.tuple (vs.map flD))):ThD H (.ref p) (.tuple (vs.map flD))
 | dct {p:Addr} (e:H p=some (.dK [])):ThD H (.ref p) (.dict [])
section
variable {H H':Hp} {v:V} {d:PyData} {K:W.Frag}
theorem ThD.kept (h:ThD H v d) (k:∀a u,v=.ref a→H a=some u→H' a=some u):ThD H' v d:=by
 cases h with
 | flat h z=>exact .flat h z
 | lst e h z=>exact .lst (k _ _ rfl e) h z
 | tup e h z=>exact .tup (k _ _ rfl e) h z
 | dct e=>exact .dct (k _ _ rfl e)
theorem ThD.ty (h:ThD H v d):∃n,eF K H v (.type n):=by
 cases h with
 | flat h z =>
  cases v with
  | non=>exact ⟨_,.non⟩
  | bl b=>exact ⟨_,.bl b⟩
  | int i=>exact ⟨_,.int i⟩
  | str x=>exact ⟨_,.str x⟩
  | _=>simp [fj] at h
 | lst e h z=>exact ⟨_,.lst e⟩
 | tup e h z=>exact ⟨_,.tup e⟩
 | dct e=>exact ⟨_,.dK e⟩
end
section
variable {H H0:Hp} {M:List Addr} {L:List (Addr×HO)} {I:List Im} {v:V} {d:PyData} {xs:List V} {ds:List PyData} {x:Str} {i:Int} {b:Bool} {K:W.Frag} {p:Addr} {Q:VK}
instance (priority:=high) YW:Go (rEq (.str x) (.str x) H Q) (Q (.bl true) H):=⟨fun k=>⟨rfl,by simpa using k⟩⟩
end
structure Zp5 (z TI TO i1 i2:Addr):Prop where
 a:TI≠z∧TO≠z∧i1≠z∧i2≠z
 b:TI≠TO∧TI≠i1∧TI≠i2
 c:TO≠i1∧TO≠i2∧i1≠i2
def Itz (K:W.Frag) (a b:Addr) (xs ys:List V):It :=
 ⟨fun i H=>(SqL K H a xs∧SqL K H b ys)∧(i < xs.length∧i < ys.length),fun i H x H'=>∃T u v,x=.ref T∧xs[i]?=some u∧ys[i]?=some v∧New H H' T (.tup [u,v]),fun i H=>(SqL K H a xs∧SqL K H b ys)∧(xs.length≤i∨ys.length≤i)⟩
def aaZ (z TI TO i1 i2 a b:Addr) (i:Nat) (h:Heap):Prop:=IsZip h z TI TO .none∧PySem.IsPair h TI (.ref i1) (.ref i2)∧(∃u v,PySem.IsPair h TO u v)∧h.IsListIter i1 a i∧h.IsListIter i2 b i
section
variable {h:Heap} {z TI TO i1 i2 a b:Addr} {i:Nat}
theorem Cu (D:Zp5 z TI TO i1 i2) (st:aaZ z TI TO i1 i2 a b i h) {xs ys:Array Value} (la:h.IsList a xs) (lb:h.IsList b ys):ZipApart z TI TO i1 i2 a b:=by
 obtain ⟨hz,_,⟨u,v,hTO⟩,⟨o1,g1,c1,_⟩,⟨o2,g2,c2,_⟩⟩:=st
 have far:∀{l:Addr} {vs:Array Value} {c:Addr} {o:Obj} {n:String},h.IsList l vs→h.get? c=some o→o.cls=.type n→n ≠ "list" → l≠c:=fun {l vs c o n} hl hc ho hn e=>by
  obtain ⟨ol,gl,cl,_⟩:=hl
  subst e
  rw [gl] at hc
  cases hc
  rw [cl] at ho
  exact hn (Value.type.inj ho).symm
 exact ⟨D.a.1,D.a.2.1,D.a.2.2.1,D.a.2.2.2,D.b.1,D.b.2.1,D.b.2.2,D.c.1,D.c.2.1,D.c.2.2,
  far la hz rfl (by decide),far la hTO rfl (by decide),far la g1 c1 (by decide),far la g2 c2 (by decide),far lb hz rfl (by decide),far lb hTO rfl (by decide),far lb g1 c1 (by decide),far lb g2 c2 (by decide)⟩
end
theorem Xw (n:Nat):Zp5 (n + 4) (n + 2) (n + 3) n (n + 1):=⟨⟨fun e=>absurd (show (n + 2:Nat)=n + 4 from e) (by lia),fun e=>absurd (show (n + 3:Nat)=n + 4 from e) (by lia),fun e=>absurd (show (n:Nat)=n + 4 from e) (by lia),fun e=>absurd (show (n + 1:Nat)=n + 4 from e) (by lia)⟩,⟨fun e=>absurd (show (n + 2:Nat)=n + 3 from e) (by lia),fun e=>absurd (show (n + 2:Nat)=n from e) (by lia),fun e=>absurd (show (n + 2:Nat)=n + 1 from e) (by lia)⟩,fun e=>absurd (show (n + 3:Nat)=n from e) (by lia),fun e=>absurd (show (n + 3:Nat)=n + 1 from e) (by lia),fun e=>absurd (show (n:Nat)=n + 1 from e) (by lia)⟩
theorem O6 {P:Program} {w:World} {K:W.Frag} {elts:List Expr} {x1} {pos:Pos} (a b z TI TO i1 i2:Addr) (xs ys:List V) (D:Zp5 z TI TO i1 i2) :
  Turn P w K (.Tuple elts x1 pos) (Itz K a b xs ys) [z,TI,TO,i1,i2] z (aaZ z TI TO i1 i2 a b) where
 mem:=by simp
 obj:=fun i h st c hc=>by
  obtain ⟨hz,hI,⟨u,v,hO⟩,⟨o1,g1,_,d1⟩,⟨o2,g2,_,d2⟩⟩:=st
  simp only [List.mem_cons,List.not_mem_nil,or_false] at hc
  rcases hc with rfl | rfl | rfl | rfl | rfl
  ·exact ⟨_,hz,fun v e=>by cases (show Data.fields _=Data.cell v from e)⟩
  ·exact ⟨_,hI,fun v e=>by cases (show Data.seq _ _=Data.cell v from e)⟩
  ·exact ⟨_,hO,fun v e=>by cases (show Data.seq _ _=Data.cell v from e)⟩
  ·exact ⟨o1,g1,fun v e=>by rw [d1] at e;cases e⟩
  ·exact ⟨o2,g2,fun v e=>by rw [d2] at e;cases e⟩
 keep:=fun i h h' st k=>by
  obtain ⟨hz,hI,⟨u,v,hO⟩,g1,g2⟩:=st
  exact ⟨k z (by simp) _ hz,k TI (by simp) _ hI,⟨u,v,k TO (by simp) _ hO⟩,g1.at fun o q=>k i1 (by simp) o q,g2.at fun o q=>k i2 (by simp) o q⟩
 item:=by
  intro X hP hw hK hc i pins s σ H E I hf st hg
  subst hP hw hK
  obtain ⟨⟨qa,qb⟩,ha,hb⟩:=hg
  obtain ⟨us,ru,pu,_⟩:=I.list qa
  obtain ⟨vs,rv,pv,_⟩:=I.list qb
  have DD:=Cu D st pu.isList pv.isList
  obtain ⟨hz,hI,⟨c1,c2,hO⟩,g1,g2⟩:=id st
  have hx:xs[i]?=some xs[i]:=by simp [ha]
  have hy:ys[i]?=some ys[i]:=by simp [hb]
  generalize xs[i]=x at hx
  generalize ys[i]=y at hy
  obtain ⟨u,hu,rx⟩:=ru.get hx
  obtain ⟨v,hv,ry⟩:=rv.get hy
  refine wpAny_pyNext_zip_item DD hz hI hO g1 g2 pu.isList pv.isList (x:=u) (y:=v) (by simpa using hu) (by simpa using hv) fun h1 a1 a2 a3 a4 a5 a6 hk=>?_
  refine ⟨_,rfl,wpAny_letOwnedTupleGo_zip a1 fun h2 he2 hs2=>?_⟩
  have neT:s.heap.objs.size≠z:=Nat.ne_of_gt (Heap.lt_size hz)
  have hT2:=(hs2.2 _ neT).trans a5
  have k2:∀b o,b ∉ [z,TI,TO,i1,i2]→s.heap.get? b=some o→h2.get? b=some o:=fun b o hb q=>by
   simp only [List.mem_cons,List.not_mem_nil,or_false,not_or] at hb
   exact (hs2.2 b hb.1).trans (hk b o hb.1 hb.2.2.1 hb.2.2.2.1 hb.2.2.2.2 q)
  have new:dW X.prog X.w (upd H s.heap.objs.size (.tup [x,y])) h2 s.heap.objs.size (.tup [x,y]) :=
   ⟨by show 2≤sizeLine;decide,[u,v],.cons rx (.cons ry .nil),⟨_,hT2,rfl,_,rfl⟩⟩
  refine ⟨.ref s.heap.objs.size,_,I.ud (t':=s.toks) hf k2 (Nat.le_refl _) new,rfl,⟨_,x,y,rfl,hx,hy,.mk' (I.hok.fresh (Nat.le_refl _))⟩,⟨he2,(hs2.2 TI DD.TIz).trans (hk TI _ DD.TIz DD.TITO DD.TIi1 DD.TIi2 hI),⟨u,v,(hs2.2 TO DD.TOz).trans a2⟩,a3.at fun o q=>(hs2.2 i1 DD.i1z).trans q,a4.at fun o q=>(hs2.2 i2 DD.i2z).trans q⟩,fun b hb=>?_⟩
  have hbn:=(hf b hb).1
  have hb':b < s.heap.objs.size:=by
   obtain ⟨o1,q1,_⟩:=g1
   obtain ⟨o2,q2,_⟩:=g2
   simp only [List.mem_cons,List.not_mem_nil,or_false] at hb
   rcases hb with rfl | rfl | rfl | rfl | rfl
   ·exact Heap.lt_size hz
   ·exact Heap.lt_size hI
   ·exact Heap.lt_size hO
   ·exact Heap.lt_size q1
   ·exact Heap.lt_size q2
  rw [bW (Nat.ne_of_lt hb')]
  exact hbn
 done:=by
  intro X hP hw hK hc i pins s σ H E I hf st hg
  subst hP hw hK
  obtain ⟨⟨qa,qb⟩,hle⟩:=hg
  obtain ⟨us,ru,pu,_⟩:=I.list qa
  obtain ⟨vs,rv,pv,_⟩:=I.list qb
  have DD:=Cu D st pu.isList pv.isList
  obtain ⟨hz,hI,⟨c1,c2,hO⟩,g1,g2⟩:=id st
  have l1:=ru.length
  have l2:=rv.length
  refine wpAny_pyNext_zip_end (I.ok.hd hc) DD hz hI hO g1 g2 pu.isList pv.isList (by simp;lia) fun h' eb=>⟨rfl,I.zQ (t':=s.toks) (ch:=[z,TI,TO,i1,i2]) hf fun b o hb q=>?_⟩
  simp only [List.mem_cons,List.not_mem_nil,or_false,not_or] at hb
  exact eb b o hb.1 hb.2.2.1 hb.2.2.2.1 hb.2.2.2.2 q
 self:=fun _ _ _ _ _ st h=>wpAny_pyIter_zip st.1 h
theorem boot_zip:bootBuiltins "zip" = some (.type "zip"):=by decide +kernel
def aa0 (K:W.Frag) (ta:TA):TI:=fun σ H R=>ta σ H fun vs H1=>∃a b xs ys,vs=[.ref a,.ref b]∧SqL K H1 a xs∧SqL K H1 b ys∧R (Itz K a b xs ys) H1
theorem O7 {X:Cx} {elts:List Expr} {x1} {tpos:Pos} {a b:Expr} {ta:TA} {p pos:Pos} (hg:Gl X "zip") (hm:X.mg "zip" = none) (ha:PA X [a,b] ta) (hs:starEach [a,b] X.env=[(false,eval a X.env),(false,eval b X.env)]:=by rfl) (hs2:starEach [b] X.env=[(false,eval b X.env)]:=by rfl) :
  PI X (.Tuple elts x1 tpos) (.Call (.Name "zip" p) [a,b] [] pos) (aa0 X.K ta):=by
 intro pins s σ H R I h
 refine Call_ (iy I hg hm boot_zip (PyProof.Rows.callWith_type1 (thn (ha pos pins s σ H _ I h) fun us s1 ⟨vs,H1,I1,r1,q1⟩=>?_) (by rw [hs,hs2]) (by rw [hs2];rfl)))
 obtain ⟨l,m,xs,ys,e,hq,hq2,q⟩:=q1
 subst e
 obtain ⟨u,v,rfl,r,r2⟩:=vals2 r1
 cases r
 cases r2
 obtain ⟨its,rv,pl,hz⟩:=I1.list hq
 obtain ⟨its2,rv2,pl2,hz2⟩:=I1.list hq2
 refine call_zip_2 pl.isList pl2.isList fun h' b1 b2 b3 b4 b5 hsz hk=>?_
 have I2:Inv X pins σ H1 { s1 with heap:=h' }:=I1.kept (t':=s1.toks) hk
 refine wpAny_pyIter_zip b1 ?_
 refine ⟨s1.heap.objs.size + 4,[s1.heap.objs.size + 4,s1.heap.objs.size + 2,s1.heap.objs.size + 3,s1.heap.objs.size,s1.heap.objs.size + 1],_,Itz X.K l m xs ys,H1,rfl,I2,O6 l m (s1.heap.objs.size + 4) (s1.heap.objs.size + 2) (s1.heap.objs.size + 3) s1.heap.objs.size (s1.heap.objs.size + 1) xs ys (Xw _),⟨b1,b2,⟨_,_,b3⟩,b4,b5⟩,fun b hb=>?_,q⟩
 have hb':s1.heap.objs.size≤b:=by
  simp only [List.mem_cons,List.not_mem_nil,or_false] at hb
  rcases hb with rfl | rfl | rfl | rfl | rfl
  ·exact Nat.le_add_right _ _
  ·exact Nat.le_add_right _ _
  ·exact Nat.le_add_right _ _
  ·exact Nat.le_refl _
  ·exact Nat.le_add_right _ _
 exact I1.Fz hb' (I1.hok.fresh hb')
def TX (K:PySem.W.Frag) (a b:Addr) (xs ys:List V) (g:TG) (tb:TS) (D:Ends) (σ:St) (H:Hp):Prop :=
  ∃W:Nat→Nat→St→Hp→Prop,(∃m,W 0 m σ H)∧∀i m σ H,W i m σ H →
   ((Itz K a b xs ys).stop i H∧D.nx σ H)∨((Itz K a b xs ys).go i H∧∃N:St→Hp→Prop,(∀σ' H',N σ' H'→∃m',m' < m∧W (i + 1) m' σ' H')∧∀x H',(Itz K a b xs ys).yld i H x H'→g x σ H' fun σ2 H2=>tb { D with nx:=N,ct:=N,bk:=D.nx } σ2 H2)
theorem Iu {K:W.Frag} {a b:Addr} {xs ys:List V} {g:TG} {tb:TS} {D:Ends} {σ:St} {H:Hp} (hlen:xs.length=ys.length) (Pv:Nat→St→Hp→Prop) (h0:Pv 0 σ H) (hl:∀i σ H,i≤xs.length→Pv i σ H→SqL K H a xs∧SqL K H b ys)
  (hs:∀i x y T σ H H',xs[i]?=some x→ys[i]?=some y→Pv i σ H→New H H' T (.tup [x,y])→g (.ref T) σ H' fun σ2 H2=>tb { D with nx:=Pv (i + 1),ct:=Pv (i + 1),bk:=D.nx } σ2 H2) (hd:∀σ H,Pv xs.length σ H→D.nx σ H) :
  TX K a b xs ys g tb D σ H:=by
 refine ⟨fun i m σ H=>m=xs.length - i∧i≤xs.length∧Pv i σ H,⟨xs.length,by simp,Nat.zero_le _,h0⟩,?_⟩
 rintro i m σ H ⟨rfl,hi,p⟩
 have q:=hl i σ H hi p
 by_cases hlt:i < xs.length
 ·refine .inr ⟨⟨q,hlt,by lia⟩,Pv (i + 1),fun σ' H' p'=>⟨xs.length - (i + 1),by lia,rfl,hlt,p'⟩,fun x H' y=>?_⟩
  obtain ⟨T,u,v,rfl,hu,hv,n⟩:=y
  exact hs i u v T σ H H' hu hv p n
 ·have e:i=xs.length:=by lia
  subst e
  exact .inl ⟨⟨q,.inl (Nat.le_refl _)⟩,hd σ H p⟩
section
variable {K:W.Frag} {g:TG} {tb:TS} {D:Ends} {σ:St} {H:Hp} {tr:TA} {a b:Addr} {xs ys:List V}
instance acG:Go (tM (aa0 K tr) g tb D σ H) (tr σ H fun vs H1=>∃a b xs ys,vs=[.ref a,.ref b]∧SqL K H1 a xs∧SqL K H1 b ys∧TX K a b xs ys g tb D σ H1):=⟨fun h=>h⟩
instance aev [h:SqA K H a xs] [h2:SqA K H b ys]:Go (∃a' b' xs' ys',[V.ref a,V.ref b]=[.ref a',.ref b']∧SqL K H a' xs'∧SqL K H b' ys'∧TX K a' b' xs' ys' g tb D σ H) (TX K a b xs ys g tb D σ H):=⟨fun k=>⟨a,b,xs,ys,rfl,h.e,h2.e,k⟩⟩
end
end L2
set_option maxHeartbeats 400000
namespace L2
open PySem PySem.Spec PyProof.Rows PySem.SeqAt
end L2
set_option maxHeartbeats 1000000
namespace L2
open PySem PySem.Spec PyProof.Rows PySem.SeqAt
theorem lE {X:Cx} {K:W.Frag} {e st:Expr} {te ts:TE} {pos p2:Pos} (hK:X.K=K) (he:PE X e te) (hst:PE X st ts):PE X (.Subscript e (.Slice none none (some st) p2) pos) (zT K te ts):=by
 subst hK
 exact Oc he hst
mutual
def TrH (H:Hp):Dt→V→Prop
 | .non,v=>v=.non
 | .bl b,v=>v=.bl b
 | .int i,v=>v=.int i
 | .str x,v=>v=.str x
 | .lst ds,v=>∃p xs,v=.ref p∧H p=some (.lst xs)∧dw H ds xs
 | .tup ds,v=>∃p xs,v=.ref p∧H p=some (.tup xs)∧dw H ds xs
def dw (H:Hp):List Dt→List V→Prop
 | [],xs=>xs=[]
 | d::ds,xs=>∃x r,xs=x::r∧TrH H d x∧dw H ds r
end
mutual
theorem TrH.same {H H':Hp} (s:Same H H'):∀{d:Dt} {v:V},TrH H d v→TrH H' d v
 | .non,v,h=>h
 | .bl _,v,h=>h
 | .int _,v,h=>h
 | .str _,v,h=>h
 | .lst ds,v,h=>by
  simp only [TrH] at h ⊢
  obtain ⟨p,xs,e,hp,hs⟩:=h
  exact ⟨p,xs,e,s _ _ hp,dw.same s hs⟩
 | .tup ds,v,h=>by
  simp only [TrH] at h ⊢
  obtain ⟨p,xs,e,hp,hs⟩:=h
  exact ⟨p,xs,e,s _ _ hp,dw.same s hs⟩
theorem dw.same {H H':Hp} (s:Same H H'):∀{ds:List Dt} {xs:List V},dw H ds xs→dw H' ds xs
 | [],xs,h=>h
 | d::ds,xs,h=>by
  simp only [dw] at h ⊢
  obtain ⟨x,r,e,h1,h2⟩:=h
  exact ⟨x,r,e,TrH.same s h1,dw.same s h2⟩
end
theorem dw.len {H:Hp}:∀{ds:List Dt} {xs:List V},dw H ds xs→xs.length=ds.length
 | [],xs,h=>by simp only [dw] at h;rw [h];rfl
 | d::ds,xs,h=>by
  simp only [dw] at h
  obtain ⟨x,r,rfl,h1,h2⟩:=h
  rw [List.length_cons,List.length_cons,h2.len]
theorem dw.at {H:Hp}:∀{ds:List Dt} {xs:List V},dw H ds xs→∀{i:Nat} {v:V},xs[i]?=some v→∃d,ds[i]?=some d∧TrH H d v
 | [],xs,h,i,v,e=>by simp only [dw] at h;rw [h] at e;cases e
 | d::ds,xs,h,i,v,e=>by
  simp only [dw] at h
  obtain ⟨x,r,rfl,h1,h2⟩:=h
  cases i with
  | zero=>cases e;exact ⟨d,rfl,h1⟩
  | succ i=>exact h2.at (i:=i) e
theorem dw.of {H:Hp}:∀{ds:List Dt} {xs:List V},xs.length=ds.length→(∀(i:Nat) (v:V),xs[i]?=some v→∃d,ds[i]?=some d∧TrH H d v)→dw H ds xs
 | [],xs,hl,_=>by simp only [dw];exact List.eq_nil_of_length_eq_zero hl
 | d::ds,[],hl,_=>by cases hl
 | d::ds,x::r,hl,h=>by
  simp only [dw]
  refine ⟨x,r,rfl,?_,dw.of (by simpa using hl) fun i v e=>h (i + 1) v e⟩
  obtain ⟨d',e,t⟩:=h 0 x rfl
  cases e
  exact t
mutual
def Xx:Dt→Prop
 | .lst ds=>ds.length≤1000∧O8 ds
 | .tup ds=>ds.length≤1000∧O8 ds
 | _=>True
def O8:List Dt→Prop
 | []=>True
 | d::ds=>Xx d∧O8 ds
end
def hides (B:List Addr) (H:Hp):Hp:=fun a=>if a∈B then none else H a
def Al (H:Hp) (B:List Addr):Prop:=∀b∈B,∃xs,H b=some (.lst xs)
theorem ux {B:List Addr} {H:Hp} {a:Addr} {u:HO}:hides B H a=some u ↔ a ∉ B∧H a=some u:=by
 unfold hides
 by_cases h:a∈B
 ·rw [if_pos h]
  constructor
  ·intro z
   cases z
  ·intro z
   exact absurd h z.1
 ·rw [if_neg h]
  exact ⟨fun z=>⟨h,z⟩,fun z=>z.2⟩
theorem eN {B:List Addr} {H H':Hp} (o:∀a u,a ∉ B→H a=some u→H' a=some u):Same (hides B H) (hides B H'):=fun a u e=>by
 rw [ux] at e ⊢
 exact ⟨e.1,o a u e.1 e.2⟩
theorem dN {B:List Addr} {H H':Hp} (s:Same H H'):Same (hides B H) (hides B H'):=eN fun a u _ e=>s a u e
theorem fH {B:List Addr} {H:Hp}:Same (hides B H) H:=fun a u e=>(ux.mp e).2
theorem Al.same {H H':Hp} {B:List Addr} (h:Al H B) (s:Same H H'):Al H' B:=fun b hb=>(h b hb).imp fun u e=>s _ _ e
section
variable {H:Hp} {ds es:List Dt} {xs ys:List V}
theorem dw.append:∀{ds:List Dt} {xs:List V},dw H ds xs→dw H es ys→dw H (ds++es) (xs++ys)
 | [],xs,h,h2=>by simp only [dw] at h;rw [h];exact h2
 | d::ds,xs,h,h2=>by
  simp only [dw] at h
  obtain ⟨x,r,rfl,a,b⟩:=h
  simp only [List.cons_append,dw]
  exact ⟨x,r++ys,rfl,a,b.append h2⟩
theorem dw.take (h:dw H ds xs) (n:Nat):dw H (ds.take n) (xs.take n):=dw.of (by rw [List.length_take,List.length_take,h.len]) fun i v e=>by
 rw [List.getElem?_take] at e ⊢
 by_cases hi:i < n
 ·rw [if_pos hi] at e ⊢
  exact h.at e
 ·rw [if_neg hi] at e
  cases e
theorem dw.drop (h:dw H ds xs) (n:Nat):dw H (ds.drop n) (xs.drop n):=dw.of (by rw [List.length_drop,List.length_drop,h.len]) fun i v e=>by
 rw [List.getElem?_drop] at e ⊢
 exact h.at e
theorem dw.rev (h:dw H ds xs):dw H ds.reverse xs.reverse:=dw.of (by rw [List.length_reverse,List.length_reverse,h.len]) fun i v e=>by
 have hi:=(List.getElem?_eq_some_iff.mp e).1
 rw [List.length_reverse] at hi
 have hl:=h.len
 rw [List.getElem?_reverse hi] at e
 rw [List.getElem?_reverse (by lia)]
 rw [hl] at e
 exact h.at e
theorem dw.one {d:Dt} {v:V} (h:TrH H d v):dw H [d] [v]:=by
 simp only [dw]
 exact ⟨v,[],rfl,h,rfl⟩
theorem TrH.flat {v:V} (h:fj v=true):TrH H (jf v) v:=by
 cases v <;> simp [fj] at h <;> simp [jf,TrH]
theorem TrH.lst {p:Addr} (h:H p=some (.lst xs)) (t:dw H ds xs):TrH H (.lst ds) (.ref p):=by
 simp only [TrH]
 exact ⟨p,xs,rfl,h,t⟩
theorem TrH.tup {p:Addr} (h:H p=some (.tup xs)) (t:dw H ds xs):TrH H (.tup ds) (.ref p):=by
 simp only [TrH]
 exact ⟨p,xs,rfl,h,t⟩
end
def Sm (n:Nat) (ds:List Dt):Prop:=∀d∈ds,gk d≤n∧Xx d
theorem Sm.append {n:Nat} {ds es:List Dt} (h:Sm n ds) (h2:Sm n es):Sm n (ds++es):=fun d hd=>(List.mem_append.mp hd).elim (h d) (h2 d)
theorem Sm.take {n:Nat} {ds:List Dt} (h:Sm n ds) (k:Nat):Sm n (ds.take k):=fun d hd=>h d (List.mem_of_mem_take hd)
theorem Sm.drop {n:Nat} {ds:List Dt} (h:Sm n ds) (k:Nat):Sm n (ds.drop k):=fun d hd=>h d (List.mem_of_mem_drop hd)
theorem Sm.rev {n:Nat} {ds:List Dt} (h:Sm n ds):Sm n ds.reverse:=fun d hd=>h d (List.mem_reverse.mp hd)
theorem Sm.one {n:Nat} {d:Dt} (h:gk d≤n) (w:Xx d):Sm n [d]:=fun e he=>by rw [List.mem_singleton.mp he];exact ⟨h,w⟩
end L2
set_option maxHeartbeats 4000000
namespace L2
open PySem PySem.Spec PyProof.Rows PySem.SeqAt
section
variable {X:Cx}
theorem K_ (l:Addr) (its:List Value) (n:Nat) (j:Int) (t:Tok) (u:Value) (h1:0≤j) (h2:j≤its.length) (hz:its.length < 1000000):∃S:PySem.Spec,Meets (Builtin.«list.insert» ⟨[.ref l,.int j t,u],[]⟩) S∧∀A R s,s.heap.get? l=some { cls:=.type "list", data:=.seq its.toArray n }→(∀f:Array Value→Array Value,f its.toArray=(its.take j.toNat++u::its.drop j.toNat).toArray→R (.ok (.ret Value.none)) { s with heap:=s.heap.update l (Obj.mapSeq f),toks:=s.toks })→S A R s:=by
 have sz:sizeLine ≥ 1000000 + 1:=by rw [sizeLine_eq];lia
 have hfit:¬ (!Builtin.List.listFitsIndex j)=true:=by
  have h3:(-(2 ^ 63:Int))≤j:=by lia
  have h4:j < 2 ^ 63:=by lia
  rw [show Builtin.List.listFitsIndex j=true from by unfold Builtin.List.listFitsIndex;rw [Bool.and_eq_true];exact ⟨decide_eq_true h3,decide_eq_true h4⟩]
  decide
 have hsz:its.toArray.size≤sizeLine:=by rw [List.size_toArray];lia
 refine ⟨_,@PySem.AutoListH.list_insert_list_int_val_1 l its.toArray n j t u hfit hsz,fun A R s e k=>⟨e,k _ ?_⟩⟩
 have hm:min j.toNat its.toArray.size=j.toNat:=by rw [List.size_toArray];lia
 show (its.toArray.extract 0 (if j < 0 then _ else min j.toNat its.toArray.size)).push u++its.toArray.extract (if j < 0 then _ else min j.toNat its.toArray.size)=_
 rw [if_neg (by lia),hm]
 apply Array.ext'
 simp
 exact List.take_of_length_le (by rw [List.length_drop];lia)
def Vi:V→List V→Hp→VK→Prop:=fun x vs H Q=>∃(l:Addr) (xs:List V) (j:Int) (y:V),x=.ref l∧vs=[.int j,y]∧H l=some (.lst xs)∧(0≤j∧j≤xs.length∧xs.length < 1000000)∧∀H',Off l H H'→H' l=some (.lst (xs.take j.toNat++y::xs.drop j.toNat))→Q .non H'
theorem TY:MtM X "list.insert" Vi:=by
 intro pins s σ H x vs v us Q I rx rv h
 obtain ⟨l,xs,j,y,rfl,rfl,hH,⟨hj0,hj1,hz⟩,q⟩:=h
 cases rx
 obtain ⟨u1,u2,rfl,r1,r2⟩:=vals2 rv
 obtain ⟨t,rfl⟩:=r1
 obtain ⟨z,its,n,r,hl,e⟩:=I.zN hH
 have sz:sizeLine ≥ 1000000 + 1:=by rw [sizeLine_eq];lia
 obtain ⟨S,mm,hS⟩:=K_ l its n j t u2 hj0 (by lia) (by lia)
 refine call_meets (S:=S) F.slot_list_insert ⟨_,e,rfl⟩ F.entry_list_insert (F.args_list_insert_3 _ _ _) mm (hS _ _ _ e fun f hf=>?_)
 refine ⟨.non,_,I.R3 (ys:=xs.take j.toNat++y::xs.drop j.toNat) hH e hf ((r.take j.toNat).append (.cons r2 (r.drop j.toNat))) ?_,rfl,q _ Off.upd cB⟩
 simp only [List.length_append,List.length_cons,List.length_take,List.length_drop]
 lia
theorem T3 {o e1 e2:Expr} {to te1 te2:TE} {apos cpos:Pos} (ho:PE X o to) (h1:PE X e1 te1) (h2:PE X e2 te2) (hbase:attributeBase o "insert" X.env (eval o X.env)=eval o X.env:=by rfl)
  (hfew:((backTo cpos (starEach [e1,e2] X.env)).all (fun x=>!x.1) && (backToKw cpos (keywordEach [] X.env)).all (fun x=>x.1.isSome)
   && decide (([e1,e2]:List Expr).length + ([]:List Keyword).length + (if ([]:List Keyword).isEmpty then 0 else 1) < 30))=true:=by rfl)
  (hline:(apos.endLine == cpos.line)=true:=by rfl) (hs:starEach [e1,e2] X.env=(false,eval e1 X.env)::starEach [e2] X.env:=by rfl) (hs2:starEach [e2] X.env=(false,eval e2 X.env)::starEach [] X.env:=by rfl) (hp:(backTo cpos (starEach [e2] X.env)).any (·.1)=false:=by rfl) :
  PE X (.Call (.Attribute o "insert" apos) [e1,e2] [] cpos) (tBM X.K "list" Vi to (jV te1 (jV te2 rO))) :=
 wW PySem.F.plainAttrs_list PySem.F.slot_list_insert PySem.F.type_list_insert TY ho (aj h1 (aj h2 aq hs2) hs) hbase hfew hline hs hp
end
end L2
namespace L2
open PySem PySem.W PySem.Spec PyProof.Rows
end L2
namespace L2
open PySem PySem.Spec PyProof.Rows PySem.SeqAt
section
variable {X:Cx} {K:W.Frag} {H:Hp} {Q:VK} {p l:Addr} {nms:List (List Nat)} {cs:List Nat}
theorem Iw:∀{xs:List V} {us:List Value} (r:Vals xs us) {i:Nat} (hi:i < us.length) (hj:i < xs.length),RelV xs[i] us[i]
 | _,_,.nil,_,hi,_=>by simp at hi
 | _::_,_::_,.cons r _,0,_,_=>r
 | _::_,_::_,.cons _ t,i + 1,hi,hj=>by
  simp only [List.getElem_cons_succ]
  exact Iw t (by simpa using hi) (by simpa using hj)
def Xy:V→List V→Hp→VK→Prop:=fun x vs H Q=>∃(l:Addr) (xs:List V) (v:V) (j:Nat),x=.ref l∧vs=[v]∧H l=some (.lst xs)∧mF v=true∧xs.all mF=true∧(∃y,xs[j]?=some y∧eqV y v=true)∧(∀i y,i < j→xs[i]?=some y→eqV y v=false)∧Q (.int (j:Nat)) H
theorem Xz:MtM X "list.index" Xy:=by
 intro pins s σ H x vs v us Q I rx rv h
 obtain ⟨l,xs,y,j,rfl,rfl,hH,fy,fs,⟨w,hw,ew⟩,hno,q⟩:=h
 cases rx
 obtain ⟨u,rfl,ry⟩:=vals1 rv
 obtain ⟨z,its,n,r,hl,e⟩:=I.zN hH
 have hlen:=r.length
 obtain ⟨hj,e2⟩:=List.getElem?_eq_some_iff.mp hw
 rw [sizeLine_eq] at z
 have one:∀i (hi:i < its.length) (hx:i < xs.length),eqU y its[i]=eqV xs[i] y:=fun i hi hx=>Gg (Iw r hi hx) (List.all_eq_true.mp fs _ (List.getElem_mem hx))
 refine call_meets PySem.F.slot_list_index ⟨_,e,rfl⟩ PySem.F.entry_list_index (PySem.F.args_list_index_2 _ _) (list_indexAt l its.toArray n _ _ u (eqU y) j (by rw [List.size_toArray];lia) (by lia) ?_ ?_) ⟨e,fun a ha=>nA ry fy r fs a (by simpa using ha),?_⟩
 ·show eqU y its[j]=true
  rw [one j (by lia) hj,e2]
  exact ew
 ·intro m hm hlt
  show eqU y its[m]=false
  rw [List.size_toArray] at hm
  rw [one m hm (by lia)]
  exact hno m _ hlt (List.getElem?_eq_getElem (by lia))
 ·exact ⟨.int (j:Nat),H,I.tok _,⟨_,rfl⟩,q⟩
theorem XC {o e1:Expr} {to te1:TE} {apos cpos:Pos} (ho:PE X o to) (h1:PE X e1 te1) (hbase:attributeBase o "index" X.env (eval o X.env)=eval o X.env:=by rfl)
  (hfew:((backTo cpos (starEach [e1] X.env)).all (fun x=>!x.1) && (backToKw cpos (keywordEach [] X.env)).all (fun x=>x.1.isSome)
   && decide (([e1]:List Expr).length + ([]:List Keyword).length + (if ([]:List Keyword).isEmpty then 0 else 1) < 30))=true:=by rfl)
  (hline:(apos.endLine == cpos.line)=true:=by rfl) (hs:starEach [e1] X.env=(false,eval e1 X.env)::starEach [] X.env:=by rfl) (hp:(backTo cpos (starEach [] X.env)).any (·.1)=false:=by rfl) :
  PE X (.Call (.Attribute o "index" apos) [e1] [] cpos) (tBM X.K "list" Xy to (jV te1 rO)) :=
 wW PySem.F.plainAttrs_list PySem.F.slot_list_index PySem.F.type_list_index Xz ho (aj h1 aq hs) hbase hfew hline hs hp
theorem XD {a b:List Nat}:eqV (.str (tx b)) (.str (tx a))=decide (a=b):=by
 by_cases h:a=b
 ·subst h
  simp [eqV]
 ·rw [decide_eq_false h]
  have:tx b≠tx a:=fun z=>h (p8 z).symm
  simp [eqV,this]
class aa1 (nms:List (List Nat)) (cs:List Nat) (j:outParam Nat):Prop where
 a:nms[j]?=some cs
 n:nms.Nodup
instance acH {j:Nat} [h:Hat H l (.lst (nms.map fun cs=>V.str (tx cs)))] [a:aa1 nms cs j]:Go (Xy (.ref l) [.str (tx cs)] H Q) (Q (.int (j:Nat)) H):=⟨fun k=>⟨l,_,_,j,rfl,rfl,h.e,rfl,List.all_eq_true.mpr (fun z hz=>by obtain ⟨b,_,rfl⟩:=List.mem_map.mp hz;rfl),⟨.str (tx cs),by rw [List.getElem?_map,a.a];rfl,by simp [eqV]⟩,fun i y hi hy=>by
 rw [List.getElem?_map] at hy
 cases e:nms[i]? with
 | none=>rw [e] at hy;cases hy
 | some b =>
  rw [e] at hy
  cases hy
  show eqV (.str (tx b)) (.str (tx cs))=false
  rw [XD,decide_eq_false]
  intro z
  subst z
  obtain ⟨h1,e1⟩:=List.getElem?_eq_some_iff.mp a.a
  obtain ⟨h2,e2⟩:=List.getElem?_eq_some_iff.mp e
  exact List.pairwise_iff_getElem.mp a.n i j h2 h1 hi (e2.trans e1.symm),k⟩⟩
end
end L2
namespace L2
open PySem PySem.Spec PyProof.Rows
section
variable {X:Cx} {pins:List (Addr×Obj)} {σ:St} {H:Hp} {s:Shared} {b:Addr}
theorem jl.to {H':Hp} (f:jl X pins H b) (h:H' b=none):jl X pins H' b:=⟨h,f.2⟩
end
theorem aJ.rev {H:Hp} {ys:List V} {rows:List (List V)} (h:aJ H ys rows):aJ H ys.reverse rows.reverse:=by
 refine ⟨by rw [List.length_reverse,List.length_reverse,h.1],fun j r e=>?_⟩
 have hj:j < rows.length:=by have:=(List.getElem?_eq_some_iff.mp e).1;rwa [List.length_reverse] at this
 rw [List.getElem?_reverse hj] at e
 obtain ⟨q,a,b⟩:=h.2 _ _ e
 exact ⟨q,by rw [List.getElem?_reverse (by rw [h.1];exact hj),h.1];exact a,b⟩
theorem aJ.app {H:Hp} {ys zs:List V} {r1 r2:List (List V)} (h:aJ H ys r1) (g:aJ H zs r2):aJ H (ys++zs) (r1++r2):=by
 refine ⟨by rw [List.length_append,List.length_append,h.1,g.1],fun j r e=>?_⟩
 by_cases hj:j < r1.length
 ·rw [List.getElem?_append_left hj] at e
  obtain ⟨q,a,b⟩:=h.2 _ _ e
  exact ⟨q,by rw [List.getElem?_append_left (by rw [h.1];exact hj)];exact a,b⟩
 ·rw [List.getElem?_append_right (by lia)] at e
  obtain ⟨q,a,b⟩:=g.2 _ _ e
  exact ⟨q,by rw [List.getElem?_append_right (by rw [h.1];lia),h.1];exact a,b⟩
end L2
set_option maxHeartbeats 1000000
namespace L2
open PySem PySem.Spec PyProof.Rows
section
variable {P:List Value→Prop}
theorem el1 (h:∀a,P [a]):∀us:List Value,us.length=1→P us
 | [a],_=>h a
theorem el2 (h:∀a b,P [a,b]):∀us:List Value,us.length=2→P us
 | [a,b],_=>h a b
theorem el3 (h:∀a b c,P [a,b,c]):∀us:List Value,us.length=3→P us
 | [a,b,c],_=>h a b c
theorem el4 (h:∀a b c d,P [a,b,c,d]):∀us:List Value,us.length=4→P us
 | [a,b,c,d],_=>h a b c d
theorem el5 (h:∀a b c d e,P [a,b,c,d,e]):∀us:List Value,us.length=5→P us
 | [a,b,c,d,e],_=>h a b c d e
end
class ImI (f:Im) (I:List Im):Prop where
 m:f∈I
class SbI (I' I:List Im):Prop where
 s:∀f∈I',f∈I
section
variable {f g:Im} {I I':List Im}
instance afu [h:ImI f I]:ImI f (g::I):=⟨List.mem_cons_of_mem _ h.m⟩
instance afv:ImI f (f::I):=⟨List.mem_cons_self⟩
instance afw:SbI [] I:=⟨fun _ h=>absurd h List.not_mem_nil⟩
instance afx [h:ImI f I] [t:SbI I' I]:SbI (f::I') I:=⟨fun g hg=>(List.mem_cons.mp hg).elim (fun e=>e▸h.m) (t.s g)⟩
end
end L2
set_option maxHeartbeats 4000000
namespace L2
open PySem PySem.Spec PyProof.Rows
def eV (rs:List (List Int)):Nat→Nat
 | 0=>0
 | j + 1=>if HT.lexLt (rs.getD (j + 1) []) (rs.getD (eV rs j) [])=true then j + 1 else eV rs j
theorem sE (rs:List (List Int)):∀j,eV rs j≤j
 | 0=>Nat.le_refl _
 | j + 1=>by
  have:=sE rs j
  unfold eV
  split <;> lia
section
variable {X:Cx}
def Cv (h:Heap) (qa:Nat→Addr) (rs:List (List Int)):Prop:=∀i,i < rs.length→∃its:Array Value,IsTup h (qa i) its∧IntsAre its.toList (rs.getD i [])
section
variable {P:Program} {w:World} {A:Around} {R:Result→Shared→Prop} {it:Addr} {fp wr:List Addr} {rs:List (List Int)} {qa:Nat→Addr} {V0:Nat→Value→Prop} {St0:Nat→Heap→Prop} {kw:List (Str×Value)}
theorem La (W:Walks P w A.in1 it fp wr rs.length V0 St0) (hv:∀i v,V0 i v→v=.ref (qa i)) (B:Addr) (hB:B ∉ fp) (hu:A.in1.units < cLine) (nq:∀i,i < rs.length→qa i ∉ wr∧qa i≠B) (left:Nat) :
  ∀(j:Nat) (s:Shared) (c:Nat),j + 1 + left=rs.length→St0 (j + 1) s.heap→Cv s.heap qa rs→s.heap.get? B=some (Ij #[.ref (qa (eV rs j)),.ref (qa (eV rs j))] c) →
  (∀h' tk,(∀b ob,b ∉ wr→b≠B→s.heap.get? b=some ob→h'.get? b=some ob)→R (.ok (.ret (.ref (qa (eV rs (rs.length - 1)))))) { s with heap:=h',toks:=tk }) →
  codeAny (model P w) A (.builtin "min.loop" ⟨[.ref it,.none,.ref B],kw⟩) R s:=by
 have hBw:B ∉ wr:=fun z=>hB (W.sub _ z)
 have keep:∀{h h1:Heap},Cv h qa rs→(∀b ob,b ∉ wr→b≠B→h.get? b=some ob→h1.get? b=some ob)→Cv h1 qa rs:=fun t k i hi=>by
  obtain ⟨its,⟨o,e,r⟩,z⟩:=t i hi
  exact ⟨its,⟨o,k _ _ (nq i hi).1 (nq i hi).2 e,r⟩,z⟩
 induction left with
 | zero =>
  intro j s c hj st tt hb k
  have ej:j + 1=rs.length:=by lia
  refine codeAny_builtin F.entry_min_loop ?_
  rw [Around.under_plainId F.plain_min_loop _]
  show wpAny _ _ (seqItems? (Value.ref B) >>= _) _ _ _
  refine wpAny_bind (wpAny_seqItems hb rfl ?_)
  show wpAny _ _ (tryCatch (pyNext (Value.ref it)) _ >>= _) _ _ _
  rw [ej] at st
  refine wpAny_bind (wpAny_tryCatch (W.done s _ _ st fun h1 tk1 k1=>?_))
  have hb1:=k1 B _ hBw hb
  show wpAny _ _ (updateSeq B _ >>= _) _ _ _
  refine wpAny_bind (wpAny_updateSeq hb1 rfl (wpAny_bind (wpAny_letGo (wpAny_pure ?_))))
  have e2:rs.length - 1=j:=by lia
  rw [e2] at k
  exact k _ _ fun b ob n1 n2 q=>(Heap.get?_update_other _ _ (fun z=>n2 z.symm)).trans (k1 b ob n1 q)
 | succ left ih =>
  intro j s c hj st tt hb k
  have hlt:j + 1 < rs.length:=by lia
  refine codeAny_builtin F.entry_min_loop ?_
  rw [Around.under_plainId F.plain_min_loop _]
  show wpAny _ _ (seqItems? (Value.ref B) >>= _) _ _ _
  refine wpAny_bind (wpAny_seqItems hb rfl ?_)
  show wpAny _ _ (tryCatch (pyNext (Value.ref it)) _ >>= _) _ _ _
  refine wpAny_bind (wpAny_tryCatch (W.item (j + 1) s _ _ hlt st fun v h1 tk1 pv st1 k1=>?_))
  obtain rfl:=hv (j + 1) v pv
  have hb1:=k1 B _ hBw hb
  have t1:Cv h1 qa rs:=keep tt fun b ob n1 _ q=>k1 b ob n1 q
  obtain ⟨a1,p1,i1⟩:=t1 (j + 1) hlt
  obtain ⟨a2,p2,i2⟩:=t1 (eV rs j) (by have:=sE rs j;lia)
  show wpAny _ _ (tryCatch (holding _ (richCompare .Lt _ _ >>= _)) _ >>= _) _ _ _
  refine wpAny_bind (wpAny_tryCatch (wpAny_holding (wpAny_bind (HT.Ge p1 p2 i1 i2 hu ?_))))
  refine wpAny_bind (wpAny_holding (wpAny_truthy_bool ?_))
  refine wpAny_bind (wpAny_letGo (wpAny_pure ?_))
  have hs:(toString "min" ++ toString ".loop" : String) = "min.loop" := by decide
  by_cases hg:HT.lexLt (rs.getD (j + 1) []) (rs.getD (eV rs j) [])=true
  ·rw [hg]
   simp only [if_true]
   have e:eV rs (j + 1)=j + 1:=by show (if _ then _ else _)=_;rw [if_pos hg]
   refine wpAny_bind (wpAny_updateSeq hb1 rfl (wpAny_bind (wpAny_letGo ?_)))
   rw [hs]
   refine wpAny_pure ⟨plainId_quiet F.plain_min_loop _,ih (j + 1) _ _ (by lia) (W.frame _ _ _ st1 fun b hbf ob q=>?_) (keep t1 fun b ob _ n2 q=>(Heap.get?_update_other _ _ (fun z=>n2 z.symm)).trans q) (by rw [e];exact Heap.get?_update_self _ hb1 rfl) fun h2 tk2 k2=>?_⟩
   ·exact (Heap.get?_update_other _ _ (fun z=>hB (by rw [z];exact hbf))).trans q
   ·exact k h2 tk2 fun b ob n1 n2 q=>k2 b ob n1 n2 ((Heap.get?_update_other _ _ (fun z=>n2 z.symm)).trans (k1 b ob n1 q))
  ·have hg:HT.lexLt (rs.getD (j + 1) []) (rs.getD (eV rs j) [])=false:=by simpa using hg
   rw [hg]
   simp only [Bool.false_eq_true,if_false]
   have e:eV rs (j + 1)=eV rs j:=by show (if _ then _ else _)=_;rw [hg];rfl
   refine wpAny_bind (wpAny_letGo ?_)
   rw [hs]
   refine wpAny_pure ⟨plainId_quiet F.plain_min_loop _,ih (j + 1) _ c (by lia) st1 t1 (by rw [e];exact hb1) fun h2 tk2 k2=>k h2 tk2 fun b ob n1 n2 q=>k2 b ob n1 n2 (k1 b ob n1 q)⟩
theorem O9 (W:Walks P w A.in1 it fp wr rs.length V0 St0) (hv:∀i v,V0 i v→v=.ref (qa i)) (B:Addr) (hB:B ∉ fp) (hu:A.in1.units < cLine) (nq:∀i,i < rs.length→qa i ∉ wr∧qa i≠B) {s:Shared} {c:Nat} (st:St0 0 s.heap) (tt:Cv s.heap qa rs)
  (hkw:kw=[(("default" : Str),Value.none)]) (hb:s.heap.get? B=some (Ij #[] c))
  (k:∀h' tk,(∀b ob,b ∉ wr→b≠B→s.heap.get? b=some ob→h'.get? b=some ob)→R (.ok (.ret (if rs=[] then .none else .ref (qa (eV rs (rs.length - 1)))))) { s with heap:=h',toks:=tk }) :
  codeAny (model P w) A (.builtin "min.loop" ⟨[.ref it,.none,.ref B],kw⟩) R s:=by
 have hBw:B ∉ wr:=fun z=>hB (W.sub _ z)
 have hs:(toString "min" ++ toString ".loop" : String) = "min.loop" := by decide
 refine codeAny_builtin F.entry_min_loop ?_
 rw [Around.under_plainId F.plain_min_loop _]
 show wpAny _ _ (seqItems? (Value.ref B) >>= _) _ _ _
 refine wpAny_bind (wpAny_seqItems hb rfl ?_)
 show wpAny _ _ (tryCatch (pyNext (Value.ref it)) _ >>= _) _ _ _
 by_cases hn:rs=[]
 ·subst hn
  rw [hkw]
  refine wpAny_bind (wpAny_tryCatch (W.done s _ _ st fun h1 tk1 k1=>?_))
  refine wpAny_bind (wpAny_rule ?_)
  exact wpAny_pure (k h1 tk1 fun b ob n1 _ q=>k1 b ob n1 q)
 ·have hlt:0 < rs.length:=List.length_pos_iff.mpr hn
  refine wpAny_bind (wpAny_tryCatch (W.item 0 s _ _ hlt st fun v h1 tk1 pv st1 k1=>?_))
  obtain rfl:=hv 0 v pv
  have hb1:=k1 B _ hBw hb
  show wpAny _ _ (updateSeq B _ >>= _) _ _ _
  refine wpAny_bind (wpAny_updateSeq hb1 rfl ?_)
  rw [hs]
  rw [if_neg hn] at k
  refine wpAny_pure ⟨plainId_quiet F.plain_min_loop _,La (qa:=qa) W hv B hB hu nq (rs.length - 1) 0 _ _ (by lia) (W.frame _ _ _ st1 fun b hbf ob q=>?_) (fun i hi=>?_) (Heap.get?_update_self _ hb1 rfl) fun h2 tk2 k2=>?_⟩
  ·exact (Heap.get?_update_other _ _ (fun z=>hB (by rw [z];exact hbf))).trans q
  ·obtain ⟨its,⟨o,e,r⟩,z⟩:=tt i hi
   exact ⟨its,⟨o,(Heap.get?_update_other _ _ (fun z=>(nq i hi).2 z.symm)).trans (k1 _ _ (nq i hi).1 e),r⟩,z⟩
  ·exact k h2 tk2 fun b ob n1 n2 q=>k2 b ob n1 n2 ((Heap.get?_update_other _ _ (fun z=>n2 z.symm)).trans (k1 b ob n1 q))
end
def aa2:List V→V→Hp→VK→Prop:=fun xs y H Q=>∃(p:Addr) (ys:List V) (rs:List (List Int)),xs=[.ref p]∧y=.non∧H p=some (.lst ys)∧aJ H ys (rs.map fun r=>r.map V.int)∧(rs=[]→Q .non H)∧(rs≠[]→∀q,ys[eV rs (rs.length - 1)]?=some (.ref q)→Q (.ref q) H)
theorem Lb {k:Nat} (hc:X.calm=true) (hr:Room k X.A):Oh X "min" "default" aa2:=by
 intro pins s σ H xs us y u Q I r ry h
 obtain ⟨p,ys,rs,rfl,rfl,hq,tp,q0,q1⟩:=h
 obtain ⟨v,rfl,rx⟩:=vals1 r
 cases rx
 cases ry
 obtain ⟨its,rv,pl,_⟩:=I.list (SqL.of hq)
 have yl:ys.length=rs.length:=by rw [tp.1,List.length_map]
 have hn:its.length=rs.length:=rv.length.symm.trans yl
 have hl:=pl.isList
 have hlt:p < s.heap.objs.size:=let ⟨_,e,_⟩:=hl;Heap.lt_size e
 have hs:(toString "min" ++ toString ".loop" : String) = "min.loop" := by decide
 let qa:Nat→Addr:=fun i=>match ys[i]? with | some (.ref q)=>q | _=>0
 have qaI:∀i,i < rs.length→ys[i]?=some (.ref (qa i))∧∃its:Array Value,IsTup s.heap (qa i) its∧IntsAre its.toList (rs.getD i []):=fun i hi=>by
  obtain ⟨q,e1,e2⟩:=tp.2 i _ (show (rs.map fun r=>r.map V.int)[i]?=some (rs[i].map V.int) by rw [List.getElem?_map,List.getElem?_eq_getElem hi];rfl)
  have eq:qa i=q:=by show (match ys[i]? with | some (.ref q)=>q | _=>0)=q;rw [e1]
  rw [eq]
  obtain ⟨its,rr,pp,_⟩:=I.tuple (SqT.of e2)
  refine ⟨e1,its.toArray,pp,?_⟩
  rw [List.getD_eq_getElem?_getD,List.getElem?_eq_getElem hi]
  exact intsAre_of rr
 refine zV F.kind_min F.plain_min F.entry_min (K8 _ _) ?_
 show wpAny _ _ (Builtin.Builtins.bindParams "min" ["key", "default"] 0 ⟨[],[(("default" : Str),Value.none)]⟩ >>= _) _ _ s
 refine wpAny_bind (wpAny_of_eq (show Builtin.Builtins.bindParams "min" ["key", "default"] 0 ⟨[],[(("default" : Str),Value.none)]⟩=pure [none,some .none] from rfl) ?_)
 refine wpAny_bind (wpAny_pure ?_)
 refine wpAny_bind (wpAny_pyIter_list hl ?_)
 refine wpAny_bind (wpAny_newObj_type ?_)
 rw [hs]
 have W:=Walks.list (prog:=X.prog) (w:=X.w) (A:=X.A.in1) (I.ok.hd hc) s.heap.objs.size p (Nat.ne_of_lt hlt) its.toArray
 rw [show its.toArray.size=rs.length by rw [List.size_toArray];exact hn] at W
 refine wpAny_pure ⟨plainId_quiet F.plain_min_loop _,O9 (qa:=qa) W (fun i v hP=>?_) _ (fun z=>?_) ?_ (fun i hi=>?_) (W.frame _ _ _ ⟨⟨_,Heap.get?_push_size _ rfl,rfl,rfl⟩,hl.push _⟩ fun b _ ob e=>Heap.get?_push_of_some _ e) (fun i hi=>?_) rfl (Heap.get?_push_size _ rfl) fun h' tk hk=>?_⟩
 ·have hP:its[i]?=some v:=by simpa using hP
  have hi:i < rs.length:=by rw [← hn];exact (List.getElem?_eq_some_iff.mp hP).1
  obtain ⟨u,e1,e2⟩:=rv.get (qaI i hi).1
  rw [hP] at e1
  cases e1
  exact e2
 ·rcases List.mem_cons.mp z with z | z
  ·exact absurd z (by rw [size_push'];exact Nat.succ_ne_self _)
  ·exact absurd (List.mem_singleton.mp z) (by rw [size_push'];exact Nat.ne_of_gt (Nat.lt_succ_of_lt hlt))
 ·have:=hr.un
  show X.A.units + 1 < cLine
  lia
 ·obtain ⟨_,its2,⟨o,e,_⟩,_⟩:=qaI i hi
  have hb:=Heap.lt_size e
  exact ⟨fun z=>absurd (List.mem_singleton.mp z) (Nat.ne_of_lt hb),by rw [size_push'];exact Nat.ne_of_lt (Nat.lt_succ_of_lt hb)⟩
 ·obtain ⟨_,its2,⟨o,e,r⟩,z⟩:=qaI i hi
  exact ⟨its2,⟨o,Heap.get?_push_of_some _ (Heap.get?_push_of_some _ e),r⟩,z⟩
 ·have kp:∀b ob,s.heap.get? b=some ob→h'.get? b=some ob:=fun b ob q=>by
   have hb:b < s.heap.objs.size:=Heap.lt_size q
   exact hk b ob (fun z=>absurd (List.mem_singleton.mp z) (Nat.ne_of_lt hb)) (by rw [size_push'];exact Nat.ne_of_lt (Nat.lt_succ_of_lt hb)) (Heap.get?_push_of_some _ (Heap.get?_push_of_some _ q))
  by_cases h0:rs=[]
  ·rw [if_pos h0]
   exact ⟨.non,H,I.kept kp,rfl,q0 h0⟩
  ·rw [if_neg h0]
   have hl2:eV rs (rs.length - 1) < rs.length:=by have:=sE rs (rs.length - 1);have:=List.length_pos_iff.mpr h0;lia
   exact ⟨.ref _,H,I.kept kp,rfl,q1 h0 _ (qaI _ hl2).1⟩
end
end L2
namespace L2
open PySem PySem.Spec PyProof.Rows PySem.SeqAt
end L2
namespace M22
end M22
namespace M82
open L2
structure OkA (e n:Nat) (rs:List Rw):Prop where
 asc:rs.Pairwise fun r s=>r.st + r.sz≤s.st
 bd:∀r∈rs,e≤r.st∧1≤r.sz∧r.st + r.sz≤n
theorem OkA.tail {e n:Nat} {r:Rw} {rs:List Rw} (h:OkA e n (r::rs)):OkA (r.st + r.sz) n rs :=
 ⟨(List.pairwise_cons.mp h.asc).2,fun s hs=>⟨(List.pairwise_cons.mp h.asc).1 s hs,(h.bd s (.tail _ hs)).2⟩⟩
theorem OkA.hd {e n:Nat} {r:Rw} {rs:List Rw} (h:OkA e n (r::rs)):e≤r.st∧1≤r.sz∧r.st + r.sz≤n:=h.bd r (.head _)
theorem OkA.cons {e n:Nat} {r:Rw} {rs:List Rw} (h:e≤r.st∧1≤r.sz∧r.st + r.sz≤n) (t:OkA (r.st + r.sz) n rs):OkA e n (r::rs) :=
 ⟨List.pairwise_cons.mpr ⟨fun s hs=>(t.bd s hs).1,t.asc⟩,fun s hs=>by
  rcases List.mem_cons.mp hs with rfl | hs
  ·exact h
  ·have:=t.bd s hs
   lia⟩
theorem OkA.nil {e n:Nat}:OkA e n []:=⟨.nil,fun _ h=>by cases h⟩
def wH (r:Rw) (s:Nat):Rw:=⟨r.nm,s,r.sz,r.pn⟩
abbrev Mv:=Nat×List Nat×Nat
def Cw (T:List Rw):Nat→Nat
 | 0=>0
 | j + 1=>match T[j]? with
  | some r=>r.st + r.sz
  | none=>0
def j6 (n:Nat) (T:List Rw) (k:Nat):Nat:=match T[k + 1]? with
 | some r=>r.st
 | none=>n
def mvT (T:List Rw) (k to:Nat):List Rw:=T.modify k fun r=>wH r to
def WOk (n:Nat):List Rw→List Mv→Prop
 | _,[]=>True
 | T,m::ms=>(∃r,T[m.1]?=some r∧r.nm=m.2.1∧r.pn=0∧Cw T m.1≤m.2.2∧m.2.2 + r.sz≤j6 n T m.1)∧WOk n (mvT T m.1 m.2.2) ms
def fL (T:List Rw) (ms:List Mv):List Rw:=ms.foldl (fun T m=>mvT T m.1 m.2.2) T
def wPr (T:List Rw) (m:Mv):Nat:=match T[m.1]? with
 | some r=>if m.2.2=r.st then 0 else r.sz
 | none=>0
def iH:List Rw→List Mv→Nat
 | _,[]=>0
 | T,m::ms=>wPr T m + iH (mvT T m.1 m.2.2) ms
theorem zZ (P:List Rw) (r:Rw) (Q:List Rw) (to:Nat):mvT (P++r::Q) P.length to=P++wH r to::Q:=by
 unfold mvT
 induction P with
 | nil=>rfl
 | cons p P ih=>simp only [List.cons_append,List.length_cons,List.modify_succ_cons,ih]
theorem z6 (P:List Rw) (r:Rw) (Q:List Rw):(P++r::Q)[P.length]?=some r:=by rw [List.getElem?_append_right (Nat.le_refl _),Nat.sub_self];rfl
theorem uy (n:Nat) (P:List Rw) (r:Rw) (Q:List Rw):j6 n (P++r::Q) P.length=match Q with | []=>n | s::_=>s.st:=by
 unfold j6
 rw [List.getElem?_append_right (by lia),show P.length + 1 - P.length=1 by lia]
 cases Q <;> rfl
def O_:List Rw→Nat
 | []=>0
 | r::rs=>match rs with
  | []=>r.st + r.sz
  | _=>O_ rs
theorem jq (P:List Rw) (r:Rw):O_ (P++[r])=r.st + r.sz:=by
 induction P with
 | nil=>rfl
 | cons p P ih =>
  cases P with
  | nil=>rfl
  | cons q P=>exact ih
theorem z7 (P:List Rw) (r:Rw) (Q:List Rw):Cw (P++r::Q) P.length=O_ P:=by
 rcases List.eq_nil_or_concat P with rfl | ⟨P,p,rfl⟩
 ·rfl
 ·rw [List.concat_eq_append,jq]
  have:(P++[p]++r::Q)[P.length]?=some p:=by rw [List.append_assoc];exact z6 P p _
  rw [show (P++[p]).length=P.length + 1 by simp]
  simp only [Cw,this]
structure OkD (b:Nat) (rs:List Rw):Prop where
 asc:rs.Pairwise fun r s=>s.st + s.sz≤r.st
 bd:∀r∈rs,1≤r.sz∧r.st + r.sz≤b
theorem OkA.rev {e n:Nat} {rs:List Rw} (h:OkA e n rs):OkD n rs.reverse:=⟨List.pairwise_reverse.mpr h.asc,fun r hr=>(h.bd r (List.mem_reverse.mp hr)).2⟩
theorem OkD.tail {b:Nat} {r:Rw} {rs:List Rw} (h:OkD b (r::rs)):OkD r.st rs :=
 ⟨(List.pairwise_cons.mp h.asc).2,fun s hs=>⟨(h.bd s (.tail _ hs)).1,(List.pairwise_cons.mp h.asc).1 s hs⟩⟩
def gK (n:Nat):List Rw→Nat
 | []=>n
 | r::_=>r.st
def uz (n:Nat):Int→Int→List Rw→List (Int×Int×Int)
 | f,u,[]=>[(f,(n:Int),(n:Int) - f - u)]
 | f,u,r::rs=>if 0 < r.pn then (f,(r.st:Int),(r.st:Int) - f - u)::uz n ((r.st:Int) + (r.sz:Int)) 0 rs else uz n f (u + (r.sz:Int)) rs
end M82
namespace M87
open L2 M82
abbrev Sp2:=Rw×Int
def mv (ss:List Sp2):List Sp2:=ss.filter fun s=>decide (s.2≠(s.1.st:Int))
structure XF (p:Nat→Int) (m g:Nat):Prop where
 le:g≤m
 b:∀j,j≤m→p g≤p j∧(j < g→p g < p j)
theorem XF.one {p:Nat→Int} {m g h:Nat} (a:XF p m g) (b:XF p m h):g=h:=by
 rcases Nat.lt_trichotomy g h with q | q | q
 ·have:=(b.b g a.le).2 q
  have:=(a.b h b.le).1
  lia
 ·exact q
 ·have:=(a.b h b.le).2 q
  have:=(b.b g a.le).1
  lia
def ChS (b:Int):Int→List Sp2→Prop
 | e,[]=>e≤b
 | e,s::ss=>e≤s.2∧ChS b (s.2 + (s.1.sz:Int)) ss
theorem ChS.mono {b:Int}:∀{ss:List Sp2} {e e':Int},ChS b e ss→e'≤e→ChS b e' ss
 | [],_,_,h,l=>Int.le_trans l h
 | _::_,_,_,h,l=>⟨Int.le_trans l h.1,h.2⟩
theorem ChS.app {b c:Int} {ys:List Sp2}:∀{xs:List Sp2} {e:Int},ChS c e xs→ChS b c ys→ChS b e (xs++ys)
 | [],_,h,g=>g.mono h
 | _::_,_,h,g=>⟨h.1,ChS.app h.2 g⟩
def mid (s:Sp2):Rw:=if s.2 < (s.1.st:Int) then wH s.1 s.2.toNat else s.1
def tgt (s:Sp2):Rw:=wH s.1 s.2.toNat
def lm:Nat→List Sp2→List Mv
 | _,[]=>[]
 | k,s::ss=>if s.2 < (s.1.st:Int) then (k,s.1.nm,s.2.toNat)::lm (k + 1) ss else lm (k + 1) ss
def rm:List Sp2→List Mv
 | []=>[]
 | s::ss=>if (s.1.st:Int) < s.2 then (ss.length,s.1.nm,s.2.toNat)::rm ss else rm ss
theorem Iz {n:Nat}:∀{a:List Mv} {b:List Mv} {T:List Rw},WOk n T a→WOk n (fL T a) b→WOk n T (a++b)
 | [],_,_,_,g=>g
 | _::_,_,_,h,g=>⟨h.1,Iz h.2 g⟩
theorem Pa (a b:List Mv) (T:List Rw):fL T (a++b)=fL (fL T a) b:=by unfold fL;rw [List.foldl_append]
theorem IK:∀(a b:List Mv) (T:List Rw),iH T (a++b)=iH T a + iH (fL T a) b
 | [],_,_=>by show _=0 + _;rw [Nat.zero_add];rfl
 | m::a,b,T=>by
  show wPr T m + iH (mvT T m.1 m.2.2) (a++b)=wPr T m + iH (mvT T m.1 m.2.2) a + _
  rw [IK a b,Nat.add_assoc]
  rfl
def ml (ss:List Sp2):List Sp2:=ss.filter fun s=>decide (s.2 < (s.1.st:Int))
def mr (ss:List Sp2):List Sp2:=ss.filter fun s=>decide ((s.1.st:Int) < s.2)
def szN (ss:List Sp2):Nat:=(ss.map fun s=>s.1.sz).sum
theorem IV {n:Nat} (L:List Sp2):∀(P:List Rw) (e:Int),(O_ P:Int)≤e→ChS n e L→OkA 0 n (L.map (·.1))→(∀s∈L,0 < s.1.pn→s.2=(s.1.st:Int)) →
  WOk n (P++L.map (·.1)) (lm P.length L)∧fL (P++L.map (·.1)) (lm P.length L)=P++L.map mid∧iH (P++L.map (·.1)) (lm P.length L)=szN (ml L):=by
 induction L with
 | nil=>intro P e _ _ _ _;exact ⟨trivial,rfl,rfl⟩
 | cons s L ih =>
  intro P e he ch ok pin
  have h1:0≤s.1.st∧1≤s.1.sz∧s.1.st + s.1.sz≤n:=ok.hd
  have h2:OkA (s.1.st + s.1.sz) n (L.map (·.1)):=ok.tail
  have hl:(P++[mid s]).length=P.length + 1:=by simp
  by_cases q:s.2 < (s.1.st:Int)
  ·have hm:mid s=wH s.1 s.2.toNat:=if_pos q
   have he2:0≤e:=by lia
   have h0:=ch.1
   have i:=ih (P++[mid s]) (s.2 + (s.1.sz:Int)) (by rw [jq,hm];show (((s.2.toNat + s.1.sz:Nat)):Int)≤_;lia) ch.2 ⟨h2.asc,fun r hr=>⟨Nat.zero_le _,(h2.bd r hr).2⟩⟩ (fun s hs=>pin s (.tail _ hs))
   rw [hl,List.append_assoc,List.append_assoc,List.singleton_append,List.singleton_append] at i
   rw [show lm P.length (s::L)=(P.length,s.1.nm,s.2.toNat)::lm (P.length + 1) L by rw [lm,if_pos q],List.map_cons,List.map_cons]
   have hmv:mvT (P++s.1::L.map (·.1)) P.length s.2.toNat=P++mid s::L.map (·.1):=by rw [zZ,hm]
   refine ⟨⟨⟨s.1,z6 _ _ _,rfl,?_,?_,?_⟩,?_⟩,?_,?_⟩
   ·have:=pin s (.head _)
    lia
   ·show Cw (P++s.1::L.map (·.1)) P.length≤s.2.toNat
    rw [z7]
    lia
   ·show s.2.toNat + s.1.sz≤j6 n (P++s.1::L.map (·.1)) P.length
    rw [uy]
    have hn:=h1.2.2
    generalize hR:L.map (·.1)=R at h2
    cases R with
    | nil=>show s.2.toNat + s.1.sz≤n;lia
    | cons t R=>have:=(h2.hd).1;show s.2.toNat + s.1.sz≤t.st;lia
   ·show WOk n (mvT (P++s.1::L.map (·.1)) P.length s.2.toNat) _
    rw [hmv];exact i.1
   ·show fL (mvT (P++s.1::L.map (·.1)) P.length s.2.toNat) _=_
    rw [hmv];exact i.2.1
   ·show wPr (P++s.1::L.map (·.1)) (P.length,s.1.nm,s.2.toNat) + iH (mvT (P++s.1::L.map (·.1)) P.length s.2.toNat) _=_
    rw [hmv,i.2.2]
    have e1:wPr (P++s.1::L.map (·.1)) (P.length,s.1.nm,s.2.toNat)=s.1.sz:=by
     simp only [wPr,z6]
     rw [if_neg (by lia)]
    rw [e1]
    unfold ml szN
    rw [List.filter_cons_of_pos (by simpa using q),List.map_cons,List.sum_cons]
  ·have hm:mid s=s.1:=if_neg q
   have i:=ih (P++[mid s]) (s.2 + (s.1.sz:Int)) (by rw [jq,hm];lia) ch.2 ⟨h2.asc,fun r hr=>⟨Nat.zero_le _,(h2.bd r hr).2⟩⟩ (fun s hs=>pin s (.tail _ hs))
   rw [hl,List.append_assoc,List.append_assoc,List.singleton_append,List.singleton_append] at i
   rw [show lm P.length (s::L)=lm (P.length + 1) L by rw [lm,if_neg q],List.map_cons,List.map_cons]
   rw [hm] at i ⊢
   refine ⟨i.1,i.2.1,?_⟩
   rw [i.2.2]
   unfold ml
   rw [List.filter_cons_of_neg (by simpa using q)]
def ChD:Int→List Sp2→Prop
 | _,[]=>True
 | b,s::ss=>s.2 + (s.1.sz:Int)≤b∧ChD s.2 ss
theorem ChS.le {b:Int}:∀{ss:List Sp2} {e:Int},ChS b e ss→e≤b∧∀s∈ss,e≤s.2∧s.2 + (s.1.sz:Int)≤b
 | [],_,h=>⟨h,fun _ z=>by cases z⟩
 | s::ss,e,h=>by
  obtain ⟨i1,i2⟩:=ChS.le h.2
  have:=h.1
  refine ⟨by lia,fun t ht=>?_⟩
  rcases List.mem_cons.mp ht with rfl | ht
  ·exact ⟨h.1,i1⟩
  ·have:=i2 t ht
   exact ⟨by lia,this.2⟩
theorem Cy:∀{xs:List Sp2} {b:Int} {s:Sp2},ChD b xs→(∀t∈xs,s.2 + (s.1.sz:Int)≤t.2)→s.2 + (s.1.sz:Int)≤b→ChD b (xs++[s])
 | [],_,_,_,_,h=>⟨h,trivial⟩
 | x::xs,_,_,g,a,_=>⟨g.1,Cy g.2 (fun t ht=>a t (.tail _ ht)) (a x (.head _))⟩
theorem ChS.rev {b:Int}:∀{ss:List Sp2} {e:Int},ChS b e ss→ChD b ss.reverse
 | [],_,_=>trivial
 | s::ss,e,h=>by
  rw [List.reverse_cons]
  obtain ⟨i1,i2⟩:=ChS.le h.2
  exact Cy (ChS.rev h.2) (fun t ht=>(i2 t (List.mem_reverse.mp ht)).1) i1
theorem XH {s:Sp2} (h:¬ (s.1.st:Int) < s.2):mid s=tgt s:=by
 unfold mid tgt
 by_cases q:s.2 < (s.1.st:Int)
 ·rw [if_pos q]
 ·rw [if_neg q]
  have:s.2.toNat=s.1.st:=by lia
  rw [this]
  rfl
theorem IW {n:Nat} (L:List Sp2):∀(D:List Rw) (b:Int),(gK n D:Int)=b→ChD b L→(L.map (·.1)).Pairwise (fun r s=>s.st + s.sz≤r.st)→(∀s∈L,0≤s.2)→(∀s∈L,0 < s.1.pn→s.2=(s.1.st:Int)) →
  WOk n ((L.map mid).reverse++D) (rm L)∧fL ((L.map mid).reverse++D) (rm L)=(L.map tgt).reverse++D∧iH ((L.map mid).reverse++D) (rm L)=szN (mr L):=by
 induction L with
 | nil=>intro D b _ _ _ _ _;exact ⟨trivial,rfl,rfl⟩
 | cons s L ih =>
  intro D b he ch pw nn pin
  obtain ⟨p1,p2⟩:=List.pairwise_cons.mp (show ((s.1::L.map (·.1)).Pairwise (fun r s=>s.st + s.sz≤r.st)) from pw)
  have h0:=nn s (.head _)
  have hc:=ch.1
  have i:=ih (tgt s::D) s.2 (by show ((s.2.toNat:Nat):Int)=s.2;lia) ch.2 p2 (fun s hs=>nn s (.tail _ hs)) (fun s hs=>pin s (.tail _ hs))
  rw [List.map_cons,List.map_cons,List.reverse_cons,List.reverse_cons,List.append_assoc,List.append_assoc,List.singleton_append,List.singleton_append]
  by_cases q:(s.1.st:Int) < s.2
  ·have hm:mid s=s.1:=if_neg (by lia)
   have hl:L.length=(L.map mid).reverse.length:=by simp
   rw [show rm (s::L)=(L.length,s.1.nm,s.2.toNat)::rm L by rw [rm,if_pos q],hm]
   have hmv:mvT ((L.map mid).reverse++s.1::D) L.length s.2.toNat=(L.map mid).reverse++tgt s::D:=by rw [hl,zZ];rfl
   have hat:((L.map mid).reverse++s.1::D)[L.length]?=some s.1:=by rw [hl];exact z6 _ _ _
   refine ⟨⟨⟨s.1,hat,rfl,?_,?_,?_⟩,?_⟩,?_,?_⟩
   ·have:=pin s (.head _)
    lia
   ·show Cw ((L.map mid).reverse++s.1::D) L.length≤s.2.toNat
    rw [hl,z7]
    cases L with
    | nil=>exact Nat.zero_le _
    | cons t L =>
     rw [List.map_cons,List.reverse_cons,jq]
     have a1:=p1 t.1 (by simp)
     have a2:=ch.2.1
     have a3:=nn t (by simp)
     unfold mid
     split
     ·show t.2.toNat + t.1.sz≤_;lia
     ·show t.1.st + t.1.sz≤_;lia
   ·show s.2.toNat + s.1.sz≤j6 n ((L.map mid).reverse++s.1::D) L.length
    rw [hl,uy]
    cases D with
    | nil=>simp only [gK] at he;show s.2.toNat + s.1.sz≤n;lia
    | cons t D=>simp only [gK] at he;show s.2.toNat + s.1.sz≤t.st;lia
   ·show WOk n (mvT ((L.map mid).reverse++s.1::D) L.length s.2.toNat) _
    rw [hmv];exact i.1
   ·show fL (mvT ((L.map mid).reverse++s.1::D) L.length s.2.toNat) _=_
    rw [hmv];exact i.2.1
   ·show wPr ((L.map mid).reverse++s.1::D) (L.length,s.1.nm,s.2.toNat) + iH (mvT ((L.map mid).reverse++s.1::D) L.length s.2.toNat) _=_
    rw [hmv,i.2.2]
    have e1:wPr ((L.map mid).reverse++s.1::D) (L.length,s.1.nm,s.2.toNat)=s.1.sz:=by
     simp only [wPr,hat]
     rw [if_neg (by lia)]
    rw [e1]
    unfold mr szN
    rw [List.filter_cons_of_pos (by simpa using q),List.map_cons,List.sum_cons]
  ·rw [show rm (s::L)=rm L by rw [rm,if_neg q],XH q]
   refine ⟨i.1,i.2.1,?_⟩
   rw [i.2.2]
   unfold mr
   rw [List.filter_cons_of_neg (by simpa using q)]
def jF (L:List Sp2):List Mv:=lm 0 L++rm L.reverse
theorem Pb {n:Nat} {L:List Sp2} (ch:ChS n 0 L) (ok:OkA 0 n (L.map (·.1))) (pin:∀s∈L,0 < s.1.pn→s.2=(s.1.st:Int)) :
  WOk n (L.map (·.1)) (jF L)∧iH (L.map (·.1)) (jF L)=szN (ml L) + szN (mr L.reverse):=by
 have a:=IV L [] 0 (Int.le_refl _) ch ok pin
 have c:=ChS.le ch
 have b:=IW (n:=n) L.reverse [] n rfl (ChS.rev ch) (by rw [List.map_reverse];exact List.pairwise_reverse.mpr ok.asc) (fun s hs=>(c.2 s (List.mem_reverse.mp hs)).1) (fun s hs=>pin s (List.mem_reverse.mp hs))
 rw [List.map_reverse,List.reverse_reverse,List.append_nil] at b
 simp only [List.nil_append,List.length_nil] at a
 unfold jF
 refine ⟨Iz a.1 (by rw [a.2.1];exact b.1),?_⟩
 rw [IK,a.2.1,a.2.2,b.2.2]
theorem Pg (L:List Sp2):mr L.reverse=(mr L).reverse:=List.filter_reverse ..
theorem aa3 (L:List Sp2):∀k,(lm k L).map (fun m=>(m.2.1,((m.2.2:Nat):Int)))=(ml L).map fun s=>(s.1.nm,((s.2.toNat:Nat):Int)):=by
 induction L with
 | nil=>intro k;rfl
 | cons s L ih =>
  intro k
  unfold ml
  by_cases q:s.2 < (s.1.st:Int)
  ·rw [lm,if_pos q,List.filter_cons_of_pos (by simpa using q),List.map_cons,List.map_cons,ih];rfl
  ·rw [lm,if_neg q,List.filter_cons_of_neg (by simpa using q),ih];rfl
theorem aa4 (L:List Sp2):(rm L).map (fun m=>(m.2.1,((m.2.2:Nat):Int)))=(mr L).map fun s=>(s.1.nm,((s.2.toNat:Nat):Int)):=by
 induction L with
 | nil=>rfl
 | cons s L ih =>
  unfold mr
  by_cases q:(s.1.st:Int) < s.2
  ·rw [rm,if_pos q,List.filter_cons_of_pos (by simpa using q),List.map_cons,List.map_cons,ih];rfl
  ·rw [rm,if_neg q,List.filter_cons_of_neg (by simpa using q),ih];rfl
def mj (L:List Sp2):List Sp2:=ml L++(mr L).reverse
theorem Cz {L:List Sp2} (nn:∀s∈L,0≤s.2):(jF L).map (fun m=>(m.2.1,((m.2.2:Nat):Int)))=(mj L).map fun s=>(s.1.nm,s.2):=by
 unfold jF mj
 rw [List.map_append,aa3,aa4,Pg,← List.map_append]
 refine List.map_congr_left fun s hs=>?_
 have:0≤s.2:=nn s (by
  rcases List.mem_append.mp hs with hs | hs
  ·exact (List.mem_filter.mp hs).1
  ·exact (List.mem_filter.mp (List.mem_reverse.mp hs)).1)
 congr 1
 lia
end M87
namespace M75
open L2 M82 M87
def bO:List (Rw×Int)→Int→Option Int
 | [],x=>if x≤0 then some 0 else none
 | (r,g)::t,x=>if x≤0 then some 0 else if 0 < r.pn then none else (bO t (x - g)).map fun y=>(r.sz:Int) + y
theorem iR {bs:List (Rw×Int)} {x:Int} (h:x≤0):bO bs x=some 0:=by
 cases bs with
 | nil=>unfold bO;rw [if_pos h]
 | cons c t=>obtain ⟨r,g⟩:=c;unfold bO;rw [if_pos h]
def qj (n:Nat):Nat→List Rw→List Int
 | e,[]=>[(n:Int) - (e:Int)]
 | e,r::t=>((r.st:Int) - (e:Int))::qj n (r.st + r.sz) t
def edR:List Rw→Nat
 | []=>0
 | r::_=>r.st + r.sz
def rg (n:Nat):List Rw→List (Rw×Int)
 | []=>[]
 | r::D=>(r,(gK n D:Int) - ((r.st:Int) + (r.sz:Int)))::rg n D
def lg:List Rw→List (Rw×Int)
 | []=>[]
 | r::D=>(r,(r.st:Int) - (edR D:Int))::lg D
theorem I_ (n e:Nat) (t:List Rw):qj n e t=((gK n t:Int) - (e:Int))::(qj n e t).tail:=by cases t <;> rfl
theorem Ph (n:Nat):∀(t:List Rw) (e:Nat),t.zip (qj n e t).tail=rg n t
 | [],_=>rfl
 | r::t,e=>by
  show (r::t).zip (qj n (r.st + r.sz) t)=_
  rw [I_,List.zip_cons_cons,Ph n t]
  show (r,(gK n t:Int) - ((r.st + r.sz:Nat):Int))::rg n t=_
  rw [Int.natCast_add]
  rfl
theorem z8 (n:Nat):∀(g:Nat) (t:List Rw) (e:Nat),(t.drop g).zip ((qj n e t).drop (g + 1))=rg n (t.drop g)
 | 0,t,e=>by rw [List.drop_zero,List.drop_one];exact Ph n t e
 | g + 1,[],e=>by simp [rg]
 | g + 1,r::t,e=>z8 n g t (r.st + r.sz)
def wI:Nat→List Rw→List Int
 | _,[]=>[]
 | e,r::t=>((r.st:Int) - (e:Int))::wI (r.st + r.sz) t
def j7:Nat→List Rw→Nat
 | e,[]=>e
 | _,r::t=>j7 (r.st + r.sz) t
theorem xJ (n:Nat):∀(t:List Rw) (e g:Nat),g≤t.length→(qj n e t).take g=wI e (t.take g)
 | t,e,0,_=>by rw [List.take_zero,List.take_zero];rfl
 | [],_,g + 1,h=>absurd h (by simp)
 | r::t,e,g + 1,h=>by
  show ((r.st:Int) - (e:Int))::(qj n (r.st + r.sz) t).take g=_
  rw [xJ n t _ g (by simpa using h)]
  rfl
theorem xK (r:Rw):∀(t:List Rw) (e:Nat),wI e (t++[r])=wI e t++[(r.st:Int) - (j7 e t:Int)]
 | [],_=>rfl
 | s::t,e=>by
  show _::wI _ (t++[r])=_
  rw [xK r t]
  rfl
theorem CG:∀(t:List Rw) (e:Nat),(wI e t).length=t.length
 | [],_=>rfl
 | _::t,_=>by show (wI _ t).length + 1=_;rw [CG t];rfl
theorem m5 (r:Rw):∀(t:List Rw) (e:Nat),j7 e (t++[r])=r.st + r.sz
 | [],_=>rfl
 | _::t,_=>m5 r t _
theorem sG (t:List Rw):edR t.reverse=j7 0 t:=by
 rcases List.eq_nil_or_concat t with rfl | ⟨s,r,rfl⟩
 ·rfl
 ·rw [List.concat_eq_append,List.reverse_append,m5];rfl
theorem XJ {P:List Rw→Prop} (t:List Rw) (h0:P []) (h1:∀s r,P s→P (s++[r])):P t:=by
 have:∀k (t:List Rw),t.length=k→P t:=by
  intro k
  induction k with
  | zero=>intro t h;rw [List.eq_nil_of_length_eq_zero h];exact h0
  | succ k ih =>
   intro t h
   rcases List.eq_nil_or_concat t with rfl | ⟨s,r,rfl⟩
   ·exact h0
   ·rw [List.concat_eq_append] at h ⊢
    exact h1 s r (ih s (by simpa using h))
 exact this _ t rfl
theorem XM (t:List Rw):(t.zip (wI 0 t)).reverse=lg t.reverse:=by
 refine XJ (P:=fun t=>(t.zip (wI 0 t)).reverse=lg t.reverse) t rfl fun s r ih=>?_
 show ((s++[r]).zip (wI 0 (s++[r]))).reverse=lg (s++[r]).reverse
 rw [xK,List.zip_append (CG s 0).symm,List.reverse_append,ih,List.reverse_append]
 show (r,(r.st:Int) - (j7 0 s:Int))::lg s.reverse=(r,(r.st:Int) - (edR s.reverse:Int))::lg s.reverse
 rw [sG]
theorem Ja (n:Nat) {t:List Rw} {g:Nat} (h:g≤t.length):((t.take g).zip ((qj n 0 t).take g)).reverse=lg (t.take g).reverse:=by
 rw [xJ n t 0 g h]
 exact XM _
theorem Jb (n:Nat):∀(t:List Rw) (g e:Nat),g≤t.length→(qj n e t)[g]?=some ((gK n (t.drop g):Int) - (j7 e (t.take g):Int))
 | t,0,e,_=>by rw [I_];rfl
 | [],g + 1,_,h=>absurd h (by simp)
 | r::t,g + 1,e,h=>by
  show (qj n _ t)[g]?=_
  rw [Jb n t g _ (by simpa using h)]
  rfl
def rgt (n:Nat):List Rw→Int→List Sp2
 | [],_=>[]
 | r::D,y=>(r,(r.st:Int) + max y 0)::rgt n D (y - ((gK n D:Int) - ((r.st:Int) + (r.sz:Int))))
def lft:List Rw→Int→List Sp2
 | [],_=>[]
 | r::D,x=>(r,(r.st:Int) - max x 0)::lft D (x - ((r.st:Int) - (edR D:Int)))
def tgs (n g:Nat) (x y:Int) (rs:List Rw):List Sp2:=(lft (rs.take g).reverse x).reverse++rgt n (rs.drop g) y
theorem iw {r:Rw} {g x:Int} {t:List (Rw×Int)} (h:bO ((r,g)::t) x≠none) (g0:0≤g):bO t (x - g)≠none∧(0 < x→r.pn=0):=by
 by_cases hx:x≤0
 ·exact ⟨by rw [iR (by lia)];simp,fun z=>by lia⟩
 ·unfold bO at h
  rw [if_neg hx] at h
  by_cases hp:0 < r.pn
  ·rw [if_pos hp] at h
   exact absurd rfl h
  ·rw [if_neg hp] at h
   refine ⟨fun z=>?_,fun _=>by lia⟩
   rw [z] at h
   exact h rfl
theorem iI {x:Int} (h:bO [] x≠none):x≤0:=by
 by_cases hx:x≤0
 ·exact hx
 ·unfold bO at h
  rw [if_neg hx] at h
  exact absurd rfl h
theorem uD {n e:Nat} {r:Rw} {D:List Rw} (h:OkA e n (r::D)):r.st + r.sz≤gK n D:=by
 cases D with
 | nil=>exact h.hd.2.2
 | cons s D=>exact h.tail.hd.1
theorem CJ {b:Nat} {r:Rw} {D:List Rw} (h:OkD b (r::D)):edR D≤r.st:=by
 cases D with
 | nil=>exact Nat.zero_le _
 | cons s D=>exact (h.tail.bd s List.mem_cons_self).2
theorem Pj {n:Nat}:∀(D:List Rw) (lo:Nat) (y e:Int),OkA lo n D→bO (rg n D) y≠none→e≤(gK n D:Int) + max y 0→ChS n e (rgt n D y)
 | [],_,y,e,_,h,l=>by
  have:=iI h
  show e≤(n:Int)
  have l:e≤(n:Int) + max y 0:=l
  lia
 | r::D,lo,y,e,ok,h,l=>by
  have b:=uD ok
  have c:=iw h (by lia)
  refine ⟨l,Pj D _ _ _ ok.tail c.1 ?_⟩
  show (r.st:Int) + max y 0 + (r.sz:Int)≤_
  lia
theorem Pn:∀(D:List Rw) (b:Nat) (x:Int),OkD b D→bO (lg D) x≠none→ChS ((edR D:Int) - max x 0) 0 (lft D x).reverse
 | [],_,x,_,h=>by
  have:=iI h
  show (0:Int)≤((0:Nat):Int) - max x 0
  lia
 | r::D,b,x,ok,h=>by
  have e:=CJ ok
  have c:=iw h (by lia)
  show ChS _ 0 (((r,(r.st:Int) - max x 0)::lft D _).reverse)
  rw [List.reverse_cons]
  refine ChS.app (Pn D _ _ ok.tail c.1) ⟨?_,?_⟩
  ·show (edR D:Int) - max _ 0≤(r.st:Int) - max x 0
   lia
  ·show (r.st:Int) - max x 0 + (r.sz:Int)≤((r.st + r.sz:Nat):Int) - max x 0
   lia
theorem iT {e n:Nat}:∀{A B:List Rw},OkA e n (A++B)→OkA e n A∧OkA (j7 e A) n B
 | [],B,h=>⟨.nil,h⟩
 | r::A,B,h=>by
  have t:=iT (A:=A) h.tail
  exact ⟨OkA.cons h.hd t.1,t.2⟩
theorem uE {e n:Nat} (h:e≤n):∀{A B:List Rw},OkA e n (A++B)→j7 e A≤gK n B
 | [],[],_=>h
 | [],s::_,ok=>ok.hd.1
 | r::A,B,ok=>uE ok.hd.2.2 (A:=A) ok.tail
theorem XQ {n g:Nat} {x y:Int} {rs:List Rw} (ok:OkA 0 n rs) (hx:bO (lg (rs.take g).reverse) x≠none) (hy:bO (rg n (rs.drop g)) y≠none):ChS n 0 (tgs n g x y rs):=by
 have ok2:OkA 0 n (rs.take g++rs.drop g):=by rw [List.take_append_drop];exact ok
 obtain ⟨o1,o2⟩:=iT ok2
 have l:=uE (Nat.zero_le n) ok2
 refine ChS.app (Pn _ _ _ o1.rev hx) (Pj _ _ _ _ o2 hy ?_)
 rw [sG]
 lia
theorem Jc (n:Nat):∀(D:List Rw) (y:Int),(rgt n D y).map (·.1)=D
 | [],_=>rfl
 | r::D,y=>by show r::(rgt n D _).map (·.1)=_;rw [Jc n D]
theorem Jd:∀(D:List Rw) (x:Int),(lft D x).map (·.1)=D
 | [],_=>rfl
 | r::D,x=>by show r::(lft D _).map (·.1)=_;rw [Jd D]
theorem Je (n g:Nat) (x y:Int) (rs:List Rw):(tgs n g x y rs).map (·.1)=rs:=by
 unfold tgs
 rw [List.map_append,List.map_reverse,Jd,Jc,List.reverse_reverse,List.take_append_drop]
theorem Jf {n:Nat}:∀(D:List Rw) (lo:Nat) (y:Int),OkA lo n D→bO (rg n D) y≠none→∀s∈rgt n D y,0 < s.1.pn→s.2=(s.1.st:Int)
 | [],_,_,_,_=>fun _ h=>by cases h
 | r::D,lo,y,ok,h=>fun s hs hp=>by
  have b:=uD ok
  have c:=iw h (by lia)
  rcases List.mem_cons.mp hs with rfl | hs
  ·have:¬ 0 < y:=fun z=>by have:=c.2 z;have hp:0 < r.pn:=hp;lia
   show (r.st:Int) + max y 0=r.st
   lia
  ·exact Jf D _ _ ok.tail c.1 s hs hp
theorem Jg:∀(D:List Rw) (b:Nat) (x:Int),OkD b D→bO (lg D) x≠none→∀s∈lft D x,0 < s.1.pn→s.2=(s.1.st:Int)
 | [],_,_,_,_=>fun _ h=>by cases h
 | r::D,b,x,ok,h=>fun s hs hp=>by
  have e:=CJ ok
  have c:=iw h (by lia)
  rcases List.mem_cons.mp hs with rfl | hs
  ·have:¬ 0 < x:=fun z=>by have:=c.2 z;have hp:0 < r.pn:=hp;lia
   show (r.st:Int) - max x 0=r.st
   lia
  ·exact Jg D _ _ ok.tail c.1 s hs hp
theorem T4 {n g:Nat} {x y:Int} {rs:List Rw} (ok:OkA 0 n rs) (hx:bO (lg (rs.take g).reverse) x≠none) (hy:bO (rg n (rs.drop g)) y≠none):∀s∈tgs n g x y rs,0 < s.1.pn→s.2=(s.1.st:Int):=fun s hs hp=>by
 have ok2:OkA 0 n (rs.take g++rs.drop g):=by rw [List.take_append_drop];exact ok
 obtain ⟨o1,o2⟩:=iT ok2
 rcases List.mem_append.mp hs with hs | hs
 ·exact Jg _ _ _ o1.rev hx s (List.mem_reverse.mp hs) hp
 ·exact Jf _ _ _ o2 hy s hs hp
theorem Pq {n:Nat}:∀(D:List Rw) (y:Int),∀s∈rgt n D y,(s.1.st:Int)≤s.2
 | [],_=>fun _ h=>by cases h
 | r::D,y=>fun s hs=>by
  rcases List.mem_cons.mp hs with rfl | hs
  ·show (r.st:Int)≤(r.st:Int) + max y 0
   lia
  ·exact Pq D _ s hs
theorem Pr:∀(D:List Rw) (x:Int),∀s∈lft D x,s.2≤(s.1.st:Int)
 | [],_=>fun _ h=>by cases h
 | r::D,x=>fun s hs=>by
  rcases List.mem_cons.mp hs with rfl | hs
  ·show (r.st:Int) - max x 0≤(r.st:Int)
   lia
  ·exact Pr D _ s hs
theorem Jh (n g:Nat) (x y:Int) (rs:List Rw):mj (tgs n g x y rs)=(ml (lft (rs.take g).reverse x)).reverse++(mr (rgt n (rs.drop g) y)).reverse:=by
 have a:ml (rgt n (rs.drop g) y)=[]:=List.filter_eq_nil_iff.mpr fun s hs=>by have:=Pq _ _ s hs;simp;lia
 have b:mr (lft (rs.take g).reverse x)=[]:=List.filter_eq_nil_iff.mpr fun s hs=>by have:=Pr _ _ s hs;simp;lia
 unfold mj tgs
 rw [show ml ((lft (rs.take g).reverse x).reverse++rgt n (rs.drop g) y)=ml (lft (rs.take g).reverse x).reverse++ml (rgt n (rs.drop g) y) from List.filter_append ..,show mr ((lft (rs.take g).reverse x).reverse++rgt n (rs.drop g) y)=mr (lft (rs.take g).reverse x).reverse++mr (rgt n (rs.drop g) y) from List.filter_append ..,Pg,a,b,List.append_nil,List.reverse_nil,List.nil_append]
 congr 1
 exact List.filter_reverse ..
theorem uF:∀(D:List Rw) (b:Nat) (x:Int),OkD b D→x≤0→ml (lft D x)=[]
 | [],_,_,_,_=>rfl
 | r::D,b,x,ok,h=>by
  have e:=CJ ok
  show List.filter _ ((r,(r.st:Int) - max x 0)::lft D _)=[]
  rw [List.filter_cons_of_neg (by simp;lia)]
  exact uF D _ _ ok.tail (by lia)
theorem CK {r:Rw} {D:List Rw} {x:Int} (h:0 < x):ml (lft (r::D) x)=(r,(r.st:Int) - x)::ml (lft D (x - ((r.st:Int) - (edR D:Int)))):=by
 show List.filter _ ((r,(r.st:Int) - max x 0)::lft D _)=_
 rw [List.filter_cons_of_pos (by simp;lia),Int.max_eq_left (by lia)]
 rfl
theorem uG {n:Nat}:∀(D:List Rw) (lo:Nat) (y:Int),OkA lo n D→y≤0→mr (rgt n D y)=[]
 | [],_,_,_,_=>rfl
 | r::D,lo,y,ok,h=>by
  have b:=uD ok
  show List.filter _ ((r,(r.st:Int) + max y 0)::rgt n D _)=[]
  rw [List.filter_cons_of_neg (by simp;lia)]
  exact uG D _ _ ok.tail (by lia)
theorem CN {n:Nat} {r:Rw} {D:List Rw} {y:Int} (h:0 < y):mr (rgt n (r::D) y)=(r,(r.st:Int) + y)::mr (rgt n D (y - ((gK n D:Int) - ((r.st:Int) + (r.sz:Int))))):=by
 show List.filter _ ((r,(r.st:Int) + max y 0)::rgt n D _)=_
 rw [List.filter_cons_of_pos (by simp;lia),Int.max_eq_left (by lia)]
 rfl
def cap:List (Rw×Int)→Int
 | []=>0
 | (r,g)::t=>if 0 < r.pn then 0 else g + cap t
theorem uH:∀{t:List (Rw×Int)},(∀c∈t,0≤c.2)→0≤cap t
 | [],_=>Int.le_refl _
 | (r,g)::t,h=>by
  have:=uH (t:=t) fun c hc=>h c (List.mem_cons_of_mem _ hc)
  have:=h (r,g) List.mem_cons_self
  unfold cap
  split
  ·exact Int.le_refl _
  ·lia
theorem j8:∀{t:List (Rw×Int)} {x:Int},(∀c∈t,0≤c.2)→(bO t x≠none ↔ x≤cap t)
 | [],x,_=>⟨iI,fun h=>by have h:x≤0:=h;rw [iR h];simp⟩
 | (r,g)::t,x,h=>by
  have g0:=h (r,g) List.mem_cons_self
  have ht:=fun c hc=>h c (List.mem_cons_of_mem _ hc)
  have nn:=uH ht
  have ih:=j8 (t:=t) (x:=x - g) ht
  by_cases hx:x≤0
  ·refine ⟨fun _=>?_,fun _=>by rw [iR hx];simp⟩
   have:=uH h
   lia
  ·unfold bO cap
   rw [if_neg hx]
   by_cases hp:0 < r.pn
   ·rw [if_pos hp,if_pos hp]
    exact ⟨fun z=>absurd rfl z,fun z=>by lia⟩
   ·rw [if_neg hp,if_neg hp]
    rw [show ((bO t (x - g)).map fun y=>(r.sz:Int) + y)≠none ↔ bO t (x - g)≠none by cases bO t (x - g) <;> simp,ih]
    have g0:0≤g:=g0
    lia
theorem Ji {n:Nat}:∀{D:List Rw} {lo:Nat},OkA lo n D→∀c∈rg n D,0≤c.2
 | [],_,_=>fun _ h=>by cases h
 | r::D,lo,ok=>fun c hc=>by
  rcases List.mem_cons.mp hc with rfl | hc
  ·have:=uD ok
   show 0≤(gK n D:Int) - ((r.st:Int) + (r.sz:Int))
   lia
  ·exact Ji ok.tail c hc
theorem Jj:∀{D:List Rw} {b:Nat},OkD b D→∀c∈lg D,0≤c.2
 | [],_,_=>fun _ h=>by cases h
 | r::D,b,ok=>fun c hc=>by
  rcases List.mem_cons.mp hc with rfl | hc
  ·have:=CJ ok
   show 0≤(r.st:Int) - (edR D:Int)
   lia
  ·exact Jj ok.tail c hc
def qm (n:Nat):Int→Nat→List Rw→List Int
 | a,e,[]=>[a + ((n:Int) - (e:Int))]
 | a,e,r::t=>(a + (((r.st:Int) - (e:Int)) + cap (rg n (r::t))))::qm n (if 0 < r.pn then 0 else a + ((r.st:Int) - (e:Int))) (r.st + r.sz) t
theorem Jk {n:Nat} {a:Int} {e:Nat} {t:List Rw}:∃u,qm n a e t=(a + (((gK n t:Int) - (e:Int)) + cap (rg n t)))::u:=by
 cases t with
 | nil=>exact ⟨[],by show [a + ((n:Int) - (e:Int))]=[a + (((n:Int) - (e:Int)) + 0)];rw [Int.add_zero]⟩
 | cons r t=>exact ⟨_,rfl⟩
theorem uI {n:Nat} {s:Int}:∀(t:List Rw) (a:Int) (e:Nat) (f u:Int),a=(e:Int) - f - u→((∃x∈qm n a e t,s≤x) ↔ ∃w∈uz n f u t,s≤w.2.2)
 | [],a,e,f,u,h=>by
  simp only [qm,uz,List.mem_singleton]
  constructor
  ·rintro ⟨x,rfl,l⟩
   exact ⟨_,rfl,by show s≤(n:Int) - f - u;lia⟩
  ·rintro ⟨w,rfl,l⟩
   have l:s≤(n:Int) - f - u:=l
   exact ⟨_,rfl,by lia⟩
 | r::t,a,e,f,u,h=>by
  by_cases hp:0 < r.pn
  ·have ih:=uI (n:=n) (s:=s) t 0 (r.st + r.sz) ((r.st:Int) + (r.sz:Int)) 0 (by rw [Int.natCast_add];lia)
   simp only [qm,uz,if_pos hp,List.mem_cons,exists_eq_or_imp,cap,rg]
   rw [ih]
   constructor
   ·rintro (l | l)
    ·exact .inl (by show s≤(r.st:Int) - f - u;lia)
    ·exact .inr l
   ·rintro (l | l)
    ·have l:s≤(r.st:Int) - f - u:=l
     exact .inl (by lia)
    ·exact .inr l
  ·have ih:=uI (n:=n) (s:=s) t (a + ((r.st:Int) - (e:Int))) (r.st + r.sz) f (u + (r.sz:Int)) (by rw [Int.natCast_add];lia)
   obtain ⟨v,hv⟩:=Jk (n:=n) (a:=a + ((r.st:Int) - (e:Int))) (e:=r.st + r.sz) (t:=t)
   simp only [qm,uz,if_neg hp,List.mem_cons,exists_eq_or_imp]
   rw [ih]
   refine ⟨fun z=>z.elim (fun l=>ih.mp ?_) id,.inr⟩
   rw [hv]
   refine ⟨_,List.mem_cons_self,?_⟩
   rw [Int.natCast_add]
   simp only [cap,rg,if_neg hp] at l
   lia
theorem Jl {n:Nat}:∀(t A:List Rw) (g:Nat),g≤t.length→(qm n (cap (lg A)) (edR A) t)[g]?=some (cap (lg ((t.take g).reverse++A)) + (((gK n (t.drop g):Int) - (edR ((t.take g).reverse++A):Int)) + cap (rg n (t.drop g))))
 | t,A,0,_=>by
  obtain ⟨u,hu⟩:=Jk (n:=n) (a:=cap (lg A)) (e:=edR A) (t:=t)
  rw [hu]
  rfl
 | [],_,g + 1,h=>absurd h (by simp)
 | r::t,A,g + 1,h=>by
  have ih:=Jl (n:=n) t (r::A) g (by simpa using h)
  show (qm n (if 0 < r.pn then 0 else cap (lg A) + ((r.st:Int) - (edR A:Int))) (r.st + r.sz) t)[g]?=_
  have e1:(if 0 < r.pn then (0:Int) else cap (lg A) + ((r.st:Int) - (edR A:Int)))=cap (lg (r::A)):=by
   show _=if 0 < r.pn then 0 else ((r.st:Int) - (edR A:Int)) + cap (lg A)
   split
   ·rfl
   ·lia
  rw [e1]
  rw [show (qm n (cap (lg (r::A))) (r.st + r.sz) t)[g]?=_ from ih]
  rw [List.take_succ_cons,List.drop_succ_cons,List.reverse_cons,List.append_assoc]
  rfl
theorem CQ (n:Nat):∀(t:List Rw) (a:Int) (e:Nat),(qm n a e t).length=t.length + 1
 | [],_,_=>rfl
 | _::t,_,_=>by show (qm n _ _ t).length + 1=_;rw [CQ n t];rfl
theorem Pu {n:Nat} {s:Int} {rs:List Rw} (ok:OkA 0 n rs) (s0:0≤s):(∃g,g≤rs.length∧∃b,0≤b∧b≤s∧bO (lg (rs.take g).reverse) b≠none∧bO (rg n (rs.drop g)) (max 0 (s - ((gK n (rs.drop g):Int) - (edR (rs.take g).reverse:Int)) - b))≠none) ↔ ∃w∈uz n 0 0 rs,s≤w.2.2:=by
 rw [← uI rs 0 0 0 0 (by simp)]
 have at_:=fun g h=>Jl (n:=n) rs [] g h
 have both:∀g,OkA 0 n (rs.take g++rs.drop g):=fun g=>by rw [List.take_append_drop];exact ok
 constructor
 ·rintro ⟨g,hg,b,b0,bs,h1,h2⟩
  obtain ⟨o1,o2⟩:=iT (both g)
  rw [j8 (Jj o1.rev)] at h1
  rw [j8 (Ji o2)] at h2
  have e:=at_ g hg
  rw [List.append_nil] at e
  exact ⟨_,List.mem_of_getElem? e,by lia⟩
 ·rintro ⟨x,hx,l⟩
  obtain ⟨g,e⟩:=List.getElem?_of_mem hx
  have hg:g≤rs.length:=by
   have h:g < (qm n 0 0 rs).length:=(List.getElem?_eq_some_iff.mp e).1
   rw [CQ] at h
   lia
  have e2:=at_ g hg
  rw [List.append_nil] at e2
  rw [show (qm n (cap (lg [])) (edR []) rs)[g]?=some x from e] at e2
  have e2:=Option.some.inj e2
  obtain ⟨o1,o2⟩:=iT (both g)
  have c1:=uH (Jj o1.rev)
  have c2:=uH (Ji o2)
  have lb:=uE (Nat.zero_le n) (both g)
  rw [← sG] at lb
  refine ⟨g,hg,min s (cap (lg (rs.take g).reverse)),by lia,by lia,?_,?_⟩
  ·rw [j8 (Jj o1.rev)];lia
  ·rw [j8 (Ji o2)];lia
theorem CT {e n:Nat}:∀{A B:List Rw},OkA e n A→OkA (j7 e A) n B→OkA e n (A++B)
 | [],_,_,h=>h
 | _::_,_,h,g=>OkA.cons h.hd (CT h.tail g)
theorem XR {e e' n:Nat}:∀{B:List Rw},OkA e n B→e'≤gK n B→OkA e' n B
 | [],_,_=>.nil
 | _::_,h,l=>OkA.cons ⟨l,h.hd.2⟩ h.tail
theorem Ld (t:List Rw):O_ t=j7 0 t:=by
 rcases List.eq_nil_or_concat t with rfl | ⟨s,r,rfl⟩
 ·rfl
 ·rw [List.concat_eq_append,jq,m5]
theorem z9 {T:List Rw} {k:Nat} {r:Rw} (h:T[k]?=some r):T=T.take k++r::T.drop (k + 1)∧(T.take k).length=k:=by
 obtain ⟨hk,e⟩:=List.getElem?_eq_some_iff.mp h
 refine ⟨?_,by rw [List.length_take];lia⟩
 rw [← e,← List.drop_eq_getElem_cons hk,List.take_append_drop]
theorem GF {T:List Rw} {k to:Nat} {r:Rw} (h:T[k]?=some r):mvT T k to=T.take k++wH r to::T.drop (k + 1):=by
 obtain ⟨e,l⟩:=z9 h
 have:=zZ (T.take k) r (T.drop (k + 1)) to
 rw [← e,l] at this
 exact this
theorem aa5 {n:Nat} {T:List Rw} {k to:Nat} {r:Rw} (ok:OkA 0 n T) (h:T[k]?=some r) (lo:Cw T k≤to) (hi:to + r.sz≤j6 n T k):OkA 0 n (mvT T k to):=by
 obtain ⟨e,l⟩:=z9 h
 have lw:=z7 (T.take k) r (T.drop (k + 1))
 have hg:=uy n (T.take k) r (T.drop (k + 1))
 rw [← e,l] at lw hg
 rw [lw,Ld] at lo
 have ok2:=ok
 rw [e] at ok2
 obtain ⟨o1,o2⟩:=iT ok2
 have hb:to + r.sz≤gK n (T.drop (k + 1)):=by
  rw [hg] at hi
  cases hd:T.drop (k + 1) with
  | nil=>rw [hd] at hi;exact hi
  | cons s D=>rw [hd] at hi;exact hi
 have hn:gK n (T.drop (k + 1))≤n:=by
  cases hd:T.drop (k + 1) with
  | nil=>exact Nat.le_refl _
  | cons s D=>rw [hd] at o2;have:=o2.tail.hd.2;show s.st≤n;lia
 rw [GF h]
 exact CT o1 (OkA.cons ⟨lo,o2.hd.2.1,by show to + r.sz≤n;lia⟩ (XR o2.tail hb))
theorem Vj {T:List Rw} {k to:Nat} {r:Rw} (h:T[k]?=some r):(mvT T k to).map (·.nm)=T.map (·.nm):=by
 obtain ⟨e,l⟩:=z9 h
 rw [GF h]
 conv=>rhs;rw [e]
 rw [List.map_append,List.map_append]
 rfl
theorem T5 {T:List Rw} {k to:Nat} {r:Rw} (nd:(T.map (·.nm)).Nodup) (h:T[k]?=some r):(T.filter (fun s=>decide (s.nm≠r.nm))++[wH r to]).Perm (mvT T k to):=by
 obtain ⟨e,l⟩:=z9 h
 rw [GF h]
 have nd2:=nd
 rw [e,List.map_append,List.nodup_append] at nd2
 obtain ⟨n1,n2,n3⟩:=nd2
 have n4:=(List.nodup_cons.mp (show (r.nm::(T.drop (k + 1)).map (·.nm)).Nodup from n2)).1
 have f:T.filter (fun s=>decide (s.nm≠r.nm))=T.take k++T.drop (k + 1):=by
  conv=>lhs;rw [e]
  rw [List.filter_append,List.filter_cons_of_neg (by simp)]
  congr 1
  ·exact List.filter_eq_self.mpr fun s hs=>decide_eq_true fun z=>n3 _ (List.mem_map_of_mem hs) _ List.mem_cons_self z
  ·exact List.filter_eq_self.mpr fun s hs=>decide_eq_true fun z=>n4 (z▸List.mem_map_of_mem (f:=fun r:Rw=>r.nm) hs)
 rw [f,List.append_assoc]
 exact List.Perm.append_left _ List.perm_append_comm
end M75
namespace K74
open PySem L2 PyProof.Rows
def top (i:Nat):Stmt:=PySem.Challenge.pw_slideroom_k74_plans_walked.main.body.getD i (.Pass ⟨0,0,0,0⟩)
abbrev m6:Stmt:=top 21
theorem rB:aU ["thing"] ["thing"] (aH m6):=⟨rfl,rfl,rfl,by decide +kernel,rfl,by decide +kernel,by decide +kernel⟩
abbrev qp:Stmt:=top 22
theorem uJ:aU ["thing", "low"] ["thing", "low"] (aH qp):=⟨rfl,rfl,rfl,by decide +kernel,rfl,by decide +kernel,by decide +kernel⟩
abbrev j9:Stmt:=top 23
theorem nU:aU ["thing", "low", "high"] ["thing", "low", "high"] (aH j9):=⟨rfl,rfl,rfl,by decide +kernel,rfl,by decide +kernel,by decide +kernel⟩
abbrev qt:Stmt:=top 24
theorem uK:aU ["thing"] ["thing"] (aH qt):=⟨rfl,rfl,rfl,by decide +kernel,rfl,by decide +kernel,by decide +kernel⟩
abbrev qw:Stmt:=top 25
theorem uL:aU ["thing"] ["thing"] (aH qw):=⟨rfl,rfl,rfl,by decide +kernel,rfl,by decide +kernel,by decide +kernel⟩
abbrev uM:Stmt:=top 27
theorem xM:aU ["stretch"] ["stretch"] (aH uM):=⟨rfl,rfl,rfl,by decide +kernel,rfl,by decide +kernel,by decide +kernel⟩
abbrev uN:Stmt:=top 31
theorem xO:aU ["thing"] ["thing"] (aH uN):=⟨rfl,rfl,rfl,by decide +kernel,rfl,by decide +kernel,by decide +kernel⟩
abbrev m7:Stmt:=top 32
theorem rC:aU ["row"] ["row"] (aH m7):=⟨rfl,rfl,rfl,by decide +kernel,rfl,by decide +kernel,by decide +kernel⟩
abbrev m8:Stmt:=top 33
theorem rD:aU ["many", "row", "ahead", "other"] ["many", "row", "ahead"] (aH m8):=⟨rfl,rfl,rfl,by decide +kernel,rfl,by decide +kernel,by decide +kernel⟩
abbrev j_:Stmt:=top 34
theorem nW:aU ["many", "rows", "at"] ["many", "rows"] (aH j_):=⟨rfl,rfl,rfl,by decide +kernel,rfl,by decide +kernel,by decide +kernel⟩
abbrev Aa:Stmt:=top 28
theorem CV:aU ["one", "other"] ["one", "other"] (aH Aa):=⟨rfl,rfl,rfl,by decide +kernel,rfl,by decide +kernel,by decide +kernel⟩
abbrev qx:Stmt:=top 64
theorem uO:aU ["_law_script", "_law_k"] ["_law_script", "_law_k"] (aH qx):=⟨rfl,rfl,rfl,by decide +kernel,rfl,by decide +kernel,by decide +kernel⟩
abbrev Px:Stmt:=top 65
theorem Py:aU ["_law_cell"] ["_law_cell"] (aH Px):=⟨rfl,rfl,rfl,by decide +kernel,rfl,by decide +kernel,by decide +kernel⟩
abbrev GJ:Stmt:=top 66
theorem Jm:aU ["_law_box_here", "_law_many_here", "_law_digit", "_law_number"] ["_law_box_here", "_law_many_here"] (aH GJ):=⟨rfl,rfl,rfl,by decide +kernel,rfl,by decide +kernel,by decide +kernel⟩
abbrev Ab:Stmt:=top 67
theorem CW:aU ["_law_box_here", "_law_many_here", "_law_letters", "_law_tail", "_law_first", "_law_names_here", "_law_k", "_law_name"] ["_law_box_here", "_law_many_here"] (aH Ab):=⟨rfl,rfl,rfl,by decide +kernel,rfl,by decide +kernel,by decide +kernel⟩
abbrev GK:Stmt:=top 69
theorem Jo:aU ["_law_box_here"] ["_law_box_here"] (aH GK):=⟨rfl,rfl,rfl,by decide +kernel,rfl,by decide +kernel,by decide +kernel⟩
abbrev GP:Stmt:=top 68
theorem Jp:aU ["_law_box_here", "_law_many_here", "_law_most", "_law_names_here", "_law_pinned", "_law_rows_here", "_law_at", "_law_k", "_law_left", "_law_near", "_law_far", "_law_gap", "_law_wide", "_law_size", "_law_pins"] ["_law_box_here", "_law_many_here"] (aH GP):=⟨rfl,rfl,rfl,by decide +kernel,rfl,by decide +kernel,by decide +kernel⟩
abbrev Ac:Stmt:=top 70
theorem CZ:aU ["_law_box_here", "_law_some", "_law_left", "_law_found"] ["_law_box_here", "_law_some"] (aH Ac):=⟨rfl,rfl,rfl,by decide +kernel,rfl,by decide +kernel,by decide +kernel⟩
abbrev uP:Stmt:=top 37
theorem xP:aU ["thing"] ["thing"] (aH uP):=⟨rfl,rfl,rfl,by decide +kernel,rfl,by decide +kernel,by decide +kernel⟩
abbrev qy:Stmt:=top 38
theorem uQ:aU ["layout", "name", "to", "blocks", "at", "least", "behind"] ["layout", "name", "to"] (aH qy):=⟨rfl,rfl,rfl,by decide +kernel,rfl,by decide +kernel,by decide +kernel⟩
abbrev uR:Stmt:=top 39
theorem xQ:aU ["layout", "name", "to", "moved_ahead", "block"] ["layout", "name", "to", "moved_ahead"] (aH uR):=⟨rfl,rfl,rfl,by decide +kernel,rfl,by decide +kernel,by decide +kernel⟩
abbrev GQ:Stmt:=top 40
theorem Jq:aU ["layout", "moves", "steps", "name", "to", "moved_ahead"] ["layout", "moves"] (aH GQ):=⟨rfl,rfl,rfl,by decide +kernel,rfl,by decide +kernel,by decide +kernel⟩
abbrev GR:Stmt:=top 41
theorem Jr:aU ["layout", "moves"] ["layout", "moves"] (aH GR):=⟨rfl,rfl,rfl,by decide +kernel,rfl,by decide +kernel,by decide +kernel⟩
abbrev uT:Stmt:=top 43
theorem xR:aU ["layout", "gaps", "behind", "block"] ["layout"] (aH uT):=⟨rfl,rfl,rfl,by decide +kernel,rfl,by decide +kernel,by decide +kernel⟩
abbrev Ad:Stmt:=top 44
theorem C_:aU ["size"] ["size"] (aH Ad):=⟨rfl,rfl,rfl,by decide +kernel,rfl,by decide +kernel,by decide +kernel⟩
abbrev uU:Stmt:=top 45
theorem xT:aU ["block", "beyond", "cells", "size", "row", "longer", "price"] ["block", "beyond", "cells", "size"] (aH uU):=⟨rfl,rfl,rfl,by decide +kernel,rfl,by decide +kernel,by decide +kernel⟩
abbrev GX:Stmt:=top 46
theorem Js:aU ["layout", "size", "gaps", "table", "at", "block"] ["layout", "size"] (aH GX):=⟨rfl,rfl,rfl,by decide +kernel,rfl,by decide +kernel,by decide +kernel⟩
abbrev Ae:Stmt:=top 47
theorem Dc:aU ["layout", "size", "gaps", "blocks", "falling", "at"] ["layout", "size"] (aH Ae):=⟨rfl,rfl,rfl,by decide +kernel,rfl,by decide +kernel,by decide +kernel⟩
abbrev uV:Stmt:=top 48
theorem xU:aU ["layout", "size"] ["layout", "size"] (aH uV):=⟨rfl,rfl,rfl,by decide +kernel,rfl,by decide +kernel,by decide +kernel⟩
abbrev qz:Stmt:=top 49
theorem uW:aU ["layout", "first", "behind"] ["layout", "first", "behind"] (aH qz):=⟨rfl,rfl,rfl,by decide +kernel,rfl,by decide +kernel,by decide +kernel⟩
abbrev Af:Stmt:=top 50
theorem Dd:aU ["layout", "first", "behind"] ["layout", "first", "behind"] (aH Af):=⟨rfl,rfl,rfl,by decide +kernel,rfl,by decide +kernel,by decide +kernel⟩
abbrev kh:Stmt:=top 51
theorem nY:aU ["layout", "stretches", "first", "block"] ["layout"] (aH kh):=⟨rfl,rfl,rfl,by decide +kernel,rfl,by decide +kernel,by decide +kernel⟩
abbrev Ag:Stmt:=top 56
theorem Df:aU ["size"] ["size"] (aH Ag):=⟨rfl,rfl,rfl,by decide +kernel,rfl,by decide +kernel,by decide +kernel⟩
abbrev qC:Stmt:=top 57
theorem uX:aU ["gap", "cells", "size", "left", "right", "choices", "by", "at_right"] ["gap", "cells", "size", "left", "right"] (aH qC):=⟨rfl,rfl,rfl,by decide +kernel,rfl,by decide +kernel,by decide +kernel⟩
abbrev Ah:Stmt:=top 58
theorem Dg:aU ["layout", "size", "tables", "choices", "gap", "cells"] ["layout", "size"] (aH Ah):=⟨rfl,rfl,rfl,by decide +kernel,rfl,by decide +kernel,by decide +kernel⟩
abbrev uY:Stmt:=top 59
theorem xV:aU ["layout", "gap", "by", "blocks", "gaps", "moves", "at"] ["layout", "gap", "by"] (aH uY):=⟨rfl,rfl,rfl,by decide +kernel,rfl,by decide +kernel,by decide +kernel⟩
abbrev qD:Stmt:=top 60
theorem uZ:aU ["layout", "gap", "by", "blocks", "gaps", "moves", "at"] ["layout", "gap", "by"] (aH qD):=⟨rfl,rfl,rfl,by decide +kernel,rfl,by decide +kernel,by decide +kernel⟩
abbrev u5:Stmt:=top 61
theorem xW:aU ["layout", "gap", "start"] ["layout", "gap"] (aH u5):=⟨rfl,rfl,rfl,by decide +kernel,rfl,by decide +kernel,by decide +kernel⟩
abbrev GZ:Stmt:=top 62
theorem Jt:aU ["layout", "size", "choice", "gap", "at_right", "moves"] ["layout", "size"] (aH GZ):=⟨rfl,rfl,rfl,by decide +kernel,rfl,by decide +kernel,by decide +kernel⟩
abbrev u6:Stmt:=top 71
theorem xX:aU ["_law_thing"] ["_law_thing"] (aH u6):=⟨rfl,rfl,rfl,by decide +kernel,rfl,by decide +kernel,by decide +kernel⟩
abbrev Ai:Stmt:=top 72
theorem Dh:aU ["_law_many_here", "_law_rows_here", "_law_found", "_law_end", "_law_name", "_law_start", "_law_size", "_law_pins"] ["_law_many_here", "_law_rows_here"] (aH Ai):=⟨rfl,rfl,rfl,by decide +kernel,rfl,by decide +kernel,by decide +kernel⟩
abbrev u9:Stmt:=top 73
theorem xY:aU ["_law_rows_here", "_law_gaps_here", "_law_much", "_law_cost", "_law_name", "_law_start", "_law_size", "_law_pins", "_law_gap"] ["_law_rows_here", "_law_gaps_here", "_law_much"] (aH u9):=⟨rfl,rfl,rfl,by decide +kernel,rfl,by decide +kernel,by decide +kernel⟩
abbrev Aj:Stmt:=top 74
theorem Di:aU ["_law_rows_here", "_law_gaps_here", "_law_much", "_law_found", "_law_x"] ["_law_rows_here", "_law_gaps_here", "_law_much"] (aH Aj):=⟨rfl,rfl,rfl,by decide +kernel,rfl,by decide +kernel,by decide +kernel⟩
abbrev G3:Stmt:=top 75
theorem Ju:aU ["_law_many_here", "_law_rows_here", "_law_size", "_law_gaps_here", "_law_best_here", "_law_g", "_law_left", "_law_right", "_law_x", "_law_y"] ["_law_many_here", "_law_rows_here", "_law_size"] (aH G3):=⟨rfl,rfl,rfl,by decide +kernel,rfl,by decide +kernel,by decide +kernel⟩
abbrev u_:Stmt:=top 76
theorem xZ:aU ["_law_rows_here", "_law_gaps_here", "_law_much", "_law_way", "_law_found", "_law_name", "_law_start", "_law_size", "_law_pins", "_law_gap"] ["_law_rows_here", "_law_gaps_here", "_law_much", "_law_way"] (aH u_):=⟨rfl,rfl,rfl,by decide +kernel,rfl,by decide +kernel,by decide +kernel⟩
abbrev Pz:Stmt:=top 77
theorem PB:aU ["_law_many_here", "_law_rows_here", "_law_size", "_law_best_here", "_law_price", "_law_g", "_law_x", "_law_y", "_law_gaps_here", "_law_moves_here", "_law_at"] ["_law_many_here", "_law_rows_here", "_law_size"] (aH Pz):=⟨rfl,rfl,rfl,by decide +kernel,rfl,by decide +kernel,by decide +kernel⟩
abbrev Ak:Stmt:=top 78
theorem Dj:aU ["_law_paper", "_law_due_here", "_law_turned", "_law_price", "_law_g", "_law_moves_here", "_law_hole", "_law_told", "_law_move"] ["_law_paper", "_law_due_here", "_law_turned"] (aH Ak):=⟨rfl,rfl,rfl,by decide +kernel,rfl,by decide +kernel,by decide +kernel⟩
abbrev vf:Stmt:=top 79
theorem yc:aU ["_law_paper", "_law_due_here", "_law_turned"] ["_law_paper", "_law_due_here", "_law_turned"] (aH vf):=⟨rfl,rfl,rfl,by decide +kernel,rfl,by decide +kernel,by decide +kernel⟩
abbrev nZ:Stmt:=top 80
theorem PJ:aU ["_law_script", "_law_k", "_law_box_here", "_law_many_here", "_law_rows_here", "_law_free", "_law_some", "_law_size", "_law_layout", "_law_due_here", "_law_turned", "_law_paper", "_law_other", "_law_more"] ["_law_script"] (aH nZ):=⟨rfl,rfl,rfl,by decide +kernel,rfl,by decide +kernel,by decide +kernel⟩
abbrev lG:Stmt:=inClass (top 35) 0
theorem Dk:aU ["self", "many", "rows"] ["self", "many", "rows"] (aH lG):=⟨rfl,rfl,rfl,by decide +kernel,rfl,by decide +kernel,by decide +kernel⟩
abbrev qF:Stmt:=inClass (top 35) 1
theorem vg:aU ["self"] ["self"] (aH qF):=⟨rfl,rfl,rfl,by decide +kernel,rfl,by decide +kernel,by decide +kernel⟩
abbrev vh:Stmt:=inClass (top 35) 2
theorem yg:aU ["self"] ["self"] (aH vh):=⟨rfl,rfl,rfl,by decide +kernel,rfl,by decide +kernel,by decide +kernel⟩
abbrev vm:Stmt:=inClass (top 35) 3
theorem yh:aU ["self", "name", "row"] ["self", "name"] (aH vm):=⟨rfl,rfl,rfl,by decide +kernel,rfl,by decide +kernel,by decide +kernel⟩
abbrev vo:Stmt:=inClass (top 35) 5
theorem yj:aU ["self", "name", "to", "row", "others"] ["self", "name", "to"] (aH vo):=⟨rfl,rfl,rfl,by decide +kernel,rfl,by decide +kernel,by decide +kernel⟩
abbrev Am:Stmt:=inClass (top 54) 0
theorem Dl:aU ["self", "cost", "number", "moves", "stretch"] ["self", "cost", "number", "moves", "stretch"] (aH Am):=⟨rfl,rfl,rfl,by decide +kernel,rfl,by decide +kernel,by decide +kernel⟩
abbrev qG:Stmt:=inClass (top 54) 1
theorem vp:aU ["self"] ["self"] (aH qG):=⟨rfl,rfl,rfl,by decide +kernel,rfl,by decide +kernel,by decide +kernel⟩
abbrev Ao:Stmt:=inClass (top 55) 0
theorem Dm:aU ["self", "stretches"] ["self", "stretches"] (aH Ao):=⟨rfl,rfl,rfl,by decide +kernel,rfl,by decide +kernel,by decide +kernel⟩
abbrev qH:Stmt:=inClass (top 53) 0
theorem vq:aU ["self"] ["self"] (aH qH):=⟨rfl,rfl,rfl,by decide +kernel,rfl,by decide +kernel,by decide +kernel⟩
abbrev vA:Stmt:=inClass (top 54) 2
theorem yp:aU ["self"] ["self"] (aH vA):=⟨rfl,rfl,rfl,by decide +kernel,rfl,by decide +kernel,by decide +kernel⟩
abbrev G4:Stmt:=inClass (top 54) 3
theorem Jv:aU ["self"] ["self"] (aH G4):=⟨rfl,rfl,rfl,by decide +kernel,rfl,by decide +kernel,by decide +kernel⟩
abbrev Aq:Stmt:=inClass (top 54) 4
theorem Dn:aU ["self"] ["self"] (aH Aq):=⟨rfl,rfl,rfl,by decide +kernel,rfl,by decide +kernel,by decide +kernel⟩
abbrev qI:Stmt:=inClass (top 54) 5
theorem vB:aU ["self"] ["self"] (aH qI):=⟨rfl,rfl,rfl,by decide +kernel,rfl,by decide +kernel,by decide +kernel⟩
abbrev m9:Stmt:=inClass (top 53) 5
theorem rE:aU ["self"] ["self"] (aH m9):=⟨rfl,rfl,rfl,by decide +kernel,rfl,by decide +kernel,by decide +kernel⟩
abbrev vC:Stmt:=inClass (top 53) 1
theorem yq:aU ["self"] ["self"] (aH vC):=⟨rfl,rfl,rfl,by decide +kernel,rfl,by decide +kernel,by decide +kernel⟩
abbrev G5:Stmt:=inClass (top 53) 2
theorem Jw:aU ["self"] ["self"] (aH G5):=⟨rfl,rfl,rfl,by decide +kernel,rfl,by decide +kernel,by decide +kernel⟩
abbrev Ar:Stmt:=inClass (top 53) 3
theorem Dp:aU ["self"] ["self"] (aH Ar):=⟨rfl,rfl,rfl,by decide +kernel,rfl,by decide +kernel,by decide +kernel⟩
abbrev qJ:Stmt:=inClass (top 53) 4
theorem vD:aU ["self"] ["self"] (aH qJ):=⟨rfl,rfl,rfl,by decide +kernel,rfl,by decide +kernel,by decide +kernel⟩
structure Txt (K:W.Frag) (mg:Str→Option Value) (c:Nat→Addr) (R CL CP CS CB aG ao:Addr):Prop where
 vG:HasDef K mg "is_whole" m6
 yr:HasDef K mg "is_from" qp
 rF:HasDef K mg "is_within" j9
 yt:HasDef K mg "is_many" qt
 yu:HasDef K mg "is_name" qw
 Dq:HasDef K mg "end_of" uM
 Dr:HasDef K mg "is_row" uN
 vH:HasDef K mg "cells_of" m7
 vI:HasDef K mg "need_row" m8
 rG:HasDef K mg "need_rows" j_
 Jx:HasDef K mg "share_cells" Aa
 yw:HasDef K mg "_law_cell_at" qx
 Vk:HasDef K mg "_law_box" Px
 PK:HasDef K mg "_law_take" GJ
 Jy:HasDef K mg "_law_names" Ab
 PL:HasDef K mg "_law_many" GK
 PN:HasDef K mg "_law_rows" GP
 Jz:HasDef K mg "_law_mixed" Ac
 Ds:HasDef K mg "is_pair" uP
 yx:HasDef K mg "is_slide" qy
 Du:HasDef K mg "step_of" uR
 PX:HasDef K mg "gone_through" GQ
 P0:HasDef K mg "slid" GR
 Dv:HasDef K mg "gaps_of" uT
 JB:HasDef K mg "row_at_end" Ad
 Dw:HasDef K mg "row_beside" uU
 P_:HasDef K mg "left_prices" GX
 JC:HasDef K mg "right_prices" Ae
 Dy:HasDef K mg "prices" uV
 yC:HasDef K mg "blocks_between" qz
 JD:HasDef K mg "free_between" Af
 rH:HasDef K mg "stretches_of" kh
 JF:HasDef K mg "need_size" Ag
 yD:HasDef K mg "choices_at" qC
 JG:HasDef K mg "least_choice" Ah
 Dz:HasDef K mg "slides_to_lesser" uY
 yE:HasDef K mg "slides_to_greater" qD
 DG:HasDef K mg "hole_at_gap" u5
 Qa:HasDef K mg "plan" GZ
 DK:HasDef K mg "_law_whole" u6
 JH:HasDef K mg "_law_gaps" Ai
 DN:HasDef K mg "_law_pushed" u9
 JK:HasDef K mg "_law_costs" Aj
 Qc:HasDef K mg "_law_best" G3
 DP:HasDef K mg "_law_moves" u_
 Vl:HasDef K mg "_law_due" Pz
 JL:HasDef K mg "_law_plan_right" Ak
 DQ:HasDef K mg "_law_paper_right" vf
 bR:mg "isinstance" = none
 vJ:mg "int" = none
 G6:mg "bool" = none
 Qd:mg "str" = none
 ji:mg "list" = none
 n6:mg "tuple" = none
 jr:mg "len" = none
 Qe:mg "all" = none
 eO:mg "range" = none
 DR:mg "sorted" = none
 n_:mg "max" = none
 rJ:mg "min" = none
 Qf:mg "sum" = none
 kj:mg "enumerate" = none
 Qg:mg "zip" = none
 jG:mg "reversed" = none
 aa6:mg "any" = none
 yF:mU mg "LETTERS" (.str LET)
 oh:mU mg "NAME_SIGNS" (.str SGN)
 ou:mU mg "MOST_SIGNS" (.int 8)
 kE:mU mg "FEWEST_CELLS" (.int 16)
 jH:mU mg "MOST_CELLS" (.int 240)
 mJ:mU mg "MOST_BLOCKS" (.int 40)
 g_R:mg "RoomError" = some (.ref R)
 c_R:(W.clsIn K R).isSome=true
 t_R:W.typeIn K (.ref R)=some (.type "type")
 m_R:W.mroIn K R (.type "BaseException")=some true
 clL:Cls K CL
 yG:mg "Layout" = some (.ref CL)
 aY:dJ K CL "many"
 aZ:dJ K CL "rows"
 clP:Cls K CP
 sH:mg "Plan" = some (.ref CP)
 bf:dJ K CP "cost"
 aN:dJ K CP "number"
 aR:dJ K CP "moves"
 aK:dJ K CP "stretch"
 clS:Cls K CS
 oA:mg "Stuck" = some (.ref CS)
 aB:dJ K CS "stretches"
 clB:Cls K CB
 vK:mg "Paper" = some (.ref CB)
 yH:W.codeHdIn K aG ao=true
 JM:∃f,(∃fd,Fun K "__init__" "Layout.__init__" lG f fd∧fd.code=.ref aG)∧Mk K CL f
 yI:∃f,FnAt K "blocks" "Layout.blocks" qF f∧Meth K CL "blocks" f
 DW:∃f,FnAt K "names" "Layout.names" vh f∧Meth K CL "names" f
 DX:∃f,FnAt K "block" "Layout.block" vm f∧Meth K CL "block" f
 DY:∃f,FnAt K "moved" "Layout.moved" vo f∧Meth K CL "moved" f
 JN:∃f,FnAt K "__init__" "Plan.__init__" Am f∧Mk K CP f
 yJ:∃f,FnAt K "brings" "Plan.brings" qG f∧Meth K CP "brings" f
 JQ:∃f,FnAt K "__init__" "Stuck.__init__" Ao f∧Mk K CS f
 yK:∃f,FnAt K "brings" "Paper.brings" qH f∧Meth K CS "brings" f
 D_:∃f,FnAt K "price" "Plan.price" vA f∧Meth K CP "price" f
 Qh:∃f,FnAt K "gap" "Plan.gap" G4 f∧Meth K CP "gap" f
 JR:∃f,FnAt K "hole" "Plan.hole" Aq f∧Meth K CP "hole" f
 yL:∃f,FnAt K "slides" "Plan.slides" qI f∧Meth K CP "slides" f
 vL:∃f,FnAt K "counted" "Paper.counted" m9 f∧Meth K CP "counted" f
 Ea:∃f,FnAt K "price" "Paper.price" vC f∧Meth K CS "price" f
 Qi:∃f,FnAt K "gap" "Paper.gap" G5 f∧Meth K CS "gap" f
 JT:∃f,FnAt K "hole" "Paper.hole" Ar f∧Meth K CS "hole" f
 yM:∃f,FnAt K "slides" "Paper.slides" qJ f∧Meth K CS "slides" f
 Av:W.specialIn K (.builtin "object.__class__") "__get__" = some (some (.builtin "getset_descriptor.__get__"))
 Aw:W.takesIn K (.builtin "object.__class__")=some true
 yN:W.findIn K (.ref CP) "__class__" = some (some (.builtin "object.__class__"))
 yO:W.mroIn K CP (.type "object")=some true
 yP:W.findIn K (.ref CS) "__class__" = some (some (.builtin "object.__class__"))
 yQ:W.mroIn K CS (.type "object")=some true
 kPS:W.kitOne K (.ref CP) (.ref CS)=some false
 kPB:W.kitOne K (.ref CP) (.ref CB)=some true
 kSP:W.kitOne K (.ref CS) (.ref CP)=some false
 kSB:W.kitOne K (.ref CS) (.ref CB)=some true
local macro_rules | `(tactic| k_room)=>`(tactic| first
 | with_reducible assumption
 | with_unfolding_all exact rfl
 | with_unfolding_all exact Nat.le_of_ble_eq_true rfl
 | lia
 | (with_reducible refine cQ ?_;first | lia | (simp only [List.length_cons,List.length_nil,List.length_map,List.length_append,List.length_replicate,fG,List.length_take,List.length_drop,List.length_set];lia))
 | (with_reducible refine Cp ?_;first | lia | (simp only [List.length_cons,List.length_nil,List.length_map,List.length_append,List.length_replicate,fG,List.length_take,List.length_drop,List.length_set];lia))
 | (simp only [List.length_cons,List.length_nil,List.length_map,List.length_append,List.length_replicate,fG,List.length_take,List.length_drop,List.length_set];lia)
 | decide)
local macro_rules | `(tactic| k_mem)=>`(tactic| first
 | with_reducible assumption
 | decide
 | lia
 | (simp only [List.length_cons,List.length_nil,List.length_map,List.length_append,List.length_replicate,fG,List.length_take,List.length_drop,List.length_set];lia))
set_option hygiene false in
local macro_rules | `(tactic| k_meth)=>`(tactic| first
 | with_reducible refine go1 ?_
 | (clear F;intro H_ a_ dx_ (F:SH _ _ _ _ _) (ex_:Gk _ _ _ _);have exA_:=ExA.mk ex_)
 | (clear F;intro H_ (F:SH _ _ _ _ _))
 | (clear F;intro H_ p_ (F:SH _ _ _ _ _))
 | (clear F;intro H_ x_ dx_ (F:SH _ _ _ _ _))
 | (clear F;intro H_ p_ ys_ l_ (F:SH _ _ _ _ _))
 | with_reducible refine sd (by k_room) ?_
 | (intro (r_:Int) (x_:Int) (y_:Int) (z_:Int) lo_ hi_)
 | (intro (x_:Int) (y_:Int))
 | (intro (c_:Int))
 | with_reducible refine U_ (by k_mem) ?_
 | with_reducible refine Va (by k_mem) ?_
 | with_reducible refine N8 (by k_mem) ?_
 | with_reducible refine N_ (by k_mem) ?_)
def vM:Sp:=fun vs H Q _=>∃cs:List Nat,vs=[.str (tx cs)]∧gV cs∧∀H',Same H H'→Q (.bl true) H'
def Eb:Sp:=fun vs H Q _=>∃(p q:Addr) (a b c d:Int),vs=[.ref p,.ref q]∧H p=some (.tup [.int a,.int b])∧H q=some (.tup [.int c,.int d])∧Q (.bl (decide (a < c + d) && decide (c < a + b))) H
def Ec:Sp:=fun vs H Q _=>∃(q:Addr) (r:Rw),vs=[.ref q]∧H q=some (.tup (dM r))∧∀p H',Same H H'→H' p=some (.tup [.int (r.st:Nat),.int (r.sz:Nat)])→Q (.ref p) H'
def yR:Sp:=fun vs H Q _=>∃(q:Addr) (r:Rw),vs=[.ref q]∧H q=some (.tup (dM r))∧gV r.nm∧1≤r.sz∧∀H',Same H H'→Q (.bl true) H'
def rK:Sp:=fun vs H Q _=>∃(n:Nat) (q l:Addr) (r:Rw) (ys:List V) (rs:List Rw),vs=[.int (n:Nat),.ref q,.ref l]∧H q=some (.tup (dM r))∧H l=some (.lst ys)∧aJ H ys (aP rs)∧GoodR n r∧(∀s∈rs,Apart s r)∧∀H',Same H H'→Q .non H'
def oE:Sp:=fun vs H Q _=>∃(n:Nat) (l:Addr) (ys:List V) (rs:List Rw),vs=[.int (n:Nat),.ref l]∧H l=some (.lst ys)∧aJ H ys (aP rs)∧Lay n rs∧∀H',Same H H'→Q .non H'
section
variable {H:Hp} {Q:VK} {E:XK} {cs:List Nat} {p q l:Addr} {a b c d:Int} {r:Rw} {n:Nat} {ys:List V} {rs:List Rw}
instance XS:Go (vM [.str (tx cs)] H Q E) (Sd (gV cs) (∀H',Same H H'→Q (.bl true) H')):=⟨fun s=>⟨cs,rfl,s.1,s.2⟩⟩
instance aa7 [h:Hat H p (.tup [.int a,.int b])] [h2:Hat H q (.tup [.int c,.int d])]:Go (Eb [.ref p,.ref q] H Q E) (Q (.bl (decide (a < c + d) && decide (c < a + b))) H):=⟨fun k=>⟨p,q,a,b,c,d,rfl,h.e,h2.e,k⟩⟩
instance aa8 [h:Hat H q (.tup (dM r))]:Go (Ec [.ref q] H Q E) (∀p H',Same H H'→H' p=some (.tup [.int (r.st:Nat),.int (r.sz:Nat)])→Q (.ref p) H'):=⟨fun k=>⟨q,r,rfl,h.e,k⟩⟩
instance YX [h:Hat H q (.tup (dM r))]:Go (yR [.ref q] H Q E) (Sd (gV r.nm∧1≤r.sz) (∀H',Same H H'→Q (.bl true) H')):=⟨fun s=>⟨q,r,rfl,h.e,s.1.1,s.1.2,s.2⟩⟩
instance Vm [h:Hat H q (.tup (dM r))] [h2:Hat H l (.lst ys)] [t:TpA H ys (aP rs)]:Go (rK [.int (n:Nat),.ref q,.ref l] H Q E) (Sd (GoodR n r∧∀s∈rs,Apart s r) (∀H',Same H H'→Q .non H')):=⟨fun s=>⟨n,q,l,r,ys,rs,rfl,h.e,h2.e,t.e,s.1.1,s.1.2,s.2⟩⟩
instance T6 [h2:Hat H l (.lst ys)] [t:TpA H ys (aP rs)]:Go (oE [.int (n:Nat),.ref l] H Q E) (Sd (Lay n rs) (∀H',Same H H'→Q .non H')):=⟨fun s=>⟨n,l,ys,rs,rfl,h2.e,t.e,s.1,s.2⟩⟩
instance aa9 {H0:Hp} {M:List Addr} {L:List (Addr×HO)} {I:List Im} {xs:List V} {Z:Addr→Hp→Prop} [F:SH H0 M H L I]:Go (∀p H',Same H H'→H' p=some (.tup xs)→Z p H') (∀H' p,SH H0 M H' L (.tup p xs::I)→Z p H'):=⟨fun k p H' s e=>k H' p ((F.same s).zX e)⟩
theorem Le {i:Nat} (t:aJ H ys (aP rs)):aJ H (ys.take i) (aP (rs.take i)):=by
 refine ⟨?_,fun j r e=>?_⟩
 ·rw [bL,List.length_take,List.length_take,t.1,bL]
 ·unfold aP at e
  rw [List.map_take,List.getElem?_take] at e
  split at e
  ·rename_i hj
   obtain ⟨q,e1,e2⟩:=t.2 j r e
   exact ⟨q,by rw [List.getElem?_take,if_pos hj];exact e1,e2⟩
  ·cases e
theorem oF {i:Nat}:pO ys none (some (i:Int))=ys.take i:=by
 unfold pO
 rw [HT.HF]
 show (ys.drop 0).take (min i ys.length - 0)=_
 rw [List.drop_zero,Nat.sub_zero]
 by_cases h:i≤ys.length
 ·rw [show min i ys.length=i by lia]
 ·rw [List.take_of_length_le (by lia),List.take_of_length_le (by lia)]
end
section
variable {H:Hp} {l:Addr} {x y z v:V} {r:List V} {R:Hp→Prop}
instance acI [h:Hat H l (.lst (x::r))]:Go (Cd (.ref l) (.int 0) v H R) (∀H',Off l H H'→H' l=some (.lst (v::r))→R H'):=⟨fun k=>Gw h.e (j:=0) (by unfold ixN;rw [if_pos (by decide),if_pos (by simp only [List.length_cons];lia)];rfl) k⟩
def Ed:Sp:=fun vs H Q _=>∃(p:Addr) (a b c m:Int),vs=[.ref p,.int m]∧H p=some (.lst [.int a,.int b,.int c])∧0 < m∧m < 1073741824∧∀(r a' b' c':Int) (H':Hp),0≤r→r < m→Kp p H H'→H' p=some (.lst [.int a',.int b',.int c'])→Q (.int r) H'
instance aa_ {Q:VK} {E:XK} {p:Addr} {a b c m:Int} [h:Hat H p (.lst [.int a,.int b,.int c])]:Go (Ed [.ref p,.int m] H Q E) (Sd (0 < m∧m < 1073741824) (∀r a' b' c':Int,0≤r→r < m→∀H',Kp p H H'→H' p=some (.lst [.int a',.int b',.int c'])→Q (.int r) H')):=⟨fun s=>⟨p,a,b,c,m,rfl,h.e,s.1.1,s.1.2,fun r a' b' c' H' h0 h1 f e=>s.2 r a' b' c' h0 h1 H' f e⟩⟩
instance acJ [h:Hat H l (.lst (x::y::z::r))]:Go (Cd (.ref l) (.int 2) v H R) (∀H',Off l H H'→H' l=some (.lst (x::y::v::r))→R H'):=⟨fun k=>Gw h.e (j:=2) (by unfold ixN;rw [if_pos (by decide),if_pos (by simp only [List.length_cons];lia)];rfl) k⟩
end
section
variable {P:Program} {w:World} {K:W.Frag} {mg:Str→Option Value} {base:Heap} {c:Nat→Addr} {aG ao R CL CP CS CB:Addr}
theorem eH (T:Txt K mg c R CL CP CS CB aG ao):Def P w K mg base CX0 1 "is_whole" ["thing"] (nO K):=by
 refine bU T.vG rB (fun vs H Q E h=>?_) (fun _ _ _ _ _ _=>el1 fun _=>rfl) (fun f cdv A outer s H vs Q E hr h=>?_)
 ·obtain ⟨x,n,rfl,_⟩:=h
  rfl
 ·obtain ⟨x,n,rfl,ty,k⟩:=h
  have nd:=rB.nd
  refine ⟨_,(aC (aW (gh (bF cR rfl T.bR boot_isinstance (aj (pv 0) (aj (jo (T := "int") rfl T.vJ boot_int) aq))) (iz (Fx (bF cR rfl T.bR boot_isinstance (aj (pv 0) (aj (jo (T := "bool") rfl T.G6 boot_bool) aq)))))))),?_⟩
  clear nd 
  rw [show start ["thing"] [x]=[some (x)] from rfl]
  try dsimp only [cO,bT]
  rw [Nf] at k
  repeat k_meth
  refine w_is ty (Ng ty) ?_
  repeat k_meth
  refine i_b (fun h=>?_) (fun h=>?_)
  ·repeat k_meth
   refine w_is ty (HY ty) ?_
   repeat k_meth
   rw [h] at k
   exact k
  ·rw [h] at k
   exact k
theorem c7 (T:Txt K mg c R CL CP CS CB aG ao):Def P w K mg base CX0 2 "is_from" ["thing", "low"] (mX K):=by
 have eH:=eH (P:=P) (w:=w) (base:=base) T
 refine bU T.yr uJ (fun vs H Q E h=>?_) (fun _ _ _ _ _ _=>el2 fun _ _=>rfl) (fun f cdv A outer s H vs Q E hr h=>?_)
 ·obtain ⟨x,n,lo,rfl,_⟩:=h
  rfl
 ·obtain ⟨x,n,lo,rfl,ty,k⟩:=h
  have nd:=uJ.nd
  refine ⟨_,(aC (aW (gh (aM eH hr (aj (pv 0) aq)) (iz (dR qT (pv 1) (pv 0) (bJ _)))))),?_⟩
  clear nd eH
  rw [show start ["thing", "low"] [x,.int lo]=[some (x),some (.int lo)] from rfl]
  try dsimp only [cO,bT]
  repeat k_meth
  refine Io ty ?_
  repeat k_meth
  cases x with
  | int i =>
   refine i_T rfl ?_
   repeat k_meth
   exact k
  | _=>exact i_F rfl k
theorem cU (T:Txt K mg c R CL CP CS CB aG ao):Def P w K mg base CX0 2 "is_within" ["thing", "low", "high"] (jE K):=by
 have eH:=eH (P:=P) (w:=w) (base:=base) T
 refine bU T.rF nU (fun vs H Q E h=>?_) (fun _ _ _ _ _ _=>el3 fun _ _ _=>rfl) (fun f cdv A outer s H vs Q E hr h=>?_)
 ·obtain ⟨x,n,lo,hi,rfl,_⟩:=h
  rfl
 ·obtain ⟨x,n,lo,hi,rfl,ty,k⟩:=h
  have nd:=nU.nd
  refine ⟨_,(aC (aW (gh (aM eH hr (aj (pv 0) aq)) (iz (MF qT qT (pv 1) (pv 0) (pv 2)))))),?_⟩
  clear nd eH
  rw [show start ["thing", "low", "high"] [x,.int lo,.int hi]=[some (x),some (.int lo),some (.int hi)] from rfl]
  try dsimp only [cO,bT]
  repeat k_meth
  refine Io ty ?_
  repeat k_meth
  cases x with
  | int i =>
   refine i_T rfl ?_
   repeat k_meth
   have k:Q (.bl (decide (lo≤i) && decide (i≤hi))) H:=k
   refine gG (fun h=>?_) (fun h=>?_)
   ·repeat k_meth
    rw [decide_eq_true h,Bool.true_and] at k
    exact k
   ·rw [decide_eq_false h,Bool.false_and] at k
    exact k
  | _=>exact i_F rfl k
theorem lH (T:Txt K mg c R CL CP CS CB aG ao):Def P w K mg base CX0 3 "is_many" ["thing"] (uo K):=by
 have cU:=cU (P:=P) (w:=w) (base:=base) T
 refine bU T.yt uK (fun vs H Q E h=>?_) (fun _ _ _ _ _ _=>el1 fun _=>rfl) (fun f cdv A outer s H vs Q E hr h=>?_)
 ·obtain ⟨x,n,rfl,_⟩:=h
  rfl
 ·obtain ⟨x,n,rfl,ty,k⟩:=h
  have nd:=uK.nd
  refine ⟨_,(aC (aW (aM cU hr (aj (pv 0) (aj (jm T.kE) (aj (jm T.jH) aq)))))),?_⟩
  clear nd cU
  rw [show start ["thing"] [x]=[some (x)] from rfl]
  try dsimp only [cO,bT]
  repeat k_meth
  exact Oq ty k
theorem cF (T:Txt K mg c R CL CP CS CB aG ao):Def P w K mg base CX0 1 "end_of" ["stretch"] pZ:=by
 refine bU T.Dq xM (fun vs H Q E h=>?_) (fun _ _ _ _ _ _=>el1 fun _=>rfl) (fun f cdv A outer s H vs Q E hr h=>?_)
 ·obtain ⟨q,a,b,rfl,_⟩:=h
  rfl
 ·obtain ⟨q,a,b,rfl,h,k⟩:=h
  have nd:=xM.nd
  refine ⟨_,(aC (aW (aX cD (bD bZ (pv 0) aA (fun _ _=>rfl)) (bD bZ (pv 0) aA (fun _ _=>rfl))))),?_⟩
  clear nd 
  rw [show start ["stretch"] [.ref q]=[some (.ref q)] from rfl]
  try dsimp only [cO,bT]
  have bw:ak K CL "many" := ⟨T.clL,T.aY⟩
  have bB:ak K CL "rows" := ⟨T.clL,T.aZ⟩
  have bC:ak K CP "cost" := ⟨T.clP,T.bf⟩
  have aO:ak K CP "number" := ⟨T.clP,T.aN⟩
  have aV:ak K CP "moves" := ⟨T.clP,T.aR⟩
  have aL:ak K CP "stretch" := ⟨T.clP,T.aK⟩
  have aD:ak K CS "stretches" := ⟨T.clS,T.aB⟩
  have o_h:=Old.mk (M:=[]) h nm0
  have F:SH H [] H [] []:=SH.nil
  repeat k_meth
  exact k
theorem lJ (T:Txt K mg c R CL CP CS CB aG ao):Def P w K mg base CX0 1 "_law_cell_at" ["_law_script", "_law_k"] (uq K):=by
 refine bU T.yw uO (fun vs H Q E h=>?_) (fun _ _ _ _ _ _=>el2 fun _ _=>rfl) (fun f cdv A outer s H vs Q E hr h=>?_)
 ·obtain ⟨a,ns,m,rfl,_⟩:=h
  rfl
 ·obtain ⟨a,ns,m,rfl,hS,m0,k⟩:=h
  have nd:=uO.nd
  refine ⟨_,(au (cL (bK Bu (pv 1) (bF dF rfl T.jr boot_len (aj (pv 0) aq)) (bJ _)) (aC (aW (bD bI (pv 0) (pv 1) (fun _ _=>rfl)))) bN)
   (aC (aW (aX cD (aX jz aA (pv 1)) aA)))),?_⟩
  clear nd 
  rw [show start ["_law_script", "_law_k"] [.ref a,.int m]=[some (.ref a),some (.int m)] from rfl]
  try dsimp only [cO,bT]
  have bw:ak K CL "many" := ⟨T.clL,T.aY⟩
  have bB:ak K CL "rows" := ⟨T.clL,T.aZ⟩
  have bC:ak K CP "cost" := ⟨T.clP,T.bf⟩
  have aO:ak K CP "number" := ⟨T.clP,T.aN⟩
  have aV:ak K CP "moves" := ⟨T.clP,T.aR⟩
  have aL:ak K CP "stretch" := ⟨T.clP,T.aK⟩
  have aD:ak K CS "stretches" := ⟨T.clS,T.aB⟩
  have aew:=W8.mk (M:=[]) hS nm0
  have F:SH H [] H [] []:=SH.nil
  repeat k_meth
  refine gG (fun h=>?_) (fun h=>?_)
  ·repeat k_meth
   obtain ⟨v,e,mm⟩:=Ni (xs:=ns.map V.int) m0 h
   obtain ⟨c,_,rfl⟩:=List.mem_map.mp mm
   exact NZ hS e (k c)
  ·repeat k_meth
   exact k _
theorem JV (T:Txt K mg c R CL CP CS CB aG ao):Def P w K mg base CX0 1 "_law_box" ["_law_cell"] zW:=by
 refine bU T.Vk Py (fun vs H Q E h=>?_) (fun _ _ _ _ _ _=>el1 fun _=>rfl) (fun f cdv A outer s H vs Q E hr h=>?_)
 ·obtain ⟨c,rfl,_⟩:=h
  rfl
 ·obtain ⟨c,rfl,k⟩:=h
  have nd:=Py.nd
  refine ⟨_,(aC (aW (cj (aj (aX jz (bF (fD rfl) rfl T.n_ boot_max (aj aA (aj (pv 0) aq))) (gj k_ rfl T.vJ boot_int (aj (dR Zt (pv 0) (aX Mx aA aA) (bJ _)) aq))) (aj (aX jA (pv 0) aA) (aj aA aq)))))),?_⟩
  clear nd 
  rw [show start ["_law_cell"] [.int c]=[some (.int c)] from rfl]
  try dsimp only [cO,bT]
  have bw:ak K CL "many" := ⟨T.clL,T.aY⟩
  have bB:ak K CL "rows" := ⟨T.clL,T.aZ⟩
  have bC:ak K CP "cost" := ⟨T.clP,T.bf⟩
  have aO:ak K CP "number" := ⟨T.clP,T.aN⟩
  have aV:ak K CP "moves" := ⟨T.clP,T.aR⟩
  have aL:ak K CP "stretch" := ⟨T.clP,T.aK⟩
  have aD:ak K CS "stretches" := ⟨T.clS,T.aB⟩
  have F:SH H [] H [] []:=SH.nil
  repeat k_meth
  exact k _ _ _ _ SH.nwC
theorem cA (T:Txt K mg c R CL CP CS CB aG ao):Def P w K mg base CX0 1 "_law_take" ["_law_box_here", "_law_many_here"] Ed:=by
 refine bU T.PK Jm (fun vs H Q E h=>?_) (fun _ _ _ _ _ _=>el2 fun _ _=>rfl) (fun f cdv A outer s H vs Q E hr h=>?_)
 ·obtain ⟨p,a,b,c,m,rfl,_⟩:=h
  rfl
 ·obtain ⟨p,a,b,c,m,rfl,hp,m0,m1,k⟩:=h
  have nd:=Jm.nd
  refine ⟨_,(au (cL (bK gY (bD bI (pv 0) aA (fun _ _=>rfl)) aA (bJ _)) (au (aQ (i:=2) nd rfl (Or.inl rfl) (aX jA (bD bI (pv 0) aA (fun _ _=>rfl)) (pv 1)))
    (au (tK (aX rW (bD bI (pv 0) aA (fun _ _=>rfl)) (pv 1)) (Fy (pv 0) aA pX))
    (aC (aW (pv 2))))) bN)
   (au (tK (aX cD (bD bI (pv 0) aA (fun _ _=>rfl)) aA) (Fy (pv 0) aA pX))
   (au (aQ (i:=3) nd rfl (Or.inl rfl) (aX jA (aX jz (aX cD (bD bI (pv 0) aA (fun _ _=>rfl)) (aX jz aA (bD bI (pv 0) aA (fun _ _=>rfl)))) aA) aA))
   (au (aQ (i:=3) nd rfl (Or.inl rfl) (aX jA (aX jz (pv 3) (pv 3)) aA))
   (aC (aW (aX jA (aX rW (aX jA (aX jz (aX cD (pv 3) (bD bI (pv 0) aA (fun _ _=>rfl))) (aX cD (pv 3) aA)) aA) aA) (pv 1)))))))),?_⟩
  clear nd 
  rw [show start ["_law_box_here", "_law_many_here", "_law_digit", "_law_number"] [.ref p,.int m]=[some (.ref p),some (.int m),none,none] from rfl]
  try dsimp only [cO,bT]
  have bw:ak K CL "many" := ⟨T.clL,T.aY⟩
  have bB:ak K CL "rows" := ⟨T.clL,T.aZ⟩
  have bC:ak K CP "cost" := ⟨T.clP,T.bf⟩
  have aO:ak K CP "number" := ⟨T.clP,T.aN⟩
  have aV:ak K CP "moves" := ⟨T.clP,T.aR⟩
  have aL:ak K CP "stretch" := ⟨T.clP,T.aK⟩
  have aD:ak K CS "stretches" := ⟨T.clS,T.aB⟩
  have F:SH H [p] H [(p,.lst [.int a,.int b,.int c])] []:=SH.nil.jg List.mem_cons_self hp rfl (by simp)
  repeat k_meth
  refine gG (fun h=>?_) (fun h=>?_)
  ·repeat k_meth
   exact k _ _ _ _ _ (Int.emod_nonneg _ (by lia)) (Int.emod_lt_of_pos _ m0) F.kpo bM
  ·repeat k_meth
   exact k _ _ _ _ _ (Int.emod_nonneg _ (by lia)) (Int.emod_lt_of_pos _ m0) F.kpo bM
theorem lK (T:Txt K mg c R CL CP CS CB aG ao):Def P w K mg base CX0 1 "is_name" ["thing"] vM:=by
 refine bU T.yu uL (fun vs H Q E h=>?_) (fun _ _ _ _ _ _=>el1 fun _=>rfl) (fun f cdv A outer s H vs Q E hr h=>?_)
 ·obtain ⟨cs,rfl,_⟩:=h
  rfl
 ·obtain ⟨cs,rfl,ok,k⟩:=h
  have nd:=uL.nd
  refine ⟨_,(au (cL (PW.pt (eU (cW (cP (bF cR rfl T.bR boot_isinstance (aj (pv 0) (aj (jo (T := "str") rfl T.Qd boot_str) aq))))) (f9 (cW (Bv qT qT aA (bF dF rfl T.jr boot_len (aj (pv 0) aq)) (jm T.ou)))))) (aC (aW fZ)) bN)
   (aC (aW (gh (dR O3 (bD tX (pv 0) aA (fun _ _=>rfl)) (jm T.yF) (by with_unfolding_all rfl)) (iz (bF (BW rfl) rfl T.Qe boot_all (aj (iQ (N:=["sign"]) (nt:=1) (fr:=[]) (Wd (pv 0)) (fun _ _ _ _=>(bH (i:=0) (show (["sign"]:List Str).Nodup from by decide +kernel) rfl (Or.inl rfl))) (fun _ _ _ _=>iM) (fun _ _ _ _=>(dR O3 (pv 0) (jm T.oh) (by with_unfolding_all rfl)))) aq))))))),?_⟩
  clear nd 
  rw [show start ["thing"] [.str (tx cs)]=[some (.str (tx cs))] from rfl]
  try dsimp only [cO,bT]
  have bw:ak K CL "many" := ⟨T.clL,T.aY⟩
  have bB:ak K CL "rows" := ⟨T.clL,T.aZ⟩
  have bC:ak K CP "cost" := ⟨T.clP,T.bf⟩
  have aO:ak K CP "number" := ⟨T.clP,T.aN⟩
  have aV:ak K CP "moves" := ⟨T.clP,T.aR⟩
  have aL:ak K CP "stretch" := ⟨T.clP,T.aK⟩
  have aD:ak K CS "stretches" := ⟨T.clS,T.aB⟩
  have F:SH H [] H [] []:=SH.nil
  have h1:=ok.lo
  have h2:=ok.hi
  repeat k_meth
  intro c hc
  repeat k_meth
  rw [TF,ok.hd c hc]
  repeat k_meth
  refine Xv (F:=fun c=>V.bl true) (by lia) rfl (fun c H' R hm s kk=>?_) ?_
  ·clear F
   have F:SH H' [] H' [] []:=SH.nil
   repeat k_meth
   rw [TJ,ok.all c hm]
   exact kk _ (Same.refl _)
  ·have e:(cs.map fun _=>V.bl true)=(List.replicate cs.length true).map V.bl:=by
    rw [List.map_replicate,List.map_const']
   rw [e]
   repeat k_meth
   rw [show (List.replicate cs.length true).all id=true by simp]
   exact k _ F.sm
theorem sI (T:Txt K mg c R CL CP CS CB aG ao):Def P w K mg base CX0 2 "share_cells" ["one", "other"] Eb:=by
 have cF:=cF (P:=P) (w:=w) (base:=base) T
 refine bU T.Jx CV (fun vs H Q E h=>?_) (fun _ _ _ _ _ _=>el2 fun _ _=>rfl) (fun f cdv A outer s H vs Q E hr h=>?_)
 ·obtain ⟨p,q,a,b,c,d,rfl,_⟩:=h
  rfl
 ·obtain ⟨p,q,a,b,c,d,rfl,hp,hq,k⟩:=h
  have nd:=CV.nd
  refine ⟨_,(aC (aW (gh (dR Bu (bD bZ (pv 0) aA (fun _ _=>rfl)) (aM cF hr (aj (pv 1) aq)) (bJ _)) (iz (dR Bu (bD bZ (pv 1) aA (fun _ _=>rfl)) (aM cF hr (aj (pv 0) aq)) (bJ _)))))),?_⟩
  clear nd cF
  rw [show start ["one", "other"] [.ref p,.ref q]=[some (.ref p),some (.ref q)] from rfl]
  try dsimp only [cO,bT]
  have bw:ak K CL "many" := ⟨T.clL,T.aY⟩
  have bB:ak K CL "rows" := ⟨T.clL,T.aZ⟩
  have bC:ak K CP "cost" := ⟨T.clP,T.bf⟩
  have aO:ak K CP "number" := ⟨T.clP,T.aN⟩
  have aV:ak K CP "moves" := ⟨T.clP,T.aR⟩
  have aL:ak K CP "stretch" := ⟨T.clP,T.aK⟩
  have aD:ak K CS "stretches" := ⟨T.clS,T.aB⟩
  have jt:=Old.mk (M:=[]) hp nm0
  have T7:=Old.mk (M:=[]) hq nm0
  have F:SH H [] H [] []:=SH.nil
  repeat k_meth
  refine gG (fun h=>?_) (fun h=>?_)
  ·repeat k_meth
   rw [decide_eq_true h,Bool.true_and] at k
   exact k
  ·rw [decide_eq_false h,Bool.false_and] at k
   exact k
theorem bY (T:Txt K mg c R CL CP CS CB aG ao):Def P w K mg base CX0 1 "cells_of" ["row"] Ec:=by
 refine bU T.vH rC (fun vs H Q E h=>?_) (fun _ _ _ _ _ _=>el1 fun _=>rfl) (fun f cdv A outer s H vs Q E hr h=>?_)
 ·obtain ⟨q,r,rfl,_⟩:=h
  rfl
 ·obtain ⟨q,r,rfl,hq,k⟩:=h
  have nd:=rC.nd
  refine ⟨_,(aC (aW (dg (aj (bD bZ (pv 0) aA (fun _ _=>rfl)) (aj (bD bZ (pv 0) aA (fun _ _=>rfl)) aq))))),?_⟩
  clear nd 
  rw [show start ["row"] [.ref q]=[some (.ref q)] from rfl]
  try dsimp only [cO,bT]
  have bw:ak K CL "many" := ⟨T.clL,T.aY⟩
  have bB:ak K CL "rows" := ⟨T.clL,T.aZ⟩
  have bC:ak K CP "cost" := ⟨T.clP,T.bf⟩
  have aO:ak K CP "number" := ⟨T.clP,T.aN⟩
  have aV:ak K CP "moves" := ⟨T.clP,T.aR⟩
  have aL:ak K CP "stretch" := ⟨T.clP,T.aK⟩
  have aD:ak K CS "stretches" := ⟨T.clS,T.aB⟩
  have T7:=Old.mk (M:=[]) hq nm0
  have F:SH H [] H [] []:=SH.nil
  repeat k_meth
  exact k _ _ F.sm bM
theorem oG (T:Txt K mg c R CL CP CS CB aG ao):Def P w K mg base CX0 3 "is_row" ["thing"] yR:=by
 have lK:=lK (P:=P) (w:=w) (base:=base) T
 have c7:=c7 (P:=P) (w:=w) (base:=base) T
 refine bU T.Dr xO (fun vs H Q E h=>?_) (fun _ _ _ _ _ _=>el1 fun _=>rfl) (fun f cdv A outer s H vs Q E hr h=>?_)
 ·obtain ⟨q,r,rfl,_⟩:=h
  rfl
 ·obtain ⟨q,r,rfl,hq,ok,hz,k⟩:=h
  have nd:=xO.nd
  refine ⟨_,(au (cL (PW.pt (eU (cW (cP (bF cR rfl T.bR boot_isinstance (aj (pv 0) (aj (jo (T := "tuple") rfl T.n6 boot_tuple) aq))))) (f9 (bK Hy (bF dF rfl T.jr boot_len (aj (pv 0) aq)) aA (bJ _))))) (aC (aW fZ)) bN)
   (aC (aW (gh (aM lK hr (aj (bD bZ (pv 0) aA (fun _ _=>rfl)) aq)) (gh (aM c7 hr (aj (bD bZ (pv 0) aA (fun _ _=>rfl)) (aj aA aq))) (gh (aM c7 hr (aj (bD bZ (pv 0) aA (fun _ _=>rfl)) (aj aA aq))) (iz (aM c7 hr (aj (bD bZ (pv 0) aA (fun _ _=>rfl)) (aj aA aq)))))))))),?_⟩
  clear nd lK c7
  rw [show start ["thing"] [.ref q]=[some (.ref q)] from rfl]
  try dsimp only [cO,bT]
  have bw:ak K CL "many" := ⟨T.clL,T.aY⟩
  have bB:ak K CL "rows" := ⟨T.clL,T.aZ⟩
  have bC:ak K CP "cost" := ⟨T.clP,T.bf⟩
  have aO:ak K CP "number" := ⟨T.clP,T.aN⟩
  have aV:ak K CP "moves" := ⟨T.clP,T.aR⟩
  have aL:ak K CP "stretch" := ⟨T.clP,T.aK⟩
  have aD:ak K CS "stretches" := ⟨T.clS,T.aB⟩
  have T7:=Old.mk (M:=[]) hq nm0
  have F:SH H [] H [] []:=SH.nil
  have e4:(((dM r).length:Nat):Int)=4:=rfl
  repeat k_meth
  exact k _ F.sm
theorem jJ (T:Txt K mg c R CL CP CS CB aG ao):Def P w K mg base CX0 4 "need_row" ["many", "row", "ahead"] rK:=by
 have oG:=oG (P:=P) (w:=w) (base:=base) T
 have cF:=cF (P:=P) (w:=w) (base:=base) T
 have sI:=sI (P:=P) (w:=w) (base:=base) T
 have bY:=bY (P:=P) (w:=w) (base:=base) T
 refine bU T.vI rD (fun vs H Q E h=>?_) (fun _ _ _ _ _ _=>el3 fun _ _ _=>rfl) (fun f cdv A outer s H vs Q E hr h=>?_)
 ·obtain ⟨n,q,l,r,ys,rs,rfl,_⟩:=h
  rfl
 ·obtain ⟨n,q,l,r,ys,rs,rfl,hq,hl,tp,gd,ap,k⟩:=h
  have nd:=rD.nd
  refine ⟨_,(au (cL (cW (cP (aM oG hr (aj (pv 1) aq)))) cX bN)
   (au (cL (bK gY (aM cF hr (aj (aM bY hr (aj (pv 1) aq)) aq)) (pv 0) (bJ _)) cX bN)
   (au (dB PassesOwn.never rfl (d7 (pv 2)) (bH (i:=3) nd rfl (Or.inl rfl)) (aC (cL (bK mD (bD bZ (pv 3) aA (fun _ _=>rfl)) (bD bZ (pv 1) aA (fun _ _=>rfl)) (bJ _)) cX bN)))
   (aC (dB PassesOwn.never rfl (d7 (pv 2)) (bH (i:=3) nd rfl (Or.inl rfl)) (aC (cL (cP (aM sI hr (aj (aM bY hr (aj (pv 1) aq)) (aj (aM bY hr (aj (pv 3) aq)) aq)))) cX bN))))))),?_⟩
  clear nd oG cF sI bY
  rw [show start ["many", "row", "ahead", "other"] [.int (n:Nat),.ref q,.ref l]=[some (.int (n:Nat)),some (.ref q),some (.ref l),none] from rfl]
  try dsimp only [cO,bT]
  have bw:ak K CL "many" := ⟨T.clL,T.aY⟩
  have bB:ak K CL "rows" := ⟨T.clL,T.aZ⟩
  have bC:ak K CP "cost" := ⟨T.clP,T.bf⟩
  have aO:ak K CP "number" := ⟨T.clP,T.aN⟩
  have aV:ak K CP "moves" := ⟨T.clP,T.aR⟩
  have aL:ak K CP "stretch" := ⟨T.clP,T.aK⟩
  have aD:ak K CS "stretches" := ⟨T.clS,T.aB⟩
  have T7:=Old.mk (M:=[]) hq nm0
  have rR:=Old.mk (M:=[]) hl nm0
  have h_:=fY.mk tp
  have F:SH H [] H [] []:=SH.nil
  have ok:gV r.nm∧1≤r.sz:=⟨gd.nm,gd.sz⟩
  have le:=gd.le
  repeat k_meth
  refine g_ (xs:=ys) (fun i σ' H'=>∃o3:Option V,σ'=[some (.int (n:Nat)),some (.ref q),some (.ref l),o3]∧SH H [] H' [] []) ⟨_,rfl,F.zY⟩ ?_ ?_ ?_
  ·clear F
   rintro i σ' H' _ ⟨_,rfl,F⟩
   exact SqA.e
  ·clear F
   rintro i v σ' H' hv ⟨_,rfl,F⟩
   obtain ⟨s,q1,e1,rfl,e2⟩:=dj tp hv
   have qK:=Old.mk (M:=[]) e2 nm0
   have ne:¬ tx s.nm=tx r.nm:=fun z=>(ap s (List.mem_of_getElem? e1)).1 (p8 z)
   repeat k_meth
   exact ⟨_,rfl,F⟩
  ·clear F
   rintro σ' H' ⟨_,rfl,F⟩
   repeat k_meth
   refine g_ (xs:=ys) (fun i σ' H'=>∃o3:Option V,σ'=[some (.int (n:Nat)),some (.ref q),some (.ref l),o3]∧SH H [] H' [] []) ⟨_,rfl,F.zY⟩ ?_ ?_ ?_
   ·clear F
    rintro i σ' H' _ ⟨_,rfl,F⟩
    exact SqA.e
   ·clear F
    rintro i v σ' H' hv ⟨_,rfl,F⟩
    obtain ⟨s,q1,e1,rfl,e2⟩:=dj tp hv
    have qK:=Old.mk (M:=[]) e2 nm0
    have ne:=(ap s (List.mem_of_getElem? e1)).2
    repeat k_meth
    have e5:(decide (((r.st:Nat):Int) < ((s.st:Nat):Int) + ((s.sz:Nat):Int)) && decide (((s.st:Nat):Int) < ((r.st:Nat):Int) + ((r.sz:Nat):Int)))=false:=by
     rcases ne with ne | ne
     ·rw [decide_eq_false (by lia),Bool.false_and]
     ·rw [decide_eq_false (show ¬ ((s.st:Nat):Int) < ((r.st:Nat):Int) + ((r.sz:Nat):Int) by lia),Bool.and_false]
    rw [e5]
    repeat k_meth
    exact ⟨_,rfl,F.zY⟩
   ·clear F
    rintro σ' H' ⟨_,rfl,F⟩
    repeat k_meth
    exact k _ F.sm
theorem iU (T:Txt K mg c R CL CP CS CB aG ao):Def P w K mg base CX0 5 "need_rows" ["many", "rows"] oE:=by
 have jJ:=jJ (P:=P) (w:=w) (base:=base) T
 refine bU T.rG nW (fun vs H Q E h=>?_) (fun _ _ _ _ _ _=>el2 fun _ _=>rfl) (fun f cdv A outer s H vs Q E hr h=>?_)
 ·obtain ⟨n,l,ys,rs,rfl,_⟩:=h
  rfl
 ·obtain ⟨n,l,ys,rs,rfl,hl,tp,ly,k⟩:=h
  have nd:=nW.nd
  refine ⟨_,(au (cL (cW (cP (bF cR rfl T.bR boot_isinstance (aj (pv 1) (aj (jo (T := "list") rfl T.ji boot_list) aq))))) cX bN)
   (au (cL (bK gY (bF dF rfl T.jr boot_len (aj (pv 1) aq)) (jm T.mJ) (bJ _)) cX bN)
   (aC (dB PassesOwn.never rfl (d9 rfl T.eO (aj (bF dF rfl T.jr boot_len (aj (pv 1) aq)) aq)) (bH (i:=2) nd rfl (Or.inl rfl)) (aC (cV (aM jJ hr (aj (pv 0) (aj (bD bI (pv 1) (pv 2) (fun _ _=>rfl)) (aj (fP fU (pv 1) gZ (g8 (pv 2))) aq)))))))))),?_⟩
  clear nd jJ
  rw [show start ["many", "rows", "at"] [.int (n:Nat),.ref l]=[some (.int (n:Nat)),some (.ref l),none] from rfl]
  try dsimp only [cO,bT]
  have bw:ak K CL "many" := ⟨T.clL,T.aY⟩
  have bB:ak K CL "rows" := ⟨T.clL,T.aZ⟩
  have bC:ak K CP "cost" := ⟨T.clP,T.bf⟩
  have aO:ak K CP "number" := ⟨T.clP,T.aN⟩
  have aV:ak K CP "moves" := ⟨T.clP,T.aR⟩
  have aL:ak K CP "stretch" := ⟨T.clP,T.aK⟩
  have aD:ak K CS "stretches" := ⟨T.clS,T.aB⟩
  have rR:=Old.mk (M:=[]) hl nm0
  have h_:=fY.mk tp
  have F:SH H [] H [] []:=SH.nil
  have few:=ly.few
  have yl:ys.length=rs.length:=by rw [tp.1,bL]
  repeat k_meth
  rw [show ((ys.length:Nat):Int).toNat=ys.length by lia]
  refine gH (fun i σ' H'=>∃o2:Option V,σ'=[some (.int (n:Nat)),some (.ref l),o2]∧SH H [] H' [] []) ⟨_,rfl,F⟩ ?_ ?_
  ·clear F
   rintro i σ' H' hi ⟨_,rfl,F⟩
   obtain ⟨s,q1,e1,e0,e2⟩:=dj tp (i:=i) (v:=ys[i]) (by simp)
   have qK:=Old.mk (M:=[]) e2 nm0
   have a1:AtI ys (i:Int) (.ref q1):=⟨b_ (by rw [← e0];simp)⟩
   have gd:=ly.good s (List.mem_of_getElem? e1)
   have ap:∀t∈rs.take i,Apart t s:=fun t ht=>by
    have h1:=ly.ap
    obtain ⟨hi2,rfl⟩:=List.getElem?_eq_some_iff.mp e1
    obtain ⟨j,hj,rfl⟩:=List.getElem_of_mem ht
    rw [List.length_take] at hj
    rw [List.getElem_take]
    exact List.pairwise_iff_getElem.mp h1 j i (by lia) hi2 (by lia)
   have side:=And.intro gd ap
   repeat k_meth
   rw [oF] at F
   have tp2:TpA H_ (ys.take i) (aP (rs.take i)):=⟨(Le tp).same F.sm⟩
   repeat k_meth
   exact ⟨_,rfl,F.zY⟩
  ·clear F
   rintro σ' H' ⟨_,rfl,F⟩
   repeat k_meth
   exact k _ F.sm
end
end K74
namespace K74
open PySem L2 PyProof.Rows
local macro_rules | `(tactic| k_room)=>`(tactic| first
 | with_reducible assumption
 | with_unfolding_all exact rfl
 | with_unfolding_all exact Nat.le_of_ble_eq_true rfl
 | lia
 | (with_reducible refine cQ ?_;first | lia | (simp only [List.length_cons,List.length_nil,List.length_map,List.length_append,List.length_replicate,fG,List.length_take,List.length_drop,List.length_set];lia))
 | (with_reducible refine Cp ?_;first | lia | (simp only [List.length_cons,List.length_nil,List.length_map,List.length_append,List.length_replicate,fG,List.length_take,List.length_drop,List.length_set];lia))
 | (simp only [List.length_cons,List.length_nil,List.length_map,List.length_append,List.length_replicate,fG,List.length_take,List.length_drop,List.length_set];lia)
 | decide)
local macro_rules | `(tactic| k_mem)=>`(tactic| first
 | with_reducible assumption
 | decide
 | lia
 | (simp only [List.length_cons,List.length_nil,List.length_map,List.length_append,List.length_replicate,fG,List.length_take,List.length_drop,List.length_set];lia))
set_option hygiene false in
local macro_rules | `(tactic| k_meth)=>`(tactic| first
 | with_reducible refine go1 ?_
 | (clear F;intro H_ a_ dx_ (F:SH _ _ _ _ _) (ex_:Gk _ _ _ _);have exA_:=ExA.mk ex_)
 | (clear F;intro H_ (F:SH _ _ _ _ _))
 | (clear F;intro H_ p_ (F:SH _ _ _ _ _))
 | (clear F;intro H_ x_ dx_ (F:SH _ _ _ _ _))
 | (clear F;intro H_ p_ ys_ l_ (F:SH _ _ _ _ _))
 | with_reducible refine sd (by k_room) ?_
 | (intro (r_:Int) (x_:Int) (y_:Int) (z_:Int) lo_ hi_)
 | (intro (x_:Int) (y_:Int))
 | (intro (c_:Int))
 | with_reducible refine U_ (by k_mem) ?_
 | with_reducible refine Va (by k_mem) ?_
 | with_reducible refine N8 (by k_mem) ?_
 | with_reducible refine N_ (by k_mem) ?_)
def lF (n:Int) (p:Addr):List (Str×V):=gU "rows" (.ref p) (gU "many" (.int n) [])
theorem T8 {n:Int} {p:Addr}:(lF n p).lookup ("many" : Str)=some (.int n):=by unfold lF;rw [cC,if_neg (by decide),cC,if_pos rfl]
theorem T9 {n:Int} {p:Addr}:(lF n p).lookup ("rows" : Str)=some (.ref p):=by unfold lF;rw [cC,if_pos rfl]
theorem sJ {n:Int} {p:Addr} {m:Str} (h1:m ≠ "rows") (h2:m ≠ "many"):(lF n p).lookup m=none:=by unfold lF;rw [cC,if_neg h1,cC,if_neg h2];rfl
class T_ (n:Nat) (rs:List Rw) (as:outParam (List Rw)):Prop where
 p:rs.Perm as
 l:Lay n as
 a:Asc as
def Ef (CL P:Addr) (pos:Pos) (qual:Str):Sp:=fun vs H Q _=>∃(x dx l:Addr) (n:Nat) (ys:List V) (rs as:List Rw) (ps:Array Value),vs=[.ref x,.int (n:Nat),.ref l]∧H x=some (.ins CL dx [])∧H l=some (.lst ys)∧aJ H ys (aP rs)∧T_ n rs as∧16≤n∧n≤240∧H P=some (.tbl ps)∧TabOk pos qual ps H ∧
 ∀(p:Addr) (zs:List V) (ps':Array Value) (H':Hp),(∀b u,b≠x→b≠P→H b=some u→H' b=some u)→H' x=some (.ins CL dx (lF n p))→H' p=some (.lst zs)→aJ H' zs (aP as)→(∀b u,H b=some u→b≠p)→H' P=some (.tbl ps')→TabOk pos qual ps' H'→Q .non H'
def vN (CL:Addr):Sp:=fun vs H Q _=>∃(x p dx:Addr) (n:Nat) (zs:List V),vs=[.ref x]∧H x=some (.ins CL dx (lF (n:Nat) p))∧H p=some (.lst zs)∧∀q H',New H H' q (.lst zs)→Q (.ref q) H'
section
variable {CL P x dx l p:Addr} {pos:Pos} {qual:Str} {H H0:Hp} {M:List Addr} {L:List (Addr×HO)} {I:List Im} {Q:VK} {E:XK} {n:Nat} {m:Int} {ys zs:List V} {rs as:List Rw} {ps:Array Value}
instance acK:FLk (lF m p) "many" (.int m):=⟨T8⟩
instance acL:FLk (lF m p) "rows" (.ref p):=⟨T9⟩
instance YZ:FNo (lF m p) "blocks" := ⟨sJ (by decide) (by decide)⟩
instance abb:FNo (lF m p) "names" := ⟨sJ (by decide) (by decide)⟩
instance abd:FNo (lF m p) "block" := ⟨sJ (by decide) (by decide)⟩
instance abe:FNo (lF m p) "moved" := ⟨sJ (by decide) (by decide)⟩
instance X3 [h:Hat H x (.ins CL dx (lF (n:Nat) p))] [h2:Hat H p (.lst zs)]:Go (vN CL [.ref x] H Q E) (∀q H',New H H' q (.lst zs)→Q (.ref q) H'):=⟨fun k=>⟨x,p,dx,n,zs,rfl,h.e,h2.e,k⟩⟩
instance abf [h:Hat H x (.ins CL dx [])] [h2:Hat H l (.lst ys)] [t:TpA H ys (aP rs)] [e:Hat H P (.tbl ps)] [F:SH H0 M H L I] [tb:K6 I pos qual ps] [la:T_ n rs as]:Go (Ef CL P pos qual [.ref x,.int (n:Nat),.ref l] H Q E)
  (Sd (16≤n∧n≤240) (∀(ps':Array Value) (H1:Hp),Kp P H H1→H1 P=some (.tbl ps')→TabOk pos qual ps' H1→∀(p:Addr) (zs:List V) (H2:Hp),New H1 H2 p (.lst zs)→aJ H2 zs (aP as)→∀H3,Off x H2 H3→H3 x=some (.ins CL dx (lF n p))→Q .non H3)):=by
 refine ⟨fun s=>⟨x,dx,l,n,ys,rs,as,ps,rfl,h.e,h2.e,t.e,la,s.1.1,s.1.2,e.e,F.im _ tb.m,fun p zs ps' H' keep ex ep tz fr eP tk=>?_⟩⟩
 have hx:=h.e
 have hP:=e.e
 have nxp:x≠p:=fr x _ hx
 have nPp:P≠p:=fr P _ hP
 have nPx:P≠x:=fun z=>by rw [z,hx] at hP;cases hP
 let H2:Hp:=fun b=>if b=x then H x else H' b
 let H1:Hp:=fun b=>if b=p then none else H2 b
 have h2x:H2 x=H x:=if_pos rfl
 have h2n:∀{b:Addr},b≠x→H2 b=H' b:=fun n=>if_neg n
 have h1n:∀{b:Addr},b≠p→H1 b=H2 b:=fun n=>if_neg n
 refine s.2 ps' H1 (fun b u nb eb=>?_) ?_ ?_ p zs H2 ⟨fun b u eb=>?_,?_,fun b u eb z=>?_⟩ ?_ H' (fun b nb=>(h2n nb).symm) ex
 ·have n1:b≠p:=fr b u eb
  rw [h1n n1]
  by_cases hb:b=x
  ·rw [hb,h2x,← hb]
   exact eb
  ·rw [h2n hb]
   exact keep b u hb nb eb
 ·rw [h1n nPp,h2n nPx]
  exact eP
 ·rcases tk with tk | ⟨c',oc,vs,t',e1,e2,e3⟩
  ·exact .inl tk
  ·refine .inr ⟨c',oc,vs,t',e1,?_,e3⟩
   have n1:c'≠p:=fun z=>by rw [z,ep] at e2;cases e2
   have n2:c'≠x:=fun z=>by rw [z,ex] at e2;cases e2
   rw [h1n n1,h2n n2]
   exact e2
 ·by_cases hb:b=p
  ·have:H1 b=none:=if_pos hb
   rw [this] at eb
   cases eb
  ·rw [h1n hb] at eb
   exact eb
 ·rw [h2n (Ne.symm nxp)]
  exact ep
 ·have:H1 b=none:=if_pos z
  rw [this] at eb
  cases eb
 ·refine ⟨tz.1,fun j r ej=>?_⟩
  obtain ⟨q,e1,e2⟩:=tz.2 j r ej
  refine ⟨q,e1,?_⟩
  rw [h2n (fun z=>by rw [z,ex] at e2;cases e2)]
  exact e2
end
abbrev cY:Pos:=⟨114,37,114,55⟩
abbrev cH:Str := "Layout.__init__.<locals>.<lambda>"
section
variable {P:Program} {w:World} {K:W.Frag} {mg:Str→Option Value} {base:Heap} {c:Nat→Addr} {aG ao R CL CP CS CB:Addr}
theorem gM (T:Txt K mg c R CL CP CS CB aG ao) (B:Bm mg base):Mak P w K mg base CX0 6 "Layout" CL ["self", "many", "rows"] (Ef CL ao cY cH):=by
 have iU:=iU (P:=P) (w:=w) (base:=base) T
 have lH:=lH (P:=P) (w:=w) (base:=base) T
 obtain ⟨f,hf,hm⟩:=T.JM
 refine (K4 (k:=5) hf Dk (fun vs H Q E h=>?_) (fun _ _ _ _ _ _=>el3 fun _ _ _=>rfl) (fun f A outer s H vs Q E hr h=>?_)).mak hm T.yG
 ·obtain ⟨x,dx,l,n,ys,rs,as,ps,rfl,_⟩:=h
  rfl
 ·obtain ⟨x,dx,l,n,ys,rs,as,ps,rfl,hx,hl,tp,la,h16,m_,hP,tk,k⟩:=h
  have nd:=Dk.nd
  refine ⟨_,(au (cL (cW (cP (aM lH hr (aj (pv 1) aq)))) cX bN)
   (au (cV (aM iU hr (aj (pv 1) (aj (pv 2) aq))))
   (au (mR (pv 0) (pv 1) rfl)
   (aC (mR (pv 0) (Oi (GC rfl hr) rfl T.DR boot_sorted (aj (pv 2) aq) (Xo (qual:=cH) B rfl T.yH (by with_unfolding_all rfl) ⟨rfl,rfl,rfl,by with_unfolding_all rfl,by decide +kernel,by decide⟩)) rfl))))),?_⟩
  clear nd iU lH
  rw [show start ["self", "many", "rows"] [.ref x,.int (n:Nat),.ref l]=[some (.ref x),some (.int (n:Nat)),some (.ref l)] from rfl]
  try dsimp only [cO,bT]
  have bw:ak K CL "many" := ⟨T.clL,T.aY⟩
  have bB:ak K CL "rows" := ⟨T.clL,T.aZ⟩
  have bC:ak K CP "cost" := ⟨T.clP,T.bf⟩
  have aO:ak K CP "number" := ⟨T.clP,T.aN⟩
  have aV:ak K CP "moves" := ⟨T.clP,T.aR⟩
  have aL:ak K CP "stretch" := ⟨T.clP,T.aK⟩
  have aD:ak K CS "stretches" := ⟨T.clS,T.aB⟩
  have nxP:x≠ao:=fun z=>by rw [z,hP] at hx;cases hx
  have nlx:l≠x:=fun z=>by rw [z,hx] at hl;cases hl
  have nlP:l≠ao:=fun z=>by rw [z,hP] at hl;cases hl
  have nm2:∀{b:Addr},b≠x→b≠ao→b ∉ [x,ao]:=fun a b z=>by
   rcases List.mem_cons.mp z with z | z
   ·exact a z
   ·exact b (List.mem_singleton.mp z)
  have F:SH H [x,ao] H [(x,.ins CL dx []),(ao,.tbl ps)] [.tps ys (aP rs),gJ cY cH ps]:=(((SH.nil.jg (List.mem_cons_of_mem _ List.mem_cons_self) hP rfl (by simp)).jg List.mem_cons_self hx rfl (by simp [Ne.symm nxP])).lZ tk).fW tp
  have rR:=Old.mk (M:=[x,ao]) hl (nm2 nlx nlP)
  have ly:=la.l.perm la.p.symm
  have few:=ly.few
  have e1:(decide (16≤(n:Int)) && decide ((n:Int)≤240))=true:=by rw [decide_eq_true (by lia),decide_eq_true (by lia)];rfl
  repeat k_meth
  rw [e1]
  repeat k_meth
  intro f_ ps_
  repeat k_meth
  intro D zs H8 n8 so
  have t8:=K7 (H:=H_) TpA.e la.p (la.a.lt la.l.good) so
  replace F:=F.newR n8 (t8.same n8.s)
  repeat k_meth
  exact k D zs ps_ _ (fun b u n1 n2 e=>F.fr b u (nm2 n1 n2) e) bM bM TpA.e (F.fresh (LkL.m (o:=.lst zs)) (nm2 (SH.neC (F:=F)) (SH.neC (F:=F)))) bM SH.tab
theorem bG (T:Txt K mg c R CL CP CS CB aG ao):Met P w K mg base CX0 1 CL "blocks" ["self"] (vN CL):=by
 obtain ⟨f,hf,hm⟩:=T.yI
 refine (cZ (k:=0) hf vg (fun vs H Q E h=>?_) (fun _ _ _ _ _ _=>el1 fun _=>rfl) (fun f cdv A outer s H vs Q E hr h=>?_)).met hm
 ·obtain ⟨x,p,dx,n,zs,rfl,_⟩:=h
  rfl
 ·obtain ⟨x,p,dx,n,zs,rfl,hx,hp,k⟩:=h
  have nd:=vg.nd
  refine ⟨_,(aC (aW (gj je rfl T.ji boot_list (aj (fO (pv 0) rfl) aq)))),?_⟩
  clear nd 
  rw [show start ["self"] [.ref x]=[some (.ref x)] from rfl]
  try dsimp only [cO,bT]
  have bw:ak K CL "many" := ⟨T.clL,T.aY⟩
  have bB:ak K CL "rows" := ⟨T.clL,T.aZ⟩
  have bC:ak K CP "cost" := ⟨T.clP,T.bf⟩
  have aO:ak K CP "number" := ⟨T.clP,T.aN⟩
  have aV:ak K CP "moves" := ⟨T.clP,T.aR⟩
  have aL:ak K CP "stretch" := ⟨T.clP,T.aK⟩
  have aD:ak K CS "stretches" := ⟨T.clS,T.aB⟩
  have jK:=Old.mk (M:=[]) hx nm0
  have jt:=Old.mk (M:=[]) hp nm0
  have F:SH H [] H [] []:=SH.nil
  repeat k_meth
  exact k _ _ SH.nwC
end
def Eh:Sp:=fun vs H Q _=>∃(bx:Addr) (x y z:Int),vs=[.ref bx]∧H bx=some (.lst [.int x,.int y,.int z])∧∀(n:Nat) (x' y' z':Int) (H':Hp),16≤n→n≤240→Kp bx H H'→H' bx=some (.lst [.int x',.int y',.int z'])→Q (.int (n:Nat)) H'
def Ei:Sp:=fun vs H Q _=>∃(bx:Addr) (x y z:Int) (m:Nat),vs=[.ref bx,.int (m:Nat)]∧H bx=some (.lst [.int x,.int y,.int z])∧m≤40∧∀(x' y' z':Int) (nms:List (List Nat)) (p:Addr) (H':Hp),nms.length=m→(∀cs∈nms,gV cs)→nms.Nodup→Kp bx H H'→H' bx=some (.lst [.int x',.int y',.int z'])→H' p=some (.lst (nms.map fun cs=>.str (tx cs)))→(∀b u,H b=some u→b≠p)→Q (.ref p) H'
def Ej:Sp:=fun vs H Q _=>∃(bx:Addr) (x y z:Int) (n:Nat),vs=[.ref bx,.int (n:Nat)]∧H bx=some (.lst [.int x,.int y,.int z])∧16≤n∧n≤240∧∀(x' y' z':Int) (rs:List Rw) (p:Addr) (ys:List V) (H':Hp),Lay n rs→Asc rs→Kp bx H H'→H' bx=some (.lst [.int x',.int y',.int z'])→H' p=some (.lst ys)→aJ H' ys (aP rs)→(∀b u,H b=some u→b≠p)→Q (.ref p) H'
def Ek:Sp:=fun vs H Q _=>∃(bx l:Addr) (x y z:Int) (ys:List V) (rs:List Rw),vs=[.ref bx,.ref l]∧H bx=some (.lst [.int x,.int y,.int z])∧H l=some (.lst ys)∧aJ H ys (aP rs)∧rs.length≤1000∧bx≠l∧∀(x' y' z':Int) (qs:List Rw) (p:Addr) (zs:List V) (H':Hp),qs.Perm rs→Kp bx H H'→H' bx=some (.lst [.int x',.int y',.int z'])→H' p=some (.lst zs)→aJ H' zs (aP qs)→(∀b u,H b=some u→b≠p)→Q (.ref p) H'
theorem two_steps {H H':Hp} {bx p:Addr} {b3 o:HO} {R:Hp→Prop} (hb:∃u,H bx=some u) (kp:Kp bx H H') (eb:H' bx=some b3) (ep:H' p=some o) (fr:∀b u,H b=some u→b≠p) (k:∀H1,Kp bx H H1→H1 bx=some b3→New H1 H' p o→R H'):R H':=by
 obtain ⟨u0,hb⟩:=hb
 have nb:bx≠p:=fr bx _ hb
 have h1:∀{b:Addr},b≠p→(fun b=>if b=p then none else H' b:Hp) b=H' b:=fun n=>if_neg n
 refine k (fun b=>if b=p then none else H' b) (fun b u n e=>?_) ?_ ⟨fun b u e=>?_,ep,fun b u e z=>?_⟩
 ·rw [h1 (fr b u e)]
  exact kp b u n e
 ·exact (h1 nb).trans eb
 ·have e:(if b=p then none else H' b)=some u:=e
  split at e
  ·cases e
  ·exact e
 ·have e:(if b=p then none else H' b)=some u:=e
  rw [if_pos z] at e
  cases e
section
variable {bx l:Addr} {x y z:Int} {H:Hp} {Q:VK} {E:XK} {n m:Nat} {ys:List V} {rs:List Rw}
instance abg [h:Hat H bx (.lst [.int x,.int y,.int z])]:Go (Eh [.ref bx] H Q E) (∀(x' y' z':Int) (n:Nat),16≤n→n≤240→∀H',Kp bx H H'→H' bx=some (.lst [.int x',.int y',.int z'])→Q (.int (n:Nat)) H'):=⟨fun k=>⟨bx,x,y,z,rfl,h.e,fun n x' y' z' H' h1 h2 f e=>k x' y' z' n h1 h2 H' f e⟩⟩
instance abh [h:Hat H bx (.lst [.int x,.int y,.int z])]:Go (Ei [.ref bx,.int (m:Nat)] H Q E) (Sd (m≤40) (∀(x' y' z':Int) (nms:List (List Nat)),nms.length=m→(∀cs∈nms,gV cs)→nms.Nodup→∀H1,Kp bx H H1→H1 bx=some (.lst [.int x',.int y',.int z'])→∀p H2,New H1 H2 p (.lst (nms.map fun cs=>.str (tx cs)))→Q (.ref p) H2)) :=
 ⟨fun s=>⟨bx,x,y,z,m,rfl,h.e,s.1,fun x' y' z' nms p H' h1 h2 h3 f e e2 fr=>two_steps (R:=fun H'=>Q (.ref p) H') ⟨_,h.e⟩ f e e2 fr fun H1 f1 e1 n1=>s.2 x' y' z' nms h1 h2 h3 H1 f1 e1 p H' n1⟩⟩
instance abj [h:Hat H bx (.lst [.int x,.int y,.int z])]:Go (Ej [.ref bx,.int (n:Nat)] H Q E) (Sd (16≤n∧n≤240) (∀(x' y' z':Int) (rs:List Rw),Lay n rs→Asc rs→∀H1,Kp bx H H1→H1 bx=some (.lst [.int x',.int y',.int z'])→∀p ys H2,New H1 H2 p (.lst ys)→aJ H2 ys (aP rs)→Q (.ref p) H2)) :=
 ⟨fun s=>⟨bx,x,y,z,n,rfl,h.e,s.1.1,s.1.2,fun x' y' z' rs p ys H' h1 h2 f e e2 t fr=>two_steps (R:=fun H'=>Q (.ref p) H') ⟨_,h.e⟩ f e e2 fr fun H1 f1 e1 n1=>s.2 x' y' z' rs h1 h2 H1 f1 e1 p ys H' n1 t⟩⟩
instance abk {H0:Hp} {M:List Addr} {L:List (Addr×HO)} {I:List Im} [h:Hat H bx (.lst [.int x,.int y,.int z])] [h2:Hat H l (.lst ys)] [t:TpA H ys (aP rs)] [F:SH H0 M H L I] [ne:K3 L bx l]:Go (Ek [.ref bx,.ref l] H Q E) (Sd (rs.length≤1000) (∀(x' y' z':Int) (qs:List Rw),qs.Perm rs→∀H1,Kp bx H H1→H1 bx=some (.lst [.int x',.int y',.int z'])→∀p zs H2,New H1 H2 p (.lst zs)→aJ H2 zs (aP qs)→Q (.ref p) H2)) :=
 ⟨fun s=>⟨bx,l,x,y,z,ys,rs,rfl,h.e,h2.e,t.e,s.1,ne.ne F.nd,fun x' y' z' qs p zs H' h1 f e e2 t fr=>two_steps (R:=fun H'=>Q (.ref p) H') ⟨_,h.e⟩ f e e2 fr fun H1 f1 e1 n1=>s.2 x' y' z' qs h1 H1 f1 e1 p zs H' n1 t⟩⟩
end
def letter (s:Nat):Nat:=97 + s % 26
theorem yS {s:Int} {c:Nat} (h0:0≤s) (h:(List.range' 97 26)[(s % 26).toNat]?=some c):c=letter s.toNat:=by
 have h1:(s % 26).toNat < 26:=by lia
 rw [List.getElem?_eq_getElem (by simpa using h1),List.getElem_range'] at h
 have:=Option.some.inj h
 unfold letter
 lia
theorem jL (s:Nat):nT (letter s)=true:=by
 unfold nT letter
 rw [decide_eq_true (by lia),decide_eq_true (by lia)]
 rfl
def nameA (s:Nat) (tl:List Nat) (k:Nat):List Nat:=[letter (s + k / 8)]++tl.take (k % 8)
theorem El {nms:List (List Nat)} (h:∀(i j:Nat) a b,i < j→nms[i]?=some a→nms[j]?=some b→a≠b):nms.Nodup:=by
 rw [List.Nodup,List.pairwise_iff_getElem]
 intro i j hi hj hij
 exact h i j _ _ hij (by simp) (by simp)
theorem join_one:∀cs:List Nat,Str.join (Str.ofString "") (cs.map fun c=>tx [c])=tx cs:=by
 have e0:Str.ofString "" = tx []:=by decide +kernel
 rw [e0]
 intro cs
 induction cs with
 | nil=>rfl
 | cons c t ih =>
  cases t with
  | nil=>rfl
  | cons d u =>
   show tx [c]++tx []++Str.join (tx []) ((d::u).map fun c=>tx [c])=_
   rw [ih,qd,qd]
   rfl
instance acM {K:W.Frag} {H:Hp} {Q:VK} {p:Addr} {cs:List Nat} [h:SqA K H p (cs.map fun c=>V.str (tx [c]))]:Go (rJoin K (.str (Str.ofString "")) [.ref p] H Q) (Sd (cs.length≤1000) (Q (.str (tx cs)) H)):=⟨fun s=>⟨_,p,cs.map fun c=>tx [c],rfl,rfl,by rw [List.map_map];exact h.e,by decide,by
 rw [List.map_map,List.length_map]
 have:(cs.map ((fun t:Str=>t.length) ∘ fun c=>tx [c]))=cs.map fun _=>1:=rfl
 rw [this,List.map_const']
 have hs:(List.replicate cs.length 1).sum=cs.length:=by simp
 have:=s.1
 lia,by rw [join_one];exact s.2⟩⟩
instance aex {K:W.Frag} {H:Hp} {z:Str} {R:Prop}:Go (tyV K "str" (.str z) H∧R) R:=⟨fun k=>⟨by first | exact .inr (.inr rfl) | exact .inr rfl | exact ⟨_,rfl⟩ | trivial,k⟩⟩
structure lM (tl:List Nat):Prop where
 len:tl.length=7
 hd:∀c,tl[0]?=some c→c∈[97,98,122]
 all:∀c∈tl,c∈[97,98,122,48,49,57,113]
theorem lM.sgn {tl:List Nat} (h:lM tl):∀c∈tl,(nT c || Ip c)=true:=fun c hc=>by
 have:=h.all c hc
 simp only [List.mem_cons,List.not_mem_nil,or_false] at this
 rcases this with rfl | rfl | rfl | rfl | rfl | rfl | rfl <;> rfl
def mK (s:Nat) (tl:List Nat) (k r:Nat):List Nat:=([letter (s + 5 * k)]++List.replicate (k / 26) 48)++tl.take r
theorem Lf {s k:Nat} {tl:List Nat} (h:lM tl):gV (nameA s tl k):=by
 refine ⟨?_,?_,fun c hc=>?_,fun c hc=>?_⟩
 ·simp [nameA]
 ·simp only [nameA,List.length_append,List.length_singleton,List.length_take]
  lia
 ·have:some (letter (s + k / 8))=some c:=hc
  cases this
  exact jL _
 ·rcases List.mem_append.mp hc with hc | hc
  ·rw [List.mem_singleton.mp hc,jL]
   rfl
  ·exact h.sgn c (List.mem_of_mem_take hc)
theorem Qj {s k r:Nat} {tl:List Nat} (h:lM tl) (hr:r < 7) (hk:k < 52):gV (mK s tl k r):=by
 refine ⟨?_,?_,fun c hc=>?_,fun c hc=>?_⟩
 ·simp [mK]
 ·simp only [mK,List.length_append,List.length_singleton,List.length_take,List.length_replicate]
  lia
 ·have:some (letter (s + 5 * k))=some c:=hc
  cases this
  exact jL _
 ·rcases List.mem_append.mp hc with hc | hc
  ·rcases List.mem_append.mp hc with hc | hc
   ·rw [List.mem_singleton.mp hc,jL]
    rfl
   ·rw [(List.mem_replicate.mp hc).2]
    rfl
  ·exact h.sgn c (List.mem_of_mem_take hc)
theorem G7 {s:Nat} {tl:List Nat} (h:tl.length=7) {i j:Nat} (hi:i < 40) (hj:j < 40) (e:nameA s tl i=nameA s tl j):i=j:=by
 have e1:=congrArg List.length e
 simp only [nameA,List.length_append,List.length_singleton,List.length_take,h] at e1
 have e2:letter (s + i / 8)=letter (s + j / 8):=by
  have:=congrArg (fun l:List Nat=>l[0]?) e
  exact Option.some.inj this
 unfold letter at e2
 lia
theorem Lg {s:Nat} {tl:List Nat} (h:lM tl) {i j r t:Nat} (hi:i < 40) (hj:j < 40) (hij:i < j) (e:mK s tl i r=mK s tl j t):False:=by
 have e2:letter (s + 5 * i)=letter (s + 5 * j):=by
  have:=congrArg (fun l:List Nat=>l[0]?) e
  exact Option.some.inj this
 unfold letter at e2
 have e3:j=i + 26:=by lia
 have e4:i / 26=0:=by lia
 have e5:j / 26=1:=by lia
 have e6:tl.take r=[48]++tl.take t:=by
  unfold mK at e
  rw [e4,e5] at e
  simp only [List.replicate,List.append_nil,List.cons_append,List.nil_append,List.cons.injEq] at e
  exact e.2
 cases tl with
 | nil=>have:=h.len;simp at this
 | cons c u =>
  cases r with
  | zero=>simp at e6
  | succ r =>
   have e7:c=48:=by
    have:=congrArg (fun l:List Nat=>l[0]?) e6
    simpa using this
   have:=h.hd c rfl
   rw [e7] at this
   simp at this
section
variable {P:Program} {w:World} {K:W.Frag} {mg:Str→Option Value} {base:Heap} {c:Nat→Addr} {aG ao R CL CP CS CB:Addr}
theorem Ax (T:Txt K mg c R CL CP CS CB aG ao):Def P w K mg base CX0 2 "_law_many" ["_law_box_here"] Eh:=by
 have cA:=cA (P:=P) (w:=w) (base:=base) T
 refine bU T.PL Jo (fun vs H Q E h=>?_) (fun _ _ _ _ _ _=>el1 fun _=>rfl) (fun f cdv A outer s H vs Q E hr h=>?_)
 ·obtain ⟨bx,x,y,z,rfl,_⟩:=h
  rfl
 ·obtain ⟨bx,x,y,z,rfl,hbx,k⟩:=h
  have nd:=Jo.nd
  refine ⟨_,(aC (aW (bD bI (cj (aj aA (aj (aX cD aA (aM cA hr (aj (pv 0) (aj aA aq)))) (aj (aX cD aA (aM cA hr (aj (pv 0) (aj aA aq)))) (aj aA aq))))) (bF (fD rfl) rfl T.n_ boot_max (aj aA (aj (aX cM (aM cA hr (aj (pv 0) (aj aA aq))) aA) aq))) (fun _ _=>rfl)))),?_⟩
  clear nd cA
  rw [show start ["_law_box_here"] [.ref bx]=[some (.ref bx)] from rfl]
  try dsimp only [cO,bT]
  have bw:ak K CL "many" := ⟨T.clL,T.aY⟩
  have bB:ak K CL "rows" := ⟨T.clL,T.aZ⟩
  have bC:ak K CP "cost" := ⟨T.clP,T.bf⟩
  have aO:ak K CP "number" := ⟨T.clP,T.aN⟩
  have aV:ak K CP "moves" := ⟨T.clP,T.aR⟩
  have aL:ak K CP "stretch" := ⟨T.clP,T.aK⟩
  have aD:ak K CS "stretches" := ⟨T.clS,T.aB⟩
  have F:SH H [bx] H [(bx,.lst [.int x,.int y,.int z])] []:=SH.nil.jg List.mem_cons_self hbx rfl (by simp)
  repeat k_meth
  refine Ik SqA.e (by lia) (by show max 0 (r_ - 4) < (4:Int);lia) fun v hv=>?_
  obtain ⟨g,hg,rfl⟩:∃g:Nat,(16≤g∧g≤240)∧v=.int (g:Nat):=by
   simp only [List.mem_cons,List.not_mem_nil,or_false] at hv
   rcases hv with rfl | rfl | rfl | rfl
   ·exact ⟨16,by lia,rfl⟩
   ·rename_i r1 _ _ _ _ _ _ r2 _ _ _ _ _ _ _
    exact ⟨(16 + r1).toNat,by lia,by congr 1;lia⟩
   ·rename_i r1 _ _ _ _ _ _ r2 _ _ _ _ _ _ _
    exact ⟨(16 + r2).toNat,by lia,by congr 1;lia⟩
   ·exact ⟨240,by lia,rfl⟩
  repeat k_meth
  exact k g _ _ _ _ hg.1 hg.2 F.kpo bM
theorem sO (T:Txt K mg c R CL CP CS CB aG ao):Def P w K mg base CX0 2 "_law_names" ["_law_box_here", "_law_many_here"] Ei:=by
 have cA:=cA (P:=P) (w:=w) (base:=base) T
 refine bU T.Jy CW (fun vs H Q E h=>?_) (fun _ _ _ _ _ _=>el2 fun _ _=>rfl) (fun f cdv A outer s H vs Q E hr h=>?_)
 ·obtain ⟨bx,x,y,z,m,rfl,_⟩:=h
  rfl
 ·obtain ⟨bx,x,y,z,m,rfl,hbx,h40,k⟩:=h
  have nd:=CW.nd
  refine ⟨_,(au (aQ (i:=2) nd rfl (Or.inr rfl) mO)
   (au (aQ (i:=3) nd rfl (Or.inr rfl) (aX rZ (bD tX mO (aM cA hr (aj (pv 0) (aj aA aq))) (fun _ _=>rfl)) (S9 mO (iQ (N:=["_law_k", "_law_box_here"]) (nt:=1) (fr:=[0]) (d9 rfl T.eO (aj aA aq)) (fun _ _ _ _=>(bH (i:=0) (show (["_law_k", "_law_box_here"]:List Str).Nodup from by decide +kernel) rfl (Or.inl rfl))) (fun _ _ _ _=>iM) (fun _ _ _ _=>(bD tX mO (aM cA hr (aj (pv 1) (aj aA aq))) (fun _ _=>rfl)))))))
   (au (aQ (i:=4) nd rfl (Or.inr rfl) (aM cA hr (aj (pv 0) (aj aA aq))))
   (au (cL (bK mD (aM cA hr (aj (pv 0) (aj aA aq))) aA (bJ _)) (aC (aW (iQ (N:=["_law_k", "_law_letters", "_law_tail", "_law_first"]) (nt:=1) (fr:=[2,3,4]) (d9 rfl T.eO (aj (pv 1) aq)) (fun _ _ _ _=>(bH (i:=0) (show (["_law_k", "_law_letters", "_law_tail", "_law_first"]:List Str).Nodup from by decide +kernel) rfl (Or.inl rfl))) (fun _ _ _ _=>iM) (fun _ _ _ _=>(aX rZ (bD tX (pv 1) (aX jA (aX cD (pv 3) (aX rW (pv 0) aA)) aA) (fun _ _=>rfl)) (Oz (pv 2) (aX jA (pv 0) aA))))))) bN)
   (au (aQ (i:=5) nd rfl (Or.inl rfl) (cj aq))
   (au (dB PassesOwn.never rfl (d9 rfl T.eO (aj (pv 1) aq)) (bH (i:=6) nd rfl (Or.inl rfl)) (au (aQ (i:=7) nd rfl (Or.inl rfl) (aX rZ (bD tX (pv 2) (aX jA (aX cD (pv 4) (aX jz aA (pv 6))) aA) (fun _ _=>rfl)) (aX Tv mO (aX rW (pv 6) aA))))
    (aC (cV (cJ (pv 5) (aX rZ (pv 7) (Oz (pv 3) (aM cA hr (aj (pv 0) (aj aA aq))))))))))
   (aC (aW (pv 5))))))))),?_⟩
  clear nd cA
  rw [show start ["_law_box_here", "_law_many_here", "_law_letters", "_law_tail", "_law_first", "_law_names_here", "_law_k", "_law_name"] [.ref bx,.int (m:Nat)]=[some (.ref bx),some (.int (m:Nat)),none,none,none,none,none,none] from rfl]
  try dsimp only [cO,bT]
  have bw:ak K CL "many" := ⟨T.clL,T.aY⟩
  have bB:ak K CL "rows" := ⟨T.clL,T.aZ⟩
  have bC:ak K CP "cost" := ⟨T.clP,T.bf⟩
  have aO:ak K CP "number" := ⟨T.clP,T.aN⟩
  have aV:ak K CP "moves" := ⟨T.clP,T.aR⟩
  have aL:ak K CP "stretch" := ⟨T.clP,T.aK⟩
  have aD:ak K CS "stretches" := ⟨T.clS,T.aB⟩
  have F:SH H [bx] H [(bx,.lst [.int x,.int y,.int z])] []:=SH.nil.jg List.mem_cons_self hbx rfl (by simp)
  rw [show Str.ofString "abcdefghijklmnopqrstuvwxyz" = tx (List.range' 97 26) by decide +kernel,show Str.ofString "abz" = tx [97,98,122] by decide +kernel,show Str.ofString "abz019q" = tx [97,98,122,48,49,57,113] by decide +kernel,show Str.ofString "0" = tx [48] by decide +kernel]
  repeat k_meth
  intro c0 hc0
  have hc0:=List.mem_of_getElem? hc0
  repeat k_meth
  have e26:(List.range' 97 26).length=26:=by simp
  refine Od (n:=6) (fvs:=[some (.ref bx)]) (fun acc i ys H'=>∃(cs:List Nat) (x y z:Int),cs.length=i∧(∀c∈cs,c∈[97,98,122,48,49,57,113])∧ys=cs.map (fun c=>V.str (tx [c]))∧SH H [bx] H' [(acc,.lst ys),(bx,.lst [.int x,.int y,.int z])] []) (Ca ade Ib) (by decide) rfl (fun acc H' n=>⟨[],x_,y_,z_,rfl,by simp,rfl,F.newL n⟩) ?_ ?_ ?_
  ·clear F
   rintro acc i ys H' ⟨cs,x,y,z,h1,_,rfl,F⟩
   exact ⟨bM,by rw [List.length_map];exact h1⟩
  ·clear F
   rintro acc i ys H' R hi ⟨cs,x,y,z,h1,h2,rfl,F⟩ kk
   repeat k_meth
   intro c hc
   refine kk _ _ bM ?_
   repeat k_meth
   refine ⟨cs++[c],_,_,_,by simp [h1],fun d hd=>?_,by simp,F⟩
   rcases List.mem_append.mp hd with hd | hd
   ·exact h2 d hd
   ·rw [List.mem_singleton.mp hd]
    exact List.mem_of_getElem? hc
  ·clear F
   rintro acc ys H' ⟨tl0,x,y,z,h1,h2,rfl,F⟩
   repeat k_meth
   generalize htl:[c0]++tl0=tl
   have tk:lM tl:=by
    subst htl
    refine ⟨by simp [h1],fun c hc=>?_,fun c hc=>?_⟩
    ·have:some c0=some c:=hc
     cases this
     exact hc0
    ·rcases List.mem_append.mp hc with hc | hc
     ·rw [List.mem_singleton.mp hc]
      simp only [List.mem_cons,List.not_mem_nil,or_false] at hc0 ⊢
      lia
     ·exact h2 c hc
   have h7:=tk.len
   rename_i sh _ _ _ sh0 _ _
   refine gG (fun h=>?_) (fun h=>?_)
   ·repeat k_meth
    refine zO (n:=m) (fvs:=[some (.str (tx (List.range' 97 26))),some (.str (tx tl)),some (.int sh)]) (F:=fun j=>V.str (tx (nameA sh.toNat tl j))) (Ca (Wi rfl) Ib) (by lia) (by lia) rfl (fun i H' hi s8 Q8 q8=>?_) ?_
    ·repeat k_meth
     intro c hc
     have e3:=yS (by lia) hc
     subst e3
     repeat k_meth
     have e4:[letter (sh + (i:Int) / 8).toNat]++tl.take ((i:Int) % 8).toNat=nameA sh.toNat tl i:=by
      unfold nameA
      rw [show (sh + (i:Int) / 8).toNat=sh.toNat + i / 8 by lia,show ((i:Int) % 8).toNat=i % 8 by lia]
     rw [e4]
     exact q8
    ·repeat k_meth
     have e5:(List.range m).map (fun j=>V.str (tx (nameA sh.toNat tl j)))=((List.range m).map (nameA sh.toNat tl)).map fun cs=>V.str (tx cs):=by
      rw [List.map_map]
      rfl
     rw [e5] at F
     refine k _ _ _ _ _ _ (by simp) (fun cs hcs=>?_) (El fun i j a b hij ha hb z=>?_) F.kpo bM bM (F.fresh (LkL.m (o:=.lst _)) (nm1 (SH.neC (F:=F))))
     ·obtain ⟨j,_,rfl⟩:=List.mem_map.mp hcs
      exact Lf tk
     ·have h3:=(List.getElem?_eq_some_iff.mp hb).1
      rw [List.length_map,List.length_range] at h3
      rw [List.getElem?_map,List.getElem?_range (by lia)] at ha hb
      cases ha
      cases hb
      have:=G7 h7 (by lia) (by lia) z
      lia
   ·repeat k_meth
    rename Addr=>nl
    rw [show ((m:Nat):Int).toNat=m by lia]
    refine gH (fun i σ' H'=>∃(o6 o7:Option V) (nms:List (List Nat)) (x y z:Int),σ'=[some (.ref bx),some (.int (m:Nat)),some (.str (tx (List.range' 97 26))),some (.str (tx tl)),some (.int sh),some (.ref nl),o6,o7]∧nms.length=i∧(∀(j:Nat) cs,nms[j]?=some cs→∃r,r < 7∧cs=mK sh.toNat tl j r)∧SH H [bx] H' [(nl,.lst (nms.map fun cs=>V.str (tx cs))),(bx,.lst [.int x,.int y,.int z])] []) ⟨_,_,[],_,_,_,rfl,rfl,fun j cs e=>by simp at e,F.zY (L':=[(nl,.lst []),(bx,.lst [.int x_,.int y_,.int z_])])⟩ ?_ ?_
    ·clear F
     rintro i σ' H' hi ⟨_,_,nms,x,y,z,rfl,hl,hn,F⟩
     repeat k_meth
     intro c hc
     have e3:=yS (by lia) hc
     subst e3
     repeat k_meth
     refine ⟨_,_,nms++[mK sh.toNat tl i r_.toNat],x_,y_,z_,rfl,by simp [hl],fun j cs e=>?_,?_⟩
     ·by_cases hj:j < nms.length
      ·rw [List.getElem?_append_left hj] at e
       exact hn j cs e
      ·have hj2:=(List.getElem?_eq_some_iff.mp e).1
       rw [List.length_append,List.length_singleton] at hj2
       obtain rfl:j=i:=by lia
       rw [List.getElem?_append_right (by lia),hl,Nat.sub_self] at e
       cases e
       exact ⟨r_.toNat,by lia,rfl⟩
     ·have e4:[letter (sh + 5 * (i:Int)).toNat]++List.replicate ((i:Int) / 26).toNat 48++tl.take r_.toNat=mK sh.toNat tl i r_.toNat:=by
       unfold mK
       rw [show (sh + 5 * (i:Int)).toNat=sh.toNat + 5 * i by lia,show ((i:Int) / 26).toNat=i / 26 by lia]
      rw [e4] at F
      rw [List.map_append]
      exact F
    ·clear F
     rintro σ' H' ⟨_,_,nms,x,y,z,rfl,hl,hn,F⟩
     repeat k_meth
     refine k _ _ _ nms _ _ hl (fun cs hcs=>?_) (El fun i j a b hij ha hb z=>?_) F.kpo bM bM (F.fresh (LkL.m (o:=.lst _)) (nm1 (SH.neC (F:=F))))
     ·obtain ⟨j,hj,e⟩:=List.getElem_of_mem hcs
      obtain ⟨r,hr,rfl⟩:=hn j cs (by rw [← e];simp)
      exact Qj tk hr (by lia)
     ·have h3:=(List.getElem?_eq_some_iff.mp hb).1
      obtain ⟨r,hr,rfl⟩:=hn i a ha
      obtain ⟨t,ht,rfl⟩:=hn j b hb
      exact Lg tk (by lia) (by lia) hij z
end
theorem Vn {v:V} {xs:List Int} {lo hi:Int} (hv:v∈xs.map V.int) (h:∀a∈xs,lo≤a∧a < hi) (h0:0≤lo):∃g:Nat,v=.int (g:Nat)∧lo≤(g:Int)∧(g:Int) < hi:=by
 obtain ⟨a,ha,rfl⟩:=List.mem_map.mp hv
 have:=h a ha
 exact ⟨a.toNat,by congr 1;lia,by lia,by lia⟩
theorem Qk {v:V} {a b c d lo hi:Int} (hv:v∈[V.int a,V.int b,V.int c,V.int d]) (h:0≤lo∧(lo≤a∧a < hi)∧(lo≤b∧b < hi)∧(lo≤c∧c < hi)∧(lo≤d∧d < hi)):∃g:Nat,v=.int (g:Nat)∧lo≤(g:Int)∧(g:Int) < hi :=
 Vn (xs:=[a,b,c,d]) hv (fun z hz=>by
  simp only [List.mem_cons,List.not_mem_nil,or_false] at hz
  rcases hz with rfl | rfl | rfl | rfl
  ·exact h.2.1
  ·exact h.2.2.1
  ·exact h.2.2.2.1
  ·exact h.2.2.2.2) h.1
theorem lay_of {n at_:Nat} {rs:List Rw} {nms:List (List Nat)} (h1:at_≤n) (as:Asc rs) (ok:∀r∈rs,gV r.nm∧1≤r.sz∧r.st + r.sz≤at_) (sb:(rs.map (·.nm)).Sublist nms) (nd:nms.Nodup) (h40:nms.length≤40):Lay n rs:=by
 refine ⟨fun r hr=>⟨(ok r hr).1,(ok r hr).2.1,by have:=(ok r hr).2.2;lia⟩,?_,?_⟩
 ·have h2:rs.Pairwise fun r s=>r.nm≠s.nm:=List.pairwise_map.mp (nd.sublist sb)
  exact h2.imp₂ (fun a b h3 h4=>⟨h3,.inl h4⟩) as
 ·have:=sb.length_le
  rw [List.length_map] at this
  lia
theorem Em {rs:List Rw} {r:Rw} {at_:Nat} (h:Asc rs) (ok:∀s∈rs,s.st + s.sz≤at_) (hr:at_≤r.st):Asc (rs++[r]):=by
 unfold Asc
 rw [List.pairwise_append]
 refine ⟨h,List.pairwise_singleton _ _,fun a ha b hb=>?_⟩
 rw [List.mem_singleton.mp hb]
 have:=ok a ha
 lia
theorem jM (rs:List Rw) (r:Rw):aP (rs++[r])=aP rs++[dM r]:=by unfold aP;rw [List.map_append];rfl
theorem Ay {c:TT} {tb:TS} {D:Ends} {σ:L2.St} {H:Hp} (Pv:Nat→L2.St→Hp→Prop) (h0:∃m,Pv m σ H)
  (hs:∀m σ H,Pv m σ H→c σ H fun b H1=>if b=true then ∃N:L2.St→Hp→Prop,(∀σ' H',N σ' H'→∃m',m' < m∧Pv m' σ' H')∧tb { D with nx:=N,ct:=N,bk:=D.nx } σ H1 else D.nx σ H1):Mt c tb D σ H:=⟨Pv,h0,hs⟩
theorem X4 (rs:List Rw):∀r∈aP rs,∀v∈r,fj v=true:=by
 intro r hr v hv
 obtain ⟨x,_,rfl⟩:=List.mem_map.mp hr
 simp only [List.mem_cons,List.not_mem_nil,or_false] at hv
 rcases hv with rfl | rfl | rfl | rfl <;> rfl
instance Y0 {K:W.Frag} {H:Hp} {Q:VK} {p b:Addr} {ys:List V} {rs:List Rw} [h:Hat H p (.lst ys)] [t:TpA H ys (aP rs)] [h2:Hat H b (.lst [])]:Go (Ce K (.ref p) (.ref b) H Q) (Q (.bl (!decide (aP rs=[]))) H):=⟨Ot (zs:=[]) h.e t.e (X4 _) h2.e⟩
theorem G8 {H:Hp} {ys:List V} {rs:List Rw} {i:Nat} (t:aJ H ys (aP rs)):aJ H (ys.eraseIdx i) (aP (rs.eraseIdx i)):=by
 have hl:ys.length=rs.length:=by rw [t.1,bL]
 refine ⟨by rw [bL,List.length_eraseIdx,List.length_eraseIdx,hl],fun j r e=>?_⟩
 unfold aP at e
 rw [List.getElem?_map,List.getElem?_eraseIdx] at e
 rw [List.getElem?_eraseIdx]
 split at e
 ·rename_i hj
  have e2:(aP rs)[j]?=some r:=by unfold aP;rw [List.getElem?_map];exact e
  rw [if_pos hj]
  exact t.2 j r e2
 ·rename_i hj
  have e2:(aP rs)[j + 1]?=some r:=by unfold aP;rw [List.getElem?_map];exact e
  rw [if_neg hj]
  exact t.2 (j + 1) r e2
theorem G9 {α:Type} {ls:List α} {i:Nat} {r:α} (h:ls[i]?=some r):(ls.eraseIdx i++[r]).Perm ls:=by
 induction ls generalizing i with
 | nil=>simp at h
 | cons a t ih =>
  cases i with
  | zero =>
   simp at h
   subst h
   exact List.perm_append_comm
  | succ i=>exact (ih (by simpa using h)).cons a
section
variable {P:Program} {w:World} {K:W.Frag} {mg:Str→Option Value} {base:Heap} {c:Nat→Addr} {aG ao R CL CP CS CB:Addr}
theorem Az (T:Txt K mg c R CL CP CS CB aG ao):Def P w K mg base CX0 3 "_law_rows" ["_law_box_here", "_law_many_here"] Ej:=by
 have sO:=sO (P:=P) (w:=w) (base:=base) T
 have cA:=cA (P:=P) (w:=w) (base:=base) T
 refine bU T.PN Jp (fun vs H Q E h=>?_) (fun _ _ _ _ _ _=>el2 fun _ _=>rfl) (fun f cdv A outer s H vs Q E hr h=>?_)
 ·obtain ⟨bx,x,y,z,n,rfl,_⟩:=h
  rfl
 ·obtain ⟨bx,x,y,z,n,rfl,hbx,h16,m_,k⟩:=h
  have nd:=Jp.nd
  refine ⟨_,(au (aQ (i:=2) nd rfl (Or.inl rfl) (bD bI (cj (aj (aM cA hr (aj (pv 0) (aj aA aq))) (aj aA aq))) (gj k_ rfl T.vJ boot_int (aj (dR mD (aM cA hr (aj (pv 0) (aj aA aq))) aA (bJ _)) aq)) (fun _ _=>rfl)))
   (au (aQ (i:=3) nd rfl (Or.inl rfl) (aM sO hr (aj (pv 0) (aj (pv 2) aq))))
   (au (aQ (i:=4) nd rfl (Or.inl rfl) (aM cA hr (aj (pv 0) (aj aA aq))))
   (au (aQ (i:=5) nd rfl (Or.inl rfl) (cj aq))
   (au (aQ (i:=6) nd rfl (Or.inl rfl) aA)
   (au (dB PassesOwn.never rfl (d9 rfl T.eO (aj (pv 2) aq)) (bH (i:=7) nd rfl (Or.inl rfl)) (au (aQ (i:=8) nd rfl (Or.inl rfl) (aX cM (pv 1) (pv 6)))
    (aC (cL (bK gY (pv 8) aA (bJ _)) (au (aQ (i:=9) nd rfl (Or.inl rfl) (aM cA hr (aj (pv 0) (aj (bF (iu rfl) rfl T.rJ boot_min (aj (pv 8) (aj aA aq))) aq))))
     (au (aQ (i:=10) nd rfl (Or.inl rfl) (aM cA hr (aj (pv 0) (aj (pv 8) aq))))
     (au (aQ (i:=11) nd rfl (Or.inl rfl) (bD bI (cj (aj aA (aj aA (aj (pv 9) (aj (pv 10) aq))))) (aM cA hr (aj (pv 0) (aj aA aq))) (fun _ _=>rfl)))
     (au (aQ (i:=12) nd rfl (Or.inl rfl) (bD bI (cj (aj aA (aj aA (aj aA (aj aA aq))))) (aM cA hr (aj (pv 0) (aj aA aq))) (fun _ _=>rfl)))
     (au (aQ (i:=13) nd rfl (Or.inl rfl) (aX cD aA (aM cA hr (aj (pv 0) (aj (bF (iu rfl) rfl T.rJ boot_min (aj (aX cM (pv 8) (pv 11)) (aj (pv 12) aq))) aq)))))
     (au (aQ (i:=14) nd rfl (Or.inl rfl) (aX jz (aX cD aA (aM cA hr (aj (pv 0) (aj aA aq)))) (gj k_ rfl T.vJ boot_int (aj (gh (dR mD (aM cA hr (aj (pv 0) (aj aA aq))) aA (bJ _)) (iz (dR gY (pv 4) aA (bJ _)))) aq))))
     (au (cV (cJ (pv 5) (dg (aj (bD bI (pv 3) (pv 7) (fun _ _=>rfl)) (aj (aX cD (pv 6) (pv 11)) (aj (pv 13) (aj (pv 14) aq)))))))
     (aC (aQ (i:=6) nd rfl (Or.inl rfl) (aX cD (aX cD (pv 6) (pv 11)) (pv 13))))))))))) bN))))
   (aC (aW (pv 5))))))))),?_⟩
  clear nd sO cA
  rw [show start ["_law_box_here", "_law_many_here", "_law_most", "_law_names_here", "_law_pinned", "_law_rows_here", "_law_at", "_law_k", "_law_left", "_law_near", "_law_far", "_law_gap", "_law_wide", "_law_size", "_law_pins"] [.ref bx,.int (n:Nat)]=[some (.ref bx),some (.int (n:Nat)),none,none,none,none,none,none,none,none,none,none,none,none,none] from rfl]
  try dsimp only [cO,bT]
  have bw:ak K CL "many" := ⟨T.clL,T.aY⟩
  have bB:ak K CL "rows" := ⟨T.clL,T.aZ⟩
  have bC:ak K CP "cost" := ⟨T.clP,T.bf⟩
  have aO:ak K CP "number" := ⟨T.clP,T.aN⟩
  have aV:ak K CP "moves" := ⟨T.clP,T.aR⟩
  have aL:ak K CP "stretch" := ⟨T.clP,T.aK⟩
  have aD:ak K CS "stretches" := ⟨T.clS,T.aB⟩
  have F:SH H [bx] H [(bx,.lst [.int x,.int y,.int z])] []:=SH.nil.jg List.mem_cons_self hbx rfl (by simp)
  repeat k_meth
  have hidx:0≤(if decide (r_=0)=true then (1:Int) else 0)∧(if decide (r_=0)=true then (1:Int) else 0) < 2:=by split <;> lia
  refine Ik SqA.e hidx.1 hidx.2 fun v hv=>?_
  obtain ⟨m,rfl,hm0,hm⟩:=Vn (lo:=0) (hi:=41) (xs:=[_,40]) hv (fun a ha=>by
   simp only [List.mem_cons,List.not_mem_nil,or_false] at ha
   rcases ha with rfl | rfl <;> lia) (by lia)
  clear hv hidx
  repeat k_meth
  intro nms nl nk nn
  repeat k_meth
  rename Addr=>rwA
  have ⟨pd,hpd⟩:∃pd,pd=r_:=⟨_,rfl⟩
  rw [← hpd]
  rw [show ((m:Nat):Int).toNat=m by lia]
  refine gH (fun i σ' H'=>∃(o7 o8 o9 o10 o11 o12 o13 o14:Option V) (at_:Nat) (rs:List Rw) (ys:List V) (x y z:Int),σ'=[some (.ref bx),some (.int (n:Nat)),some (.int (m:Nat)),some (.ref p_),some (.int pd),some (.ref rwA),some (.int (at_:Nat)),o7,o8,o9,o10,o11,o12,o13,o14]∧at_≤n∧Asc rs∧(∀r∈rs,gV r.nm∧1≤r.sz∧r.st + r.sz≤at_)∧(rs.map (·.nm)).Sublist (nms.take i)∧ys.length=rs.length∧SH H [bx] H' [(rwA,.lst ys),(p_,.lst (nms.map fun cs=>V.str (tx cs))),(bx,.lst [.int x,.int y,.int z])] [.tps ys (aP rs)]) ⟨_,_,_,_,_,_,_,_,0,[],[],x_,y_,z_,rfl,Nat.zero_le _,List.Pairwise.nil,by simp,List.nil_sublist _,rfl,(F.fW (ys:=[]) (rs:=aP []) aJ.nil).sub SbC.s SbI.s⟩ ?_ ?_
  ·clear F hpd lo_ hi_
   rintro i σ' H' hi ⟨_,_,_,_,_,_,_,_,at_,rs,ys,x,y,z,rfl,hat,as,ok,sb,yl,F⟩
   obtain ⟨nm0,hnm⟩:∃nm0,nms[i]?=some nm0:=⟨nms[i]'(by lia),by simp⟩
   have a1:AtI (nms.map fun cs=>V.str (tx cs)) (i:Int) (.str (tx nm0)):=⟨b_ (by rw [List.getElem?_map,hnm];rfl)⟩
   have tkn:nms.take (i + 1)=nms.take i++[nm0]:=by rw [List.take_succ,hnm];rfl
   have few:rs.length≤40:=by
    have:=sb.length_le
    rw [List.length_map,List.length_take] at this
    lia
   repeat k_meth
   refine gG (fun h=>?_) (fun h=>?_)
   ·repeat k_meth
    refine Ik SqA.e lo_ hi_ fun v hv=>?_
    obtain ⟨g,rfl,hg0,hg⟩:=Qk (lo:=0) (hi:=(n:Int) - (at_:Int)) hv (by lia)
    clear hv
    repeat k_meth
    refine Ik SqA.e lo_ hi_ fun v hv=>?_
    obtain ⟨wd,rfl,hw0,hw⟩:=Qk (lo:=1) (hi:=241) hv (by lia)
    clear hv
    repeat k_meth
    rename_i zz _ _ _ zlo zhi _ r1 _ _ _ afy afz _
    obtain ⟨z1,rfl⟩:∃z1:Nat,zz=(z1:Int):=⟨zz.toNat,by lia⟩
    refine gG (fun h0=>?_) (fun h0=>?_)
    ·repeat k_meth
     rename Addr=>tq
     obtain ⟨pn,hpn⟩:∃pn:Nat,(1 + r1) * (if decide (pd > 0)=true then (1:Int) else 0)=(pn:Int):=⟨((1 + r1) * (if decide (pd > 0)=true then (1:Int) else 0)).toNat,by have:0≤(1 + r1) * (if decide (pd > 0)=true then (1:Int) else 0):=Int.mul_nonneg (by lia) (by split <;> lia);lia⟩
     rw [hpn] at F ⊢
     rw [show [V.str (tx nm0),V.int ((at_:Int) + (g:Int)),V.int (1 + (z1:Int)),V.int (pn:Int)]=dM ⟨nm0,at_ + g,1 + z1,pn⟩ by simp [dM]] at F
     have F2:=SH.app (ys:=ys) (rs:=aP rs) (q:=tq) (r:=dM ⟨nm0,at_ + g,1 + z1,pn⟩) F (LkP.m) (LkI.m)
     rw [← jM] at F2
     rw [show (at_:Int) + (g:Int) + (1 + (z1:Int))=((at_ + g + (1 + z1):Nat):Int) by lia]
     refine ⟨_,_,_,_,_,_,_,_,at_ + g + (1 + z1),rs++[⟨nm0,at_ + g,1 + z1,pn⟩],ys++[.ref tq],x_,y_,z_,rfl,by lia,Em as (fun s hs=>(ok s hs).2.2) (by show at_≤at_ + g;lia),fun s hs=>?_,?_,by simp [yl],F2.sub SbC.s SbI.s⟩
     ·rcases List.mem_append.mp hs with hs | hs
      ·have:=ok s hs
       exact ⟨this.1,this.2.1,by lia⟩
      ·rw [List.mem_singleton.mp hs]
       exact ⟨nk _ (List.mem_of_getElem? hnm),by show 1≤1 + z1;lia,by show at_ + g + (1 + z1)≤_;lia⟩
     ·rw [List.map_append,tkn]
      exact List.Sublist.append sb (List.Sublist.refl _)
    ·repeat k_meth
     rename Addr=>tq
     obtain ⟨pn,hpn⟩:∃pn:Nat,(1 + r1) * (if false=true then (1:Int) else 0)=(pn:Int):=⟨((1 + r1) * (if false=true then (1:Int) else 0)).toNat,by have:0≤(1 + r1) * (if false=true then (1:Int) else 0):=Int.mul_nonneg (by lia) (by split <;> lia);lia⟩
     rw [hpn] at F ⊢
     rw [show [V.str (tx nm0),V.int ((at_:Int) + (g:Int)),V.int (1 + (z1:Int)),V.int (pn:Int)]=dM ⟨nm0,at_ + g,1 + z1,pn⟩ by simp [dM]] at F
     have F2:=SH.app (ys:=ys) (rs:=aP rs) (q:=tq) (r:=dM ⟨nm0,at_ + g,1 + z1,pn⟩) F (LkP.m) (LkI.m)
     rw [← jM] at F2
     rw [show (at_:Int) + (g:Int) + (1 + (z1:Int))=((at_ + g + (1 + z1):Nat):Int) by lia]
     refine ⟨_,_,_,_,_,_,_,_,at_ + g + (1 + z1),rs++[⟨nm0,at_ + g,1 + z1,pn⟩],ys++[.ref tq],x_,y_,z_,rfl,by lia,Em as (fun s hs=>(ok s hs).2.2) (by show at_≤at_ + g;lia),fun s hs=>?_,?_,by simp [yl],F2.sub SbC.s SbI.s⟩
     ·rcases List.mem_append.mp hs with hs | hs
      ·have:=ok s hs
       exact ⟨this.1,this.2.1,by lia⟩
      ·rw [List.mem_singleton.mp hs]
       exact ⟨nk _ (List.mem_of_getElem? hnm),by show 1≤1 + z1;lia,by show at_ + g + (1 + z1)≤_;lia⟩
     ·rw [List.map_append,tkn]
      exact List.Sublist.append sb (List.Sublist.refl _)
   ·repeat k_meth
    exact ⟨_,_,_,_,_,_,_,_,at_,rs,ys,x,y,z,rfl,hat,as,ok,sb.trans (by rw [tkn];exact List.sublist_append_left _ _),yl,F⟩
  ·clear F
   rintro σ' H' ⟨_,_,_,_,_,_,_,_,at_,rs,ys,x,y,z,rfl,hat,as,ok,sb,yl,F⟩
   repeat k_meth
   exact k _ _ _ rs _ ys _ (lay_of hat as ok sb (nn.sublist (List.take_sublist _ _)) (by rw [List.length_take];lia)) as F.kpo bM bM TpA.e (F.fresh (LkL.m (o:=.lst _)) (nm1 (SH.neC (F:=F))))
theorem sS (T:Txt K mg c R CL CP CS CB aG ao):Def P w K mg base CX0 2 "_law_mixed" ["_law_box_here", "_law_some"] Ek:=by
 have cA:=cA (P:=P) (w:=w) (base:=base) T
 refine bU T.Jz CZ (fun vs H Q E h=>?_) (fun _ _ _ _ _ _=>el2 fun _ _=>rfl) (fun f cdv A outer s H vs Q E hr h=>?_)
 ·obtain ⟨bx,l,x,y,z,ys,rs,rfl,_⟩:=h
  rfl
 ·obtain ⟨bx,l,x,y,z,ys,rs,rfl,hbx,hl,tp,hz,nbl,k⟩:=h
  have nd:=CZ.nd
  refine ⟨_,(au (aQ (i:=2) nd rfl (Or.inl rfl) (gj je rfl T.ji boot_list (aj (pv 1) aq)))
   (au (aQ (i:=3) nd rfl (Or.inl rfl) (cj aq))
   (au (tL PassesOwn.never (bK (jX hr) (pv 2) (cj aq) (bJ _)) (aC (cV (cJ (pv 3) (Tz (pv 2) (aM cA hr (aj (pv 0) (aj (bF dF rfl T.jr boot_len (aj (pv 2) aq)) aq))))))))
   (aC (aW (pv 3)))))),?_⟩
  clear nd cA
  rw [show start ["_law_box_here", "_law_some", "_law_left", "_law_found"] [.ref bx,.ref l]=[some (.ref bx),some (.ref l),none,none] from rfl]
  try dsimp only [cO,bT]
  have bw:ak K CL "many" := ⟨T.clL,T.aY⟩
  have bB:ak K CL "rows" := ⟨T.clL,T.aZ⟩
  have bC:ak K CP "cost" := ⟨T.clP,T.bf⟩
  have aO:ak K CP "number" := ⟨T.clP,T.aN⟩
  have aV:ak K CP "moves" := ⟨T.clP,T.aR⟩
  have aL:ak K CP "stretch" := ⟨T.clP,T.aK⟩
  have aD:ak K CS "stretches" := ⟨T.clS,T.aB⟩
  have F:SH H [bx] H [(bx,.lst [.int x,.int y,.int z])] []:=SH.nil.jg List.mem_cons_self hbx rfl (by simp)
  have rR:=Old.mk (M:=[bx]) hl (nm1 (Ne.symm nbl))
  have yl:ys.length=rs.length:=by rw [tp.1,bL]
  replace F:=F.fW tp
  repeat k_meth
  rename Addr=>fd
  refine Ay (fun m σ' H'=>∃(ls fs:List Rw) (yl yf:List V) (x y z:Int),σ'=[some (.ref bx),some (.ref l),some (.ref p_),some (.ref fd)]∧m=ls.length∧(fs++ls).Perm rs∧yl.length=ls.length∧yf.length=fs.length∧SH H [bx] H' [(p_,.lst yl),(fd,.lst yf),(bx,.lst [.int x,.int y,.int z])] [.tps yl (aP ls),.tps yf (aP fs)]) ⟨rs.length,rs,[],ys,[],x,y,z,rfl,rfl,List.Perm.refl _,yl,rfl,(F.fW (ys:=[]) (rs:=aP []) aJ.nil).sub SbC.s SbI.s⟩ ?_
  clear F
  rintro m σ' H' ⟨ls,fs,yl',yf,x,y,z,rfl,rfl,pm,h1,h2,F⟩
  have pl:=pm.length_eq
  rw [List.length_append] at pl
  repeat k_meth
  by_cases hn:aP ls=[]
  ·repeat k_meth
   have e0:ls=[]:=List.map_eq_nil_iff.mp hn
   rw [e0,List.append_nil] at pm
   exact k _ _ _ fs _ yf _ pm F.kpo bM bM TpA.e (F.fresh (LkL.m (o:=.lst _)) (nm1 (SH.neC (F:=F))))
  ·have hp:0 < ls.length:=by
    cases ls with
    | nil=>exact absurd rfl hn
    | cons a t=>simp
   repeat k_meth
   refine ⟨fun σ' H'=>∃m',m' < ls.length∧_,fun σ' H' h=>h,?_⟩
   repeat k_meth
   intro v hv
   repeat k_meth
   obtain ⟨r,q,e1,rfl,e2⟩:=dj (H:=H_) (rs:=ls) TpA.e hv
   have t1:=G8 (H:=H_) (ys:=yl') (rs:=ls) (i:=r_.toNat) TpA.e
   have t2:aJ H_ (yf++[.ref q]) (aP (fs++[r])):=by
    rw [jM]
    exact aJ.snoc (TpA.e (H:=H_) (ys:=yf) (rs:=aP fs)) e2
   have hlt:=(List.getElem?_eq_some_iff.mp e1).1
   refine ⟨ls.length - 1,by lia,ls.eraseIdx r_.toNat,fs++[r],yl'.eraseIdx r_.toNat,yf++[.ref q],x_,y_,z_,rfl,?_,?_,?_,?_,((F.fW t2).fW t1).sub SbC.s SbI.s⟩
   ·rw [List.length_eraseIdx,if_pos hlt]
   ·refine List.Perm.trans ?_ pm
    rw [List.append_assoc]
    exact (List.perm_append_comm.trans (G9 e1)).append_left fs
   ·rw [List.length_eraseIdx,List.length_eraseIdx,h1]
   ·rw [List.length_append,List.length_append,h2]
    rfl
end
theorem X5 {K:W.Frag} {l:Addr} {xs:List V} {rows:List (List V)} {σ fvs:L2.St} {fr:List Nat} {c:TT} {te:TE} {H:Hp} {Q:VK} {P:List V→Bool} (hq:H l=some (.lst xs)) (tp:aJ H xs rows) (hz:xs.length≤1000000) (hf:(fr.map fun i=>(σ[i]?).getD none)=fvs)
  (G:Nat→List V→Hp→Prop) (st:∀i ys H1 H2,(∀q u,H1 q=some (.tup u)→H2 q=some (.tup u))→G i ys H1→G i ys H2) (g0:G 0 [] H)
  (abl:∀(i:Nat) (q:Addr) r (H':Hp) (R:Bool→Hp→Prop),rows[i]?=some r→Same H H'→H' q=some (.tup r)→(∀H2,Same H' H2→R (P r) H2)→c (some (.ref q)::fvs) H' R)
  (abm:∀(i:Nat) (q:Addr) r ys (H':Hp) (R:VK),rows[i]?=some r→P r=true→Same H H'→H' q=some (.tup r)→G i ys H'→(∀y H2,Same H' H2→G (i + 1) (ys++[y]) H2→R y H2)→te (some (.ref q)::fvs) H' R)
  (skip:∀(i:Nat) r ys (H':Hp),rows[i]?=some r→P r=false→G i ys H'→G (i + 1) ys H')
  (k:∀p ys H',New H H' p (.lst ys)→G xs.length ys H'→Q (.ref p) H'):dU (Itl K l) 1 fr (bQ 0) c te σ H Q:=by
 intro acc hacc
 subst hf
 have Cg:∀b u,H b=some u→b≠acc:=fun b u e=>cu e hacc
 have n0:New H (upd H acc (.lst [])) acc (.lst []):=.mk' hacc
 refine nJ (jC (xs:=xs)) (fun i ys H'=>H' acc=some (.lst ys)∧Same H H'∧ys.length≤i∧G i ys H') ⟨n0.e,n0.s,Nat.le_refl _,st _ _ _ _ (fun q u e=>n0.s _ _ e) g0⟩ (fun i ys H' _ h=>⟨h.2.1.seq (SqL.of hq),h.1⟩) ?_ ?_
 ·rintro i x tv ys H' hx hi ⟨ha,hs,hl,hg⟩ htv
  obtain ⟨t0,rfl⟩:∃a,tv=[a]:=List.length_eq_one_iff.mp htv
  obtain ⟨r,q,e1,rfl,e2⟩:=su tp hx
  refine wn0 ?_
  refine abl i q r H' _ e1 hs (hs _ _ e2) fun H2 s2=>?_
  have g2:=st _ _ _ _ (fun q u e=>s2 _ _ e) hg
  have ha2:H2 acc=some (.lst ys):=s2 _ _ ha
  by_cases hp:P r=true
  ·rw [hp,if_pos rfl]
   refine abm i q r ys H2 _ e1 hp (hs.trans s2) (s2 _ _ (hs _ _ e2)) g2 fun y H3 s3 g3=>⟨Nat.lt_of_le_of_lt hl (Nat.lt_of_lt_of_le hi (cQ hz)),s3 _ _ ha2,jR.next (tv:=[some (.ref q)]) hi ⟨cB,fun b u e=>?_,by rw [List.length_append,List.length_singleton];lia,st _ _ _ _ (fun q' u e=>?_) g3⟩ rfl⟩
   ·rw [bW (Cg b u e)]
    exact s3 _ _ (s2 _ _ (hs _ _ e))
   ·have e3:H3 acc=some (.lst ys):=s3 _ _ ha2
    rw [bW (fun z=>by rw [z,e3] at e;cases e)]
    exact e
  ·have hp:P r=false:=by simpa using hp
   rw [hp,if_neg (by decide)]
   exact jR.next (tv:=[some (.ref q)]) hi ⟨ha2,hs.trans s2,by lia,skip i r ys H2 e1 hp g2⟩ rfl
 ·rintro ys H' ⟨ha,hs,_,hg⟩
  exact k acc ys H' ⟨hs,ha,Cg⟩ hg
section
variable {K:W.Frag} {H:Hp} {Q:VK} {p q l:Addr} {ns:List Int} {c:Int}
instance acN [h:SqA K H l (ns.map V.int)]:Go (Oj K [.ref l] H Q) (Sd ((∀n∈ns,0≤n∧n≤1000000)∧ns.length≤1000000) (Q (.int ns.sum) H)):=⟨fun s=>w_sumL h.e s.1.1 s.1.2 s.2⟩
end
def gp (rs:List Rw):List Int×Int:=rs.foldl (fun g r=>(g.1++[(r.st:Int) - g.2],(r.st:Int) + (r.sz:Int))) ([],0)
theorem sU (rs:List Rw) (r:Rw):gp (rs++[r])=((gp rs).1++[(r.st:Int) - (gp rs).2],(r.st:Int) + (r.sz:Int)):=by unfold gp;rw [List.foldl_append];rfl
theorem nj (rs:List Rw):(gp rs).1.length=rs.length:=by
 have:∀(rs:List Rw) (g:List Int×Int),(rs.foldl (fun g r=>(g.1++[(r.st:Int) - g.2],(r.st:Int) + (r.sz:Int))) g).1.length=g.1.length + rs.length:=by
  intro rs
  induction rs with
  | nil=>intro g;rfl
  | cons r t ih=>intro g;rw [List.foldl_cons,ih];simp;lia
 have:=this rs ([],0)
 simpa [gp] using this
def aF (n:Nat) (rs:List Rw):List Int:=(gp rs).1++[(n:Int) - (gp rs).2]
theorem dO {rs:List Rw} {i:Nat} {r:Rw} (h:rs[i]?=some r):rs.take (i + 1)=rs.take i++[r]:=by rw [List.take_succ,h];rfl
def within (a b:Int) (r:Rw):Bool:=decide (a≤(r.st:Int)) && decide ((r.st:Int) < b)
def dY (rs:List Rw) (a b:Int):Int:=b - a - ((rs.filter (within a b)).map fun r=>(r.sz:Int)).sum
def yU (CL:Addr):Sp:=fun vs H Q _=>∃(x p dx:Addr) (n:Nat) (zs:List V) (rs:List Rw),vs=[.ref x]∧H x=some (.ins CL dx (lF (n:Nat) p))∧H p=some (.lst zs)∧aJ H zs (aP rs)∧rs.length≤40∧∀q H',New H H' q (.lst ((aF n rs).map V.int))→Q (.ref q) H'
def En:Sp:=fun vs H Q _=>∃(l:Addr) (n:Nat) (zs:List V) (rs:List Rw),vs=[.int (n:Nat),.ref l]∧H l=some (.lst zs)∧aJ H zs (aP rs)∧rs.length≤40∧∀q H',New H H' q (.lst ((aF n rs).map V.int))→Q (.ref q) H'
def vO (CL:Addr):Sp:=fun vs H Q _=>∃(x p dx:Addr) (n:Nat) (zs:List V) (rs:List Rw) (a b:Int),vs=[.ref x,.int a,.int b]∧H x=some (.ins CL dx (lF (n:Nat) p))∧H p=some (.lst zs)∧aJ H zs (aP rs)∧rs.length≤40∧∀q ys H',New H H' q (.lst ys)→aJ H' ys (aP (rs.filter (within a b)))→Q (.ref q) H'
def Eo (CL:Addr):Sp:=fun vs H Q _=>∃(x p dx:Addr) (n:Nat) (zs:List V) (rs:List Rw) (a b:Int),vs=[.ref x,.int a,.int b]∧H x=some (.ins CL dx (lF (n:Nat) p))∧H p=some (.lst zs)∧aJ H zs (aP rs)∧(rs.length≤40∧∀r∈rs,r.sz≤240)∧∀H',Same H H'→Q (.int (dY rs a b)) H'
section
variable {CL x p dx l:Addr} {H:Hp} {Q:VK} {E:XK} {n:Nat} {zs:List V} {rs:List Rw} {a b:Int}
instance Y4 [h:Hat H x (.ins CL dx (lF (n:Nat) p))] [h2:Hat H p (.lst zs)] [t:TpA H zs (aP rs)]:Go (yU CL [.ref x] H Q E) (Sd (rs.length≤40) (∀q H',New H H' q (.lst ((aF n rs).map V.int))→Q (.ref q) H')):=⟨fun s=>⟨x,p,dx,n,zs,rs,rfl,h.e,h2.e,t.e,s.1,s.2⟩⟩
instance abn [h2:Hat H l (.lst zs)] [t:TpA H zs (aP rs)]:Go (En [.int (n:Nat),.ref l] H Q E) (Sd (rs.length≤40) (∀q H',New H H' q (.lst ((aF n rs).map V.int))→Q (.ref q) H')):=⟨fun s=>⟨l,n,zs,rs,rfl,h2.e,t.e,s.1,s.2⟩⟩
instance X6 [h:Hat H x (.ins CL dx (lF (n:Nat) p))] [h2:Hat H p (.lst zs)] [t:TpA H zs (aP rs)]:Go (vO CL [.ref x,.int a,.int b] H Q E) (Sd (rs.length≤40) (∀q ys H',New H H' q (.lst ys)→aJ H' ys (aP (rs.filter (within a b)))→Q (.ref q) H')):=⟨fun s=>⟨x,p,dx,n,zs,rs,a,b,rfl,h.e,h2.e,t.e,s.1,s.2⟩⟩
instance abo [h:Hat H x (.ins CL dx (lF (n:Nat) p))] [h2:Hat H p (.lst zs)] [t:TpA H zs (aP rs)]:Go (Eo CL [.ref x,.int a,.int b] H Q E) (Sd (rs.length≤40∧∀r∈rs,r.sz≤240) (∀H',Same H H'→Q (.int (dY rs a b)) H')):=⟨fun s=>⟨x,p,dx,n,zs,rs,a,b,rfl,h.e,h2.e,t.e,s.1,s.2⟩⟩
end
def X7 (a b:Int) (r:List V):Bool:=match r with
 | [_,.int s,_,_]=>decide (a≤s) && decide (s < b)
 | _=>false
theorem Lh (rs:List Rw) (a b:Int):(aP rs).filter (X7 a b)=aP (rs.filter (within a b)):=by
 unfold aP
 rw [List.filter_map]
 rfl
theorem yV {rows:List (List V)} {i:Nat} {r:List V} (h:rows[i]?=some r):rows.take (i + 1)=rows.take i++[r]:=by rw [List.take_succ,h];rfl
theorem Ua {H1 H2:Hp} {ys:List V} {rows:List (List V)} (s:∀q u,H1 q=some (.tup u)→H2 q=some (.tup u)) (t:aJ H1 ys rows):aJ H2 ys rows:=⟨t.1,fun j r e=>let ⟨q,a,b⟩:=t.2 j r e;⟨q,a,s _ _ b⟩⟩
section
variable {P:Program} {w:World} {K:W.Frag} {mg:Str→Option Value} {base:Heap} {c:Nat→Addr} {aG ao R CL CP CS CB:Addr}
theorem cg (T:Txt K mg c R CL CP CS CB aG ao):Def P w K mg base CX0 2 "gaps_of" ["layout"] (yU CL):=by
 have bG:=bG (P:=P) (w:=w) (base:=base) T
 have cF:=cF (P:=P) (w:=w) (base:=base) T
 have bY:=bY (P:=P) (w:=w) (base:=base) T
 refine bU T.Dv xR (fun vs H Q E h=>?_) (fun _ _ _ _ _ _=>el1 fun _=>rfl) (fun f cdv A outer s H vs Q E hr h=>?_)
 ·obtain ⟨x,p,dx,n,zs,rs,rfl,_⟩:=h
  rfl
 ·obtain ⟨x,p,dx,n,zs,rs,rfl,hx,hp,tp,few,k⟩:=h
  have nd:=xR.nd
  refine ⟨_,(au (aQ (i:=1) nd rfl (Or.inl rfl) (cj aq))
   (au (aQ (i:=2) nd rfl (Or.inl rfl) aA)
   (au (dB PassesOwn.never rfl (d7 (cG (pv 0) T.clL bG hr)) (bH (i:=3) nd rfl (Or.inl rfl)) (au (cV (cJ (pv 1) (aX cM (bD bZ (pv 3) aA (fun _ _=>rfl)) (pv 2))))
    (aC (aQ (i:=2) nd rfl (Or.inl rfl) (aM cF hr (aj (aM bY hr (aj (pv 3) aq)) aq))))))
   (aC (aW (aX kZ (pv 1) (cj (aj (aX cM (fO (pv 0) rfl) (pv 2)) aq)))))))),?_⟩
  clear nd bG cF bY
  rw [show start ["layout", "gaps", "behind", "block"] [.ref x]=[some (.ref x),none,none,none] from rfl]
  try dsimp only [cO,bT]
  have bw:ak K CL "many" := ⟨T.clL,T.aY⟩
  have bB:ak K CL "rows" := ⟨T.clL,T.aZ⟩
  have bC:ak K CP "cost" := ⟨T.clP,T.bf⟩
  have aO:ak K CP "number" := ⟨T.clP,T.aN⟩
  have aV:ak K CP "moves" := ⟨T.clP,T.aR⟩
  have aL:ak K CP "stretch" := ⟨T.clP,T.aK⟩
  have aD:ak K CS "stretches" := ⟨T.clS,T.aB⟩
  have jK:=Old.mk (M:=[]) hx nm0
  have jt:=Old.mk (M:=[]) hp nm0
  have h_:=fY.mk tp
  have F:SH H [] H [] []:=SH.nil
  repeat k_meth
  rename_i _ gl
  rename Addr=>bl
  refine g_ (xs:=zs) (fun i σ' H'=>∃o3:Option V,σ'=[some (.ref x),some (.ref gl),some (.int (gp (rs.take i)).2),o3]∧SH H [] H' [(gl,.lst ((gp (rs.take i)).1.map V.int)),(bl,.lst zs)] []) ⟨_,rfl,F.zY (L':=[(gl,.lst []),(bl,.lst zs)])⟩ ?_ ?_ ?_
  ·clear F
   rintro i σ' H' _ ⟨_,rfl,F⟩
   exact SqA.e
  ·clear F
   rintro i v σ' H' hv ⟨_,rfl,F⟩
   obtain ⟨r,q1,e1,rfl,e2⟩:=dj tp hv
   have qK:=Old.mk (M:=[]) e2 nm0
   have gl1:=nj (rs.take i)
   rw [List.length_take] at gl1
   repeat k_meth
   refine ⟨_,by rw [dO e1,sU],?_⟩
   rw [dO e1,sU]
   simp only [List.map_append,List.map_cons,List.map_nil]
   exact F.zY
  ·clear F
   rintro σ' H' ⟨_,rfl,F⟩
   have gl1:=nj rs
   rw [show zs.length=rs.length by rw [tp.1,bL],List.take_length] at F ⊢
   repeat k_meth
   rw [show (gp rs).1.map V.int++[V.int ((n:Int) - (gp rs).2)]=(aF n rs).map V.int by unfold aF;rw [List.map_append];rfl] at F
   exact k _ _ SH.nwC
theorem iV (T:Txt K mg c R CL CP CS CB aG ao):Def P w K mg base CX0 1 "_law_gaps" ["_law_many_here", "_law_rows_here"] En:=by
 refine bU T.JH Dh (fun vs H Q E h=>?_) (fun _ _ _ _ _ _=>el2 fun _ _=>rfl) (fun f cdv A outer s H vs Q E hr h=>?_)
 ·obtain ⟨l,n,zs,rs,rfl,_⟩:=h
  rfl
 ·obtain ⟨l,n,zs,rs,rfl,hl,tp,few,k⟩:=h
  have nd:=Dh.nd
  refine ⟨_,(au (aQ (i:=2) nd rfl (Or.inl rfl) (cj aq))
   (au (aQ (i:=3) nd rfl (Or.inl rfl) aA)
   (au (dB PassesOwn.never rfl (d7 (pv 1)) (iZ rfl (bV (bH (i:=4) nd rfl (Or.inl rfl)) (bV (bH (i:=5) nd rfl (Or.inl rfl)) (bV (bH (i:=6) nd rfl (Or.inl rfl)) (bV (bH (i:=7) nd rfl (Or.inl rfl)) gD))))) (au (cV (cJ (pv 2) (aX cM (pv 5) (pv 3))))
    (aC (aQ (i:=3) nd rfl (Or.inl rfl) (aX cD (pv 5) (pv 6))))))
   (aC (aW (aX kZ (pv 2) (cj (aj (aX cM (pv 0) (pv 3)) aq)))))))),?_⟩
  clear nd 
  rw [show start ["_law_many_here", "_law_rows_here", "_law_found", "_law_end", "_law_name", "_law_start", "_law_size", "_law_pins"] [.int (n:Nat),.ref l]=[some (.int (n:Nat)),some (.ref l),none,none,none,none,none,none] from rfl]
  try dsimp only [cO,bT]
  have bw:ak K CL "many" := ⟨T.clL,T.aY⟩
  have bB:ak K CL "rows" := ⟨T.clL,T.aZ⟩
  have bC:ak K CP "cost" := ⟨T.clP,T.bf⟩
  have aO:ak K CP "number" := ⟨T.clP,T.aN⟩
  have aV:ak K CP "moves" := ⟨T.clP,T.aR⟩
  have aL:ak K CP "stretch" := ⟨T.clP,T.aK⟩
  have aD:ak K CS "stretches" := ⟨T.clS,T.aB⟩
  have rR:=Old.mk (M:=[]) hl nm0
  have h_:=fY.mk tp
  have F:SH H [] H [] []:=SH.nil
  repeat k_meth
  rename Addr=>gl
  refine g_ (xs:=zs) (fun i σ' H'=>∃o4 o5 o6 o7:Option V,σ'=[some (.int (n:Nat)),some (.ref l),some (.ref gl),some (.int (gp (rs.take i)).2),o4,o5,o6,o7]∧SH H [] H' [(gl,.lst ((gp (rs.take i)).1.map V.int))] []) ⟨_,_,_,_,rfl,F.zY (L':=[(gl,.lst [])])⟩ ?_ ?_ ?_
  ·clear F
   rintro i σ' H' _ ⟨_,_,_,_,rfl,F⟩
   exact SqA.e
  ·clear F
   rintro i v σ' H' hv ⟨_,_,_,_,rfl,F⟩
   obtain ⟨r,q1,e1,rfl,e2⟩:=dj tp hv
   have qK:=Old.mk (M:=[]) e2 nm0
   have gl1:=nj (rs.take i)
   rw [List.length_take] at gl1
   repeat k_meth
   refine ⟨_,_,_,_,by rw [dO e1,sU],?_⟩
   rw [dO e1,sU]
   simp only [List.map_append,List.map_cons,List.map_nil]
   exact F.zY
  ·clear F
   rintro σ' H' ⟨_,_,_,_,rfl,F⟩
   have gl1:=nj rs
   rw [show zs.length=rs.length by rw [tp.1,bL],List.take_length] at F ⊢
   repeat k_meth
   rw [show (gp rs).1.map V.int++[V.int ((n:Int) - (gp rs).2)]=(aF n rs).map V.int by unfold aF;rw [List.map_append];rfl] at F
   exact k _ _ SH.nwC
theorem lN (T:Txt K mg c R CL CP CS CB aG ao):Def P w K mg base CX0 2 "blocks_between" ["layout", "first", "behind"] (vO CL):=by
 have bG:=bG (P:=P) (w:=w) (base:=base) T
 refine bU T.yC uW (fun vs H Q E h=>?_) (fun _ _ _ _ _ _=>el3 fun _ _ _=>rfl) (fun f cdv A outer s H vs Q E hr h=>?_)
 ·obtain ⟨x,p,dx,n,zs,rs,a,b,rfl,_⟩:=h
  rfl
 ·obtain ⟨x,p,dx,n,zs,rs,a,b,rfl,hx,hp,tp,few,k⟩:=h
  have nd:=uW.nd
  refine ⟨_,(aC (aW (iQ (N:=["block", "first", "behind"]) (nt:=1) (fr:=[1,2]) (d7 (cG (pv 0) T.clL bG hr)) (fun _ _ _ _=>(bH (i:=0) (show (["block", "first", "behind"]:List Str).Nodup from by decide +kernel) rfl (Or.inl rfl))) (fun _ _ _ _=>HS (Bv qT Bu (pv 1) (bD (lu (K:=K) rfl) (pv 0) aA (fun _ _=>rfl)) (pv 2))) (fun _ _ _ _=>(pv 0))))),?_⟩
  clear nd bG
  rw [show start ["layout", "first", "behind"] [.ref x,.int a,.int b]=[some (.ref x),some (.int a),some (.int b)] from rfl]
  try dsimp only [cO,bT]
  have bw:ak K CL "many" := ⟨T.clL,T.aY⟩
  have bB:ak K CL "rows" := ⟨T.clL,T.aZ⟩
  have bC:ak K CP "cost" := ⟨T.clP,T.bf⟩
  have aO:ak K CP "number" := ⟨T.clP,T.aN⟩
  have aV:ak K CP "moves" := ⟨T.clP,T.aR⟩
  have aL:ak K CP "stretch" := ⟨T.clP,T.aK⟩
  have aD:ak K CS "stretches" := ⟨T.clS,T.aB⟩
  have jK:=Old.mk (M:=[]) hx nm0
  have jt:=Old.mk (M:=[]) hp nm0
  have h_:=fY.mk tp
  have F:SH H [] H [] []:=SH.nil
  have yl:zs.length=rs.length:=by rw [tp.1,bL]
  repeat k_meth
  refine X5 (P:=X7 a b) (fvs:=[some (.int a),some (.int b)]) bM (TpA.e (rs:=aP rs)) (by lia) rfl (fun i ys H'=>aJ H' ys (((aP rs).take i).filter (X7 a b))) (fun i ys H1 H2 s t=>Ua s t) aJ.nil (fun i q1 r H' R e1 s1 e2 kk=>?_) (fun i q1 r ys H' R e1 hp s1 e2 g kk=>?_) (fun i r ys H' e1 hp g=>by rw [yV e1,List.filter_append,List.filter_cons_of_neg (by simp [hp]),List.filter_nil,List.append_nil];exact g) fun q ys H' n1 g=>?_
  ·clear F
   have F:SH H' [] H' [] []:=SH.nil
   obtain ⟨s,_,rfl⟩:=List.mem_map.mp (List.mem_of_getElem? e1)
   have qK:=Old.mk (M:=[]) e2 nm0
   have kk:∀H2,Same H' H2→R (decide (a≤(s.st:Int)) && decide ((s.st:Int) < b)) H2:=kk
   repeat k_meth
   refine gG (fun h=>?_) (fun h=>?_)
   ·repeat k_meth
    rw [decide_eq_true h,Bool.true_and] at kk
    exact kk _ (Same.refl _)
   ·repeat k_meth
    rw [decide_eq_false h,Bool.false_and] at kk
    exact kk _ (Same.refl _)
  ·repeat k_meth
   refine kk _ _ (Same.refl _) ?_
   rw [yV e1,List.filter_append,List.filter_cons_of_pos hp,List.filter_nil]
   exact aJ.snoc g e2
  ·rw [List.take_of_length_le (by rw [bL];lia),Lh] at g
   replace F:=F.newR n1 g
   repeat k_meth
   exact k _ _ _ SH.nwC TpA.e
theorem oH (T:Txt K mg c R CL CP CS CB aG ao):Def P w K mg base CX0 3 "free_between" ["layout", "first", "behind"] (Eo CL):=by
 have lN:=lN (P:=P) (w:=w) (base:=base) T
 refine bU T.JD Dd (fun vs H Q E h=>?_) (fun _ _ _ _ _ _=>el3 fun _ _ _=>rfl) (fun f cdv A outer s H vs Q E hr h=>?_)
 ·obtain ⟨x,p,dx,n,zs,rs,a,b,rfl,_⟩:=h
  rfl
 ·obtain ⟨x,p,dx,n,zs,rs,a,b,rfl,hx,hp,tp,few,k⟩:=h
  have nd:=Dd.nd
  refine ⟨_,(aC (aW (aX cM (aX cM (pv 2) (pv 1)) (bF (xq rfl) rfl T.Qf boot_sum (aj (iQ (N:=["block"]) (nt:=1) (fr:=[]) (d7 (aM lN hr (aj (pv 0) (aj (pv 1) (aj (pv 2) aq))))) (fun _ _ _ _=>(bH (i:=0) (show (["block"]:List Str).Nodup from by decide +kernel) rfl (Or.inl rfl))) (fun _ _ _ _=>iM) (fun _ _ _ _=>(bD (lu (K:=K) rfl) (pv 0) aA (fun _ _=>rfl)))) aq))))),?_⟩
  clear nd lN
  rw [show start ["layout", "first", "behind"] [.ref x,.int a,.int b]=[some (.ref x),some (.int a),some (.int b)] from rfl]
  try dsimp only [cO,bT]
  have bw:ak K CL "many" := ⟨T.clL,T.aY⟩
  have bB:ak K CL "rows" := ⟨T.clL,T.aZ⟩
  have bC:ak K CP "cost" := ⟨T.clP,T.bf⟩
  have aO:ak K CP "number" := ⟨T.clP,T.aN⟩
  have aV:ak K CP "moves" := ⟨T.clP,T.aR⟩
  have aL:ak K CP "stretch" := ⟨T.clP,T.aK⟩
  have aD:ak K CS "stretches" := ⟨T.clS,T.aB⟩
  have jK:=Old.mk (M:=[]) hx nm0
  have jt:=Old.mk (M:=[]) hp nm0
  have h_:=fY.mk tp
  have F:SH H [] H [] []:=SH.nil
  have aey:=few.1
  have fl:(rs.filter (within a b)).length≤40:=Nat.le_trans (List.length_filter_le _ _) few.1
  repeat k_meth
  refine lD (F:=fun r=>r.getD 2 .non) bM (TpA.e (rs:=aP (rs.filter (within a b)))) (by lia) rfl (fun q r H1 R hr s1 e1 kk=>?_) ?_
  ·clear F
   have F:SH H1 [] H1 [] []:=SH.nil
   obtain ⟨s,_,rfl⟩:=List.mem_map.mp hr
   have abp:=Old.mk (M:=[]) e1 nm0
   repeat k_meth
   exact kk _ (Same.refl _)
  ·have e5:(aP (rs.filter (within a b))).map (fun r=>r.getD 2 V.non)=((rs.filter (within a b)).map fun r=>((r.sz:Nat):Int)).map V.int:=by
    unfold aP
    rw [List.map_map,List.map_map]
    rfl
   rw [e5]
   have side:(∀n∈(rs.filter (within a b)).map fun r=>((r.sz:Nat):Int),0≤n∧n≤1000000)∧((rs.filter (within a b)).map fun r=>((r.sz:Nat):Int)).length≤1000000:=by
    refine ⟨fun n hn=>?_,by rw [List.length_map];lia⟩
    obtain ⟨r,hr,rfl⟩:=List.mem_map.mp hn
    have:=few.2 r (List.mem_filter.mp hr).1
    lia
   repeat k_meth
   exact k _ F.sm
end
abbrev W3:=Int×Int×Int
abbrev Ub (w:W3):List V:=[V.int w.1,V.int w.2.1,V.int w.2.2]
def ju (ws:List W3):List (List V):=ws.map Ub
theorem Li (ws:List W3):(ju ws).length=ws.length:=List.length_map ..
theorem vP (ws:List W3) (w:W3):ju (ws++[w])=ju ws++[Ub w]:=by unfold ju;rw [List.map_append];rfl
def spF (r0 rs:List Rw):List W3×Int:=rs.foldl (fun g r=>if 0 < r.pn then (g.1++[(g.2,(r.st:Int),dY r0 g.2 r.st)],(r.st:Int) + (r.sz:Int)) else g) ([],0)
theorem gO (r0 rs:List Rw) (r:Rw):spF r0 (rs++[r])=if 0 < r.pn then ((spF r0 rs).1++[((spF r0 rs).2,(r.st:Int),dY r0 (spF r0 rs).2 r.st)],(r.st:Int) + (r.sz:Int)) else spF r0 rs:=by unfold spF;rw [List.foldl_append];rfl
def Ql (n:Nat) (rs:List Rw):List W3:=(spF rs rs).1++[((spF rs rs).2,(n:Int),dY rs (spF rs rs).2 n)]
theorem Vo {P:List Rw→Prop} (h0:P []) (h1:∀rs r,P rs→P (rs++[r])) (rs:List Rw):P rs:=by
 have:∀n,∀rs:List Rw,rs.length=n→P rs:=by
  intro n
  induction n with
  | zero=>intro rs h;rw [List.length_eq_zero_iff.mp h];exact h0
  | succ n ih =>
   intro rs h
   have hne:rs≠[]:=fun z=>by rw [z] at h;simp at h
   have e:=List.dropLast_concat_getLast hne
   rw [← e]
   exact h1 _ _ (ih _ (by rw [List.length_dropLast];lia))
 exact this rs.length rs rfl
theorem JW (r0 rs:List Rw):(spF r0 rs).1.length≤rs.length:=by
 induction rs using Vo with
 | h0=>exact Nat.le_refl _
 | h1 rs r ih =>
  rw [gO]
  split
  ·simp only [List.length_append,List.length_singleton];lia
  ·simp only [List.length_append,List.length_singleton];lia
def oJ (CL:Addr):Sp:=fun vs H Q _=>∃(x p dx:Addr) (n:Nat) (zs:List V) (rs:List Rw),vs=[.ref x]∧H x=some (.ins CL dx (lF (n:Nat) p))∧H p=some (.lst zs)∧aJ H zs (aP rs)∧(rs.length≤40∧∀r∈rs,r.sz≤240)∧∀q ys H',New H H' q (.lst ys)→aJ H' ys (ju (Ql n rs))→Q (.ref q) H'
section
variable {K:W.Frag} {CL x p dx l q a:Addr} {H H0:Hp} {M:List Addr} {L:List (Addr×HO)} {I:List Im} {Q:VK} {E:XK} {n:Nat} {xs ys zs:List V} {rs:List Rw} {ws:List W3} {Z:Addr→Hp→Prop} {t0 te:TE} {nt:Nat} {fr:List Nat} {g:TG} {cc:TT} {σ fvs:L2.St} {i:Int}
instance Uc [h:Hat H x (.ins CL dx (lF (n:Nat) p))] [h2:Hat H p (.lst zs)] [t:TpA H zs (aP rs)]:Go (oJ CL [.ref x] H Q E) (Sd (rs.length≤40∧∀r∈rs,r.sz≤240) (∀q ys H',New H H' q (.lst ys)→aJ H' ys (ju (Ql n rs))→Q (.ref q) H')):=⟨fun s=>⟨x,p,dx,n,zs,rs,rfl,h.e,h2.e,t.e,s.1,s.2⟩⟩
instance abq [F:SH H0 M H L I]:Go (∀p ys H',New H H' p (.lst ys)→aJ H' ys (ju ws)→Z p H') (∀H' p ys,ys.length=ws.length→SH H0 M H' ((p,.lst ys)::L) (.tps ys (ju ws)::I)→Z p H'):=⟨fun k p ys H' n t=>k H' p ys (by rw [t.1,Li]) (F.newR n t)⟩
instance Y5:Go (nO K [.int i] H Q E) (Q (.bl true) H):=⟨fun k=>⟨_,_,rfl,.int i,k⟩⟩
theorem Lj {J:It} {Lk:Hp→Prop} (it:L2.ItemsOf J xs Lk) (hz:xs.length≤1000000) (hf:(fr.map fun i=>(σ[i]?).getD none)=fvs) (hL:∀H',Same H H'→Lk H')
  (turn:∀(v:V) (H':Hp) (R:VK),v∈xs→Same H H'→(∀H2,Same H' H2→R (.bl true) H2)→te (some v::fvs) H' R) (k:∀p H',New H H' p (.lst ((List.replicate xs.length true).map V.bl))→Q (.ref p) H'):dU J 1 fr (bQ 0) mH te σ H Q:=by
 refine comp_map (P:=fun i y=>y=.bl true) it hz hf hL (fun i v H' R hv s kk=>turn v H' R (List.mem_of_getElem? hv) s fun H2 s2=>kk _ _ s2 rfl) fun p H' ys n hl hP=>k p H' ?_
 have e:ys=(List.replicate xs.length true).map V.bl:=by
  rw [List.map_replicate,List.eq_replicate_iff]
  refine ⟨hl,fun b hb=>?_⟩
  obtain ⟨i,hi,e⟩:=List.getElem_of_mem hb
  exact hP i b (by rw [← e];simp)
 rw [e] at n
 exact n
end
section
variable {P:Program} {w:World} {K:W.Frag} {mg:Str→Option Value} {base:Heap} {c:Nat→Addr} {aG ao R CL CP CS CB:Addr}
theorem iW (T:Txt K mg c R CL CP CS CB aG ao):Def P w K mg base CX0 4 "stretches_of" ["layout"] (oJ CL):=by
 have bG:=bG (P:=P) (w:=w) (base:=base) T
 have cF:=cF (P:=P) (w:=w) (base:=base) T
 have oH:=oH (P:=P) (w:=w) (base:=base) T
 have bY:=bY (P:=P) (w:=w) (base:=base) T
 refine bU T.rH nY (fun vs H Q E h=>?_) (fun _ _ _ _ _ _=>el1 fun _=>rfl) (fun f cdv A outer s H vs Q E hr h=>?_)
 ·obtain ⟨x,p,dx,n,zs,rs,rfl,_⟩:=h
  rfl
 ·obtain ⟨x,p,dx,n,zs,rs,rfl,hx,hp,tp,few,k⟩:=h
  have nd:=nY.nd
  refine ⟨_,(au (aQ (i:=1) nd rfl (Or.inl rfl) (cj aq))
   (au (aQ (i:=2) nd rfl (Or.inl rfl) aA)
   (au (dB PassesOwn.never rfl (d7 (cG (pv 0) T.clL bG hr)) (bH (i:=3) nd rfl (Or.inl rfl)) (aC (cL (bK gY (bD bZ (pv 3) aA (fun _ _=>rfl)) aA (bJ _)) (au (cV (cJ (pv 1) (dg (aj (pv 2) (aj (bD bZ (pv 3) aA (fun _ _=>rfl)) (aj (aM oH hr (aj (pv 0) (aj (pv 2) (aj (bD bZ (pv 3) aA (fun _ _=>rfl)) aq)))) aq))))))
     (aC (aQ (i:=2) nd rfl (Or.inl rfl) (aM cF hr (aj (aM bY hr (aj (pv 3) aq)) aq))))) bN)))
   (au (cV (cJ (pv 1) (dg (aj (pv 2) (aj (fO (pv 0) rfl) (aj (aM oH hr (aj (pv 0) (aj (pv 2) (aj (fO (pv 0) rfl) aq)))) aq))))))
   (aC (aW (pv 1))))))),?_⟩
  clear nd bG cF oH bY
  rw [show start ["layout", "stretches", "first", "block"] [.ref x]=[some (.ref x),none,none,none] from rfl]
  try dsimp only [cO,bT]
  have bw:ak K CL "many" := ⟨T.clL,T.aY⟩
  have bB:ak K CL "rows" := ⟨T.clL,T.aZ⟩
  have bC:ak K CP "cost" := ⟨T.clP,T.bf⟩
  have aO:ak K CP "number" := ⟨T.clP,T.aN⟩
  have aV:ak K CP "moves" := ⟨T.clP,T.aR⟩
  have aL:ak K CP "stretch" := ⟨T.clP,T.aK⟩
  have aD:ak K CS "stretches" := ⟨T.clS,T.aB⟩
  have jK:=Old.mk (M:=[]) hx nm0
  have jt:=Old.mk (M:=[]) hp nm0
  have h_:=fY.mk tp
  have F:SH H [] H [] []:=SH.nil
  have aey:=few.1
  repeat k_meth
  rename_i _ sl
  rename Addr=>bl
  refine g_ (xs:=zs) (fun i σ' H'=>∃(o3:Option V) (ys:List V),σ'=[some (.ref x),some (.ref sl),some (.int (spF rs (rs.take i)).2),o3]∧ys.length=(spF rs (rs.take i)).1.length∧SH H [] H' [(sl,.lst ys),(bl,.lst zs)] [.tps ys (ju (spF rs (rs.take i)).1)]) ⟨_,[],rfl,rfl,(F.fW (ys:=[]) (rs:=ju []) aJ.nil).sub SbC.s (fun _ h=>h)⟩ ?_ ?_ ?_
  ·clear F
   rintro i σ' H' _ ⟨_,ys,rfl,yl,F⟩
   exact SqA.e
  ·clear F
   rintro i v σ' H' hv ⟨_,ys,rfl,yl,F⟩
   obtain ⟨r,q1,e1,rfl,e2⟩:=dj tp hv
   have qK:=Old.mk (M:=[]) e2 nm0
   have sl1:=JW rs (rs.take i)
   rw [List.length_take] at sl1
   repeat k_meth
   refine gG (fun h=>?_) (fun h=>?_)
   ·have hp:0 < r.pn:=by lia
    repeat k_meth
    rename Addr=>zz
    have F2:=SH.app (ys:=ys) (rs:=ju (spF rs (rs.take i)).1) (q:=p_) (r:=Ub ((spF rs (rs.take i)).2,(r.st:Int),dY rs (spF rs (rs.take i)).2 r.st)) F (LkP.m) (LkI.m)
    rw [← vP] at F2
    refine ⟨_,ys++[.ref p_],by rw [dO e1,gO,if_pos hp],by rw [dO e1,gO,if_pos hp];simp [yl],?_⟩
    rw [dO e1,gO,if_pos hp]
    exact F2.sub SbC.s SbI.s
   ·have hp:¬ 0 < r.pn:=by lia
    repeat k_meth
    refine ⟨_,ys,by rw [dO e1,gO,if_neg hp],by rw [dO e1,gO,if_neg hp];exact yl,?_⟩
    rw [dO e1,gO,if_neg hp]
    exact F
  ·clear F
   rintro σ' H' ⟨_,ys,rfl,yl,F⟩
   have sl1:=JW rs rs
   rw [show zs.length=rs.length by rw [tp.1,bL],List.take_length] at F yl ⊢
   repeat k_meth
   rename Addr=>tq
   have F2:=SH.app (ys:=ys) (rs:=ju (spF rs rs).1) (q:=tq) (r:=Ub ((spF rs rs).2,(n:Int),dY rs (spF rs rs).2 n)) F (LkP.m) (LkI.m)
   rw [← vP] at F2
   exact k _ _ _ (SH.nwC (F:=F2)) (F2.tps List.mem_cons_self)
end
abbrev PR:=List (Option Int)
def pV:Option Int→V
 | none=>.non
 | some i=>.int i
def jj (s:Nat):PR:=some 0::List.replicate s none
def G_ (r:Rw) (b:PR) (c:Int) (x:Nat):Option Int:=((b[((x:Int) - c).toNat]?).getD none).map fun y=>(r.sz:Int) + y
def nu (r:Rw) (b:PR) (c:Int) (s:Nat):PR:=if 0 < r.pn then jj s else some 0::(List.range s).map fun j=>G_ r b c (j + 1)
theorem oK (s:Nat):(jj s).length=s + 1:=by simp [jj]
theorem Ep (r:Rw) (b:PR) (c:Int) (s:Nat):(nu r b c s).length=s + 1:=by unfold nu;split <;> simp [jj]
theorem X8 (s:Nat):(jj s).map pV=V.int 0::List.replicate s V.non:=by simp [jj,pV]
def prf (r:Rw) (b:PR) (c:Int) (s i:Nat):PR:=some 0::((List.range i).map (fun j=>G_ r b c (j + 1))++List.replicate (s - i) none)
theorem Qm (r:Rw) (b:PR) (c:Int) (s:Nat):prf r b c s 0=jj s:=by simp [prf,jj]
theorem Ud {r:Rw} {b:PR} {c:Int} {s:Nat} (h:¬ 0 < r.pn):prf r b c s s=nu r b c s:=by
 unfold prf nu
 rw [if_neg h]
 simp
theorem Qn {r:Rw} {b:PR} {c:Int} {s i:Nat} (h:i < s):prf r b c s (i + 1)=(prf r b c s i).set (i + 1) (G_ r b c (i + 1)):=by
 unfold prf
 rw [List.set_cons_succ,List.set_append_right _ _ (by simp)]
 obtain ⟨d,hd⟩:∃d,s - i=d + 1:=⟨s - i - 1,by lia⟩
 rw [show s - (i + 1)=d by lia,hd,List.replicate_succ,List.length_map,List.length_range,Nat.sub_self,List.set_cons_zero,List.range_succ,List.map_append,List.append_assoc]
 rfl
theorem Qo {r:Rw} {b:PR} {c:Int} {s i:Nat} (h:i < s) (e:G_ r b c (i + 1)=none):prf r b c s (i + 1)=prf r b c s i:=by
 unfold prf
 obtain ⟨d,hd⟩:∃d,s - i=d + 1:=⟨s - i - 1,by lia⟩
 rw [show s - (i + 1)=d by lia,hd,List.replicate_succ,List.range_succ,List.map_append,List.append_assoc,List.map_cons,List.map_nil,e]
 rfl
theorem Ue {r:Rw} {b:PR} {c:Int} {s i:Nat} (h:i≤s):(prf r b c s i).length=s + 1:=by
 unfold prf
 simp
 lia
def Er:Sp:=fun vs H Q _=>∃s:Nat,vs=[.int (s:Nat)]∧s≤240∧∀q H',New H H' q (.lst ((jj s).map pV))→Q (.ref q) H'
def yW:Sp:=fun vs H Q _=>∃(q l:Addr) (r:Rw) (b:PR) (c:Int) (s:Nat),vs=[.ref q,.ref l,.int c,.int (s:Nat)]∧H q=some (.tup (dM r))∧H l=some (.lst (b.map pV))∧b.length=s + 1∧(s≤240∧0≤c)∧∀z H',New H H' z (.lst ((nu r b c s).map pV))→Q (.ref z) H'
section
variable {H:Hp} {Q:VK} {E:XK} {q l:Addr} {r:Rw} {b:PR} {c:Int} {s:Nat}
instance abr:Go (Er [.int (s:Nat)] H Q E) (Sd (s≤240) (∀q H',New H H' q (.lst ((jj s).map pV))→Q (.ref q) H')):=⟨fun k=>⟨s,rfl,k.1,k.2⟩⟩
end
section
variable {P:Program} {w:World} {K:W.Frag} {mg:Str→Option Value} {base:Heap} {c:Nat→Addr} {aG ao R CL CP CS CB:Addr}
theorem eY (T:Txt K mg c R CL CP CS CB aG ao):Def P w K mg base CX0 1 "row_at_end" ["size"] Er:=by
 refine bU T.JB C_ (fun vs H Q E h=>?_) (fun _ _ _ _ _ _=>el1 fun _=>rfl) (fun f cdv A outer s H vs Q E hr h=>?_)
 ·obtain ⟨s,rfl,_⟩:=h
  rfl
 ·obtain ⟨s,rfl,hs,k⟩:=h
  have nd:=C_.nd
  refine ⟨_,(aC (aW (aX kZ (cj (aj aA aq)) (aX Sv (cj (aj dz aq)) (pv 0))))),?_⟩
  clear nd 
  rw [show start ["size"] [.int (s:Nat)]=[some (.int (s:Nat))] from rfl]
  try dsimp only [cO,bT]
  have bw:ak K CL "many" := ⟨T.clL,T.aY⟩
  have bB:ak K CL "rows" := ⟨T.clL,T.aZ⟩
  have bC:ak K CP "cost" := ⟨T.clP,T.bf⟩
  have aO:ak K CP "number" := ⟨T.clP,T.aN⟩
  have aV:ak K CP "moves" := ⟨T.clP,T.aR⟩
  have aL:ak K CP "stretch" := ⟨T.clP,T.aK⟩
  have aD:ak K CS "stretches" := ⟨T.clS,T.aB⟩
  have F:SH H [] H [] []:=SH.nil
  repeat k_meth
  rw [show [V.int 0]++List.replicate s V.non=(jj s).map pV from (X8 s).symm] at F
  exact k _ _ SH.nwC
theorem gP (T:Txt K mg c R CL CP CS CB aG ao):Def P w K mg base CX0 2 "row_beside" ["block", "beyond", "cells", "size"] yW:=by
 have eY:=eY (P:=P) (w:=w) (base:=base) T
 refine bU T.Dw xT (fun vs H Q E h=>?_) (fun _ _ _ _ _ _=>el4 fun _ _ _ _=>rfl) (fun f cdv A outer s H vs Q E hr h=>?_)
 ·obtain ⟨q,l,r,b,c,s,rfl,_⟩:=h
  rfl
 ·obtain ⟨q,l,r,b,c,s,rfl,hq,hl,bl,side,k⟩:=h
  have nd:=xT.nd
  refine ⟨_,(au (aQ (i:=4) nd rfl (Or.inl rfl) (aM eY hr (aj (pv 3) aq)))
   (au (cL (bK gY (bD bZ (pv 0) aA (fun _ _=>rfl)) aA (bJ _)) (aC (aW (pv 4))) bN)
   (au (dB PassesOwn.never rfl (Kh rfl T.eO (aj aA (aj (aX cD (pv 3) aA) aq))) (bH (i:=5) nd rfl (Or.inl rfl)) (au (aQ (i:=6) nd rfl (Or.inl rfl) (bD bI (pv 1) (bF (fD rfl) rfl T.n_ boot_max (aj aA (aj (aX cM (pv 5) (pv 2)) aq))) (fun _ _=>rfl)))
    (aC (cL (bK fV (pv 6) dz (bJ _)) (aC (tK (aX cD (bD bZ (pv 0) aA (fun _ _=>rfl)) (pv 6)) (Fy (pv 4) (pv 5) pX))) bN))))
   (aC (aW (pv 4)))))),?_⟩
  clear nd eY
  rw [show start ["block", "beyond", "cells", "size", "row", "longer", "price"] [.ref q,.ref l,.int c,.int (s:Nat)]=[some (.ref q),some (.ref l),some (.int c),some (.int (s:Nat)),none,none,none] from rfl]
  try dsimp only [cO,bT]
  have bw:ak K CL "many" := ⟨T.clL,T.aY⟩
  have bB:ak K CL "rows" := ⟨T.clL,T.aZ⟩
  have bC:ak K CP "cost" := ⟨T.clP,T.bf⟩
  have aO:ak K CP "number" := ⟨T.clP,T.aN⟩
  have aV:ak K CP "moves" := ⟨T.clP,T.aR⟩
  have aL:ak K CP "stretch" := ⟨T.clP,T.aK⟩
  have aD:ak K CS "stretches" := ⟨T.clS,T.aB⟩
  have T7:=Old.mk (M:=[]) hq nm0
  have rR:=Old.mk (M:=[]) hl nm0
  have F:SH H [] H [] []:=SH.nil
  obtain ⟨Ln,c0⟩:=side
  repeat k_meth
  refine gG (fun h=>?_) (fun h=>?_)
  ·repeat k_meth
   rw [show jj s=nu r b c s from (if_pos (by lia)).symm] at F
   exact k _ _ SH.nwC
  repeat k_meth
  rename Addr=>rw_
  rw [show ((s:Int) + 1 - 1).toNat=s by lia]
  refine Tf (fun j σ' H'=>∃(o5 o6:Option V),σ'=[some (.ref q),some (.ref l),some (.int c),some (.int (s:Nat)),some (.ref rw_),o5,o6]∧SH H [] H' [(rw_,.lst ((prf r b c s j).map pV))] []) ⟨_,_,rfl,by rw [Qm];exact F⟩ ?_ ?_
  ·clear F
   rintro j σ' H' hj ⟨_,_,rfl,F⟩
   obtain ⟨y,hy⟩:∃y,b[((((j + 1:Nat):Int)) - c).toNat]?=some y:=⟨_,List.getElem?_eq_getElem (by lia)⟩
   have abt:AtI (b.map pV) (max 0 (1 + (j:Int) - c)) (pV y):=⟨by
    rw [show max 0 (1 + (j:Int) - c)=(((((j + 1:Nat):Int)) - c).toNat:Int) by lia]
    exact b_ (by rw [List.getElem?_map,hy];rfl)⟩
   have ev:G_ r b c (j + 1)=y.map fun z=>(r.sz:Int) + z:=by unfold G_;rw [hy];rfl
   have pl:=Ue (r:=r) (b:=b) (c:=c) (s:=s) (i:=j) (by lia)
   cases y with
   | none =>
    have aez:AtI (b.map pV) (max 0 (1 + (j:Int) - c)) .non:=abt
    repeat k_meth
    rw [Qo hj ev]
    exact ⟨_,_,rfl,F⟩
   | some z =>
    have aez:AtI (b.map pV) (max 0 (1 + (j:Int) - c)) (.int z):=abt
    repeat k_meth
    rw [show (1 + (j:Int)).toNat=j + 1 by lia,show V.int ((r.sz:Int) + z)=pV (some ((r.sz:Int) + z)) from rfl,← List.map_set] at F
    rw [Qn hj,ev]
    exact ⟨_,_,rfl,F⟩
  ·clear F
   rintro σ' H' ⟨_,_,rfl,F⟩
   rw [Ud (by lia)] at F
   repeat k_meth
   exact k _ _ SH.nwC
end
instance Y6 {H:Hp} {Q:VK} {E:XK} {q l:Addr} {r:Rw} {b:PR} {c:Int} {s:Nat} [h:Hat H q (.tup (dM r))] [h2:Hat H l (.lst (b.map pV))]:Go (yW [.ref q,.ref l,.int c,.int (s:Nat)] H Q E) (Sd (b.length=s + 1) (Sd (s≤240∧0≤c) (∀z H',New H H' z (.lst ((nu r b c s).map pV))→Q (.ref z) H'))):=⟨fun k=>⟨q,l,r,b,c,s,rfl,h.e,h2.e,k.1,k.2.1,k.2.2⟩⟩
def gW (H:Hp) (ys:List V) (T:List PR):Prop:=ys.length=T.length∧∀(j:Nat) (r:PR),T[j]?=some r→∃q:Addr,ys[j]?=some (V.ref q)∧H q=some (.lst (r.map pV))
theorem gW.kept {H H':Hp} {ys:List V} {T:List PR} (h:gW H ys T) (k:∀q u,V.ref q∈ys→H q=some u→H' q=some u):gW H' ys T:=⟨h.1,fun j r e=>by
 obtain ⟨q,a,b⟩:=h.2 j r e
 exact ⟨q,a,k q _ (List.mem_of_getElem? a) b⟩⟩
theorem gW.nil {H:Hp}:gW H [] []:=⟨rfl,fun j r e=>by cases e⟩
theorem gW.snoc {H:Hp} {ys:List V} {T:List PR} {q:Addr} {r:PR} (h:gW H ys T) (e:H q=some (.lst (r.map pV))):gW H (ys++[.ref q]) (T++[r]):=by
 refine ⟨by simp [h.1],fun j r' e'=>?_⟩
 rcases Nat.lt_or_ge j T.length with hj | hj
 ·rw [List.getElem?_append_left hj] at e'
  obtain ⟨q',a,b⟩:=h.2 j r' e'
  exact ⟨q',by rw [List.getElem?_append_left (by rw [h.1];exact hj)];exact a,b⟩
 ·rw [List.getElem?_append_right hj] at e'
  cases h0:j - T.length with
  | zero =>
   rw [h0] at e'
   cases e'
   exact ⟨q,by rw [List.getElem?_append_right (by rw [h.1];exact hj),h.1,h0];rfl,e⟩
  | succ d=>rw [h0] at e';simp at e'
theorem gW.rev {H:Hp} {ys:List V} {T:List PR} (h:gW H ys T):gW H ys.reverse T.reverse:=by
 refine ⟨by simp [h.1],fun j r e=>?_⟩
 have hj:j < T.length:=by have:=(List.getElem?_eq_some_iff.mp e).1;simpa using this
 rw [List.getElem?_reverse hj] at e
 obtain ⟨q,a,b⟩:=h.2 _ r e
 exact ⟨q,by rw [List.getElem?_reverse (by rw [h.1];exact hj),h.1];exact a,b⟩
def fX (rs:List Rw) (gs:List Int) (s:Nat):Nat→PR
 | 0=>jj s
 | i + 1=>match rs[i]? with
  | some r=>nu r (fX rs gs s i) (gs.getD i 0) s
  | none=>jj s
def kI (rs:List Rw) (gs:List Int) (s m:Nat):List PR:=(List.range (m + 1)).map (fX rs gs s)
theorem yX (rs:List Rw) (gs:List Int) (s i:Nat):(fX rs gs s i).length=s + 1:=by
 cases i with
 | zero=>exact oK s
 | succ i =>
  unfold fX
  cases rs[i]? with
  | none=>exact oK s
  | some r=>exact Ep _ _ _ _
theorem Hf {rs:List Rw} {gs:List Int} {s m:Nat} {r:Rw} (h:rs[m]?=some r):kI rs gs s (m + 1)=kI rs gs s m++[nu r (fX rs gs s m) (gs.getD m 0) s]:=by
 unfold kI
 rw [List.range_succ,List.map_append,List.map_cons,List.map_nil]
 congr 2
 show fX rs gs s (m + 1)=_
 rw [fX,h]
theorem Qp {rs:List Rw} {gs:List Int} {s m:Nat}:(kI rs gs s m)[m]?=some (fX rs gs s m):=by
 unfold kI
 rw [List.getElem?_map,List.getElem?_range (by lia)]
 rfl
def Ug (CL:Addr):Sp:=fun vs H Q _=>∃(x p dx:Addr) (n:Nat) (zs:List V) (rs:List Rw) (s:Nat),vs=[.ref x,.int (s:Nat)]∧H x=some (.ins CL dx (lF (n:Nat) p))∧H p=some (.lst zs)∧aJ H zs (aP rs)∧rs.length≤40∧s≤240∧(∀g∈aF n rs,0≤g)∧∀q ys H',Same H H'→H' q=some (.lst ys)→gW H' ys (kI rs (aF n rs) s rs.length)→(∀a u,H a=some u→a≠q∧V.ref a ∉ ys)→V.ref q ∉ ys→Q (.ref q) H'
section
variable {P:Program} {w:World} {K:W.Frag} {mg:Str→Option Value} {base:Heap} {c:Nat→Addr} {aG ao R CL CP CS CB:Addr}
theorem A_ (T:Txt K mg c R CL CP CS CB aG ao):Def P w K mg base CX0 3 "left_prices" ["layout", "size"] (Ug CL):=by
 have cg:=cg (P:=P) (w:=w) (base:=base) T
 have eY:=eY (P:=P) (w:=w) (base:=base) T
 have bG:=bG (P:=P) (w:=w) (base:=base) T
 have gP:=gP (P:=P) (w:=w) (base:=base) T
 refine bU T.P_ Js (fun vs H Q E h=>?_) (fun _ _ _ _ _ _=>el2 fun _ _=>rfl) (fun f cdv A outer s H vs Q E hr h=>?_)
 ·obtain ⟨x,p,dx,n,zs,rs,s,rfl,_⟩:=h
  rfl
 ·obtain ⟨x,p,dx,n,zs,rs,s,rfl,hx,hp,tp,few,Ln,X_,k⟩:=h
  have nd:=Js.nd
  refine ⟨_,(au (aQ (i:=2) nd rfl (Or.inl rfl) (aM cg hr (aj (pv 0) aq)))
   (au (aQ (i:=3) nd rfl (Or.inl rfl) (cj (aj (aM eY hr (aj (pv 1) aq)) aq)))
   (au (dB PassesOwn.never rfl (Ig rfl T.kj (aj (cG (pv 0) T.clL bG hr) aq)) (iZ rfl (bV (bH (i:=4) nd rfl (Or.inl rfl)) (bV (bH (i:=5) nd rfl (Or.inl rfl)) gD))) (aC (cV (cJ (pv 3) (aM gP hr (aj (pv 5) (aj (bD bI (pv 3) (pv 4) (fun _ _=>rfl)) (aj (bD bI (pv 2) (pv 4) (fun _ _=>rfl)) (aj (pv 1) aq)))))))))
   (aC (aW (pv 3)))))),?_⟩
  clear nd cg eY bG gP
  rw [show start ["layout", "size", "gaps", "table", "at", "block"] [.ref x,.int (s:Nat)]=[some (.ref x),some (.int (s:Nat)),none,none,none,none] from rfl]
  try dsimp only [cO,bT]
  have bw:ak K CL "many" := ⟨T.clL,T.aY⟩
  have bB:ak K CL "rows" := ⟨T.clL,T.aZ⟩
  have bC:ak K CP "cost" := ⟨T.clP,T.bf⟩
  have aO:ak K CP "number" := ⟨T.clP,T.aN⟩
  have aV:ak K CP "moves" := ⟨T.clP,T.aR⟩
  have aL:ak K CP "stretch" := ⟨T.clP,T.aK⟩
  have aD:ak K CS "stretches" := ⟨T.clS,T.aB⟩
  have jK:=Old.mk (M:=[]) hx nm0
  have jt:=Old.mk (M:=[]) hp nm0
  have h_:=fY.mk tp
  have F:SH H [] H [] []:=SH.nil
  have Yb:rs.length≤40:=few
  have yl:zs.length=rs.length:=by rw [tp.1,bL]
  have gl_:(aF n rs).length=rs.length + 1:=by unfold aF;rw [List.length_append,nj];rfl
  repeat k_meth
  rename_i _ gl _ er _ tb
  rename Addr=>bl
  have fre:∀a u,H a=some u→V.ref a ∉ [V.ref er]:=fun a u e hm=>by
   cases List.mem_singleton.mp hm
   exact F.fresh (LkL.m (o:=.lst _)) nm0 er u e rfl
  refine Il (xs:=zs) (fun i σ' H'=>∃(o4 o5:Option V) (ys:List V),σ'=[some (.ref x),some (.int (s:Nat)),some (.ref gl),some (.ref tb),o4,o5]∧gW H' ys (kI rs (aF n rs) s i)∧(∀a u,H a=some u→V.ref a ∉ ys)∧V.ref tb ∉ ys∧SH H [] H' [(bl,.lst zs),(tb,.lst ys),(gl,.lst ((aF n rs).map V.int))] []) ⟨_,_,[.ref er],rfl,gW.snoc gW.nil bM,fre,fun hm=>SH.neC (F:=F) (a:=tb) (b:=er) (by simpa using hm),F.sub SbC.s SbI.s⟩ ?_ ?_ ?_
  ·clear F
   rintro i σ' H' _ ⟨_,_,ys,rfl,_,_,_,F⟩
   exact SqA.e
  ·clear F
   rintro i v T σ' H' H2 hv ⟨_,_,ys,rfl,ls,fr,nt,F⟩ nw
   obtain ⟨r,q1,e1,rfl,e2⟩:=dj tp hv
   obtain ⟨ql,hl,eql⟩:=ls.2 i _ Qp
   have sm0:=F.sm
   have ysl:ys.length < sizeLine:=by
    have h1:=ls.1
    have h2:=(List.getElem?_eq_some_iff.mp e1).1
    unfold kI at h1
    rw [List.length_map,List.length_range] at h1
    rw [sizeLine_eq]
    lia
   have htb:H' tb=some (.lst ys):=bM
   have hgl:H' gl=some (.lst ((aF n rs).map V.int)):=bM
   have ne1:gl≠tb:=SH.neC (F:=F)
   have e3:=F.sm _ _ e2
   have ne2:q1≠tb:=fun z=>by rw [z,htb] at e3;cases e3
   have ne3:ql≠tb:=fun z=>nt (by rw [← z];exact List.mem_of_getElem? hl)
   have back:∀(H4:Hp) (zs2:List V),Kp tb H' H4→H4 tb=some (.lst zs2)→SH H [] H4 [(bl,.lst zs),(tb,.lst zs2),(gl,.lst ((aF n rs).map V.int))] []:=fun H4 zs2 kp e=>F.kpL kp e LkU.u
   clear F
   have F:SH H' [tb] H' [(tb,.lst ys)] []:=SH.nil.jg List.mem_cons_self htb rfl (by simp)
   have Yc:=Old.mk (M:=[tb]) hgl (nm1 ne1)
   have aeA:=Old.mk (M:=[tb]) e3 (nm1 ne2)
   have aeB:=Old.mk (M:=[tb]) eql (nm1 ne3)
   replace F:=(F.same nw.s).zX nw.e
   have aeC:AtI ys ((i:Nat):Int) (.ref ql):=⟨b_ hl⟩
   obtain ⟨gv,hgv⟩:∃gv,(aF n rs)[i]?=some gv:=⟨_,List.getElem?_eq_getElem (by have:=(List.getElem?_eq_some_iff.mp e1).1;lia)⟩
   have aeD:AtI ((aF n rs).map V.int) ((i:Nat):Int) (.int gv):=⟨b_ (by rw [List.getElem?_map,hgv];rfl)⟩
   have bl1:=yX rs (aF n rs) s i
   have sd1:s≤240∧0≤gv:=⟨Ln,X_ gv (List.mem_of_getElem? hgv)⟩
   repeat k_meth
   refine ⟨_,_,ys++[.ref p_],rfl,?_,fun a u e hm=>?_,fun hm=>?_,back _ _ F.kpo bM⟩
   ·rw [Hf e1,show (aF n rs).getD i 0=gv by rw [List.getD_eq_getElem?_getD,hgv];rfl]
    exact gW.snoc (ls.kept fun q u hm e=>F.fr q u (nm1 fun z=>nt (z▸hm)) e) bM
   ·rcases List.mem_append.mp hm with hm | hm
    ·exact fr a u e hm
    ·exact F.fresh (LkL.m (o:=.lst _)) (nm1 (SH.neC (F:=F))) a u (sm0 _ _ e) (by simpa using hm)
   ·rcases List.mem_append.mp hm with hm | hm
    ·exact nt hm
    ·exact SH.neC (F:=F) (a:=tb) (b:=p_) (by simpa using hm)
  ·clear F
   rintro σ' H' ⟨_,_,ys,rfl,ls,fr,nt,F⟩
   rw [yl] at ls
   repeat k_meth
   exact k tb ys _ F.sm bM ls (fun a u e=>⟨F.fresh (LkL.m (o:=.lst _)) nm0 a u e,fr a u e⟩) nt
end
def dZ (rs:List Rw) (gs:List Int) (s:Nat):Nat→PR
 | 0=>jj s
 | i + 1=>match rs[rs.length - 1 - i]? with
  | some r=>nu r (dZ rs gs s i) (gs.getD (rs.length - i) 0) s
  | none=>jj s
def gB (rs:List Rw) (gs:List Int) (s m:Nat):List PR:=(List.range (m + 1)).map (dZ rs gs s)
theorem vQ (rs:List Rw) (gs:List Int) (s i:Nat):(dZ rs gs s i).length=s + 1:=by
 cases i with
 | zero=>exact oK s
 | succ i =>
  unfold dZ
  cases rs[rs.length - 1 - i]? with
  | none=>exact oK s
  | some r=>exact Ep _ _ _ _
theorem Es {rs:List Rw} {gs:List Int} {s m:Nat} {r:Rw} (h:rs[rs.length - 1 - m]?=some r):gB rs gs s (m + 1)=gB rs gs s m++[nu r (dZ rs gs s m) (gs.getD (rs.length - m) 0) s]:=by
 unfold gB
 rw [List.range_succ,List.map_append,List.map_cons,List.map_nil]
 congr 2
 show dZ rs gs s (m + 1)=_
 rw [dZ,h]
theorem Lp {rs:List Rw} {gs:List Int} {s m:Nat}:(gB rs gs s m)[m]?=some (dZ rs gs s m):=by
 unfold gB
 rw [List.getElem?_map,List.getElem?_range (by lia)]
 rfl
theorem Uh {ys:List V} {v:V} {n:Nat} (hn:ys.length=n + 1) (h:ys[n]?=some v):AtI ys (-1) v:=⟨by
 unfold atI ixN
 rw [if_neg (by decide),if_pos (by lia),Option.bind_some,show (-1 + (ys.length:Int)).toNat=n by lia]
 exact h⟩
instance acO {K:W.Frag} {ta:TA} {σ:L2.St} {H:Hp} {Q:VK}:Go (U9 K ta σ H Q) (ta σ H fun vs H1=>∃a xs,vs=[.ref a]∧SqL K H1 a xs∧∀l H',New H1 H' l (.lst xs.reverse)→Q (.ref l) H'):=⟨id⟩
theorem gW.has {H:Hp} {ys:List V} {T:List PR} {q:Addr} (h:gW H ys T) (hm:V.ref q∈ys):∃u,H q=some u:=by
 obtain ⟨j,hj⟩:=List.getElem?_of_mem hm
 have hl:j < T.length:=by have:=(List.getElem?_eq_some_iff.mp hj).1;rw [h.1] at this;exact this
 obtain ⟨q',a,b⟩:=h.2 j _ (List.getElem?_eq_getElem hl)
 rw [hj] at a
 cases a
 exact ⟨_,b⟩
def Qq (CL:Addr):Sp:=fun vs H Q _=>∃(x p dx:Addr) (n:Nat) (zs:List V) (rs:List Rw) (s:Nat),vs=[.ref x,.int (s:Nat)]∧H x=some (.ins CL dx (lF (n:Nat) p))∧H p=some (.lst zs)∧aJ H zs (aP rs)∧rs.length≤40∧s≤240∧(∀g∈aF n rs,0≤g)∧∀q ys H',Same H H'→H' q=some (.lst ys)→gW H' ys (gB rs (aF n rs) s rs.length).reverse→(∀a u,H a=some u→a≠q∧V.ref a ∉ ys)→V.ref q ∉ ys→Q (.ref q) H'
section
variable {P:Program} {w:World} {K:W.Frag} {mg:Str→Option Value} {base:Heap} {c:Nat→Addr} {aG ao R CL CP CS CB:Addr}
theorem sV (T:Txt K mg c R CL CP CS CB aG ao):Def P w K mg base CX0 3 "right_prices" ["layout", "size"] (Qq CL):=by
 have cg:=cg (P:=P) (w:=w) (base:=base) T
 have bG:=bG (P:=P) (w:=w) (base:=base) T
 have eY:=eY (P:=P) (w:=w) (base:=base) T
 have gP:=gP (P:=P) (w:=w) (base:=base) T
 refine bU T.JC Dc (fun vs H Q E h=>?_) (fun _ _ _ _ _ _=>el2 fun _ _=>rfl) (fun f cdv A outer s H vs Q E hr h=>?_)
 ·obtain ⟨x,p,dx,n,zs,rs,s,rfl,_⟩:=h
  rfl
 ·obtain ⟨x,p,dx,n,zs,rs,s,rfl,hx,hp,tp,few,Ln,X_,k⟩:=h
  have nd:=Dc.nd
  refine ⟨_,(au (aQ (i:=2) nd rfl (Or.inl rfl) (aM cg hr (aj (pv 0) aq)))
   (au (aQ (i:=3) nd rfl (Or.inl rfl) (cG (pv 0) T.clL bG hr))
   (au (aQ (i:=4) nd rfl (Or.inl rfl) (cj (aj (aM eY hr (aj (pv 1) aq)) aq)))
   (au (dB PassesOwn.never rfl (K9 rfl T.eO (aj (aX cM (bF dF rfl T.jr boot_len (aj (pv 3) aq)) aA) (aj (tQ mQ aA) (aj (tQ mQ aA) aq)))) (bH (i:=5) nd rfl (Or.inl rfl)) (aC (cV (cJ (pv 4) (aM gP hr (aj (bD bI (pv 3) (pv 5) (fun _ _=>rfl)) (aj (bD bI (pv 4) (tQ mQ aA) (fun _ _=>rfl)) (aj (bD bI (pv 2) (aX cD (pv 5) aA) (fun _ _=>rfl)) (aj (pv 1) aq)))))))))
   (aC (aW (mW rfl rfl T.ji rfl T.jG (aj (pv 4) aq)))))))),?_⟩
  clear nd cg bG eY gP
  rw [show start ["layout", "size", "gaps", "blocks", "falling", "at"] [.ref x,.int (s:Nat)]=[some (.ref x),some (.int (s:Nat)),none,none,none,none] from rfl]
  try dsimp only [cO,bT]
  have bw:ak K CL "many" := ⟨T.clL,T.aY⟩
  have bB:ak K CL "rows" := ⟨T.clL,T.aZ⟩
  have bC:ak K CP "cost" := ⟨T.clP,T.bf⟩
  have aO:ak K CP "number" := ⟨T.clP,T.aN⟩
  have aV:ak K CP "moves" := ⟨T.clP,T.aR⟩
  have aL:ak K CP "stretch" := ⟨T.clP,T.aK⟩
  have aD:ak K CS "stretches" := ⟨T.clS,T.aB⟩
  have jK:=Old.mk (M:=[]) hx nm0
  have jt:=Old.mk (M:=[]) hp nm0
  have h_:=fY.mk tp
  have F:SH H [] H [] []:=SH.nil
  have Yb:rs.length≤40:=few
  have yl:zs.length=rs.length:=by rw [tp.1,bL]
  have gl_:(aF n rs).length=rs.length + 1:=by unfold aF;rw [List.length_append,nj];rfl
  repeat k_meth
  rename_i _ gl _ bl _ er
  rename Addr=>tb
  have fre:∀a u,H a=some u→V.ref a ∉ [V.ref er]:=fun a u e hm=>by
   cases List.mem_singleton.mp hm
   exact F.fresh (LkL.m (o:=.lst _)) nm0 er u e rfl
  rw [show ((zs.length:Int) - 1 + 1).toNat=rs.length by lia]
  refine Tt (fun i σ' H'=>∃(o5:Option V) (ys:List V),σ'=[some (.ref x),some (.int (s:Nat)),some (.ref gl),some (.ref bl),some (.ref tb),o5]∧gW H' ys (gB rs (aF n rs) s i)∧(∀a u,H a=some u→V.ref a ∉ ys)∧V.ref tb ∉ ys∧SH H [] H' [(bl,.lst zs),(tb,.lst ys),(gl,.lst ((aF n rs).map V.int))] []) ⟨_,[.ref er],rfl,gW.snoc gW.nil bM,fre,fun hm=>SH.neC (F:=F) (a:=tb) (b:=er) (by simpa using hm),F.sub SbC.s SbI.s⟩ ?_ ?_
  ·clear F
   rintro i σ' H' hi ⟨_,ys,rfl,ls,fr,nt,F⟩
   obtain ⟨r,e1⟩:∃r,rs[rs.length - 1 - i]?=some r:=⟨_,List.getElem?_eq_getElem (by lia)⟩
   obtain ⟨v,hv⟩:∃v,zs[rs.length - 1 - i]?=some v:=⟨_,List.getElem?_eq_getElem (by lia)⟩
   obtain ⟨r',q1,e1',rfl,e2⟩:=dj tp hv
   rw [e1] at e1'
   cases e1'
   obtain ⟨ql,hl,eql⟩:=ls.2 i _ Lp
   have ysn:ys.length=i + 1:=by
    have h1:=ls.1
    unfold gB at h1
    rw [List.length_map,List.length_range] at h1
    exact h1
   have sm0:=F.sm
   have ysl:ys.length < sizeLine:=by rw [sizeLine_eq];lia
   have htb:H' tb=some (.lst ys):=bM
   have hgl:H' gl=some (.lst ((aF n rs).map V.int)):=bM
   have hbl:H' bl=some (.lst zs):=bM
   have ne1:gl≠tb:=SH.neC (F:=F)
   have ne4:bl≠tb:=SH.neC (F:=F)
   have e3:=F.sm _ _ e2
   have ne2:q1≠tb:=fun z=>by rw [z,htb] at e3;cases e3
   have ne3:ql≠tb:=fun z=>nt (by rw [← z];exact List.mem_of_getElem? hl)
   have back:∀(H4:Hp) (zs2:List V),Kp tb H' H4→H4 tb=some (.lst zs2)→SH H [] H4 [(bl,.lst zs),(tb,.lst zs2),(gl,.lst ((aF n rs).map V.int))] []:=fun H4 zs2 kp e=>F.kpL kp e LkU.u
   clear F
   have F:SH H' [tb] H' [(tb,.lst ys)] []:=SH.nil.jg List.mem_cons_self htb rfl (by simp)
   have Yc:=Old.mk (M:=[tb]) hgl (nm1 ne1)
   have afA:=Old.mk (M:=[tb]) hbl (nm1 ne4)
   have aeA:=Old.mk (M:=[tb]) e3 (nm1 ne2)
   have aeB:=Old.mk (M:=[tb]) eql (nm1 ne3)
   have aeC:AtI ys (-1) (.ref ql):=Uh ysn hl
   have afB:AtI zs ((zs.length:Int) - 1 + (i:Int) * (-1)) (.ref q1):=⟨by rw [show (zs.length:Int) - 1 + (i:Int) * (-1)=((rs.length - 1 - i:Nat):Int) by lia];exact b_ hv⟩
   obtain ⟨gv,hgv⟩:∃gv,(aF n rs)[rs.length - i]?=some gv:=⟨_,List.getElem?_eq_getElem (by lia)⟩
   have aeD:AtI ((aF n rs).map V.int) ((zs.length:Int) - 1 + (i:Int) * (-1) + 1) (.int gv):=⟨by rw [show (zs.length:Int) - 1 + (i:Int) * (-1) + 1=((rs.length - i:Nat):Int) by lia];exact b_ (by rw [List.getElem?_map,hgv];rfl)⟩
   have bl1:=vQ rs (aF n rs) s i
   have sd1:s≤240∧0≤gv:=⟨Ln,X_ gv (List.mem_of_getElem? hgv)⟩
   repeat k_meth
   refine ⟨_,ys++[.ref p_],rfl,?_,fun a u e hm=>?_,fun hm=>?_,back _ _ F.kpo bM⟩
   ·rw [Es e1,show (aF n rs).getD (rs.length - i) 0=gv by rw [List.getD_eq_getElem?_getD,hgv];rfl]
    exact gW.snoc (ls.kept fun q u hm e=>F.fr q u (nm1 fun z=>nt (z▸hm)) e) bM
   ·rcases List.mem_append.mp hm with hm | hm
    ·exact fr a u e hm
    ·exact F.fresh (LkL.m (o:=.lst _)) (nm1 (SH.neC (F:=F))) a u (sm0 _ _ e) (by simpa using hm)
   ·rcases List.mem_append.mp hm with hm | hm
    ·exact nt hm
    ·exact SH.neC (F:=F) (a:=tb) (b:=p_) (by simpa using hm)
  ·clear F
   rintro σ' H' ⟨_,ys,rfl,ls,fr,nt,F⟩
   repeat k_meth
   refine ⟨tb,ys,rfl,SqA.e,fun q H2 nw=>?_⟩
   have sm0:=F.sm
   refine k q _ _ (sm0.trans nw.s) nw.e (ls.kept fun q u _ e=>nw.s _ _ e).rev (fun a u e=>⟨nw.n a u (sm0 _ _ e),fun hm=>fr a u e (List.mem_reverse.mp hm)⟩) fun hm=>?_
   obtain ⟨u,hu⟩:=ls.has (List.mem_reverse.mp hm)
   exact nw.n q u hu rfl
end
open M22 M82 M87
class LyA (rs:List Rw) (n:outParam Nat):Prop where
 l:Lay n rs
 a:Asc rs
 h:n≤240
 g:16≤n
theorem vR {n:Nat} {rs:List Rw} (h:Lay n rs):(rs.map (·.nm)).Nodup:=List.pairwise_map.mpr (h.ap.imp fun h=>h.1)
theorem LyA.ok {n:Nat} {rs:List Rw} (h:LyA rs n):OkA 0 n rs:=⟨h.a,fun r hr=>⟨Nat.zero_le _,(h.l.good r hr).sz,(h.l.good r hr).le⟩⟩
theorem abu {rs:List Rw} (h:(rs.map (·.nm)).Nodup) {i:Nat} {r s:Rw} (e:rs[i]?=some s) (hr:r∈rs) (hn:s.nm=r.nm):s=r:=by
 obtain ⟨j,hj,rfl⟩:=List.getElem_of_mem hr
 obtain ⟨hi,rfl⟩:=List.getElem?_eq_some_iff.mp e
 have:=(List.getElem_inj (i:=i) (j:=j) (h₀:=by simpa using hi) (h₁:=by simpa using hj) h).mp (by simpa using hn)
 subst this
 rfl
structure LyH (CL:Addr) (H:Hp) (x p dx:Addr) (n:Nat) (zs:List V) (rs:List Rw):Prop where
 x:H x=some (.ins CL dx (lF (n:Nat) p))
 p:H p=some (.lst zs)
 t:aJ H zs (aP rs)
theorem LyH.same {CL:Addr} {H H':Hp} {x p dx:Addr} {n:Nat} {zs:List V} {rs:List Rw} (h:LyH CL H x p dx n zs rs) (s:Same H H'):LyH CL H' x p dx n zs rs:=⟨s _ _ h.x,s _ _ h.p,h.t.same s⟩
class LyQ (CL:Addr) (H:Hp) (x:Addr) (p dx:outParam Addr) (n:outParam Nat) (zs:outParam (List V)) (rs:outParam (List Rw)):Prop where
 e:LyH CL H x p dx n zs rs
instance aeE {CL:Addr} {H:Hp} {x p dx:Addr} {n:Nat} {zs:List V} {rs:List Rw} [h:Hat H x (.ins CL dx (lF (n:Nat) p))] [h2:Hat H p (.lst zs)] [t:TpA H zs (aP rs)]:LyQ CL H x p dx n zs rs:=⟨⟨h.e,h2.e,t.e⟩⟩
abbrev Ui (rs:List Rw):List V:=(rs.map (·.nm)).map fun cs=>V.str (tx cs)
def yZ (CL:Addr):Sp:=fun vs H Q _=>∃(x p dx:Addr) (n:Nat) (zs:List V) (rs:List Rw),vs=[.ref x]∧LyH CL H x p dx n zs rs∧LyA rs n∧∀q H',New H H' q (.lst (Ui rs))→Q (.ref q) H'
def za (CL:Addr):Sp:=fun vs H Q _=>∃(x p dx:Addr) (n:Nat) (zs:List V) (rs:List Rw) (r:Rw),vs=[.ref x,.str (tx r.nm)]∧LyH CL H x p dx n zs rs∧LyA rs n∧r∈rs∧∀q H',Same H H'→H' q=some (.tup (dM r))→Q (.ref q) H'
def JX:Sp:=fun vs H Q _=>∃(t:Addr) (a b:V),vs=[.ref t]∧H t=some (.tup [a,b])∧Q (.bl true) H
structure Sld (n:Nat) (rs:List Rw) (r:Rw) (k to:Nat):Prop where
 at_:rs[k]?=some r
 pn:r.pn=0
 lo:Cw rs k≤to
 hi:to + r.sz≤j6 n rs k
def vU (CL:Addr):Sp:=fun vs H Q _=>∃(x p dx:Addr) (n:Nat) (zs:List V) (rs:List Rw) (r:Rw) (k to:Nat),vs=[.ref x,.str (tx r.nm),.int (to:Nat)]∧LyH CL H x p dx n zs rs∧LyA rs n∧Sld n rs r k to∧∀H',Same H H'→Q (.bl true) H'
def zf (CL:Addr):Sp:=fun vs H Q _=>∃(x p dx l:Addr) (n:Nat) (zs:List V) (rs:List Rw) (r:Rw) (k to:Nat) (nms:List (List Nat)),vs=[.ref x,.str (tx r.nm),.int (to:Nat),.ref l]∧LyH CL H x p dx n zs rs∧LyA rs n∧Sld n rs r k to∧H l=some (.lst (nms.map fun cs=>V.str (tx cs)))∧(nms.length≤40∧¬ r.nm∈nms)∧∀q H',Same H H'→H' q=some (.tup [.str (tx r.nm),.int (r.st:Nat),.int (r.sz:Nat),.int (to:Nat)])→Q (.ref q) H'
section
variable {CL x p dx l t q:Addr} {H:Hp} {Q:VK} {E:XK} {n k to:Nat} {zs:List V} {rs:List Rw} {r:Rw} {a b:V} {nms:List (List Nat)}
class Uj (n:Nat) (rs:List Rw) (r:Rw) (k:outParam Nat) (to:Nat):Prop where
 e:Sld n rs r k to
instance Y7 [h:LyQ CL H x p dx n zs rs] [ly:LyA rs n]:Go (yZ CL [.ref x] H Q E) (∀q H',New H H' q (.lst (Ui rs))→Q (.ref q) H'):=⟨fun k=>⟨x,p,dx,n,zs,rs,rfl,h.e,ly,k⟩⟩
instance Y8 [h:LyQ CL H x p dx n zs rs] [ly:LyA rs n]:Go (za CL [.ref x,.str (tx r.nm)] H Q E) (Sd (r∈rs) (∀q H',Same H H'→H' q=some (.tup (dM r))→Q (.ref q) H')):=⟨fun s=>⟨x,p,dx,n,zs,rs,r,rfl,h.e,ly,s.1,s.2⟩⟩
instance acP [h:Hat H t (.tup [a,b])]:Go (JX [.ref t] H Q E) (Q (.bl true) H):=⟨fun k=>⟨t,a,b,rfl,h.e,k⟩⟩
instance Yd [h:LyQ CL H x p dx n zs rs] [ly:LyA rs n] [s:Uj n rs r k to]:Go (vU CL [.ref x,.str (tx r.nm),.int (to:Nat)] H Q E) (∀H',Same H H'→Q (.bl true) H'):=⟨fun k1=>⟨x,p,dx,n,zs,rs,r,k,to,rfl,h.e,ly,s.e,k1⟩⟩
instance Y9 [h:LyQ CL H x p dx n zs rs] [ly:LyA rs n] [s:Uj n rs r k to] [h2:Hat H l (.lst (nms.map fun cs=>V.str (tx cs)))]:Go (zf CL [.ref x,.str (tx r.nm),.int (to:Nat),.ref l] H Q E) (Sd (nms.length≤40∧¬ r.nm∈nms) (∀q H',Same H H'→H' q=some (.tup [.str (tx r.nm),.int (r.st:Nat),.int (r.sz:Nat),.int (to:Nat)])→Q (.ref q) H')):=⟨fun k1=>⟨x,p,dx,l,n,zs,rs,r,k,to,nms,rfl,h.e,ly,s.e,h2.e,k1.1,k1.2⟩⟩
end
theorem Qs {T:List Rw} {k:Nat} {r0:Rw} (h:T[k]?=some r0):Cw T (k + 1)=r0.st + r0.sz:=by
 show (match T[k]? with | some r=>r.st + r.sz | none=>0)=_
 rw [h]
theorem JZ {n:Nat} {T:List Rw} {k:Nat} {s:Rw} (h:T[k + 1]?=some s):j6 n T k=s.st:=by
 unfold j6
 rw [h]
theorem Et {n:Nat} {T:List Rw} {k:Nat} (h:T.length≤k + 1):j6 n T k=n:=by
 unfold j6
 rw [List.getElem?_eq_none h]
section
variable {P:Program} {w:World} {K:W.Frag} {mg:Str→Option Value} {base:Heap} {c:Nat→Addr} {aG ao R CL CP CS CB:Addr}
theorem lO (T:Txt K mg c R CL CP CS CB aG ao):Met P w K mg base CX0 1 CL "names" ["self"] (yZ CL):=by
 obtain ⟨f,hf,hm⟩:=T.DW
 refine (cZ (k:=0) hf yg (fun vs H Q E h=>?_) (fun _ _ _ _ _ _=>el1 fun _=>rfl) (fun f cdv A outer s H vs Q E hr h=>?_)).met hm
 ·obtain ⟨x,p,dx,n,zs,rs,rfl,_⟩:=h
  rfl
 ·obtain ⟨x,p,dx,n,zs,rs,rfl,ly,lya,k⟩:=h
  have nd:=yg.nd
  refine ⟨_,(aC (aW (iQ (N:=["row"]) (nt:=1) (fr:=[]) (d7 (fO (pv 0) rfl)) (fun _ _ _ _=>(bH (i:=0) (show (["row"]:List Str).Nodup from by decide +kernel) rfl (Or.inl rfl))) (fun _ _ _ _=>iM) (fun _ _ _ _=>(bD (lu (K:=K) rfl) (pv 0) aA (fun _ _=>rfl)))))),?_⟩
  clear nd 
  rw [show start ["self"] [.ref x]=[some (.ref x)] from rfl]
  try dsimp only [cO,bT]
  have hx:=ly.x
  have hp:=ly.p
  have tp:=ly.t
  have few:=lya.l.few
  have m_:=lya.h
  have zl:zs.length=rs.length:=by rw [tp.1,bL]
  have bw:ak K CL "many" := ⟨T.clL,T.aY⟩
  have bB:ak K CL "rows" := ⟨T.clL,T.aZ⟩
  have bC:ak K CP "cost" := ⟨T.clP,T.bf⟩
  have aO:ak K CP "number" := ⟨T.clP,T.aN⟩
  have aV:ak K CP "moves" := ⟨T.clP,T.aR⟩
  have aL:ak K CP "stretch" := ⟨T.clP,T.aK⟩
  have aD:ak K CS "stretches" := ⟨T.clS,T.aB⟩
  have jK:=Old.mk (M:=[]) hx nm0
  have jt:=Old.mk (M:=[]) hp nm0
  have h_:=fY.mk tp
  have F:SH H [] H [] []:=SH.nil
  repeat k_meth
  refine lD (F:=fun r=>r.getD 0 .non) bM (TpA.e (rs:=aP rs)) (by lia) rfl (fun q r H1 R hr s1 e1 kk=>?_) fun l H1 n1=>?_
  ·clear F
   have F:SH H1 [] H1 [] []:=SH.nil
   obtain ⟨s,_,rfl⟩:=List.mem_map.mp hr
   have abp:=Old.mk (M:=[]) e1 nm0
   repeat k_meth
   exact kk _ (Same.refl _)
  ·rw [show (aP rs).map (fun r=>r.getD 0 V.non)=Ui rs by unfold aP Ui;rw [List.map_map,List.map_map];rfl] at n1
   replace F:=F.newL n1
   repeat k_meth
   exact k _ _ SH.nwC
theorem fJ (T:Txt K mg c R CL CP CS CB aG ao):Met P w K mg base CX0 1 CL "block" ["self", "name"] (za CL):=by
 obtain ⟨f,hf,hm⟩:=T.DX
 refine (cZ (k:=0) hf yh (fun vs H Q E h=>?_) (fun _ _ _ _ _ _=>el2 fun _ _=>rfl) (fun f cdv A outer s H vs Q E hr h=>?_)).met hm
 ·obtain ⟨x,p,dx,n,zs,rs,r,rfl,_⟩:=h
  rfl
 ·obtain ⟨x,p,dx,n,zs,rs,r,rfl,ly,lya,hr0,k⟩:=h
  have nd:=yh.nd
  refine ⟨_,(au (dB PassesOwn.never rfl (d7 (fO (pv 0) rfl)) (bH (i:=2) nd rfl (Or.inl rfl)) (aC (cL (bK mD (bD bZ (pv 2) aA (fun _ _=>rfl)) (pv 1) (bJ _)) (aC (aW (pv 2))) bN)))
   cX),?_⟩
  clear nd 
  rw [show start ["self", "name", "row"] [.ref x,.str (tx r.nm)]=[some (.ref x),some (.str (tx r.nm)),none] from rfl]
  try dsimp only [cO,bT]
  have hx:=ly.x
  have hp:=ly.p
  have tp:=ly.t
  have few:=lya.l.few
  have m_:=lya.h
  have zl:zs.length=rs.length:=by rw [tp.1,bL]
  have bw:ak K CL "many" := ⟨T.clL,T.aY⟩
  have bB:ak K CL "rows" := ⟨T.clL,T.aZ⟩
  have bC:ak K CP "cost" := ⟨T.clP,T.bf⟩
  have aO:ak K CP "number" := ⟨T.clP,T.aN⟩
  have aV:ak K CP "moves" := ⟨T.clP,T.aR⟩
  have aL:ak K CP "stretch" := ⟨T.clP,T.aK⟩
  have aD:ak K CS "stretches" := ⟨T.clS,T.aB⟩
  have jK:=Old.mk (M:=[]) hx nm0
  have jt:=Old.mk (M:=[]) hp nm0
  have h_:=fY.mk tp
  have F:SH H [] H [] []:=SH.nil
  have nd:=vR lya.l
  repeat k_meth
  refine g_ (xs:=zs) (fun i σ' H'=>∃o2:Option V,σ'=[some (.ref x),some (.str (tx r.nm)),o2]∧(∀s∈rs.take i,s≠r)∧SH H [] H' [] []) ⟨_,rfl,by simp,F⟩ ?_ ?_ ?_
  ·clear F
   rintro i σ' H' _ ⟨_,rfl,_,F⟩
   exact SqA.e
  ·clear F
   rintro i v σ' H' hv ⟨_,rfl,hn,F⟩
   obtain ⟨s,q1,e1,rfl,e2⟩:=dj tp hv
   have qK:=Old.mk (M:=[]) e2 nm0
   by_cases hs:s=r
   ·subst hs
    have eqn:tx s.nm=tx s.nm:=rfl
    repeat k_meth
    exact k q1 _ F.sm bM
   ·have ne:¬ tx s.nm=tx r.nm:=fun z=>hs (abu nd e1 hr0 (p8 z))
    repeat k_meth
    refine ⟨_,rfl,fun s' hs'=>?_,F⟩
    rw [List.take_succ,e1] at hs'
    rcases List.mem_append.mp hs' with hs' | hs'
    ·exact hn s' hs'
    ·have:s'=s:=by simpa using hs'
     rw [this]
     exact hs
  ·clear F
   rintro σ' H' ⟨_,rfl,hn,F⟩
   rw [zl,List.take_length] at hn
   exact absurd rfl (hn r hr0)
theorem oM (T:Txt K mg c R CL CP CS CB aG ao):Def P w K mg base CX0 1 "is_pair" ["thing"] JX:=by
 refine bU T.Ds xP (fun vs H Q E h=>?_) (fun _ _ _ _ _ _=>el1 fun _=>rfl) (fun f cdv A outer s H vs Q E hr h=>?_)
 ·obtain ⟨t,a,b,rfl,_⟩:=h
  rfl
 ·obtain ⟨t,a,b,rfl,ht,k⟩:=h
  have nd:=xP.nd
  refine ⟨_,(aC (aW (gh (bF cR rfl T.bR boot_isinstance (aj (pv 0) (aj (jo (T := "tuple") rfl T.n6 boot_tuple) aq))) (iz (dR mD (bF dF rfl T.jr boot_len (aj (pv 0) aq)) aA (bJ _)))))),?_⟩
  clear nd 
  rw [show start ["thing"] [.ref t]=[some (.ref t)] from rfl]
  try dsimp only [cO,bT]
  have bw:ak K CL "many" := ⟨T.clL,T.aY⟩
  have bB:ak K CL "rows" := ⟨T.clL,T.aZ⟩
  have bC:ak K CP "cost" := ⟨T.clP,T.bf⟩
  have aO:ak K CP "number" := ⟨T.clP,T.aN⟩
  have aV:ak K CP "moves" := ⟨T.clP,T.aR⟩
  have aL:ak K CP "stretch" := ⟨T.clP,T.aK⟩
  have aD:ak K CS "stretches" := ⟨T.clS,T.aB⟩
  have afC:=Old.mk (M:=[]) ht nm0
  have F:SH H [] H [] []:=SH.nil
  repeat k_meth
  exact k
theorem lQ (T:Txt K mg c R CL CP CS CB aG ao):Def P w K mg base CX0 3 "is_slide" ["layout", "name", "to"] (vU CL):=by
 have bG:=bG (P:=P) (w:=w) (base:=base) T
 have cU:=cU (P:=P) (w:=w) (base:=base) T
 have cF:=cF (P:=P) (w:=w) (base:=base) T
 have lO:=lO (P:=P) (w:=w) (base:=base) T
 have bY:=bY (P:=P) (w:=w) (base:=base) T
 refine bU T.yx uQ (fun vs H Q E h=>?_) (fun _ _ _ _ _ _=>el3 fun _ _ _=>rfl) (fun f cdv A outer s H vs Q E hr h=>?_)
 ·obtain ⟨x,p,dx,n,zs,rs,r,k0,to,rfl,_⟩:=h
  rfl
 ·obtain ⟨x,p,dx,n,zs,rs,r,k0,to,rfl,ly,lya,sl,k⟩:=h
  have nd:=uQ.nd
  refine ⟨_,(au (aQ (i:=3) nd rfl (Or.inl rfl) (cG (pv 0) T.clL bG hr))
   (au (aQ (i:=4) nd rfl (Or.inl rfl) (XC (cG (pv 0) T.clL lO hr) (pv 1)))
   (au (aQ (i:=5) nd rfl (Or.inl rfl) (tG (bK mD (pv 4) aA (bJ _)) aA (aM cF hr (aj (aM bY hr (aj (bD bI (pv 3) (aX cM (pv 4) aA) (fun _ _=>rfl)) aq)) aq))))
   (au (aQ (i:=6) nd rfl (Or.inl rfl) (tG (bK mD (pv 4) (aX cM (bF dF rfl T.jr boot_len (aj (pv 3) aq)) aA) (bJ _)) (fO (pv 0) rfl) (bD bZ (bD bI (pv 3) (aX cD (pv 4) aA) (fun _ _=>rfl)) aA (fun _ _=>rfl))))
   (aC (aW (aM cU hr (aj (pv 2) (aj (pv 5) (aj (aX cM (pv 6) (bD bZ (bD bI (pv 3) (pv 4) (fun _ _=>rfl)) aA (fun _ _=>rfl))) aq)))))))))),?_⟩
  clear nd bG cU cF lO bY
  rw [show start ["layout", "name", "to", "blocks", "at", "least", "behind"] [.ref x,.str (tx r.nm),.int (to:Nat)]=[some (.ref x),some (.str (tx r.nm)),some (.int (to:Nat)),none,none,none,none] from rfl]
  try dsimp only [cO,bT]
  have hx:=ly.x
  have hp:=ly.p
  have tp:=ly.t
  have few:=lya.l.few
  have m_:=lya.h
  have zl:zs.length=rs.length:=by rw [tp.1,bL]
  have bw:ak K CL "many" := ⟨T.clL,T.aY⟩
  have bB:ak K CL "rows" := ⟨T.clL,T.aZ⟩
  have bC:ak K CP "cost" := ⟨T.clP,T.bf⟩
  have aO:ak K CP "number" := ⟨T.clP,T.aN⟩
  have aV:ak K CP "moves" := ⟨T.clP,T.aR⟩
  have aL:ak K CP "stretch" := ⟨T.clP,T.aK⟩
  have aD:ak K CS "stretches" := ⟨T.clS,T.aB⟩
  have jK:=Old.mk (M:=[]) hx nm0
  have jt:=Old.mk (M:=[]) hp nm0
  have h_:=fY.mk tp
  have F:SH H [] H [] []:=SH.nil
  obtain ⟨hr,pn,lo,hi⟩:=sl
  have hk:=(List.getElem?_eq_some_iff.mp hr).1
  have ix:aa1 (rs.map (·.nm)) r.nm k0:=⟨by rw [List.getElem?_map,hr];rfl,vR lya.l⟩
  obtain ⟨q1,e1,e2⟩:∃q1,zs[k0]?=some (.ref q1)∧H q1=some (.tup (dM r)):=tp.2 k0 _ (by unfold aP;rw [List.getElem?_map,hr];rfl)
  have qK:=Old.mk (M:=[]) e2 nm0
  have a1:AtI zs ((k0:Nat):Int) (.ref q1):=⟨b_ e1⟩
  rcases Nat.lt_or_ge (k0 + 1) rs.length with hl | hl
  ·rcases Nat.eq_zero_or_pos k0 with hk0 | hk0
   ·obtain ⟨s1,hs1⟩:∃s1,rs[k0 + 1]?=some s1:=⟨_,List.getElem?_eq_getElem hl⟩
    obtain ⟨q2,f1,f2⟩:∃q2,zs[k0 + 1]?=some (.ref q2)∧H q2=some (.tup (dM s1)):=tp.2 (k0 + 1) _ (by unfold aP;rw [List.getElem?_map,hs1];rfl)
    have aeF:=Old.mk (M:=[]) f2 nm0
    have a2:AtI zs (((k0:Nat):Int) + 1) (.ref q2):=⟨by rw [show ((k0:Nat):Int) + 1=((k0 + 1:Nat):Int) by lia];exact b_ f1⟩
    rw [JZ hs1] at hi
    repeat k_meth
    rw [decide_eq_true (show 0≤(to:Int) by lia),decide_eq_true (show (to:Int)≤(s1.st:Int) - (r.sz:Int) by lia)]
    exact k _ F.sm
   ·obtain ⟨r0,hr0⟩:∃r0,rs[k0 - 1]?=some r0:=⟨_,List.getElem?_eq_getElem (by lia)⟩
    have lw:=Qs hr0
    rw [show k0 - 1 + 1=k0 by lia] at lw
    rw [lw] at lo
    obtain ⟨q0,d1,d2⟩:∃q0,zs[k0 - 1]?=some (.ref q0)∧H q0=some (.tup (dM r0)):=tp.2 (k0 - 1) _ (by unfold aP;rw [List.getElem?_map,hr0];rfl)
    have aeG:=Old.mk (M:=[]) d2 nm0
    have a0:AtI zs (((k0:Nat):Int) - 1) (.ref q0):=⟨by rw [show ((k0:Nat):Int) - 1=((k0 - 1:Nat):Int) by lia];exact b_ d1⟩
    obtain ⟨s1,hs1⟩:∃s1,rs[k0 + 1]?=some s1:=⟨_,List.getElem?_eq_getElem hl⟩
    obtain ⟨q2,f1,f2⟩:∃q2,zs[k0 + 1]?=some (.ref q2)∧H q2=some (.tup (dM s1)):=tp.2 (k0 + 1) _ (by unfold aP;rw [List.getElem?_map,hs1];rfl)
    have aeF:=Old.mk (M:=[]) f2 nm0
    have a2:AtI zs (((k0:Nat):Int) + 1) (.ref q2):=⟨by rw [show ((k0:Nat):Int) + 1=((k0 + 1:Nat):Int) by lia];exact b_ f1⟩
    rw [JZ hs1] at hi
    repeat k_meth
    rw [decide_eq_true (show (r0.st:Int) + (r0.sz:Int)≤(to:Int) by lia),decide_eq_true (show (to:Int)≤(s1.st:Int) - (r.sz:Int) by lia)]
    exact k _ F.sm
  ·rcases Nat.eq_zero_or_pos k0 with hk0 | hk0
   ·rw [Et hl] at hi
    repeat k_meth
    rw [decide_eq_true (show 0≤(to:Int) by lia),decide_eq_true (show (to:Int)≤(n:Int) - (r.sz:Int) by lia)]
    exact k _ F.sm
   ·obtain ⟨r0,hr0⟩:∃r0,rs[k0 - 1]?=some r0:=⟨_,List.getElem?_eq_getElem (by lia)⟩
    have lw:=Qs hr0
    rw [show k0 - 1 + 1=k0 by lia] at lw
    rw [lw] at lo
    obtain ⟨q0,d1,d2⟩:∃q0,zs[k0 - 1]?=some (.ref q0)∧H q0=some (.tup (dM r0)):=tp.2 (k0 - 1) _ (by unfold aP;rw [List.getElem?_map,hr0];rfl)
    have aeG:=Old.mk (M:=[]) d2 nm0
    have a0:AtI zs (((k0:Nat):Int) - 1) (.ref q0):=⟨by rw [show ((k0:Nat):Int) - 1=((k0 - 1:Nat):Int) by lia];exact b_ d1⟩
    rw [Et hl] at hi
    repeat k_meth
    rw [decide_eq_true (show (r0.st:Int) + (r0.sz:Int)≤(to:Int) by lia),decide_eq_true (show (to:Int)≤(n:Int) - (r.sz:Int) by lia)]
    exact k _ F.sm
theorem oN (T:Txt K mg c R CL CP CS CB aG ao):Def P w K mg base CX0 4 "step_of" ["layout", "name", "to", "moved_ahead"] (zf CL):=by
 have fJ:=fJ (P:=P) (w:=w) (base:=base) T
 have lQ:=lQ (P:=P) (w:=w) (base:=base) T
 refine bU T.Du xQ (fun vs H Q E h=>?_) (fun _ _ _ _ _ _=>el4 fun _ _ _ _=>rfl) (fun f cdv A outer s H vs Q E hr h=>?_)
 ·obtain ⟨x,p,dx,l,n,zs,rs,r,k0,to,nms,rfl,_⟩:=h
  rfl
 ·obtain ⟨x,p,dx,l,n,zs,rs,r,k0,to,nms,rfl,ly,lya,sl,hl,side,k⟩:=h
  have nd:=xQ.nd
  refine ⟨_,(au (aQ (i:=4) nd rfl (Or.inl rfl) (Gs (pv 0) T.clL fJ hr (aj (pv 1) aq)))
   (au (cL (bK Kw (pv 1) (pv 3) (by with_unfolding_all rfl)) cX bN)
   (au (cL (bK gY (bD bZ (pv 4) aA (fun _ _=>rfl)) aA (bJ _)) cX bN)
   (au (cL (cW (cP (aM lQ hr (aj (pv 0) (aj (pv 1) (aj (pv 2) aq)))))) cX bN)
   (aC (aW (dg (aj (pv 1) (aj (bD bZ (pv 4) aA (fun _ _=>rfl)) (aj (bD bZ (pv 4) aA (fun _ _=>rfl)) (aj (pv 2) aq))))))))))),?_⟩
  clear nd fJ lQ
  rw [show start ["layout", "name", "to", "moved_ahead", "block"] [.ref x,.str (tx r.nm),.int (to:Nat),.ref l]=[some (.ref x),some (.str (tx r.nm)),some (.int (to:Nat)),some (.ref l),none] from rfl]
  try dsimp only [cO,bT]
  have hx:=ly.x
  have hp:=ly.p
  have tp:=ly.t
  have few:=lya.l.few
  have m_:=lya.h
  have zl:zs.length=rs.length:=by rw [tp.1,bL]
  have bw:ak K CL "many" := ⟨T.clL,T.aY⟩
  have bB:ak K CL "rows" := ⟨T.clL,T.aZ⟩
  have bC:ak K CP "cost" := ⟨T.clP,T.bf⟩
  have aO:ak K CP "number" := ⟨T.clP,T.aN⟩
  have aV:ak K CP "moves" := ⟨T.clP,T.aR⟩
  have aL:ak K CP "stretch" := ⟨T.clP,T.aK⟩
  have aD:ak K CS "stretches" := ⟨T.clS,T.aB⟩
  have jK:=Old.mk (M:=[]) hx nm0
  have jt:=Old.mk (M:=[]) hp nm0
  have rR:=Old.mk (M:=[]) hl nm0
  have h_:=fY.mk tp
  have F:SH H [] H [] []:=SH.nil
  have hr:r∈rs:=List.mem_of_getElem? sl.at_
  have pn:=sl.pn
  have sla:Uj n rs r k0 to:=⟨sl⟩
  obtain ⟨afD,ni⟩:=side
  repeat k_meth
  exact k _ _ F.sm bM
end
open M22 M82 M87 M75
theorem Ye {n:Nat} {rs:List Rw} (h:Lay n rs):(rs.map (·.nm)).Nodup:=by
 rw [List.Nodup,List.pairwise_map]
 exact h.ap.imp fun h=>h.1
theorem Qt {n:Nat} {rs qs:List Rw} (h:Lay n rs) (e:qs.map (·.nm)=rs.map (·.nm)) (ok:OkA 0 n qs):Lay n qs:=by
 have hl:qs.length=rs.length:=by have:=congrArg List.length e;simpa using this
 refine ⟨fun r hr=>⟨?_,(ok.bd r hr).2.1,(ok.bd r hr).2.2⟩,?_,by rw [hl];exact h.few⟩
 ·have:r.nm∈rs.map (·.nm):=e▸List.mem_map_of_mem hr
  obtain ⟨s,hs,e2⟩:=List.mem_map.mp this
  rw [← e2]
  exact (h.good s hs).nm
 ·have nd:(qs.map (·.nm)).Nodup:=e▸Ye h
  rw [List.Nodup,List.pairwise_map] at nd
  exact nd.imp₂ (fun {a b} h1 h2=>⟨h1,.inl h2⟩) ok.asc
def mvV (m:Mv):List V:=[.str (tx m.2.1),.int (m.2.2:Nat)]
def Eu (ms:List Mv):List (List V):=ms.map mvV
theorem Qu (ms:List Mv):(Eu ms).length=ms.length:=List.length_map ..
structure Yg (n:Nat) (rs:List Rw) (ms:List Mv):Prop where
 few:rs.length≤40
 fem:ms.length≤40
 ok:WOk n rs ms
 ndm:(ms.map (·.2.1)).Nodup
 ndr:(rs.map (·.nm)).Nodup
theorem Vp {H:Hp} {ms:List Mv} {ys:List V} {i:Nat} {v:V} (h:aJ H ys (Eu ms)) (e:ys[i]?=some v):∃w q,ms[i]?=some w∧v=.ref q∧H q=some (.tup (mvV w)):=by
 obtain ⟨r,q,e1,e2,e3⟩:=su h e
 unfold Eu at e1
 rw [List.getElem?_map] at e1
 cases e4:ms[i]? with
 | none=>rw [e4] at e1;cases e1
 | some w=>rw [e4] at e1;cases e1;exact ⟨w,q,rfl,e2,e3⟩
theorem oO {n:Nat} {rs:List Rw} {r:Rw} {k to:Nat} (h:LyA rs n) (s:Sld n rs r k to):LyA (mvT rs k to) n:=by
 have ok:=aa5 h.ok s.at_ s.lo s.hi
 exact ⟨Qt h.l (Vj s.at_) ok,ok.asc,h.h,h.g⟩
theorem Qv {n:Nat} {rs:List Rw} {r:Rw} {k to:Nat} (h:LyA rs n) (s:Sld n rs r k to):T_ n (rs.filter (fun s=>decide (s.nm≠r.nm))++[wH r to]) (mvT rs k to):=⟨T5 (vR h.l) s.at_,(oO h s).l,(oO h s).a⟩
def Lq (CL P:Addr) (pos:Pos) (qual:Str):Sp:=fun vs H Q _=>∃(x p dx:Addr) (n:Nat) (zs:List V) (rs:List Rw) (r:Rw) (k to:Nat) (ps:Array Value),vs=[.ref x,.str (tx r.nm),.int (to:Nat)]∧LyH CL H x p dx n zs rs∧LyA rs n∧Sld n rs r k to∧H P=some (.tbl ps)∧TabOk pos qual ps H ∧
 ∀(y dy q:Addr) (ys:List V) (ps':Array Value) (H':Hp),Kp P H H'→H' y=some (.ins CL dy (lF n q))→H' q=some (.lst ys)→aJ H' ys (aP (mvT rs k to))→(∀b u,H b=some u→b≠y∧b≠q)→y≠q→H' P=some (.tbl ps')→TabOk pos qual ps' H'→Q (.ref y) H'
def jk:List Rw→List Mv→List (List V)
 | _,[]=>[]
 | T,m::ms=>(match T[m.1]? with
  | some r=>[V.str (tx r.nm),V.int (r.st:Nat),V.int (r.sz:Nat),V.int (m.2.2:Nat)]
  | none=>[])::jk (mvT T m.1 m.2.2) ms
def Uk (CL P:Addr) (pos:Pos) (qual:Str):Sp:=fun vs H Q _=>∃(x p dx m:Addr) (n:Nat) (zs ws:List V) (rs:List Rw) (ms:List Mv) (ps:Array Value),vs=[.ref x,.ref m]∧LyH CL H x p dx n zs rs∧LyA rs n∧H m=some (.lst ws)∧aJ H ws (Eu ms)∧Yg n rs ms∧H P=some (.tbl ps)∧TabOk pos qual ps H ∧
 ∀(t s y dy q:Addr) (ss ys:List V) (ps':Array Value) (H':Hp),SH H [P] H' [(s,.lst ss),(P,.tbl ps')] [.tup t [.ref s,.ref y],.tps ss (jk rs ms),gJ pos qual ps']→LyH CL H' y q dy n ys (fL rs ms)→Q (.ref t) H'
theorem Qw {n:Nat}:∀{ms:List Mv} {T:List Rw},WOk n T ms→(jk T ms).map (fun r=>r.getD 0 V.non)=(ms.map (·.2.1)).map fun cs=>V.str (tx cs)
 | [],_,_=>rfl
 | m::ms,T,h=>by
  obtain ⟨⟨r,hr,hn,_⟩,h2⟩:=h
  unfold jk
  rw [List.map_cons,List.map_cons,List.map_cons,Qw h2,hr,← hn]
  rfl
theorem J0:∀(ms:List Mv) (T:List Rw),(jk T ms).length=ms.length
 | [],_=>rfl
 | m::ms,T=>by unfold jk;rw [List.length_cons,J0 ms,List.length_cons]
theorem Qx:∀{ms:List Mv} {T:List Rw} {i:Nat} {m:Mv} {r:Rw},ms[i]?=some m→(fL T (ms.take i))[m.1]?=some r→(jk T ms)[i]?=some [V.str (tx r.nm),V.int (r.st:Nat),V.int (r.sz:Nat),V.int (m.2.2:Nat)]
 | [],_,_,_,_,h,_=>by simp at h
 | a::ms,T,0,m,r,h,g=>by
  cases h
  unfold jk
  rw [show T[a.1]?=some r from g]
  rfl
 | a::ms,T,i + 1,m,r,h,g=>by
  unfold jk
  exact Qx (ms:=ms) (T:=mvT T a.1 a.2.2) (i:=i) (by simpa using h) g
theorem Qy {n:Nat}:∀{ms:List Mv} {T:List Rw} {i:Nat} {m:Mv},WOk n T ms→ms[i]?=some m→∃r,r.nm=m.2.1∧Sld n (fL T (ms.take i)) r m.1 m.2.2
 | [],_,_,_,_,h=>by simp at h
 | a::ms,T,0,m,w,h=>by
  cases h
  obtain ⟨⟨r,hr,hn,hp,lo,hi⟩,_⟩:=w
  exact ⟨r,hn,hr,hp,lo,hi⟩
 | a::ms,T,i + 1,m,w,h=>Qy (ms:=ms) (T:=mvT T a.1 a.2.2) (i:=i) w.2 (by simpa using h)
theorem J1 {n:Nat}:∀{ms:List Mv} {T:List Rw},WOk n T ms→∀w∈jk T ms,∃(a:Str) (b c d:Int),w=[.str a,.int b,.int c,.int d]
 | [],_,_=>fun _ h=>by cases h
 | m::ms,T,h=>fun w hw=>by
  obtain ⟨⟨r,hr,_⟩,h2⟩:=h
  unfold jk at hw
  rw [hr] at hw
  rcases List.mem_cons.mp hw with rfl | hw
  ·exact ⟨_,_,_,_,rfl⟩
  ·exact J1 h2 w hw
theorem Lr {ms:List Mv} {T:List Rw} {i:Nat} {m:Mv} (h:ms[i]?=some m):fL T (ms.take (i + 1))=mvT (fL T (ms.take i)) m.1 m.2.2:=by
 rw [List.take_succ,h]
 unfold fL
 rw [Option.toList_some,List.foldl_append]
 rfl
theorem cT {H:Hp} {a b:Addr} {o1 o2:HO} (h1:H a=some o1) (h2:H b=some o2) (n:o1≠o2):a≠b:=fun z=>by
 rw [z,h2] at h1
 exact n (Option.some.inj h1).symm
theorem nm2 {a b c:Addr} (h:a≠b) (g:a≠c):a ∉ [b,c]:=by simp [h,g]
section
variable {P:Program} {w:World} {K:W.Frag} {mg:Str→Option Value} {base:Heap} {c:Nat→Addr} {aG ao R CL CP CS CB:Addr}
theorem lR (T:Txt K mg c R CL CP CS CB aG ao) (B:Bm mg base):Met P w K mg base CX0 8 CL "moved" ["self", "name", "to"] (Lq CL ao cY cH):=by
 have fJ:=fJ (P:=P) (w:=w) (base:=base) T
 have gM:=gM (P:=P) (w:=w) (base:=base) T B
 have c7:=c7 (P:=P) (w:=w) (base:=base) T
 obtain ⟨f,hf,hm⟩:=T.DY
 refine (cZ (k:=7) hf yj (fun vs H Q E h=>?_) (fun _ _ _ _ _ _=>el3 fun _ _ _=>rfl) (fun f cdv A outer s H vs Q E hr h=>?_)).met hm
 ·obtain ⟨x,p,dx,n,zs,rs,r,k0,to,ps,rfl,_⟩:=h
  rfl
 ·obtain ⟨x,p,dx,n,zs,rs,r,k0,to,ps,rfl,ly,lya,sl,hP,tk,k⟩:=h
  have nd:=yj.nd
  refine ⟨_,(au (aQ (i:=3) nd rfl (Or.inl rfl) (Gs (pv 0) T.clL fJ hr (aj (pv 1) aq)))
   (au (cL (cW (cP (aM c7 hr (aj (pv 2) (aj aA aq))))) cX bN)
   (au (HX (i:=4) nd rfl (Or.inl rfl) (N:=["other", "name"]) (nt:=1) (fr:=[1]) (d7 (fO (pv 0) rfl)) (fun _ _ _ _=>(bH (i:=0) (show (["other", "name"]:List Str).Nodup from by decide +kernel) rfl (Or.inl rfl))) (fun _ _ _ _=>HS (bK Hy (bD (lu (K:=K) rfl) (pv 0) aA (fun _ _=>rfl)) (pv 1) (bJ _))) (fun _ _ _ _=>(pv 0)))
   (aC (aW (sy gM hr (aj (fO (pv 0) rfl) (aj (aX kZ (pv 4) (cj (aj (dg (aj (pv 1) (aj (pv 2) (aj (bD bZ (pv 3) aA (fun _ _=>rfl)) (aj (bD bZ (pv 3) aA (fun _ _=>rfl)) aq))))) aq))) aq)))))))),?_⟩
  clear nd fJ gM c7
  rw [show start ["self", "name", "to", "row", "others"] [.ref x,.str (tx r.nm),.int (to:Nat)]=[some (.ref x),some (.str (tx r.nm)),some (.int (to:Nat)),none,none] from rfl]
  try dsimp only [cO,bT]
  have hx:=ly.x
  have hp:=ly.p
  have tp:=ly.t
  have few:=lya.l.few
  have m_:=lya.h
  have zl:zs.length=rs.length:=by rw [tp.1,bL]
  have bw:ak K CL "many" := ⟨T.clL,T.aY⟩
  have bB:ak K CL "rows" := ⟨T.clL,T.aZ⟩
  have bC:ak K CP "cost" := ⟨T.clP,T.bf⟩
  have aO:ak K CP "number" := ⟨T.clP,T.aN⟩
  have aV:ak K CP "moves" := ⟨T.clP,T.aR⟩
  have aL:ak K CP "stretch" := ⟨T.clP,T.aK⟩
  have aD:ak K CS "stretches" := ⟨T.clS,T.aB⟩
  have nxP:=cT hx hP (by simp)
  have npP:=cT hp hP (by simp)
  have F:SH H [ao] H [(ao,.tbl ps)] [.tps zs (aP rs),gJ cY cH ps]:=((SH.nil.jg List.mem_cons_self hP rfl (by simp)).lZ tk).fW tp
  have jK:=Old.mk (M:=[ao]) hx (nm1 nxP)
  have jt:=Old.mk (M:=[ao]) hp (nm1 npP)
  have hr:r∈rs:=List.mem_of_getElem? sl.at_
  have la:=Qv lya sl
  have lym:=oO lya sl
  have sdn:16≤n∧n≤240:=⟨lya.g,lya.h⟩
  repeat k_meth
  refine wG (fvs:=[some (.str (tx r.nm))]) (pr:=fun s=>decide (s.nm≠r.nm)) bM (TpA.e (rs:=aP rs)) (by lia) rfl (fun q s H1 R hs s1 h1 kk=>?_) fun lo ys H1 n1 t1 yl1=>?_
  ·clear F
   have F:SH H1 [] H1 [] []:=SH.nil
   have abv:=Old.mk (M:=[]) h1 nm0
   have kk:=kk _ (Same.refl _)
   by_cases e9:s.nm=r.nm
   ·have e8:tx s.nm=tx r.nm:=by rw [e9]
    rw [decide_eq_false (show ¬ (s.nm≠r.nm) from fun z=>z e9)] at kk
    repeat k_meth
    rw [decide_eq_true e8]
    exact kk
   ·have e8:¬ tx s.nm=tx r.nm:=fun z=>e9 (p8 z)
    rw [decide_eq_true e9] at kk
    repeat k_meth
    rw [decide_eq_false e8]
    exact kk
  ·replace F:=F.newR n1 t1
   clear n1 t1
   have yo:ys.length=(rs.filter fun s=>decide (s.nm≠r.nm)).length:=by
    have:=(TpA.e (H:=H1) (ys:=ys) (rs:=aP (rs.filter fun s=>decide (s.nm≠r.nm)))).1
    rw [bL] at this
    exact this
   have ol:=List.length_filter_le (fun s:Rw=>decide (s.nm≠r.nm)) rs
   repeat k_meth
   rename_i tq _ _ _
   obtain ⟨lq,elq⟩:∃z,z=p_:=⟨_,rfl⟩
   subst elq
   rw [show [V.str (tx r.nm),V.int (to:Nat),V.int (r.sz:Nat),V.int (r.pn:Nat)]=dM (wH r to) from rfl] at F
   replace F:=SH.app (ys:=ys) (rs:=aP (rs.filter fun s=>decide (s.nm≠r.nm))) (q:=tq) (r:=dM (wH r to)) F (LkP.m) (LkI.m)
   rw [← jM] at F
   repeat k_meth
   intro ps2
   repeat k_meth
   exact k x_ dx_ p_ ys_ ps2 _ F.kpo bM bM TpA.e (fun b u e=>⟨F.fresh (LkL.m (o:=.ins CL dx_ (lF (n:Nat) p_))) (nm1 (SH.neC (F:=F))) b u e,F.fresh (LkL.m (o:=.lst ys_)) (nm1 (SH.neC (F:=F))) b u e⟩) (SH.neC (F:=F)) bM SH.tab
end
section
variable {P:Program} {w:World} {K:W.Frag} {mg:Str→Option Value} {base:Heap} {c:Nat→Addr} {aG ao R CL CP CS CB:Addr}
theorem Ba (T:Txt K mg c R CL CP CS CB aG ao) (B:Bm mg base):Def P w K mg base CX0 9 "gone_through" ["layout", "moves"] (Uk CL ao cY cH):=by
 have lR:=lR (P:=P) (w:=w) (base:=base) T B
 have oN:=oN (P:=P) (w:=w) (base:=base) T
 have oM:=oM (P:=P) (w:=w) (base:=base) T
 refine bU T.PX Jq (fun vs H Q E h=>?_) (fun _ _ _ _ _ _=>el2 fun _ _=>rfl) (fun f cdv A outer s H vs Q E hr h=>?_)
 ·obtain ⟨x,p,dx,m,n,zs,ws,rs,ms,ps,rfl,_⟩:=h
  rfl
 ·obtain ⟨x,p,dx,m,n,zs,ws,rs,ms,ps,rfl,ly,lya,hm,tm,wk,hP,tk,k⟩:=h
  have nd:=Jq.nd
  refine ⟨_,(au (cL (PW.pt (eU (cW (cP (bF cR rfl T.bR boot_isinstance (aj (pv 1) (aj (jo (T := "list") rfl T.ji boot_list) aq))))) (f9 (cW (cP (bF (BW rfl) rfl T.Qe boot_all (aj (iQ (N:=["move"]) (nt:=1) (fr:=[]) (d7 (pv 1)) (fun _ _ _ _=>(bH (i:=0) (show (["move"]:List Str).Nodup from by decide +kernel) rfl (Or.inl rfl))) (fun _ _ _ _=>iM) (fun _ _ _ _=>(aM oM hr (aj (pv 0) aq)))) aq))))))) cX bN)
   (au (aQ (i:=2) nd rfl (Or.inl rfl) (cj aq))
   (au (dB PassesOwn.never rfl (d7 (pv 1)) (iZ rfl (bV (bH (i:=3) nd rfl (Or.inl rfl)) (bV (bH (i:=4) nd rfl (Or.inl rfl)) gD))) (au (HX (i:=5) nd rfl (Or.inl rfl) (N:=["step"]) (nt:=1) (fr:=[]) (d7 (pv 2)) (fun _ _ _ _=>(bH (i:=0) (show (["step"]:List Str).Nodup from by decide +kernel) rfl (Or.inl rfl))) (fun _ _ _ _=>iM) (fun _ _ _ _=>(bD (lu (K:=K) rfl) (pv 0) aA (fun _ _=>rfl))))
    (au (cV (cJ (pv 2) (aM oN hr (aj (pv 0) (aj (pv 3) (aj (pv 4) (aj (pv 5) aq)))))))
    (aC (aQ (i:=0) nd rfl (Or.inl rfl) (Gs (pv 0) T.clL lR hr (aj (pv 3) (aj (pv 4) aq))))))))
   (aC (aW (dg (aj (pv 2) (aj (pv 0) aq)))))))),?_⟩
  clear nd lR oN oM
  rw [show start ["layout", "moves", "steps", "name", "to", "moved_ahead"] [.ref x,.ref m]=[some (.ref x),some (.ref m),none,none,none,none] from rfl]
  try dsimp only [cO,bT]
  have hx:=ly.x
  have hp:=ly.p
  have tp:=ly.t
  have few:=lya.l.few
  have m_:=lya.h
  have zl:zs.length=rs.length:=by rw [tp.1,bL]
  have bw:ak K CL "many" := ⟨T.clL,T.aY⟩
  have bB:ak K CL "rows" := ⟨T.clL,T.aZ⟩
  have bC:ak K CP "cost" := ⟨T.clP,T.bf⟩
  have aO:ak K CP "number" := ⟨T.clP,T.aN⟩
  have aV:ak K CP "moves" := ⟨T.clP,T.aR⟩
  have aL:ak K CP "stretch" := ⟨T.clP,T.aK⟩
  have aD:ak K CS "stretches" := ⟨T.clS,T.aB⟩
  have F:SH H [ao] H [(ao,.tbl ps)] [.tps zs (aP rs),.tps ws (Eu ms),gJ cY cH ps]:=(((SH.nil.jg List.mem_cons_self hP rfl (by simp)).lZ tk).fW tm).fW tp
  have jK:=Old.mk (M:=[ao]) hx (nm1 (cT hx hP (by simp)))
  have jt:=Old.mk (M:=[ao]) hp (nm1 (cT hp hP (by simp)))
  have Ul:=Old.mk (M:=[ao]) hm (nm1 (cT hm hP (by simp)))
  have wl:ws.length=ms.length:=by rw [tm.1,Qu]
  have fem:=wk.fem
  repeat k_meth
  refine Lj (jC (xs:=ws)) (by lia) rfl (fun H' s=>s.seq SqA.e) (fun v H1 R hv s1 kk=>?_) fun l H1 nw=>?_
  ·obtain ⟨i,hi⟩:=List.getElem?_of_mem hv
   obtain ⟨mm,q1,e1,rfl,e2⟩:=Vp tm hi
   have h1:H1 q1=some (.tup (mvV mm)):=s1 _ _ e2
   clear F
   have F:SH H1 [] H1 [] []:=SH.nil
   have abv:Old H1 [] q1 (.tup [.str (tx mm.2.1),.int (mm.2.2:Nat)]):=Old.mk (M:=[]) h1 nm0
   repeat k_meth
   exact kk _ (Same.refl _)
  replace F:=F.newL nw
  repeat k_meth
  refine ⟨l,_,rfl,SqA.e,?_⟩
  rw [show (List.replicate ws.length true).all id=true by simp]
  repeat k_meth
  rename Addr=>st
  have nps:p≠st:=F.fresh (LkL.m (o:=.lst _)) (nm1 (SH.neC (F:=F))) p _ hp
  refine g_ (xs:=ws) (fun i σ' H'=>∃(o3 o4 o5:Option V) (y q dy:Addr) (ys ss:List V) (ps:Array Value),σ'=[some (.ref y),some (.ref m),some (.ref st),o3,o4,o5]∧LyH CL H' y q dy n ys (fL rs (ms.take i))∧LyA (fL rs (ms.take i)) n∧q≠st∧ss.length=i∧SH H [ao] H' [(st,.lst ss),(ao,.tbl ps)] [.tps ss ((jk rs ms).take i),gJ cY cH ps]) ⟨_,_,_,x,p,dx,zs,[],ps,rfl,⟨bM,bM,TpA.e⟩,lya,nps,rfl,(F.fW (ys:=[]) (rs:=(jk rs ms).take 0) (by rw [List.take_zero];exact aJ.nil)).sub SbC.s SbI.s⟩ ?_ ?_ ?_
  ·clear F
   rintro i σ' H' _ ⟨_,_,_,y,q,dy,ys,ss,ps1,rfl,lyi,Um,nq,sl,F⟩
   exact SqA.e
  ·clear F
   rintro i v σ' H' hv ⟨_,_,_,y,q,dy,ys,ss,ps1,rfl,lyi,Um,nq,sl,F⟩
   obtain ⟨mm,q1,e1,rfl,e2⟩:=Vp tm hv
   obtain ⟨r,hn,sld⟩:=Qy wk.ok e1
   have ws1:=Lr (T:=rs) e1
   have sat:=Qx (T:=rs) e1 sld.at_
   have afE:i < ms.length:=(List.getElem?_eq_some_iff.mp e1).1
   have nin:¬ mm.2.1∈(ms.take i).map (·.2.1):=fun z=>by
    have h1:(ms.map (·.2.1))[i]?=some mm.2.1:=by rw [List.getElem?_map,e1];rfl
    rw [List.map_take] at z
    obtain ⟨j,hj,e⟩:=List.getElem_of_mem z
    rw [List.length_take] at hj
    rw [List.getElem_take] at e
    obtain ⟨hi,e3⟩:=List.getElem?_eq_some_iff.mp h1
    exact List.pairwise_iff_getElem.mp wk.ndm j i (by lia) hi (by lia) (e.trans e3.symm)
   have afF:Old H [ao] q1 (.tup (mvV mm)):=Old.mk (M:=[ao]) e2 (nm1 (cT e2 hP (by simp)))
   have h1:H' q1=some (.tup (mvV mm)):=bM
   obtain ⟨k0,nm,to⟩:=mm
   dsimp only at hn sld ws1 sat nin
   subst hn
   have sla:Uj n (fL rs (ms.take i)) r k0 to:=⟨sld⟩
   have nmf:((ms.take i).map (·.2.1)).length≤40∧¬ r.nm∈(ms.take i).map (·.2.1):=⟨by rw [List.length_map,List.length_take];lia,nin⟩
   have hst:H' st=some (.lst ss):=bM
   have hpt:H' ao=some (.tbl ps1):=bM
   have tk1:TabOk cY cH ps1 H':=SH.tab
   have tss:aJ H' ss ((jk rs ms).take i):=TpA.e
   have Fo2:SH H [ao] H' ([(st,.lst ss),(ao,.tbl ps1)]++[]) [.tps ss ((jk rs ms).take i),gJ cY cH ps1]:=F
   have nsP:st≠ao:=cT hst hpt (by simp)
   clear F
   have F:SH H' [st,ao] H' [(st,.lst ss),(ao,.tbl ps1)] [.tps ys (aP (fL rs (ms.take i))),.tps ss ((jk rs ms).take i),gJ cY cH ps1]:=((((SH.nil.jg (by simp) hpt rfl (by simp)).jg (by simp) hst rfl (by simp [Ne.symm nsP])).lZ tk1).fW tss).fW lyi.t
   have o_y:=Old.mk (M:=[st,ao]) lyi.x (nm2 (cT lyi.x hst (by simp)) (cT lyi.x hpt (by simp)))
   have o_q:=Old.mk (M:=[st,ao]) lyi.p (nm2 nq (cT lyi.p hpt (by simp)))
   have abv:Old H' [st,ao] q1 (.tup [.str (tx r.nm),.int (to:Nat)]):=Old.mk (M:=[st,ao]) h1 (nm2 (cT h1 hst (by simp)) (cT h1 hpt (by simp)))
   repeat k_meth
   refine lD (F:=fun r=>r.getD 0 .non) bM (TpA.e (rs:=(jk rs ms).take i)) (by lia) rfl (fun q w H1 R hw s1 f1 kk=>?_) fun l H1 n1=>?_
   ·obtain ⟨a0,b0,c0,d0,rfl⟩:=J1 wk.ok w (List.mem_of_mem_take hw)
    clear F
    have F:SH H1 [] H1 [] []:=SH.nil
    have afG:=Old.mk (M:=[]) f1 nm0
    repeat k_meth
    exact kk _ (Same.refl _)
   rw [List.map_take,Qw wk.ok,← List.map_take,← List.map_take] at n1
   replace F:=F.newL n1
   repeat k_meth
   have tks:(jk rs ms).take (i + 1)=(jk rs ms).take i++[[V.str (tx r.nm),V.int (r.st:Nat),V.int (r.sz:Nat),V.int (to:Nat)]]:=by rw [List.take_succ,sat];rfl
   have F3:=SH.app (ys:=ss) (rs:=(jk rs ms).take i) (q:=p_) (r:=[V.str (tx r.nm),V.int (r.st:Nat),V.int (r.sz:Nat),V.int (to:Nat)]) F (LkP.m) (LkI.m)
   rw [← tks] at F3
   clear F
   have F:SH H' [st,ao] H_ _ _:=F3
   clear F3
   have h9:H_ st=some (.lst (ss++[.ref p_])):=bM
   refine ⟨y,q,dy,n,ys,_,r,k0,to,ps1,rfl,⟨bM,bM,TpA.e⟩,Um,sld,bM,SH.tab,fun y2 dy2 q2 ys2 ps2 H4 kp hy2 hq2 ht2 fr2 afH hP2 tk2=>?_⟩
   have lyn:=oO Um sld
   rw [← ws1] at lyn ht2
   replace F:=SH.lZ (st:=TabOk.st) (F.kp kp hP2 LkU.u rfl) tk2
   repeat k_meth
   have F1:SH H' [st,ao] _ [(st,.lst (ss++[.ref p_])),(ao,.tbl ps2)] [.tps (ss++[.ref p_]) ((jk rs ms).take (i + 1)),gJ cY cH ps2]:=F.sub SbC.s SbI.s
   have F2:=SH.over Fo2 F1 rfl
   clear F F1
   simp only [List.cons_append,List.nil_append] at F2
   exact ⟨_,_,_,y2,q2,dy2,ys2,ss++[.ref p_],ps2,rfl,⟨hy2,hq2,ht2⟩,lyn,fun z=>(fr2 st _ h9).2 z.symm,by rw [List.length_append,sl];rfl,F2.sub SbC.s SbI.s⟩
  ·clear F
   rintro σ' H' ⟨_,_,_,y,q,dy,ys,ss,ps1,rfl,lyi,Um,nq,sl,F⟩
   rw [wl,List.take_length] at lyi
   rw [wl,← J0 ms rs,List.take_length] at F
   have F0:=fun (_:True)=>F
   clear F
   have F:SH H' [] H' [] []:=SH.nil
   repeat k_meth
   have F2:=((F0 trivial).same F.sm).zX (bM:H_ p_=some (.tup [.ref st,.ref y]))
   have ly2:=lyi.same F.sm
   clear F F0
   exact k _ st y dy q ss ys ps1 _ (F2.sub SbC.s SbI.s) ly2
end
open M22 M82 M87 M75
def Uo (CL P:Addr) (pos:Pos) (qual:Str):Sp:=fun vs H Q _=>∃(x p dx m:Addr) (n:Nat) (zs ws:List V) (rs:List Rw) (ms:List Mv) (ps:Array Value),vs=[.ref x,.ref m]∧LyH CL H x p dx n zs rs∧LyA rs n∧H m=some (.lst ws)∧aJ H ws (Eu ms)∧Yg n rs ms∧H P=some (.tbl ps)∧TabOk pos qual ps H ∧
 ∀(y dy q:Addr) (ys:List V) (ps':Array Value) (H':Hp),Kp P H H'→H' P=some (.tbl ps')→TabOk pos qual ps' H'→LyH CL H' y q dy n ys (fL rs ms)→Q (.ref y) H'
def zj:Sp:=fun vs H Q _=>∃s:Int,vs=[.int s]∧1≤s∧∀H',Same H H'→Q .non H'
abbrev Chc:=Int×Int×Int
def chV (c:Chc):List Int:=[c.1,c.2.1,c.2.2]
def jN (cs:List Chc):List (List V):=(cs.map chV).map fun r=>r.map V.int
def ch2 (g b:Int):Option Int→Option Int→List Chc
 | some u,some v=>[(u + v,g,b)]
 | _,_=>[]
def chA (g c:Int) (s:Nat) (l r:PR) (b:Nat):List Chc:=ch2 g b ((l[b]?).getD none) ((r[(max 0 ((s:Int) - c - (b:Int))).toNat]?).getD none)
theorem Uq (g b:Int) (u v:Option Int):(ch2 g b u v).length≤1:=by cases u <;> cases v <;> simp [ch2]
def chF (g c:Int) (s:Nat) (l r:PR) (k:Nat):List Chc:=(List.range k).flatMap (chA g c s l r)
theorem kJ (g c:Int) (s:Nat) (l r:PR) (k:Nat):chF g c s l r (k + 1)=chF g c s l r k++chA g c s l r k:=by unfold chF;rw [List.range_succ,List.flatMap_append];simp
theorem Bc (g c:Int) (s:Nat) (l r:PR) (k:Nat):(chF g c s l r k).length≤k:=by
 induction k with
 | zero=>exact Nat.le_refl _
 | succ k ih =>
  rw [kJ,List.length_append]
  have:(chA g c s l r k).length≤1:=Uq ..
  lia
theorem Ew (a b:List Chc):jN (a++b)=jN a++jN b:=by unfold jN;rw [List.map_append,List.map_append]
theorem Qz (a:List Chc):(jN a).length=a.length:=by unfold jN;rw [List.length_map,List.length_map]
def vV:Sp:=fun vs H Q _=>∃(a b:Addr) (g c:Int) (s:Nat) (l r:PR),vs=[.int g,.int c,.int (s:Nat),.ref a,.ref b]∧H a=some (.lst (l.map pV))∧H b=some (.lst (r.map pV))∧(l.length=s + 1∧r.length=s + 1)∧(s≤240∧0≤c)∧∀q ys H',New H H' q (.lst ys)→aJ H' ys (jN (chF g c s l r (s + 1)))→Q (.ref q) H'
section
variable {CL P x p dx m a b:Addr} {H H0:Hp} {Q:VK} {E:XK} {n s:Nat} {zs ws:List V} {rs:List Rw} {ms:List Mv} {z g c:Int} {l r:PR} {M:List Addr} {L:List (Addr×HO)} {I:List Im} {Z:Addr→Hp→Prop} {cs:List Chc}
instance Y_:Go (zj [.int z] H Q E) (Sd (1≤z) (∀H',Same H H'→Q .non H')):=⟨fun k=>⟨z,rfl,k.1,k.2⟩⟩
instance Yh [h:Hat H a (.lst (l.map pV))] [h2:Hat H b (.lst (r.map pV))]:Go (vV [.int g,.int c,.int (s:Nat),.ref a,.ref b] H Q E) (Sd (l.length=s + 1∧r.length=s + 1) (Sd (s≤240∧0≤c) (∀q ys H',New H H' q (.lst ys)→aJ H' ys (jN (chF g c s l r (s + 1)))→Q (.ref q) H'))):=⟨fun k=>⟨a,b,g,c,s,l,r,rfl,h.e,h2.e,k.1,k.2.1,k.2.2⟩⟩
instance aeH [F:SH H0 M H L I]:Go (∀p ys H',New H H' p (.lst ys)→aJ H' ys (jN cs)→Z p H') (∀H' p ys,ys.length=cs.length→SH H0 M H' ((p,.lst ys)::L) (.tps ys (jN cs)::I)→Z p H'):=⟨fun k p ys H' n t=>k H' p ys (by rw [t.1,Qz]) (F.newR n t)⟩
end
section
variable {P:Program} {w:World} {K:W.Frag} {mg:Str→Option Value} {base:Heap} {c:Nat→Addr} {aG ao R CL CP CS CB:Addr}
theorem Bf (T:Txt K mg c R CL CP CS CB aG ao) (B:Bm mg base):Def P w K mg base CX0 10 "slid" ["layout", "moves"] (Uo CL ao cY cH):=by
 have Ba:=Ba (P:=P) (w:=w) (base:=base) T B
 refine bU T.P0 Jr (fun vs H Q E h=>?_) (fun _ _ _ _ _ _=>el2 fun _ _=>rfl) (fun f cdv A outer s H vs Q E hr h=>?_)
 ·obtain ⟨x,p,dx,m,n,zs,ws,rs,ms,ps,rfl,_⟩:=h
  rfl
 ·obtain ⟨x,p,dx,m,n,zs,ws,rs,ms,ps,rfl,ly,lya,hm,tm,wk,hP,tk,k⟩:=h
  have nd:=Jr.nd
  refine ⟨_,(aC (aW (bD bZ (aM Ba hr (aj (pv 0) (aj (pv 1) aq))) aA (fun _ _=>rfl)))),?_⟩
  clear nd Ba
  rw [show start ["layout", "moves"] [.ref x,.ref m]=[some (.ref x),some (.ref m)] from rfl]
  try dsimp only [cO,bT]
  have bw:ak K CL "many" := ⟨T.clL,T.aY⟩
  have bB:ak K CL "rows" := ⟨T.clL,T.aZ⟩
  have bC:ak K CP "cost" := ⟨T.clP,T.bf⟩
  have aO:ak K CP "number" := ⟨T.clP,T.aN⟩
  have aV:ak K CP "moves" := ⟨T.clP,T.aR⟩
  have aL:ak K CP "stretch" := ⟨T.clP,T.aK⟩
  have aD:ak K CS "stretches" := ⟨T.clS,T.aB⟩
  have F:SH H [] H [] []:=SH.nil
  repeat k_meth
  refine ⟨x,p,dx,m,n,zs,ws,rs,ms,ps,rfl,ly,lya,hm,tm,wk,hP,tk,fun t s0 y dy q ss ys ps' H' G ly2=>?_⟩
  clear F
  have F:SH H' [] H' [] []:=SH.nil
  have ht:H' t=some (.tup [.ref s0,.ref y]):=G.im (.tup t [.ref s0,.ref y]) (by simp)
  have o_t:=Old.mk (M:=[]) ht nm0
  repeat k_meth
  exact k y dy q ys ps' _ (fun b u n e=>G.fr b u (nm1 n) e) (G.at' (ao,.tbl ps') (by simp)) (G.im (gJ cY cH ps') (by simp)) ly2
theorem sW (T:Txt K mg c R CL CP CS CB aG ao):Def P w K mg base CX0 3 "need_size" ["size"] zj:=by
 have c7:=c7 (P:=P) (w:=w) (base:=base) T
 refine bU T.JF Df (fun vs H Q E h=>?_) (fun _ _ _ _ _ _=>el1 fun _=>rfl) (fun f cdv A outer s H vs Q E hr h=>?_)
 ·obtain ⟨s,rfl,_⟩:=h
  rfl
 ·obtain ⟨s,rfl,s1,k⟩:=h
  have nd:=Df.nd
  refine ⟨_,(aC (cL (cW (cP (aM c7 hr (aj (pv 0) (aj aA aq))))) cX bN)),?_⟩
  clear nd c7
  rw [show start ["size"] [.int s]=[some (.int s)] from rfl]
  try dsimp only [cO,bT]
  have bw:ak K CL "many" := ⟨T.clL,T.aY⟩
  have bB:ak K CL "rows" := ⟨T.clL,T.aZ⟩
  have bC:ak K CP "cost" := ⟨T.clP,T.bf⟩
  have aO:ak K CP "number" := ⟨T.clP,T.aN⟩
  have aV:ak K CP "moves" := ⟨T.clP,T.aR⟩
  have aL:ak K CP "stretch" := ⟨T.clP,T.aK⟩
  have aD:ak K CS "stretches" := ⟨T.clS,T.aB⟩
  have F:SH H [] H [] []:=SH.nil
  repeat k_meth
  exact k _ F.sm
theorem lV (T:Txt K mg c R CL CP CS CB aG ao):Def P w K mg base CX0 1 "choices_at" ["gap", "cells", "size", "left", "right"] vV:=by
 refine bU T.yD uX (fun vs H Q E h=>?_) (fun _ _ _ _ _ _=>el5 fun _ _ _ _ _=>rfl) (fun f cdv A outer s H vs Q E hr h=>?_)
 ·obtain ⟨a,b,g,c0,s,l,r,rfl,_⟩:=h
  rfl
 ·obtain ⟨a,b,g,c0,s,l,r,rfl,ha,hb,side,side2,k⟩:=h
  have nd:=uX.nd
  refine ⟨_,(au (aQ (i:=5) nd rfl (Or.inl rfl) (cj aq))
   (au (dB PassesOwn.never rfl (d9 rfl T.eO (aj (aX cD (pv 2) aA) aq)) (bH (i:=6) nd rfl (Or.inl rfl)) (au (aQ (i:=7) nd rfl (Or.inl rfl) (bD bI (pv 4) (bF (fD rfl) rfl T.n_ boot_max (aj aA (aj (aX cM (aX cM (pv 2) (pv 1)) (pv 6)) aq))) (fun _ _=>rfl)))
    (aC (cL (PW.pt (zF (bK fV (bD bI (pv 3) (pv 6) (fun _ _=>rfl)) dz (bJ _)) (zE (bK fV (pv 7) dz (bJ _))))) (aC (cV (cJ (pv 5) (dg (aj (aX cD (bD bI (pv 3) (pv 6) (fun _ _=>rfl)) (pv 7)) (aj (pv 0) (aj (pv 6) aq))))))) bN))))
   (aC (aW (pv 5))))),?_⟩
  clear nd 
  rw [show start ["gap", "cells", "size", "left", "right", "choices", "by", "at_right"] [.int g,.int c0,.int (s:Nat),.ref a,.ref b]=[some (.int g),some (.int c0),some (.int (s:Nat)),some (.ref a),some (.ref b),none,none,none] from rfl]
  try dsimp only [cO,bT]
  have bw:ak K CL "many" := ⟨T.clL,T.aY⟩
  have bB:ak K CL "rows" := ⟨T.clL,T.aZ⟩
  have bC:ak K CP "cost" := ⟨T.clP,T.bf⟩
  have aO:ak K CP "number" := ⟨T.clP,T.aN⟩
  have aV:ak K CP "moves" := ⟨T.clP,T.aR⟩
  have aL:ak K CP "stretch" := ⟨T.clP,T.aK⟩
  have aD:ak K CS "stretches" := ⟨T.clS,T.aB⟩
  have afI:=Old.mk (M:=[]) ha nm0
  have afJ:=Old.mk (M:=[]) hb nm0
  have F:SH H [] H [] []:=SH.nil
  obtain ⟨ll,rl⟩:=side
  obtain ⟨Ln,c00⟩:=side2
  repeat k_meth
  rename Addr=>co
  rw [show ((s:Int) + 1).toNat=s + 1 by lia]
  refine gH (fun j σ' H'=>∃(o6 o7:Option V) (ys:List V),σ'=[some (.int g),some (.int c0),some (.int (s:Nat)),some (.ref a),some (.ref b),some (.ref co),o6,o7]∧ys.length=(chF g c0 s l r j).length∧SH H [] H' [(co,.lst ys)] [.tps ys (jN (chF g c0 s l r j))]) ⟨_,_,[],rfl,rfl,(F.fW (ys:=[]) (rs:=jN (chF g c0 s l r 0)) aJ.nil).sub SbC.s SbI.s⟩ ?_ ?_
  ·clear F
   rintro j σ' H' hj ⟨_,_,ys,rfl,yl,F⟩
   have cl:=Bc g c0 s l r j
   obtain ⟨u,hu⟩:∃u,l[j]?=some u:=⟨_,List.getElem?_eq_getElem (by lia)⟩
   obtain ⟨v,hv⟩:∃v,r[(max 0 ((s:Int) - c0 - (j:Int))).toNat]?=some v:=⟨_,List.getElem?_eq_getElem (by lia)⟩
   have a1:AtI (l.map pV) ((j:Nat):Int) (pV u):=⟨b_ (by rw [List.getElem?_map,hu];rfl)⟩
   have a2:AtI (r.map pV) (max 0 ((s:Int) - c0 - (j:Int))) (pV v):=⟨by
    rw [show max 0 ((s:Int) - c0 - (j:Int))=(((max 0 ((s:Int) - c0 - (j:Int))).toNat:Nat):Int) by lia]
    exact b_ (by rw [List.getElem?_map,hv];rfl)⟩
   have ca:chA g c0 s l r j=ch2 g (j:Int) u v:=by
    unfold chA
    rw [hu,hv]
    rfl
   cases u with
   | none =>
    have a3:AtI (l.map pV) ((j:Nat):Int) .non:=a1
    have e:chF g c0 s l r (j + 1)=chF g c0 s l r j:=by rw [kJ,ca];exact List.append_nil _
    cases v with
    | none =>
     have a4:AtI (r.map pV) (max 0 ((s:Int) - c0 - (j:Int))) .non:=a2
     repeat k_meth
     exact ⟨_,_,ys,rfl,by rw [e];exact yl,by rw [e];exact F.sub SbC.s SbI.s⟩
    | some v =>
     have a4:AtI (r.map pV) (max 0 ((s:Int) - c0 - (j:Int))) (.int v):=a2
     repeat k_meth
     exact ⟨_,_,ys,rfl,by rw [e];exact yl,by rw [e];exact F.sub SbC.s SbI.s⟩
   | some u =>
    have a3:AtI (l.map pV) ((j:Nat):Int) (.int u):=a1
    cases v with
    | none =>
     have a4:AtI (r.map pV) (max 0 ((s:Int) - c0 - (j:Int))) .non:=a2
     have e:chF g c0 s l r (j + 1)=chF g c0 s l r j:=by rw [kJ,ca];exact List.append_nil _
     repeat k_meth
     exact ⟨_,_,ys,rfl,by rw [e];exact yl,by rw [e];exact F.sub SbC.s SbI.s⟩
    | some v =>
     have a4:AtI (r.map pV) (max 0 ((s:Int) - c0 - (j:Int))) (.int v):=a2
     have e:chF g c0 s l r (j + 1)=chF g c0 s l r j++[(u + v,g,(j:Int))]:=by rw [kJ,ca];rfl
     repeat k_meth
     have F2:=SH.app (ys:=ys) (rs:=jN (chF g c0 s l r j)) (q:=p_) (r:=[V.int (u + v),V.int g,V.int (j:Int)]) F (LkP.m) (LkI.m)
     rw [show jN (chF g c0 s l r j)++[[V.int (u + v),V.int g,V.int (j:Int)]]=jN (chF g c0 s l r (j + 1)) by rw [e,Ew];rfl] at F2
     exact ⟨_,_,ys++[.ref p_],rfl,by rw [e,List.length_append,List.length_append,yl];rfl,F2.sub SbC.s SbI.s⟩
  ·clear F
   rintro σ' H' ⟨_,_,ys,rfl,yl,F⟩
   repeat k_meth
   exact k _ _ _ SH.nwC TpA.e
end
open M22 M82 M87 M75
structure Tab (H:Hp) (t l m:Addr) (ys zs:List V) (T U:List PR):Prop where
 t:H t=some (.tup [.ref l,.ref m])
 l:H l=some (.lst ys)
 a:gW H ys T
 m:H m=some (.lst zs)
 b:gW H zs U
theorem Tab.same {H H':Hp} {t l m:Addr} {ys zs:List V} {T U:List PR} (h:Tab H t l m ys zs T U) (s:Same H H'):Tab H' t l m ys zs T U:=⟨s _ _ h.t,s _ _ h.l,h.a.kept fun q u _ e=>s _ _ e,s _ _ h.m,h.b.kept fun q u _ e=>s _ _ e⟩
structure QB (CL:Addr) (H:Hp) (x p dx:Addr) (n:Nat) (zs:List V) (rs:List Rw) (s:Nat):Prop where
 x:H x=some (.ins CL dx (lF (n:Nat) p))
 p:H p=some (.lst zs)
 t:aJ H zs (aP rs)
 few:rs.length≤40
 s1:1≤s
 s2:s≤240
 g:∀g∈aF n rs,0≤g
theorem QB.same {CL:Addr} {H H':Hp} {x p dx:Addr} {n:Nat} {zs:List V} {rs:List Rw} {s:Nat} (h:QB CL H x p dx n zs rs s) (sm:Same H H'):QB CL H' x p dx n zs rs s:=⟨sm _ _ h.x,sm _ _ h.p,h.t.same sm,h.few,h.s1,h.s2,h.g⟩
def Ls (CL:Addr):Sp:=fun vs H Q _=>∃(x p dx:Addr) (n:Nat) (zs:List V) (rs:List Rw) (s:Nat),vs=[.ref x,.int (s:Nat)]∧QB CL H x p dx n zs rs s∧∀t l m ys us H',Same H H'→Tab H' t l m ys us (kI rs (aF n rs) s rs.length) (gB rs (aF n rs) s rs.length).reverse→(∀a u,H a=some u→a≠m∧V.ref a ∉ ys)→V.ref m ∉ ys∧V.ref l ∉ ys∧l≠m→Q (.ref t) H'
theorem Vq {n:Nat}:∀(rs:List Rw) (g:List Int×Int),Asc rs→(∀r∈rs,g.2≤(r.st:Int)∧r.st + r.sz≤n)→(∀x∈g.1,0≤x)→g.2≤(n:Int) →
  (∀x∈(rs.foldl (fun g r=>(g.1++[(r.st:Int) - g.2],(r.st:Int) + (r.sz:Int))) g).1,0≤x)∧(rs.foldl (fun g r=>(g.1++[(r.st:Int) - g.2],(r.st:Int) + (r.sz:Int))) g).2≤(n:Int)
 | [],g,_,_,h1,h2=>⟨h1,h2⟩
 | r::t,g,as,hr,h1,h2=>by
  rw [List.foldl_cons]
  obtain ⟨a1,a2⟩:=List.pairwise_cons.mp as
  obtain ⟨b1,b2⟩:=hr r List.mem_cons_self
  refine Vq t _ a2 (fun s hs=>⟨?_,(hr s (List.mem_cons_of_mem _ hs)).2⟩) (fun x hx=>?_) ?_
  ·have:=a1 s hs
   show (r.st:Int) + r.sz≤s.st
   lia
  ·rcases List.mem_append.mp hx with hx | hx
   ·exact h1 x hx
   ·rw [List.mem_singleton.mp hx]
    lia
  ·show (r.st:Int) + r.sz≤n
   lia
theorem jO {n:Nat} {rs:List Rw} (ly:Lay n rs) (as:Asc rs):∀g∈aF n rs,0≤g:=by
 obtain ⟨h1,h2⟩:=Vq (n:=n) rs ([],0) as (fun r hr=>⟨Int.natCast_nonneg _,(ly.good r hr).le⟩) (by simp) (Int.natCast_nonneg _)
 intro g hg
 unfold aF at hg
 rcases List.mem_append.mp hg with hg | hg
 ·exact h1 g hg
 ·rw [List.mem_singleton.mp hg]
  unfold gp
  lia
theorem d8 (n:Nat) (rs:List Rw):(aF n rs).length=rs.length + 1:=by unfold aF;rw [List.length_append,nj];rfl
def gQ (n:Nat) (rs:List Rw) (s k:Nat):List Chc:=(List.range k).flatMap fun g:Nat=>chF ((g:Nat):Int) ((aF n rs).getD g 0) s (fX rs (aF n rs) s g) (dZ rs (aF n rs) s (rs.length - g)) (s + 1)
theorem zp (n:Nat) (rs:List Rw) (s k:Nat):gQ n rs s (k + 1)=gQ n rs s k++chF (k:Int) ((aF n rs).getD k 0) s (fX rs (aF n rs) s k) (dZ rs (aF n rs) s (rs.length - k)) (s + 1):=by unfold gQ;rw [List.range_succ,List.flatMap_append];simp
theorem QC (n:Nat) (rs:List Rw) (s k:Nat):(gQ n rs s k).length≤k * (s + 1):=by
 induction k with
 | zero=>simp [gQ]
 | succ k ih =>
  rw [zp,List.length_append,Nat.succ_mul]
  have:=Bc (k:Int) ((aF n rs).getD k 0) s (fX rs (aF n rs) s k) (dZ rs (aF n rs) s (rs.length - k)) (s + 1)
  lia
def qL (cs:List Chc):Option Chc:=cs[eV (cs.map chV) (cs.length - 1)]?
def lcF (n:Nat) (rs:List Rw) (s:Int):Option Chc:=if (n:Int) < s then none else qL (gQ n rs s.toNat (rs.length + 1))
theorem Hg {cs:List Chc} (h:qL cs=none):cs=[]:=by
 unfold qL at h
 rw [List.getElem?_eq_none_iff] at h
 have:=sE (cs.map chV) (cs.length - 1)
 exact List.eq_nil_of_length_eq_zero (by lia)
def vW (CL:Addr):Sp:=fun vs H Q _=>∃(x p dx:Addr) (n:Nat) (zs:List V) (rs:List Rw) (s:Int),vs=[.ref x,.int s]∧LyH CL H x p dx n zs rs∧LyA rs n∧1≤s∧((lcF n rs s=none∧∀H',Same H H'→Q .non H')∨∃c,lcF n rs s=some c∧∀q H',Same H H'→H' q=some (.tup [.int c.1,.int c.2.1,.int c.2.2])→Q (.ref q) H')
theorem Ur {rs:List Rw} {gs:List Int} {s g m:Nat} (h:g≤m):(kI rs gs s m)[g]?=some (fX rs gs s g):=by
 unfold kI
 rw [List.getElem?_map,List.getElem?_range (by lia)]
 rfl
theorem QD {rs:List Rw} {gs:List Int} {s g m:Nat} (h:g≤m):(gB rs gs s m).reverse[g]?=some (dZ rs gs s (m - g)):=by
 have hl:(gB rs gs s m).length=m + 1:=by unfold gB;simp
 rw [List.getElem?_reverse (by lia),hl]
 unfold gB
 rw [List.getElem?_map,List.getElem?_range (by lia),show m + 1 - 1 - g=m - g by lia]
 rfl
section
variable {P:Program} {w:World} {K:W.Frag} {mg:Str→Option Value} {base:Heap} {c:Nat→Addr} {aG ao R CL CP CS CB:Addr}
theorem oR (T:Txt K mg c R CL CP CS CB aG ao):Def P w K mg base CX0 4 "prices" ["layout", "size"] (Ls CL):=by
 have cU:=cU (P:=P) (w:=w) (base:=base) T
 have A_:=A_ (P:=P) (w:=w) (base:=base) T
 have sV:=sV (P:=P) (w:=w) (base:=base) T
 refine bU T.Dy xU (fun vs H Q E h=>?_) (fun _ _ _ _ _ _=>el2 fun _ _=>rfl) (fun f cdv A outer s H vs Q E hr h=>?_)
 ·obtain ⟨x,p,dx,n,zs,rs,s,rfl,_⟩:=h
  rfl
 ·obtain ⟨x,p,dx,n,zs,rs,s,rfl,ly,k⟩:=h
  have nd:=xU.nd
  refine ⟨_,(au (cL (cW (cP (aM cU hr (aj (pv 1) (aj aA (aj (jm T.jH) aq)))))) cX bN)
   (aC (aW (dg (aj (aM A_ hr (aj (pv 0) (aj (pv 1) aq))) (aj (aM sV hr (aj (pv 0) (aj (pv 1) aq))) aq)))))),?_⟩
  clear nd cU A_ sV
  rw [show start ["layout", "size"] [.ref x,.int (s:Nat)]=[some (.ref x),some (.int (s:Nat))] from rfl]
  try dsimp only [cO,bT]
  have bw:ak K CL "many" := ⟨T.clL,T.aY⟩
  have bB:ak K CL "rows" := ⟨T.clL,T.aZ⟩
  have bC:ak K CP "cost" := ⟨T.clP,T.bf⟩
  have aO:ak K CP "number" := ⟨T.clP,T.aN⟩
  have aV:ak K CP "moves" := ⟨T.clP,T.aR⟩
  have aL:ak K CP "stretch" := ⟨T.clP,T.aK⟩
  have aD:ak K CS "stretches" := ⟨T.clS,T.aB⟩
  have F:SH H [] H [] []:=SH.nil
  have sd1:=ly.s1
  have sd2:=ly.s2
  repeat k_meth
  rw [decide_eq_true (show (1:Int)≤(s:Int) by lia),decide_eq_true (show (s:Int)≤240 by lia),show (true && true)=true from rfl]
  repeat k_meth
  refine ⟨x,p,dx,n,zs,rs,s,rfl,ly.x,ly.p,ly.t,ly.few,ly.s2,ly.g,fun l ys H2 m2 hl ls fr nl=>?_⟩
  replace F:=F.same m2
  have ly2:=ly.same m2
  repeat k_meth
  refine ⟨x,p,dx,n,zs,rs,s,rfl,ly2.x,ly2.p,ly2.t,ly2.few,ly2.s2,ly2.g,fun m us H3 m3 hm ms fm nm=>?_⟩
  clear F
  have F:SH H3 [] H3 [] []:=SH.nil
  repeat k_meth
  refine k p_ l m ys us _ ((m2.trans m3).trans F.sm) ⟨bM,F.sm _ _ (m3 _ _ hl),ls.kept fun q u _ e=>F.sm _ _ (m3 _ _ e),F.sm _ _ hm,ms.kept fun q u _ e=>F.sm _ _ e⟩ (fun a u e=>⟨(fm a u (m2 _ _ e)).1,(fr a u e).2⟩) ⟨fun hh=>?_,nl,(fm l _ hl).1⟩
  obtain ⟨u,hu⟩:=ls.has hh
  exact (fm m u hu).1 rfl
theorem sX (T:Txt K mg c R CL CP CS CB aG ao):Def P w K mg base CX0 5 "least_choice" ["layout", "size"] (vW CL):=by
 have oR:=oR (P:=P) (w:=w) (base:=base) T
 have cg:=cg (P:=P) (w:=w) (base:=base) T
 have lV:=lV (P:=P) (w:=w) (base:=base) T
 refine bU T.JG Dg (fun vs H Q E h=>?_) (fun _ _ _ _ _ _=>el2 fun _ _=>rfl) (fun f cdv A outer s H vs Q E hr h=>?_)
 ·obtain ⟨x,p,dx,n,zs,rs,s,rfl,_⟩:=h
  rfl
 ·obtain ⟨x,p,dx,n,zs,rs,s,rfl,ly,lya,s1,kk⟩:=h
  have nd:=Dg.nd
  refine ⟨_,(au (cL (bK gY (pv 1) (fO (pv 0) rfl) (bJ _)) (aC (aW dz)) bN)
   (au (aQ (i:=2) nd rfl (Or.inl rfl) (aM oR hr (aj (pv 0) (aj (pv 1) aq))))
   (au (aQ (i:=3) nd rfl (Or.inl rfl) (cj aq))
   (au (dB PassesOwn.never rfl (Ig rfl T.kj (aj (aM cg hr (aj (pv 0) aq)) aq)) (iZ rfl (bV (bH (i:=4) nd rfl (Or.inl rfl)) (bV (bH (i:=5) nd rfl (Or.inl rfl)) gD))) (aC (cV (Te (pv 3) (aM lV hr (aj (pv 4) (aj (pv 5) (aj (pv 1) (aj (bD bI (bD bZ (pv 2) aA (fun _ _=>rfl)) (pv 4) (fun _ _=>rfl)) (aj (bD bI (bD bZ (pv 2) aA (fun _ _=>rfl)) (pv 4) (fun _ _=>rfl)) aq))))))))))
   (aC (aW (Oi (Lb rfl hr) rfl T.rJ boot_min (aj (pv 3) aq) dz))))))),?_⟩
  clear nd oR cg lV
  rw [show start ["layout", "size", "tables", "choices", "gap", "cells"] [.ref x,.int s]=[some (.ref x),some (.int s),none,none,none,none] from rfl]
  try dsimp only [cO,bT]
  have hx:=ly.x
  have hp:=ly.p
  have tp:=ly.t
  have few:=lya.l.few
  have m_:=lya.h
  have zl:zs.length=rs.length:=by rw [tp.1,bL]
  have bw:ak K CL "many" := ⟨T.clL,T.aY⟩
  have bB:ak K CL "rows" := ⟨T.clL,T.aZ⟩
  have bC:ak K CP "cost" := ⟨T.clP,T.bf⟩
  have aO:ak K CP "number" := ⟨T.clP,T.aN⟩
  have aV:ak K CP "moves" := ⟨T.clP,T.aR⟩
  have aL:ak K CP "stretch" := ⟨T.clP,T.aK⟩
  have aD:ak K CS "stretches" := ⟨T.clS,T.aB⟩
  have jK:=Old.mk (M:=[]) hx nm0
  have jt:=Old.mk (M:=[]) hp nm0
  have h_:=fY.mk tp
  have F:SH H [] H [] []:=SH.nil
  by_cases hs:(n:Int) < s
  ·have lc:lcF n rs s=none:=if_pos hs
   repeat k_meth
   rcases kk with ⟨_,k⟩ | ⟨c,e,_⟩
   ·exact k _ F.sm
   ·rw [lc] at e
    cases e
  obtain ⟨s,rfl⟩:∃s0:Nat,s=(s0:Int):=⟨s.toNat,by lia⟩
  have lys:QB CL H x p dx n zs rs s:=⟨hx,hp,tp,few,by lia,by lia,jO lya.l lya.a⟩
  have gn:=jO lya.l lya.a
  have gl:=d8 n rs
  repeat k_meth
  refine ⟨x,p,dx,n,zs,rs,s,rfl,lys,fun t l m ys us H2 s2 tb _ _=>?_⟩
  clear F
  have F:SH H2 [] H2 [] []:=SH.nil
  have hx2:=s2 _ _ hx
  have hp2:=s2 _ _ hp
  have tp2:=tp.same s2
  have ae9:=Old.mk (M:=[]) hx2 nm0
  have ae_:=Old.mk (M:=[]) hp2 nm0
  have Vr:=fY.mk tp2
  have tbt:=tb.t
  have tbl:=tb.l
  have tbm:=tb.m
  have o_t:=Old.mk (M:=[]) tbt nm0
  have o_l:=Old.mk (M:=[]) tbl nm0
  have o_m:=Old.mk (M:=[]) tbm nm0
  clear jK jt h_
  repeat k_meth
  obtain ⟨gA,e⟩:∃z,z=p_:=⟨_,rfl⟩
  subst e
  obtain ⟨co,e⟩:∃z,z=p_:=⟨_,rfl⟩
  subst e
  refine Il (xs:=(aF n rs).map V.int) (fun i σ' H'=>∃(o4 o5:Option V) (cs:List V),σ'=[some (.ref x),some (.int (s:Nat)),some (.ref t),some (.ref co),o4,o5]∧cs.length=(gQ n rs s i).length∧SH H2 [] H' [(gA,.lst ((aF n rs).map V.int)),(co,.lst cs)] [.tps cs (jN (gQ n rs s i))]) ⟨_,_,[],rfl,rfl,(F.fW (ys:=[]) (rs:=jN (gQ n rs s 0)) aJ.nil).sub SbC.s SbI.s⟩ ?_ ?_ ?_
  ·clear F
   rintro i σ' H' _ ⟨_,_,cs,rfl,cl,F⟩
   exact SqA.e
  ·clear F
   rintro i v T σ' H' H3 hv ⟨_,_,cs,rfl,cl,F⟩ nw
   rw [List.getElem?_map] at hv
   obtain ⟨gv,hg,rfl⟩:∃gv,(aF n rs)[i]?=some gv∧v=.int gv:=by
    cases h:(aF n rs)[i]? with
    | none=>rw [h] at hv;cases hv
    | some g=>rw [h] at hv;exact ⟨g,rfl,(Option.some.inj hv).symm⟩
   have hi:=(List.getElem?_eq_some_iff.mp hg).1
   obtain ⟨ql,hl,el⟩:=tb.a.2 i _ (Ur (by lia))
   obtain ⟨qr,hr,er⟩:=tb.b.2 i _ (QD (by lia))
   have afK:=Old.mk (M:=[]) el nm0
   have afL:=Old.mk (M:=[]) er nm0
   have a1:AtI ys ((i:Nat):Int) (.ref ql):=⟨b_ hl⟩
   have a2:AtI us ((i:Nat):Int) (.ref qr):=⟨b_ hr⟩
   have sd1:=And.intro (yX rs (aF n rs) s i) (vQ rs (aF n rs) s (rs.length - i))
   have sd2:s≤240∧0≤gv:=⟨by lia,gn gv (List.mem_of_getElem? hg)⟩
   have cN:=zp n rs s i
   rw [List.getD_eq_getElem?_getD,hg] at cN
   have cN:gQ n rs s (i + 1)=gQ n rs s i++chF (i:Int) gv s (fX rs (aF n rs) s i) (dZ rs (aF n rs) s (rs.length - i)) (s + 1):=cN
   have c1:=QC n rs s i
   have c2:=Bc (i:Int) gv s (fX rs (aF n rs) s i) (dZ rs (aF n rs) s (rs.length - i)) (s + 1)
   have c3:i * (s + 1)≤41 * 241:=Nat.mul_le_mul (by lia) (by lia)
   replace F:=(F.same nw.s).zX nw.e
   repeat k_meth
   have yl2:ys_.length=(chF (i:Int) gv s (fX rs (aF n rs) s i) (dZ rs (aF n rs) s (rs.length - i)) (s + 1)).length:=by assumption
   have t1:aJ H_ (cs++ys_) (jN (gQ n rs s (i + 1))):=by
    rw [cN,Ew]
    exact (F.tps (ys:=cs) (rs:=jN (gQ n rs s i)) (by simp)).app (F.tps (ys:=ys_) (by simp))
   exact ⟨_,_,cs++ys_,rfl,by rw [cN,List.length_append,List.length_append,cl,yl2],(F.fW t1).sub SbC.s SbI.s⟩
  ·clear F
   rintro σ' H' ⟨_,_,cs,rfl,cl,F⟩
   rw [List.length_map,gl] at F cl
   repeat k_meth
   have lcE:lcF n rs (s:Int)=qL (gQ n rs s (rs.length + 1)):=by unfold lcF;rw [if_neg hs];rfl
   have hco:H' co=some (.lst cs):=bM
   have tc:aJ H' cs (((gQ n rs s (rs.length + 1)).map chV).map fun r=>r.map V.int):=TpA.e
   refine ⟨co,cs,(gQ n rs s (rs.length + 1)).map chV,rfl,rfl,hco,tc,fun e=>?_,fun ne q hq=>?_⟩
   ·rcases kk with ⟨_,k⟩ | ⟨c,e2,_⟩
    ·exact k _ (s2.trans F.sm)
    ·have:gQ n rs s (rs.length + 1)=[]:=by simpa using e
     rw [lcE,this] at e2
     cases e2
   ·rw [List.length_map] at hq
    rcases kk with ⟨e2,_⟩ | ⟨c,e2,k⟩
    ·rw [lcE] at e2
     exact absurd (by rw [Hg e2];rfl) ne
    ·rw [lcE] at e2
     have e3:(((gQ n rs s (rs.length + 1)).map chV).map fun r=>r.map V.int)[eV ((gQ n rs s (rs.length + 1)).map chV) ((gQ n rs s (rs.length + 1)).length - 1)]?=some ((chV c).map V.int):=by
      rw [List.getElem?_map,List.getElem?_map,show (gQ n rs s (rs.length + 1))[eV ((gQ n rs s (rs.length + 1)).map chV) ((gQ n rs s (rs.length + 1)).length - 1)]?=some c from e2]
      rfl
     obtain ⟨q2,f1,f2⟩:=tc.2 _ _ e3
     rw [hq] at f1
     cases f1
     exact k q _ (s2.trans F.sm) f2
end
open M22 M82 M87 M75
theorem Ey {f b:Int} {B:List Rw} (h:∀r∈B,f≤(r.st:Int)∧(r.st:Int) < b):B.filter (within f b)=B:=List.filter_eq_self.mpr fun r hr=>by
 have:=h r hr
 unfold within
 rw [decide_eq_true this.1,decide_eq_true this.2]
 rfl
theorem qM {f b:Int} {B:List Rw} (h:∀r∈B,(r.st:Int) < f∨b≤(r.st:Int)):B.filter (within f b)=[]:=List.filter_eq_nil_iff.mpr fun r hr=>by
 unfold within
 rcases h r hr with h | h
 ·rw [decide_eq_false (by lia)];simp
 ·rw [decide_eq_false (p:=(r.st:Int) < b) (by lia)];simp
theorem Us {n:Nat} {r0:List Rw} (ok:OkA 0 n r0):∀(rs A B:List Rw) (f u:Int) (g:List W3),r0=A++B++rs→(∀a∈A,(a.st:Int) < f)→(∀b∈B,f≤(b.st:Int))→(∀s∈rs,f≤(s.st:Int))→u=(B.map fun r=>(r.sz:Int)).sum →
  (rs.foldl (fun g r=>if 0 < r.pn then (g.1++[(g.2,(r.st:Int),dY r0 g.2 r.st)],(r.st:Int) + (r.sz:Int)) else g) (g,f)).1++[((rs.foldl (fun g r=>if 0 < r.pn then (g.1++[(g.2,(r.st:Int),dY r0 g.2 r.st)],(r.st:Int) + (r.sz:Int)) else g) (g,f)).2,(n:Int),dY r0 (rs.foldl (fun g r=>if 0 < r.pn then (g.1++[(g.2,(r.st:Int),dY r0 g.2 r.st)],(r.st:Int) + (r.sz:Int)) else g) (g,f)).2 n)]=g++uz n f u rs:=by
 intro rs
 induction rs with
 | nil =>
  intro A B f u g e hA hB _ hu
  have:dY r0 f n=(n:Int) - f - u:=by
   unfold dY
   rw [e,List.append_nil,List.filter_append,qM fun r hr=>.inl (hA r hr),Ey fun r hr=>⟨hB r hr,by have:=ok.bd r (by rw [e];simp [hr]);lia⟩,List.nil_append,hu]
  show g++[(f,(n:Int),dY r0 f n)]=_
  rw [this]
  rfl
 | cons r rs ih =>
  intro A B f u g e hA hB hs hu
  have aw:=ok.asc
  rw [e,List.pairwise_append] at aw
  have aw2:=List.pairwise_cons.mp aw.2.1
  have br:=ok.bd r (by rw [e];simp)
  rw [List.foldl_cons]
  by_cases hp:0 < r.pn
  ·have:dY r0 f r.st=(r.st:Int) - f - u:=by
    unfold dY
    rw [e,List.filter_append,List.filter_append,qM fun r hr=>.inl (hA r hr),Ey fun b hb=>⟨hB b hb,by have:=aw.2.2 b (by simp [hb]) r (by simp);have:=ok.bd b (by rw [e];simp [hb]);lia⟩,qM (B:=r::rs) fun s hs=>.inr (by
     rcases List.mem_cons.mp hs with rfl | hs
     ·lia
     ·have:=aw2.1 s hs;lia),List.nil_append,List.append_nil,hu]
   rw [uz,if_pos hp]
   simp only [if_pos hp,this]
   have i:=ih (A++B++[r]) [] ((r.st:Int) + (r.sz:Int)) 0 (g++[(f,(r.st:Int),(r.st:Int) - f - u)]) (by rw [e];simp) (fun a ha=>by
    rcases List.mem_append.mp ha with ha | ha
    ·have:=aw.2.2 a ha r (by simp);lia
    ·rw [List.mem_singleton.mp ha];lia) (fun b hb=>by cases hb) (fun s hs=>by have:=aw2.1 s hs;lia) rfl
   rw [i,List.append_assoc]
   rfl
  ·rw [uz,if_neg hp]
   simp only [if_neg hp]
   exact ih A (B++[r]) f (u + (r.sz:Int)) g (by rw [e];simp) hA (fun b hb=>by
    rcases List.mem_append.mp hb with hb | hb
    ·exact hB b hb
    ·rw [List.mem_singleton.mp hb];exact hs r (.head _)) (fun s h=>hs s (.tail _ h)) (by rw [List.map_append,List.sum_append,← hu];simp)
theorem Yi {n:Nat} {rs:List Rw} (ok:OkA 0 n rs):Ql n rs=uz n 0 0 rs:=Us ok rs [] [] 0 0 [] rfl (fun a h=>by cases h) (fun a h=>by cases h) (fun s _=>by lia) rfl
def abw (rs:List Rw) (gs:List Int) (s g:Nat):PR:=(List.range (s + 1)).map fun x=>bO ((rs.take g).reverse.zip (gs.take g).reverse) (x:Nat)
def abx (rs:List Rw) (gs:List Int) (s g:Nat):PR:=(List.range (s + 1)).map fun x=>bO ((rs.drop g).zip (gs.drop (g + 1))) (x:Nat)
def psh (bs:List (Rw×Int)) (s:Nat):PR:=(List.range (s + 1)).map fun x=>bO bs (x:Nat)
theorem J2 (s:Nat):psh [] s=jj s:=by
 unfold psh jj
 rw [List.range_succ_eq_map,List.map_cons,List.map_map]
 congr 1
 refine List.eq_replicate_iff.mpr ⟨by simp,fun o ho=>?_⟩
 obtain ⟨x,_,rfl⟩:=List.mem_map.mp ho
 show bO [] ((x + 1:Nat):Int)=none
 unfold bO
 rw [if_neg (by lia)]
theorem J3 {r:Rw} {c:Int} {bs:List (Rw×Int)} {s:Nat} (c0:0≤c):psh ((r,c)::bs) s=nu r (psh bs s) c s:=by
 unfold nu
 have hx:∀x:Nat,bO ((r,c)::bs) ((x + 1:Nat):Int)=if 0 < r.pn then none else (bO bs (((x + 1:Nat):Int) - c)).map fun y=>(r.sz:Int) + y:=fun x=>by
  rw [bO,if_neg (by lia)]
 have h0:bO ((r,c)::bs) ((0:Nat):Int)=some 0:=iR (by lia)
 by_cases hp:0 < r.pn
 ·rw [if_pos hp]
  unfold psh jj
  rw [List.range_succ_eq_map,List.map_cons,List.map_map,h0]
  congr 1
  refine List.eq_replicate_iff.mpr ⟨by simp,fun o ho=>?_⟩
  obtain ⟨x,_,rfl⟩:=List.mem_map.mp ho
  show bO ((r,c)::bs) ((x + 1:Nat):Int)=none
  rw [hx,if_pos hp]
 ·rw [if_neg hp]
  unfold psh
  rw [List.range_succ_eq_map,List.map_cons,List.map_map,h0]
  congr 1
  refine List.map_congr_left fun x hxs=>?_
  have hxs:=List.mem_range.mp hxs
  show bO ((r,c)::bs) ((x + 1:Nat):Int)=_
  rw [hx,if_neg hp]
  unfold G_
  have hi:((((x + 1:Nat):Int)) - c).toNat < s + 1:=by lia
  rw [← List.range_succ_eq_map,List.getElem?_map,List.getElem?_range hi]
  show _=(bO bs ((((((x + 1:Nat):Int)) - c).toNat:Nat):Int)).map _
  by_cases hc:c≤((x + 1:Nat):Int)
  ·rw [show ((((((x + 1:Nat):Int)) - c).toNat:Nat):Int)=((x + 1:Nat):Int) - c by lia]
  ·rw [iR (x:=((x + 1:Nat):Int) - c) (by lia),iR (by lia)]
theorem vX {rs:List Rw} {gs:List Int} {s:Nat} (hl:gs.length=rs.length + 1) (hg:∀g∈gs,0≤g):∀i,i≤rs.length→fX rs gs s i=abw rs gs s i
 | 0,_=>by
  show jj s=psh _ s
  simp [J2]
 | i + 1,hi=>by
  have hr:rs[i]?=some rs[i]:=List.getElem?_eq_getElem (by lia)
  have hc:gs[i]?=some gs[i]:=List.getElem?_eq_getElem (by lia)
  have ih:=vX (s:=s) hl hg i (by lia)
  rw [fX,hr,ih,List.getD_eq_getElem?_getD,hc]
  show nu rs[i] (psh _ s) gs[i] s=psh _ s
  rw [← J3 (hg _ (List.getElem_mem _))]
  have e1:rs.take (i + 1)=rs.take i++[rs[i]]:=by rw [List.take_succ,hr];rfl
  have e2:gs.take (i + 1)=gs.take i++[gs[i]]:=by rw [List.take_succ,hc];rfl
  rw [e1,e2,List.reverse_append,List.reverse_append]
  rfl
theorem qN {rs:List Rw} {gs:List Int} {s:Nat} (hl:gs.length=rs.length + 1) (hg:∀g∈gs,0≤g):∀i,i≤rs.length→dZ rs gs s i=abx rs gs s (rs.length - i)
 | 0,_=>by
  show jj s=psh _ s
  simp [J2]
 | i + 1,hi=>by
  have hr:rs[rs.length - 1 - i]?=some rs[rs.length - 1 - i]:=List.getElem?_eq_getElem (by lia)
  have hc:gs[rs.length - i]?=some gs[rs.length - i]:=List.getElem?_eq_getElem (by lia)
  have ih:=qN (s:=s) hl hg i (by lia)
  rw [dZ,hr,ih,List.getD_eq_getElem?_getD,hc]
  show nu rs[rs.length - 1 - i] (psh _ s) gs[rs.length - i] s=psh _ s
  rw [← J3 (hg _ (List.getElem_mem _))]
  congr 1
  have e1:rs.drop (rs.length - (i + 1))=rs[rs.length - 1 - i]::rs.drop (rs.length - i):=by
   rw [show rs.length - (i + 1)=rs.length - 1 - i by lia,List.drop_eq_getElem_cons (by lia),show rs.length - 1 - i + 1=rs.length - i by lia]
  have e2:gs.drop (rs.length - (i + 1) + 1)=gs[rs.length - i]::gs.drop (rs.length - i + 1):=by
   rw [show rs.length - (i + 1) + 1=rs.length - i by lia,List.drop_eq_getElem_cons (by lia)]
  rw [e1,e2,List.zip_cons_cons]
theorem Ut {n:Nat} {rs:List Rw} (ly:Lay n rs):∀w∈Ql n rs,w.2.2≤(n:Int):=by
 have sm:∀a b:Int,dY rs a b≤b - a:=fun a b=>by
  have:0≤((rs.filter (within a b)).map fun r=>(r.sz:Int)).sum:=by
   have h:∀l:List Int,(∀x∈l,0≤x)→0≤l.sum:=fun l=>by
    induction l with
    | nil=>intro _;simp
    | cons a t ih=>intro h;have:=h a List.mem_cons_self;have:=ih fun x hx=>h x (List.mem_cons_of_mem _ hx);rw [List.sum_cons];lia
   refine h _ fun x hx=>?_
   obtain ⟨r,_,rfl⟩:=List.mem_map.mp hx
   exact Int.natCast_nonneg _
  unfold dY
  lia
 have aux:∀pre:List Rw,(∀r∈pre,r∈rs)→0≤(spF rs pre).2∧∀w∈(spF rs pre).1,w.2.2≤(n:Int):=by
  intro pre
  induction pre using Vo with
  | h0=>intro _;exact ⟨Int.le_refl _,fun w hw=>by cases hw⟩
  | h1 pre r ih =>
   intro hm
   have hi:=ih fun s hs=>hm s (List.mem_append_left _ hs)
   have g:=(ly.good r (hm r (by simp))).le
   rw [gO]
   split
   ·refine ⟨by show (0:Int)≤(r.st:Int) + (r.sz:Int);lia,fun w hw=>?_⟩
    rcases List.mem_append.mp hw with hw | hw
    ·exact hi.2 w hw
    ·rw [List.mem_singleton.mp hw]
     have:=sm (spF rs pre).2 r.st
     have:=hi.1
     show dY rs (spF rs pre).2 r.st≤n
     lia
   ·exact hi
 intro w hw
 have a:=aux rs fun r hr=>hr
 rcases List.mem_append.mp hw with hw | hw
 ·exact a.2 w hw
 ·rw [List.mem_singleton.mp hw]
  have:=sm (spF rs rs).2 n
  show dY rs (spF rs rs).2 n≤n
  lia
theorem vY (n:Nat) (rs:List Rw):aF n rs=qj n 0 rs:=by
 have h:∀(rs:List Rw) (acc:List Int) (e:Nat),(rs.foldl (fun g r=>(g.1++[(r.st:Int) - g.2],(r.st:Int) + (r.sz:Int))) (acc,(e:Int))).1++[(n:Int) - (rs.foldl (fun g r=>(g.1++[(r.st:Int) - g.2],(r.st:Int) + (r.sz:Int))) (acc,(e:Int))).2]=acc++qj n e rs:=by
  intro rs
  induction rs with
  | nil=>intro acc e;rfl
  | cons r t ih =>
   intro acc e
   rw [List.foldl_cons]
   have:=ih (acc++[(r.st:Int) - (e:Int)]) (r.st + r.sz)
   rw [Int.natCast_add] at this
   show _++[_ - _]=_
   rw [this,List.append_assoc]
   rfl
 exact (h rs [] 0).trans (List.nil_append _)
theorem Bg {α β:Type}:∀{a:List α} {b:List β},a.length=b.length→a.reverse.zip b.reverse=(a.zip b).reverse
 | [],[],_=>rfl
 | [],_::_,h=>absurd h (by simp)
 | _::_,[],h=>absurd h (by simp)
 | x::a,y::b,h=>by
  rw [List.reverse_cons,List.reverse_cons,List.zip_append (by simpa using h),Bg (by simpa using h)]
  show _++[(x,y)]=((x,y)::a.zip b).reverse
  rw [List.reverse_cons]
theorem zq {n:Nat} {rs:List Rw} {s g b:Nat} (lya:LyA rs n) (hg:g≤rs.length) (hb:b≤s):(fX rs (aF n rs) s g)[b]?=some (bO (lg (rs.take g).reverse) (b:Nat)):=by
 rw [vX (d8 n rs) (jO lya.l lya.a) g hg]
 unfold abw
 rw [List.getElem?_map,List.getElem?_range (by lia)]
 have e:(rs.take g).length=((aF n rs).take g).length:=by rw [List.length_take,List.length_take,d8];lia
 rw [Bg e,vY,Ja n hg]
 rfl
theorem Hh {n:Nat} {rs:List Rw} {s g y:Nat} (lya:LyA rs n) (hg:g≤rs.length) (hy:y≤s):(dZ rs (aF n rs) s (rs.length - g))[y]?=some (bO (rg n (rs.drop g)) (y:Nat)):=by
 rw [qN (d8 n rs) (jO lya.l lya.a) _ (Nat.sub_le _ _)]
 unfold abx
 rw [List.getElem?_map,List.getElem?_range (by lia),show rs.length - (rs.length - g)=g by lia,vY,z8]
 rfl
def fM (n:Nat) (rs:List Rw) (g:Nat):Int:=(gK n (rs.drop g):Int) - (edR (rs.take g).reverse:Int)
theorem kO {n:Nat} {rs:List Rw} {g:Nat} (hg:g≤rs.length):(aF n rs)[g]?=some (fM n rs g):=by
 rw [vY,Jb n rs g 0 hg]
 unfold fM
 rw [sG]
structure Hi (n:Nat) (rs:List Rw) (s:Nat) (c:Chc) (g b:Nat):Prop where
 eg:c.2.1=(g:Int)
 eb:c.2.2=(b:Int)
 hg:g≤rs.length
 hb:b≤s
 ex:∃u v,bO (lg (rs.take g).reverse) (b:Nat)=some u∧bO (rg n (rs.drop g)) (max 0 ((s:Int) - fM n rs g - (b:Int)))=some v∧c.1=u + v
theorem oU {g b:Int} {u v:Option Int} {c:Chc} (h:c∈ch2 g b u v):∃x y,u=some x∧v=some y∧c=(x + y,g,b):=by
 cases u with
 | none=>cases h
 | some x =>
  cases v with
  | none=>cases h
  | some y=>exact ⟨x,y,rfl,rfl,List.mem_singleton.mp h⟩
theorem QF {n:Nat} {rs:List Rw} {s:Nat} (lya:LyA rs n) (c:Chc):c∈gQ n rs s (rs.length + 1) ↔ ∃g b,Hi n rs s c g b:=by
 have gp:=fun g (hg:g≤rs.length)=>kO (n:=n) hg
 have nn:=jO lya.l lya.a
 have idx:∀g b:Nat,g≤rs.length→b≤s→((dZ rs (aF n rs) s (rs.length - g))[(max 0 ((s:Int) - fM n rs g - (b:Int))).toNat]?).getD none=bO (rg n (rs.drop g)) (max 0 ((s:Int) - fM n rs g - (b:Int))):=fun g b hg hb=>by
  have h0:=nn _ (List.mem_of_getElem? (gp g hg))
  rw [Hh lya hg (by lia),Option.getD_some]
  congr 1
  lia
 constructor
 ·intro h
  obtain ⟨g,hg,h⟩:=List.mem_flatMap.mp h
  have hg:=List.mem_range.mp hg
  have hg:g≤rs.length:=by lia
  obtain ⟨b,hb,h⟩:=List.mem_flatMap.mp h
  have hb:=List.mem_range.mp hb
  have hb:b≤s:=by lia
  rw [List.getD_eq_getElem?_getD,gp g hg,Option.getD_some] at h
  obtain ⟨u,v,e1,e2,rfl⟩:=oU h
  rw [zq lya hg hb,Option.getD_some] at e1
  rw [idx g b hg hb] at e2
  exact ⟨g,b,rfl,rfl,hg,hb,u,v,e1,e2,rfl⟩
 ·rintro ⟨g,b,⟨eg,eb,hg,hb,u,v,e1,e2,e3⟩⟩
  refine List.mem_flatMap.mpr ⟨g,List.mem_range.mpr (by lia),List.mem_flatMap.mpr ⟨b,List.mem_range.mpr (by lia),?_⟩⟩
  rw [List.getD_eq_getElem?_getD,gp g hg,Option.getD_some]
  unfold chA
  rw [zq lya hg hb,Option.getD_some,idx g b hg hb,e1,e2]
  show c∈[(u + v,(g:Int),(b:Int))]
  rw [List.mem_singleton,← e3,← eg,← eb]
theorem J4 {n:Nat} {rs:List Rw} {s:Nat} {c:Chc} (lya:LyA rs n) (h:lcF n rs (s:Int)=some c):s≤n∧∃g b,Hi n rs s c g b:=by
 unfold lcF at h
 by_cases hs:(n:Int) < (s:Int)
 ·rw [if_pos hs] at h;cases h
 ·rw [if_neg hs] at h
  exact ⟨by lia,(QF lya c).mp (List.mem_of_getElem? h)⟩
abbrev mvS (s:Sp2):List V:=[.str (tx s.1.nm),.int s.2]
abbrev dh (ss:List Sp2):List (List V):=ss.map mvS
open M22 M82 M87 M75
def zu (CL:Addr):Sp:=fun vs H Q _=>∃(x p dx:Addr) (n:Nat) (zs:List V) (rs:List Rw) (g b:Nat),vs=[.ref x,.int (g:Nat),.int (b:Nat)]∧LyH CL H x p dx n zs rs∧LyA rs n∧g≤rs.length∧bO (lg (rs.take g).reverse) (b:Nat)≠none∧∀q ys H',New H H' q (.lst ys)→aJ H' ys (dh (ml (lft (rs.take g).reverse (b:Nat))).reverse)→Q (.ref q) H'
def vZ (CL:Addr):Sp:=fun vs H Q _=>∃(x p dx:Addr) (n:Nat) (zs:List V) (rs:List Rw) (g:Nat) (y:Int),vs=[.ref x,.int (g:Nat),.int y]∧LyH CL H x p dx n zs rs∧LyA rs n∧g≤rs.length∧bO (rg n (rs.drop g)) y≠none∧∀q ys H',New H H' q (.lst ys)→aJ H' ys (dh (mr (rgt n (rs.drop g) y)).reverse)→Q (.ref q) H'
def zx (CL:Addr):Sp:=fun vs H Q _=>∃(x p dx:Addr) (n:Nat) (zs:List V) (rs:List Rw) (g:Nat),vs=[.ref x,.int (g:Nat)]∧LyH CL H x p dx n zs rs∧LyA rs n∧g≤rs.length∧∀t H',Same H H'→H' t=some (.tup [.int (edR (rs.take g).reverse:Nat),.int (fM n rs g)])→Q (.ref t) H'
theorem gR (a:List Sp2):(dh a).length=a.length:=List.length_map ..
theorem Ez (a:List Sp2):dh a.reverse=(dh a).reverse:=List.map_reverse
theorem Bh:∀(D:List Rw) (x:Int),(lft D x).length=D.length
 | [],_=>rfl
 | _::D,_=>by show (lft D _).length + 1=_;rw [Bh D];rfl
theorem J5 (n:Nat):∀(D:List Rw) (x:Int),(rgt n D x).length=D.length
 | [],_=>rfl
 | _::D,_=>by show (rgt n D _).length + 1=_;rw [J5 n D];rfl
theorem oV {rs:List Rw} {k:Nat} {r:Rw} (h:rs[k]?=some r):(rs.take (k + 1)).reverse=r::(rs.take k).reverse:=by
 rw [List.take_succ,h,Option.toList_some,List.reverse_append]
 rfl
theorem drop_cons {rs:List Rw} {k:Nat} {r:Rw} (h:rs[k]?=some r):rs.drop k=r::rs.drop (k + 1):=by
 obtain ⟨hk,e⟩:=List.getElem?_eq_some_iff.mp h
 rw [← e]
 exact List.drop_eq_getElem_cons hk
theorem v7 {n:Nat} {rs:List Rw} (ok:OkA 0 n rs) (k:Nat):OkD n (rs.take k).reverse:=by
 have ok2:OkA 0 n (rs.take k++rs.drop k):=by rw [List.take_append_drop];exact ok
 exact (iT ok2).1.rev
theorem v8 {n:Nat} {rs:List Rw} (ok:OkA 0 n rs) (k:Nat):OkA (j7 0 (rs.take k)) n (rs.drop k):=by
 have ok2:OkA 0 n (rs.take k++rs.drop k):=by rw [List.take_append_drop];exact ok
 exact (iT ok2).2
theorem Uu {n:Nat} {rs:List Rw} {k:Nat} {r:Rw} (h:rs[k]?=some r):(aF n rs)[k]?=some ((r.st:Int) - (edR (rs.take k).reverse:Int)):=by
 rw [kO (by have:=(List.getElem?_eq_some_iff.mp h).1;lia)]
 unfold fM
 rw [drop_cons h]
 rfl
theorem Uv {n:Nat} {rs:List Rw} {k:Nat} {r:Rw} (h:rs[k]?=some r):(aF n rs)[k + 1]?=some ((gK n (rs.drop (k + 1)):Int) - ((r.st:Int) + (r.sz:Int))):=by
 rw [kO (by have:=(List.getElem?_eq_some_iff.mp h).1;lia)]
 unfold fM
 rw [oV h]
 show some ((gK n (rs.drop (k + 1)):Int) - ((r.st + r.sz:Nat):Int))=_
 rw [Int.natCast_add]
section
variable {P:Program} {w:World} {K:W.Frag} {mg:Str→Option Value} {base:Heap} {c:Nat→Addr} {aG ao R CL CP CS CB:Addr}
theorem oW (T:Txt K mg c R CL CP CS CB aG ao):Def P w K mg base CX0 3 "slides_to_lesser" ["layout", "gap", "by"] (zu CL):=by
 have bG:=bG (P:=P) (w:=w) (base:=base) T
 have cg:=cg (P:=P) (w:=w) (base:=base) T
 refine bU T.Dz xV (fun vs H Q E h=>?_) (fun _ _ _ _ _ _=>el3 fun _ _ _=>rfl) (fun f cdv A outer s H vs Q E hr h=>?_)
 ·obtain ⟨x,p,dx,n,zs,rs,g,b,rfl,_⟩:=h
  rfl
 ·obtain ⟨x,p,dx,n,zs,rs,g,b,rfl,ly,lya,hg,hb,k⟩:=h
  have nd:=xV.nd
  refine ⟨_,(au (aQ (i:=3) nd rfl (Or.inl rfl) (cG (pv 0) T.clL bG hr))
   (au (aQ (i:=4) nd rfl (Or.inl rfl) (aM cg hr (aj (pv 0) aq)))
   (au (aQ (i:=5) nd rfl (Or.inl rfl) (cj aq))
   (au (aQ (i:=6) nd rfl (Or.inl rfl) (aX cM (pv 1) aA))
   (au (tL PassesOwn.never (bK gY (pv 2) aA (bJ _)) (au (cV (cJ (pv 5) (dg (aj (bD bZ (bD bI (pv 3) (pv 6) (fun _ _=>rfl)) aA (fun _ _=>rfl)) (aj (aX cM (bD bZ (bD bI (pv 3) (pv 6) (fun _ _=>rfl)) aA (fun _ _=>rfl)) (pv 2)) aq)))))
    (au (aQ (i:=2) nd rfl (Or.inl rfl) (aX cM (pv 2) (bD bI (pv 4) (pv 6) (fun _ _=>rfl))))
    (aC (aQ (i:=6) nd rfl (Or.inl rfl) (aX cM (pv 6) aA))))))
   (aC (aW (mW rfl rfl T.ji rfl T.jG (aj (pv 5) aq))))))))),?_⟩
  clear nd bG cg
  rw [show start ["layout", "gap", "by", "blocks", "gaps", "moves", "at"] [.ref x,.int (g:Nat),.int (b:Nat)]=[some (.ref x),some (.int (g:Nat)),some (.int (b:Nat)),none,none,none,none] from rfl]
  try dsimp only [cO,bT]
  have hx:=ly.x
  have hp:=ly.p
  have tp:=ly.t
  have few:=lya.l.few
  have m_:=lya.h
  have zl:zs.length=rs.length:=by rw [tp.1,bL]
  have bw:ak K CL "many" := ⟨T.clL,T.aY⟩
  have bB:ak K CL "rows" := ⟨T.clL,T.aZ⟩
  have bC:ak K CP "cost" := ⟨T.clP,T.bf⟩
  have aO:ak K CP "number" := ⟨T.clP,T.aN⟩
  have aV:ak K CP "moves" := ⟨T.clP,T.aR⟩
  have aL:ak K CP "stretch" := ⟨T.clP,T.aK⟩
  have aD:ak K CS "stretches" := ⟨T.clS,T.aB⟩
  have jK:=Old.mk (M:=[]) hx nm0
  have jt:=Old.mk (M:=[]) hp nm0
  have h_:=fY.mk tp
  have F:SH H [] H [] []:=SH.nil
  have gl:=d8 n rs
  repeat k_meth
  obtain ⟨mv_,e⟩:∃z,z=p_:=⟨_,rfl⟩
  subst e
  obtain ⟨gA,e⟩:∃z,z=p_:=⟨_,rfl⟩
  subst e
  obtain ⟨bA,e⟩:∃z,z=p_:=⟨_,rfl⟩
  subst e
  refine Ay (fun q σ' H'=>∃(x':Int) (dn:List Sp2) (ys:List V),σ'=[some (.ref x),some (.int (g:Nat)),some (.int x'),some (.ref bA),some (.ref gA),some (.ref mv_),some (.int ((q:Nat) - 1:Int))]∧q≤g∧bO (lg (rs.take q).reverse) x'≠none∧dn++ml (lft (rs.take q).reverse x')=ml (lft (rs.take g).reverse (b:Nat))∧ys.length=dn.length∧dn.length + q≤g∧SH H [] H' [(mv_,.lst ys),(gA,.lst ((aF n rs).map V.int)),(bA,.lst zs)] [.tps ys (dh dn)]) ⟨g,(b:Nat),[],[],rfl,Nat.le_refl _,hb,List.nil_append _,rfl,by simp,(F.fW (ys:=[]) (rs:=dh []) aJ.nil).sub SbC.s SbI.s⟩ ?_
  clear F
  rintro q σ' H' ⟨x',dn,ys,rfl,qg,rM,dne,yl,dl,F⟩
  repeat k_meth
  refine gG (fun h=>?_) (fun h=>?_)
  ·obtain ⟨q0,rfl⟩:∃q0,q=q0 + 1:=⟨q - 1,by
    cases q with
    | zero=>have:=iI (show bO [] x'≠none from rM);lia
    | succ q=>rfl⟩
   obtain ⟨r,hr⟩:∃r,rs[q0]?=some r:=⟨_,List.getElem?_eq_getElem (by lia)⟩
   have od:=v7 lya.ok (q0 + 1)
   rw [oV hr] at rM dne od
   have el:=CJ od
   have pc:=iw rM (by lia)
   rw [CK h] at dne
   obtain ⟨q1,e1,e2⟩:∃q1,zs[q0]?=some (.ref q1)∧H q1=some (.tup (dM r)):=tp.2 q0 _ (by unfold aP;rw [List.getElem?_map,hr];rfl)
   have qK:=Old.mk (M:=[]) e2 nm0
   have a1:AtI zs (((q0 + 1:Nat):Int) - 1) (.ref q1):=⟨by rw [show (((q0 + 1:Nat):Int) - 1)=((q0:Nat):Int) by lia];exact b_ e1⟩
   have a2:AtI ((aF n rs).map V.int) (((q0 + 1:Nat):Int) - 1) (.int ((r.st:Int) - (edR (rs.take q0).reverse:Int))):=⟨by rw [show (((q0 + 1:Nat):Int) - 1)=((q0:Nat):Int) by lia];exact b_ (by rw [List.getElem?_map,Uu hr];rfl)⟩
   refine ⟨fun σ' H'=>∃m',m' < q0 + 1∧_,fun σ' H' h=>h,?_⟩
   repeat k_meth
   have F2:=SH.app (ys:=ys) (rs:=dh dn) (q:=p_) (r:=[V.str (tx r.nm),V.int ((r.st:Int) - x')]) F (LkP.m) (LkI.m)
   rw [show dh dn++[[V.str (tx r.nm),V.int ((r.st:Int) - x')]]=dh (dn++[(r,(r.st:Int) - x')]) by unfold dh;rw [List.map_append];rfl] at F2
   rw [show (((q0 + 1:Nat):Int) - 1 - 1)=((q0:Nat):Int) - 1 by lia]
   exact ⟨q0,by lia,_,dn++[(r,(r.st:Int) - x')],ys++[.ref p_],rfl,by lia,pc.1,by rw [List.append_assoc];exact dne,by rw [List.length_append,List.length_append,yl];rfl,by rw [List.length_append];show dn.length + 1 + q0≤g;lia,F2.sub SbC.s SbI.s⟩
  ·rw [uF _ _ _ (v7 lya.ok q) (by lia),List.append_nil] at dne
   subst dne
   repeat k_meth
   refine ⟨mv_,ys,rfl,SqA.e,fun l H2 nw=>?_⟩
   have tr:aJ H' ys.reverse (dh (ml (lft (rs.take g).reverse (b:Nat))).reverse):=by rw [Ez];exact (TpA.e (H:=H')).rev
   replace F:=F.newL nw
   exact k l _ _ SH.nwC (tr.same nw.s)
theorem lX (T:Txt K mg c R CL CP CS CB aG ao):Def P w K mg base CX0 3 "slides_to_greater" ["layout", "gap", "by"] (vZ CL):=by
 have bG:=bG (P:=P) (w:=w) (base:=base) T
 have cg:=cg (P:=P) (w:=w) (base:=base) T
 refine bU T.yE uZ (fun vs H Q E h=>?_) (fun _ _ _ _ _ _=>el3 fun _ _ _=>rfl) (fun f cdv A outer s H vs Q E hr h=>?_)
 ·obtain ⟨x,p,dx,n,zs,rs,g,y,rfl,_⟩:=h
  rfl
 ·obtain ⟨x,p,dx,n,zs,rs,g,y,rfl,ly,lya,hg,hb,k⟩:=h
  have nd:=uZ.nd
  refine ⟨_,(au (aQ (i:=3) nd rfl (Or.inl rfl) (cG (pv 0) T.clL bG hr))
   (au (aQ (i:=4) nd rfl (Or.inl rfl) (aM cg hr (aj (pv 0) aq)))
   (au (aQ (i:=5) nd rfl (Or.inl rfl) (cj aq))
   (au (aQ (i:=6) nd rfl (Or.inl rfl) (pv 1))
   (au (tL PassesOwn.never (bK gY (pv 2) aA (bJ _)) (au (cV (cJ (pv 5) (dg (aj (bD bZ (bD bI (pv 3) (pv 6) (fun _ _=>rfl)) aA (fun _ _=>rfl)) (aj (aX cD (bD bZ (bD bI (pv 3) (pv 6) (fun _ _=>rfl)) aA (fun _ _=>rfl)) (pv 2)) aq)))))
    (au (aQ (i:=6) nd rfl (Or.inl rfl) (aX cD (pv 6) aA))
    (aC (aQ (i:=2) nd rfl (Or.inl rfl) (aX cM (pv 2) (bD bI (pv 4) (pv 6) (fun _ _=>rfl))))))))
   (aC (aW (mW rfl rfl T.ji rfl T.jG (aj (pv 5) aq))))))))),?_⟩
  clear nd bG cg
  rw [show start ["layout", "gap", "by", "blocks", "gaps", "moves", "at"] [.ref x,.int (g:Nat),.int y]=[some (.ref x),some (.int (g:Nat)),some (.int y),none,none,none,none] from rfl]
  try dsimp only [cO,bT]
  have hx:=ly.x
  have hp:=ly.p
  have tp:=ly.t
  have few:=lya.l.few
  have m_:=lya.h
  have zl:zs.length=rs.length:=by rw [tp.1,bL]
  have bw:ak K CL "many" := ⟨T.clL,T.aY⟩
  have bB:ak K CL "rows" := ⟨T.clL,T.aZ⟩
  have bC:ak K CP "cost" := ⟨T.clP,T.bf⟩
  have aO:ak K CP "number" := ⟨T.clP,T.aN⟩
  have aV:ak K CP "moves" := ⟨T.clP,T.aR⟩
  have aL:ak K CP "stretch" := ⟨T.clP,T.aK⟩
  have aD:ak K CS "stretches" := ⟨T.clS,T.aB⟩
  have jK:=Old.mk (M:=[]) hx nm0
  have jt:=Old.mk (M:=[]) hp nm0
  have h_:=fY.mk tp
  have F:SH H [] H [] []:=SH.nil
  have gl:=d8 n rs
  repeat k_meth
  obtain ⟨mv_,e⟩:∃z,z=p_:=⟨_,rfl⟩
  subst e
  obtain ⟨gA,e⟩:∃z,z=p_:=⟨_,rfl⟩
  subst e
  obtain ⟨bA,e⟩:∃z,z=p_:=⟨_,rfl⟩
  subst e
  refine Ay (fun q σ' H'=>∃(k:Nat) (y':Int) (dn:List Sp2) (ys:List V),σ'=[some (.ref x),some (.int (g:Nat)),some (.int y'),some (.ref bA),some (.ref gA),some (.ref mv_),some (.int (k:Nat))]∧k + q=rs.length∧bO (rg n (rs.drop k)) y'≠none∧dn++mr (rgt n (rs.drop k) y')=mr (rgt n (rs.drop g) y)∧ys.length=dn.length∧dn.length + q≤rs.length∧SH H [] H' [(mv_,.lst ys),(gA,.lst ((aF n rs).map V.int)),(bA,.lst zs)] [.tps ys (dh dn)]) ⟨rs.length - g,g,y,[],[],rfl,by lia,hb,List.nil_append _,rfl,by simp,(F.fW (ys:=[]) (rs:=dh []) aJ.nil).sub SbC.s SbI.s⟩ ?_
  clear F
  rintro q σ' H' ⟨k1,y',dn,ys,rfl,qg,rM,dne,yl,dl,F⟩
  repeat k_meth
  refine gG (fun h=>?_) (fun h=>?_)
  ·have hk:k1 < rs.length:=by
    rcases Nat.lt_or_ge k1 rs.length with h2 | h2
    ·exact h2
    ·rw [List.drop_eq_nil_of_le h2] at rM
     have:=iI (show bO [] y'≠none from rM)
     lia
   obtain ⟨r,hr⟩:∃r,rs[k1]?=some r:=⟨_,List.getElem?_eq_getElem hk⟩
   have od:=v8 lya.ok k1
   rw [drop_cons hr] at rM dne od
   have bg:=uD od
   have pc:=iw rM (by lia)
   rw [CN h] at dne
   obtain ⟨q1,e1,e2⟩:∃q1,zs[k1]?=some (.ref q1)∧H q1=some (.tup (dM r)):=tp.2 k1 _ (by unfold aP;rw [List.getElem?_map,hr];rfl)
   have qK:=Old.mk (M:=[]) e2 nm0
   have a1:AtI zs ((k1:Nat):Int) (.ref q1):=⟨b_ e1⟩
   have a2:AtI ((aF n rs).map V.int) (((k1:Nat):Int) + 1) (.int ((gK n (rs.drop (k1 + 1)):Int) - ((r.st:Int) + (r.sz:Int)))):=⟨by rw [show (((k1:Nat):Int) + 1)=((k1 + 1:Nat):Int) by lia];exact b_ (by rw [List.getElem?_map,Uv hr];rfl)⟩
   refine ⟨fun σ' H'=>∃m',m' < q∧_,fun σ' H' h=>h,?_⟩
   repeat k_meth
   have F2:=SH.app (ys:=ys) (rs:=dh dn) (q:=p_) (r:=[V.str (tx r.nm),V.int ((r.st:Int) + y')]) F (LkP.m) (LkI.m)
   rw [show dh dn++[[V.str (tx r.nm),V.int ((r.st:Int) + y')]]=dh (dn++[(r,(r.st:Int) + y')]) by unfold dh;rw [List.map_append];rfl] at F2
   rw [show ((k1:Nat):Int) + 1=((k1 + 1:Nat):Int) by lia]
   exact ⟨q - 1,by lia,k1 + 1,_,dn++[(r,(r.st:Int) + y')],ys++[.ref p_],rfl,by lia,pc.1,by rw [List.append_assoc];exact dne,by rw [List.length_append,List.length_append,yl];rfl,by rw [List.length_append];show dn.length + 1 + (q - 1)≤rs.length;lia,F2.sub SbC.s SbI.s⟩
  ·rw [uG _ _ _ (v8 lya.ok k1) (by lia),List.append_nil] at dne
   subst dne
   repeat k_meth
   refine ⟨mv_,ys,rfl,SqA.e,fun l H2 nw=>?_⟩
   have tr:aJ H' ys.reverse (dh (mr (rgt n (rs.drop g) y)).reverse):=by rw [Ez];exact (TpA.e (H:=H')).rev
   replace F:=F.newL nw
   exact k l _ _ SH.nwC (tr.same nw.s)
theorem oX (T:Txt K mg c R CL CP CS CB aG ao):Def P w K mg base CX0 3 "hole_at_gap" ["layout", "gap"] (zx CL):=by
 have cF:=cF (P:=P) (w:=w) (base:=base) T
 have bY:=bY (P:=P) (w:=w) (base:=base) T
 have cg:=cg (P:=P) (w:=w) (base:=base) T
 have bG:=bG (P:=P) (w:=w) (base:=base) T
 refine bU T.DG xW (fun vs H Q E h=>?_) (fun _ _ _ _ _ _=>el2 fun _ _=>rfl) (fun f cdv A outer s H vs Q E hr h=>?_)
 ·obtain ⟨x,p,dx,n,zs,rs,g,rfl,_⟩:=h
  rfl
 ·obtain ⟨x,p,dx,n,zs,rs,g,rfl,ly,lya,hg,k⟩:=h
  have nd:=xW.nd
  refine ⟨_,(au (aQ (i:=2) nd rfl (Or.inl rfl) (tG (bK mD (pv 1) aA (bJ _)) aA (aM cF hr (aj (aM bY hr (aj (bD bI (cG (pv 0) T.clL bG hr) (aX cM (pv 1) aA) (fun _ _=>rfl)) aq)) aq))))
   (aC (aW (dg (aj (pv 2) (aj (bD bI (aM cg hr (aj (pv 0) aq)) (pv 1) (fun _ _=>rfl)) aq)))))),?_⟩
  clear nd cF bY cg bG
  rw [show start ["layout", "gap", "start"] [.ref x,.int (g:Nat)]=[some (.ref x),some (.int (g:Nat)),none] from rfl]
  try dsimp only [cO,bT]
  have hx:=ly.x
  have hp:=ly.p
  have tp:=ly.t
  have few:=lya.l.few
  have m_:=lya.h
  have zl:zs.length=rs.length:=by rw [tp.1,bL]
  have bw:ak K CL "many" := ⟨T.clL,T.aY⟩
  have bB:ak K CL "rows" := ⟨T.clL,T.aZ⟩
  have bC:ak K CP "cost" := ⟨T.clP,T.bf⟩
  have aO:ak K CP "number" := ⟨T.clP,T.aN⟩
  have aV:ak K CP "moves" := ⟨T.clP,T.aR⟩
  have aL:ak K CP "stretch" := ⟨T.clP,T.aK⟩
  have aD:ak K CS "stretches" := ⟨T.clS,T.aB⟩
  have jK:=Old.mk (M:=[]) hx nm0
  have jt:=Old.mk (M:=[]) hp nm0
  have h_:=fY.mk tp
  have F:SH H [] H [] []:=SH.nil
  have gl:=d8 n rs
  have a2:AtI ((aF n rs).map V.int) ((g:Nat):Int) (.int (fM n rs g)):=⟨b_ (by rw [List.getElem?_map,kO hg];rfl)⟩
  rcases Nat.eq_zero_or_pos g with h0 | h0
  ·subst h0
   repeat k_meth
   exact k _ _ F.sm bM
  ·obtain ⟨g0,rfl⟩:∃g0,g=g0 + 1:=⟨g - 1,by lia⟩
   obtain ⟨r,hr⟩:∃r,rs[g0]?=some r:=⟨_,List.getElem?_eq_getElem (by lia)⟩
   obtain ⟨q1,e1,e2⟩:∃q1,zs[g0]?=some (.ref q1)∧H q1=some (.tup (dM r)):=tp.2 g0 _ (by unfold aP;rw [List.getElem?_map,hr];rfl)
   have qK:=Old.mk (M:=[]) e2 nm0
   have a1:AtI zs (((g0 + 1:Nat):Int) - 1) (.ref q1):=⟨by rw [show (((g0 + 1:Nat):Int) - 1)=((g0:Nat):Int) by lia];exact b_ e1⟩
   rw [oV hr] at k
   repeat k_meth
   have e:H_ p_=some (.tup [.int ((r.st:Int) + (r.sz:Int)),.int (fM n rs (g0 + 1))]):=bM
   exact k _ _ F.sm (by rw [show ((edR (r::(rs.take g0).reverse):Nat):Int)=(r.st:Int) + (r.sz:Int) from Int.natCast_add ..];exact e)
end
open M22 M82 M87 M75
def pF (c g:Int) (m t:Addr):List (Str×V):=gU "stretch" (.ref t) (gU "moves" (.ref m) (gU "number" (.int g) (gU "cost" (.int c) [])))
def EY (CS:Addr):Sp:=fun vs H Q _=>∃(y dy q:Addr),vs=[.ref y,.ref q]∧H y=some (.ins CS dy [])∧∀H',Kp y H H'→H' y=some (.ins CS dy [("stretches", .ref q)])→Q .non H'
def E_ (CP:Addr):Sp:=fun vs H Q _=>∃(y dy m t:Addr) (c g:Int),vs=[.ref y,.int c,.int g,.ref m,.ref t]∧H y=some (.ins CP dy [])∧∀H',Kp y H H'→H' y=some (.ins CP dy (pF c g m t))→Q .non H'
def v9 (CP:Addr):Sp:=fun vs H Q _=>∃(y dy m t:Addr) (c g:Int),vs=[.ref y]∧H y=some (.ins CP dy (pF c g m t))∧Q (.bl true) H
def wg (CS:Addr):Sp:=fun vs H Q _=>∃(y dy q:Addr),vs=[.ref y]∧H y=some (.ins CS dy [("stretches", .ref q)])∧Q (.bl false) H
--def Fb (CS : Addr) : Sp := fun vs H Q _ => ∃ (y dy q : Addr) (ys : List V), vs = [.ref y] ∧ H y = some (.ins CS dy [("stretches", .ref q)]) ∧ H q = some (.lst ys) ∧ ∀ p H', New H H' p (.lst ys) → Q (.ref p) H'
section
variable {CS CP y dy q m t:Addr} {H H0:Hp} {M:List Addr} {L:List (Addr×HO)} {I:List Im} {Q:VK} {E:XK} {c g:Int} {ys:List V}
instance aeI {l:Addr} {L':List (Addr×HO)} {C dx:Addr} {fs:List (Str×V)} {R:Hp→Prop} [F:SH H0 M H L I] [u:LkU L l (.ins C dx fs) L']:Go (∀H',Kp l H H'→H' l=some (.ins C dx fs)→R H') (∀H',SH H0 M H' L' I→R H'):=⟨fun k H' f e=>k H' (F.kp f e u.u rfl)⟩
instance aby [h:Hat H y (.ins CS dy [])]:Go (EY CS [.ref y,.ref q] H Q E) (∀H',Kp y H H'→H' y=some (.ins CS dy [("stretches", .ref q)])→Q .non H'):=⟨fun k=>⟨y,dy,q,rfl,h.e,k⟩⟩
instance abA [h:Hat H y (.ins CP dy [])]:Go (E_ CP [.ref y,.int c,.int g,.ref m,.ref t] H Q E) (∀H',Kp y H H'→H' y=some (.ins CP dy (pF c g m t))→Q .non H'):=⟨fun k=>⟨y,dy,m,t,c,g,rfl,h.e,k⟩⟩
instance Yj [h:Hat H y (.ins CP dy (pF c g m t))]:Go (v9 CP [.ref y] H Q E) (Q (.bl true) H):=⟨fun k=>⟨y,dy,m,t,c,g,rfl,h.e,k⟩⟩
instance Yk [h:Hat H y (.ins CS dy [("stretches", .ref q)])]:Go (wg CS [.ref y] H Q E) (Q (.bl false) H):=⟨fun k=>⟨y,dy,q,rfl,h.e,k⟩⟩
--instance Vs [h : Hat H y (.ins CS dy [("stretches", .ref q)])] [h2 : Hat H q (.lst ys)] : Go (Fb CS [.ref y] H Q E) (∀ p H', New H H' p (.lst ys) → Q (.ref p) H') := ⟨fun k => ⟨y, dy, q, ys, rfl, h.e, h2.e, k⟩⟩
end
section
variable {P:Program} {w:World} {K:W.Frag} {mg:Str→Option Value} {base:Heap} {c:Nat→Addr} {aG ao R CL CP CS CB:Addr}
theorem oY (T:Txt K mg c R CL CP CS CB aG ao):Mak P w K mg base CX0 1 "Stuck" CS ["self", "stretches"] (EY CS):=by
 obtain ⟨f,hf,hm⟩:=T.JQ
 refine (cZ (k:=0) hf Dm (fun vs H Q E h=>?_) (fun _ _ _ _ _ _=>el2 fun _ _=>rfl) (fun f cdv A outer s H vs Q E hr h=>?_)).mak hm T.oA
 ·obtain ⟨y,dy,q,rfl,_⟩:=h
  rfl
 ·obtain ⟨y,dy,q,rfl,hy,k⟩:=h
  have nd:=Dm.nd
  refine ⟨_,(aC (mR (pv 0) (pv 1) rfl)),?_⟩
  clear nd 
  rw [show start ["self", "stretches"] [.ref y,.ref q]=[some (.ref y),some (.ref q)] from rfl]
  try dsimp only [cO,bT]
  have bw:ak K CL "many" := ⟨T.clL,T.aY⟩
  have bB:ak K CL "rows" := ⟨T.clL,T.aZ⟩
  have bC:ak K CP "cost" := ⟨T.clP,T.bf⟩
  have aO:ak K CP "number" := ⟨T.clP,T.aN⟩
  have aV:ak K CP "moves" := ⟨T.clP,T.aR⟩
  have aL:ak K CP "stretch" := ⟨T.clP,T.aK⟩
  have aD:ak K CS "stretches" := ⟨T.clS,T.aB⟩
  have F:SH H [y] H [(y,.ins CS dy [])] []:=SH.nil.jg List.mem_cons_self hy rfl (by simp)
  repeat k_meth
  exact k _ F.kpo bM
theorem oZ (T:Txt K mg c R CL CP CS CB aG ao):Mak P w K mg base CX0 1 "Plan" CP ["self", "cost", "number", "moves", "stretch"] (E_ CP):=by
 obtain ⟨f,hf,hm⟩:=T.JN
 refine (cZ (k:=0) hf Dl (fun vs H Q E h=>?_) (fun _ _ _ _ _ _=>el5 fun _ _ _ _ _=>rfl) (fun f cdv A outer s H vs Q E hr h=>?_)).mak hm T.sH
 ·obtain ⟨y,dy,m,t,c0,g,rfl,_⟩:=h
  rfl
 ·obtain ⟨y,dy,m,t,c0,g,rfl,hy,k⟩:=h
  have nd:=Dl.nd
  refine ⟨_,(au (mR (pv 0) (pv 1) rfl)
   (au (mR (pv 0) (pv 2) rfl)
   (au (mR (pv 0) (pv 3) rfl)
   (aC (mR (pv 0) (pv 4) rfl))))),?_⟩
  clear nd 
  rw [show start ["self", "cost", "number", "moves", "stretch"] [.ref y,.int c0,.int g,.ref m,.ref t]=[some (.ref y),some (.int c0),some (.int g),some (.ref m),some (.ref t)] from rfl]
  try dsimp only [cO,bT]
  have bw:ak K CL "many" := ⟨T.clL,T.aY⟩
  have bB:ak K CL "rows" := ⟨T.clL,T.aZ⟩
  have bC:ak K CP "cost" := ⟨T.clP,T.bf⟩
  have aO:ak K CP "number" := ⟨T.clP,T.aN⟩
  have aV:ak K CP "moves" := ⟨T.clP,T.aR⟩
  have aL:ak K CP "stretch" := ⟨T.clP,T.aK⟩
  have aD:ak K CS "stretches" := ⟨T.clS,T.aB⟩
  have F:SH H [y] H [(y,.ins CP dy [])] []:=SH.nil.jg List.mem_cons_self hy rfl (by simp)
  repeat k_meth
  exact k _ F.kpo bM
theorem jP (T:Txt K mg c R CL CP CS CB aG ao):Met P w K mg base CX0 1 CP "brings" ["self"] (v9 CP):=by
 obtain ⟨f,hf,hm⟩:=T.yJ
 refine (cZ (k:=0) hf vp (fun vs H Q E h=>?_) (fun _ _ _ _ _ _=>el1 fun _=>rfl) (fun f cdv A outer s H vs Q E hr h=>?_)).met hm
 ·obtain ⟨y,dy,m,t,c0,g,rfl,_⟩:=h
  rfl
 ·obtain ⟨y,dy,m,t,c0,g,rfl,hy,k⟩:=h
  have nd:=vp.nd
  refine ⟨_,(aC (aW fZ)),?_⟩
  clear nd 
  rw [show start ["self"] [.ref y]=[some (.ref y)] from rfl]
  try dsimp only [cO,bT]
  have bw:ak K CL "many" := ⟨T.clL,T.aY⟩
  have bB:ak K CL "rows" := ⟨T.clL,T.aZ⟩
  have bC:ak K CP "cost" := ⟨T.clP,T.bf⟩
  have aO:ak K CP "number" := ⟨T.clP,T.aN⟩
  have aV:ak K CP "moves" := ⟨T.clP,T.aR⟩
  have aL:ak K CP "stretch" := ⟨T.clP,T.aK⟩
  have aD:ak K CS "stretches" := ⟨T.clS,T.aB⟩
  have rT:=Old.mk (M:=[]) hy nm0
  have F:SH H [] H [] []:=SH.nil
  repeat k_meth
  exact k
theorem jQ (T:Txt K mg c R CL CP CS CB aG ao):Met P w K mg base CX0 1 CS "brings" ["self"] (wg CS):=by
 obtain ⟨f,hf,hm⟩:=T.yK
 refine (cZ (k:=0) hf vq (fun vs H Q E h=>?_) (fun _ _ _ _ _ _=>el1 fun _=>rfl) (fun f cdv A outer s H vs Q E hr h=>?_)).met hm
 ·obtain ⟨y,dy,q,rfl,_⟩:=h
  rfl
 ·obtain ⟨y,dy,q,rfl,hy,k⟩:=h
  have nd:=vq.nd
  refine ⟨_,(aC (aW fZ)),?_⟩
  clear nd 
  rw [show start ["self"] [.ref y]=[some (.ref y)] from rfl]
  try dsimp only [cO,bT]
  have bw:ak K CL "many" := ⟨T.clL,T.aY⟩
  have bB:ak K CL "rows" := ⟨T.clL,T.aZ⟩
  have bC:ak K CP "cost" := ⟨T.clP,T.bf⟩
  have aO:ak K CP "number" := ⟨T.clP,T.aN⟩
  have aV:ak K CP "moves" := ⟨T.clP,T.aR⟩
  have aL:ak K CP "stretch" := ⟨T.clP,T.aK⟩
  have aD:ak K CS "stretches" := ⟨T.clS,T.aB⟩
  have rT:=Old.mk (M:=[]) hy nm0
  have F:SH H [] H [] []:=SH.nil
  repeat k_meth
  exact k
end
open M22 M82 M87 M75
theorem Fd (L:List Sp2):(mj L).Perm (mv L):=by
 have h:∀L:List Sp2,(ml L++mr L).Perm (mv L):=by
  intro L
  induction L with
  | nil=>exact List.Perm.refl _
  | cons s L ih =>
   unfold ml mr mv at *
   by_cases q:s.2 < (s.1.st:Int)
   ·rw [List.filter_cons_of_pos (by simpa using q),List.filter_cons_of_neg (by simp;lia),List.filter_cons_of_pos (by simp;lia)]
    exact ih.cons s
   ·by_cases q2:(s.1.st:Int) < s.2
    ·rw [List.filter_cons_of_neg (by simpa using q),List.filter_cons_of_pos (by simpa using q2),List.filter_cons_of_pos (by simp;lia)]
     exact List.perm_middle.trans (ih.cons s)
    ·rw [List.filter_cons_of_neg (by simpa using q),List.filter_cons_of_neg (by simpa using q2),List.filter_cons_of_neg (by simp;lia)]
     exact ih
 exact ((List.reverse_perm _).append_left _).trans (h L)
theorem Fe (L:List Sp2):(mj L).length≤L.length:=by
 rw [(Fd L).length_eq]
 exact List.length_filter_le _ _
theorem Uw {L:List Sp2} (nn:∀s∈L,0≤s.2):dh (mj L)=Eu (jF L):=by
 have h:=Cz nn
 have g:dh (mj L)=((mj L).map fun s=>(s.1.nm,s.2)).map fun q:List Nat×Int=>[V.str (tx q.1),V.int q.2]:=by unfold dh;rw [List.map_map];rfl
 rw [g,← h,List.map_map]
 rfl
theorem Yl {n:Nat} {rs:List Rw} {L:List Sp2} (lya:LyA rs n) (e:L.map (·.1)=rs) (ch:ChS n 0 L) (pin:∀s∈L,0 < s.1.pn→s.2=(s.1.st:Int)):Yg n rs (jF L):=by
 have okJ:OkA 0 n (L.map (·.1)):=by rw [e];exact lya.ok
 have w:=Pb ch okJ pin
 rw [e] at w
 have nn:∀s∈L,0≤s.2:=fun s hs=>((ChS.le ch).2 s hs).1
 have told:=Cz nn
 have hl:(jF L).length=(mj L).length:=by have:=congrArg List.length told;rwa [List.length_map,List.length_map] at this
 have ol:=Fe L
 have ll:L.length=rs.length:=by rw [← e,List.length_map]
 have nd:=vR lya.l
 refine ⟨lya.l.few,by have:=lya.l.few;lia,w.1,?_,nd⟩
 have en:(jF L).map (·.2.1)=(mj L).map (·.1.nm):=by
  have:=congrArg (List.map Prod.fst) told
  rw [List.map_map,List.map_map] at this
  exact this
 rw [en,((Fd L).map _).nodup_iff]
 refine List.Nodup.sublist (List.filter_sublist.map _) ?_
 rw [show L.map (fun s=>s.1.nm)=(L.map (·.1)).map (·.nm) by rw [List.map_map];rfl,e]
 exact nd
theorem QG {n:Nat}:∀{ms:List Mv} {rs:List Rw},LyA rs n→WOk n rs ms→LyA (fL rs ms) n∧(fL rs ms).length=rs.length
 | [],rs,h,_=>⟨h,rfl⟩
 | m::ms,rs,h,w=>by
  obtain ⟨⟨r,h1,_,h2,h3,h4⟩,w2⟩:=w
  have s:Sld n rs r m.1 m.2.2:=⟨h1,h2,h3,h4⟩
  have i:=QG (oO h s) w2
  refine ⟨i.1,i.2.trans ?_⟩
  have:=congrArg List.length (Vj (to:=m.2.2) h1)
  simpa using this
def tgC (n:Nat) (rs:List Rw) (s:Int) (g b:Nat):List Sp2:=tgs n g (b:Nat) (max 0 (s - fM n rs g - (b:Int))) rs
theorem QJ {n:Nat} {rs:List Rw} {s:Nat} {c:Chc} {g b:Nat} (lya:LyA rs n) (h:Hi n rs s c g b):ChS n 0 (tgC n rs (s:Int) g b)∧(∀q∈tgC n rs (s:Int) g b,0 < q.1.pn→q.2=(q.1.st:Int))∧(tgC n rs (s:Int) g b).map (·.1)=rs:=by
 obtain ⟨u,v,e1,e2,_⟩:=h.ex
 exact ⟨XQ lya.ok (by rw [e1];simp) (by rw [e2];simp),T4 lya.ok (by rw [e1];simp) (by rw [e2];simp),Je ..⟩
class LcN (n:Nat) (rs:List Rw) (s:Int):Prop where
 e:lcF n rs s=none
class LcS (n:Nat) (rs:List Rw) (s:Int) (c:outParam Chc):Prop where
 e:lcF n rs s=some c
def J6 (CL CP CS P:Addr) (pos:Pos) (qual:Str):Sp:=fun vs H Q _=>∃(x p dx:Addr) (n:Nat) (zs:List V) (rs:List Rw) (s:Nat) (ps:Array Value),vs=[.ref x,.int (s:Nat)]∧LyH CL H x p dx n zs rs∧LyA rs n∧1≤s∧H P=some (.tbl ps)∧TabOk pos qual ps H ∧
 ((lcF n rs (s:Nat)=none∧∀y dy q ys H',SH H [] H' [(y,.ins CS dy [("stretches", .ref q)]),(q,.lst ys)] [.tps ys (ju (Ql n rs))]→Q (.ref y) H') ∨
  (∃c g b,lcF n rs (s:Nat)=some c∧Hi n rs s c g b∧∀y dy m ms t ps' H',SH H [P] H' [(y,.ins CP dy (pF c.1 (g:Nat) m t)),(m,.lst ms),(P,.tbl ps')] [.tps ms (dh (mj (tgC n rs (s:Nat) g b))),.tup t [.int (edR ((fL rs (jF (tgC n rs (s:Nat) g b))).take g).reverse:Nat),.int (fM n (fL rs (jF (tgC n rs (s:Nat) g b))) g)],gJ pos qual ps']→Q (.ref y) H'))
section
variable {CL x p dx:Addr} {H:Hp} {Q:VK} {E:XK} {n g b:Nat} {zs:List V} {rs:List Rw} {s y:Int} {c:Chc}
instance Za [h:LyQ CL H x p dx n zs rs] [ly:LyA rs n] [l:LcN n rs s]:Go (vW CL [.ref x,.int s] H Q E) (Sd (1≤s) (∀H',Same H H'→Q .non H')):=⟨fun k=>⟨x,p,dx,n,zs,rs,s,rfl,h.e,ly,k.1,.inl ⟨l.e,k.2⟩⟩⟩
instance Zb [h:LyQ CL H x p dx n zs rs] [ly:LyA rs n] [l:LcS n rs s c]:Go (vW CL [.ref x,.int s] H Q E) (Sd (1≤s) (∀q H',Same H H'→H' q=some (.tup [.int c.1,.int c.2.1,.int c.2.2])→Q (.ref q) H')):=⟨fun k=>⟨x,p,dx,n,zs,rs,s,rfl,h.e,ly,k.1,.inr ⟨c,l.e,k.2⟩⟩⟩
instance Zc [h:LyQ CL H x p dx n zs rs] [ly:LyA rs n]:Go (zu CL [.ref x,.int (g:Nat),.int (b:Nat)] H Q E) (Sd (g≤rs.length∧bO (lg (rs.take g).reverse) (b:Nat)≠none) (∀q ys H',New H H' q (.lst ys)→aJ H' ys (dh (ml (lft (rs.take g).reverse (b:Nat))).reverse)→Q (.ref q) H')):=⟨fun k=>⟨x,p,dx,n,zs,rs,g,b,rfl,h.e,ly,k.1.1,k.1.2,k.2⟩⟩
instance Ym [h:LyQ CL H x p dx n zs rs] [ly:LyA rs n]:Go (vZ CL [.ref x,.int (g:Nat),.int y] H Q E) (Sd (g≤rs.length∧bO (rg n (rs.drop g)) y≠none) (∀q ys H',New H H' q (.lst ys)→aJ H' ys (dh (mr (rgt n (rs.drop g) y)).reverse)→Q (.ref q) H')):=⟨fun k=>⟨x,p,dx,n,zs,rs,g,y,rfl,h.e,ly,k.1.1,k.1.2,k.2⟩⟩
instance Zd [h:LyQ CL H x p dx n zs rs] [ly:LyA rs n]:Go (zx CL [.ref x,.int (g:Nat)] H Q E) (Sd (g≤rs.length) (∀t H',Same H H'→H' t=some (.tup [.int (edR (rs.take g).reverse:Nat),.int (fM n rs g)])→Q (.ref t) H')):=⟨fun k=>⟨x,p,dx,n,zs,rs,g,rfl,h.e,ly,k.1,k.2⟩⟩
end
section
variable {P:Program} {w:World} {K:W.Frag} {mg:Str→Option Value} {base:Heap} {c:Nat→Addr} {aG ao R CL CP CS CB:Addr}
theorem qO (T:Txt K mg c R CL CP CS CB aG ao) (B:Bm mg base):Def P w K mg base CX0 11 "plan" ["layout", "size"] (J6 CL CP CS ao cY cH):=by
 have sW:=sW (P:=P) (w:=w) (base:=base) T
 have sX:=sX (P:=P) (w:=w) (base:=base) T
 have oZ:=oZ (P:=P) (w:=w) (base:=base) T
 have oY:=oY (P:=P) (w:=w) (base:=base) T
 have oW:=oW (P:=P) (w:=w) (base:=base) T
 have lX:=lX (P:=P) (w:=w) (base:=base) T
 have oX:=oX (P:=P) (w:=w) (base:=base) T
 have iW:=iW (P:=P) (w:=w) (base:=base) T
 have Bf:=Bf (P:=P) (w:=w) (base:=base) T B
 have cg:=cg (P:=P) (w:=w) (base:=base) T
 refine bU T.Qa Jt (fun vs H Q E h=>?_) (fun _ _ _ _ _ _=>el2 fun _ _=>rfl) (fun f cdv A outer s H vs Q E hr h=>?_)
 ·obtain ⟨x,p,dx,n,zs,rs,s,ps,rfl,_⟩:=h
  rfl
 ·obtain ⟨x,p,dx,n,zs,rs,s,ps,rfl,ly,lya,s1,hP,tk,kk⟩:=h
  have nd:=Jt.nd
  refine ⟨_,(au (cV (aM sW hr (aj (pv 1) aq)))
   (au (aQ (i:=2) nd rfl (Or.inl rfl) (aM sX hr (aj (pv 0) (aj (pv 1) aq))))
   (au (cL (bK zR (pv 2) dz (bJ _)) (aC (aW (sy oY hr (aj (aM iW hr (aj (pv 0) aq)) aq)))) bN)
   (au (aQ (i:=3) nd rfl (Or.inl rfl) (bD bZ (pv 2) aA (fun _ _=>rfl)))
   (au (aQ (i:=4) nd rfl (Or.inl rfl) (bF (fD rfl) rfl T.n_ boot_max (aj aA (aj (aX cM (aX cM (pv 1) (bD bI (aM cg hr (aj (pv 0) aq)) (pv 3) (fun _ _=>rfl))) (bD bZ (pv 2) aA (fun _ _=>rfl))) aq))))
   (au (aQ (i:=5) nd rfl (Or.inl rfl) (aX kZ (aM oW hr (aj (pv 0) (aj (pv 3) (aj (bD bZ (pv 2) aA (fun _ _=>rfl)) aq)))) (aM lX hr (aj (pv 0) (aj (pv 3) (aj (pv 4) aq))))))
   (aC (aW (sy oZ hr (aj (bD bZ (pv 2) aA (fun _ _=>rfl)) (aj (pv 3) (aj (pv 5) (aj (aM oX hr (aj (aM Bf hr (aj (pv 0) (aj (pv 5) aq))) (aj (pv 3) aq))) aq))))))))))))),?_⟩
  clear nd sW sX oZ oY oW lX oX iW Bf cg
  rw [show start ["layout", "size", "choice", "gap", "at_right", "moves"] [.ref x,.int (s:Nat)]=[some (.ref x),some (.int (s:Nat)),none,none,none,none] from rfl]
  try dsimp only [cO,bT]
  have hx:=ly.x
  have hp:=ly.p
  have tp:=ly.t
  have few:=lya.l.few
  have m_:=lya.h
  have zl:zs.length=rs.length:=by rw [tp.1,bL]
  have bw:ak K CL "many" := ⟨T.clL,T.aY⟩
  have bB:ak K CL "rows" := ⟨T.clL,T.aZ⟩
  have bC:ak K CP "cost" := ⟨T.clP,T.bf⟩
  have aO:ak K CP "number" := ⟨T.clP,T.aN⟩
  have aV:ak K CP "moves" := ⟨T.clP,T.aR⟩
  have aL:ak K CP "stretch" := ⟨T.clP,T.aK⟩
  have aD:ak K CS "stretches" := ⟨T.clS,T.aB⟩
  have gl:=d8 n rs
  have szf:rs.length≤40∧∀r∈rs,r.sz≤240:=⟨few,fun r hr=>by have:=(lya.l.good r hr).le;lia⟩
  have s11:(1:Int)≤(s:Int):=by lia
  rcases kk with ⟨e,k⟩ | ⟨c,g,b,e,co,k⟩
  ·have jK:=Old.mk (M:=[]) hx nm0
   have jt:=Old.mk (M:=[]) hp nm0
   have h_:=fY.mk tp
   have F:SH H [] H [] []:=SH.nil
   have lc:LcN n rs (s:Int):=⟨e⟩
   repeat k_meth
   exact k _ _ _ _ _ F
  ·have F:SH H [ao] H [(ao,.tbl ps)] [.tps zs (aP rs),gJ cY cH ps]:=((SH.nil.jg List.mem_cons_self hP rfl (by simp)).lZ tk).fW tp
   have jK:=Old.mk (M:=[ao]) hx (nm1 (cT hx hP (by simp)))
   have jt:=Old.mk (M:=[ao]) hp (nm1 (cT hp hP (by simp)))
   have lc:LcS n rs (s:Int) c:=⟨e⟩
   obtain ⟨c1,c2,c3⟩:=c
   obtain ⟨tc,tpn,tf⟩:=QJ lya co
   obtain ⟨eg,eb,hg,hb,u,v,p1,p2,_⟩:=co
   dsimp only at eg eb
   subst eg eb
   have a2:AtI ((aF n rs).map V.int) ((g:Nat):Int) (.int (fM n rs g)):=⟨b_ (by rw [List.getElem?_map,kO hg];rfl)⟩
   have sd1:g≤rs.length∧bO (lg (rs.take g).reverse) (b:Nat)≠none:=⟨hg,by rw [p1];simp⟩
   have sd2:g≤rs.length∧bO (rg n (rs.drop g)) (max 0 ((s:Int) - fM n rs g - (b:Int)))≠none:=⟨hg,by rw [p2];simp⟩
   repeat k_meth
   rename_i mA yA lA
   have lA2:yA.length≤40:=by
    rw [lA,gR,List.length_reverse]
    refine Nat.le_trans (List.length_filter_le _ _) ?_
    rw [Bh,List.length_reverse,List.length_take]
    lia
   have lB2:ys_.length≤40:=by
    rw [l_,gR,List.length_reverse]
    refine Nat.le_trans (List.length_filter_le _ _) ?_
    rw [J5,List.length_drop]
    lia
   refine sd (by rw [sizeLine_eq];lia) ?_
   have od:=Jh n g (b:Nat) (max 0 ((s:Int) - fM n rs g - (b:Int))) rs
   have tA:aJ H_ (yA++ys_) (dh (mj (tgC n rs (s:Int) g b))):=by
    rw [show tgC n rs (s:Int) g b=tgs n g (b:Nat) (max 0 ((s:Int) - fM n rs g - (b:Int))) rs from rfl,od]
    unfold dh
    rw [List.map_append]
    exact (F.tps (ys:=yA) (rs:=dh (ml (lft (rs.take g).reverse (b:Nat))).reverse) (by simp)).app (F.tps (ys:=ys_) (by simp))
   replace F:=F.fW tA
   clear tA
   repeat k_meth
   have wk:=Yl lya tf tc tpn
   have told:=Uw (L:=tgC n rs (s:Int) g b) fun q hq=>((ChS.le tc).2 q hq).1
   have tB:aJ H_ (yA++ys_) (Eu (jF (tgC n rs (s:Int) g b))):=by rw [← told];exact TpA.e (H:=H_)
   refine ⟨x,p,dx,p_,n,zs,yA++ys_,rs,jF (tgC n rs (s:Int) g b),ps,rfl,⟨bM,bM,TpA.e⟩,lya,bM,tB,wk,bM,SH.tab,fun y dy q ws ps' H' kp hP2 tk2 ly2=>?_⟩
   have lyT:=QG lya wk.ok
   have lyB:=lyT.1
   have lyC:LyQ CL H' y q dy n ws (fL rs (jF (tgC n rs (s:Int) g b))):=⟨ly2⟩
   have sd3:g≤(fL rs (jF (tgC n rs (s:Int) g b))).length:=by rw [lyT.2];exact hg
   replace F:=SH.lZ (st:=TabOk.st) (F.kp kp hP2 LkU.u rfl) tk2
   repeat k_meth
   rename_i pM _ _
   exact k x_ dx_ pM (yA++ys_) p_ ps' _ (F.sub SbC.s (by simp [gJ]))
end
open M22 M82 M87 M75
theorem isR {K:W.Frag} {H:Hp} {Q:VK} {C CB y dy:Addr} {gs:List (Str×V)} (e:H y=some (.ins C dy gs)) (cl:Cls K C) (ha:W.findIn K (.ref C) "__class__" = some (some (.builtin "object.__class__"))) (hn:W.specialIn K (.builtin "object.__class__") "__get__" = some (some (.builtin "getset_descriptor.__get__"))) (htk:W.takesIn K (.builtin "object.__class__")=some true) (hm:W.mroIn K C (.type "object")=some true) (hk:W.kitOne K (.ref C) (.ref CB)=some true) (k:Q (.bl true) H):zP K [.ref y,.ref CB] H Q :=
 ⟨_,_,_,_,rfl,.ins e cl ha hn htk hm,hk,k⟩
theorem isN {K:W.Frag} {H:Hp} {Q:VK} {C CB y dy:Addr} {gs:List (Str×V)} (e:H y=some (.ins C dy gs)) (cl:Cls K C) (ha:W.findIn K (.ref C) "__class__" = some (some (.builtin "object.__class__"))) (hn:W.specialIn K (.builtin "object.__class__") "__get__" = some (some (.builtin "getset_descriptor.__get__"))) (htk:W.takesIn K (.builtin "object.__class__")=some true) (hm:W.mroIn K C (.type "object")=some true) (hk:W.kitOne K (.ref C) (.ref CB)=some false) (k:Q (.bl false) H):zP K [.ref y,.ref CB] H Q :=
 ⟨_,_,_,_,rfl,.ins e cl ha hn htk hm,hk,k⟩
theorem Fg {K:W.Frag} {C:Addr}:W.kitOne K (.ref C) (.ref C)=some true:=by
 unfold W.kitOne
 rw [if_pos (by simp)]
def zy (CP:Addr):Sp:=fun vs H Q _=>∃(y dy m t:Addr) (c g:Int),vs=[.ref y]∧H y=some (.ins CP dy (pF c g m t))∧Q (.int c) H
def J7 (CP:Addr):Sp:=fun vs H Q _=>∃(y dy m t:Addr) (c g:Int),vs=[.ref y]∧H y=some (.ins CP dy (pF c g m t))∧Q (.int g) H
def Fi (CP:Addr):Sp:=fun vs H Q _=>∃(y dy m t:Addr) (c g:Int),vs=[.ref y]∧H y=some (.ins CP dy (pF c g m t))∧Q (.ref t) H
def wj (CP:Addr):Sp:=fun vs H Q _=>∃(y dy m t:Addr) (c g:Int) (ms:List V),vs=[.ref y]∧H y=some (.ins CP dy (pF c g m t))∧H m=some (.lst ms)∧∀p H',New H H' p (.lst ms)→Q (.ref p) H'
def rN (CP:Addr):Sp:=fun vs H Q _=>∃(y dy m t:Addr) (c g:Int),vs=[.ref y]∧H y=some (.ins CP dy (pF c g m t))∧∀p H',New H H' p (.lst [])→Q (.ref p) H'
def o_ (CS:Addr):Sp:=fun vs H Q _=>∃(y dy q:Addr),vs=[.ref y]∧H y=some (.ins CS dy [("stretches", .ref q)])∧Q .non H
def wu (CS:Addr):Sp:=fun vs H Q _=>∃(y dy q:Addr),vs=[.ref y]∧H y=some (.ins CS dy [("stretches", .ref q)])∧∀p H',New H H' p (.lst [])→Q (.ref p) H'
section
variable {CS CP y dy q m t:Addr} {H:Hp} {Q:VK} {E:XK} {c g:Int} {ms:List V}
instance acQ:FLk (pF c g m t) "cost" (.int c):=⟨by unfold pF;rw [cC,if_neg (by decide),cC,if_neg (by decide),cC,if_neg (by decide),cC,if_pos rfl]⟩
instance Ze:FLk (pF c g m t) "number" (.int g):=⟨by unfold pF;rw [cC,if_neg (by decide),cC,if_neg (by decide),cC,if_pos rfl]⟩
instance abB:FLk (pF c g m t) "moves" (.ref m):=⟨by unfold pF;rw [cC,if_neg (by decide),cC,if_pos rfl]⟩
instance Yn:FLk (pF c g m t) "stretch" (.ref t):=⟨by unfold pF;rw [cC,if_pos rfl]⟩
instance Zf [h:Hat H y (.ins CP dy (pF c g m t))]:Go (zy CP [.ref y] H Q E) (Q (.int c) H):=⟨fun k=>⟨y,dy,m,t,c,g,rfl,h.e,k⟩⟩
instance acR [h:Hat H y (.ins CP dy (pF c g m t))]:Go (J7 CP [.ref y] H Q E) (Q (.int g) H):=⟨fun k=>⟨y,dy,m,t,c,g,rfl,h.e,k⟩⟩
instance abC [h:Hat H y (.ins CP dy (pF c g m t))]:Go (Fi CP [.ref y] H Q E) (Q (.ref t) H):=⟨fun k=>⟨y,dy,m,t,c,g,rfl,h.e,k⟩⟩
instance Yo [h:Hat H y (.ins CP dy (pF c g m t))] [h2:Hat H m (.lst ms)]:Go (wj CP [.ref y] H Q E) (∀p H',New H H' p (.lst ms)→Q (.ref p) H'):=⟨fun k=>⟨y,dy,m,t,c,g,ms,rfl,h.e,h2.e,k⟩⟩
instance Vt [h:Hat H y (.ins CP dy (pF c g m t))]:Go (rN CP [.ref y] H Q E) (∀p H',New H H' p (.lst [])→Q (.ref p) H'):=⟨fun k=>⟨y,dy,m,t,c,g,rfl,h.e,k⟩⟩
instance abD [h:Hat H y (.ins CS dy [("stretches", .ref q)])]:Go (o_ CS [.ref y] H Q E) (Q .non H):=⟨fun k=>⟨y,dy,q,rfl,h.e,k⟩⟩
instance Yp [h:Hat H y (.ins CS dy [("stretches", .ref q)])]:Go (wu CS [.ref y] H Q E) (∀p H',New H H' p (.lst [])→Q (.ref p) H'):=⟨fun k=>⟨y,dy,q,rfl,h.e,k⟩⟩
end
section
variable {P:Program} {w:World} {K:W.Frag} {mg:Str→Option Value} {base:Heap} {c:Nat→Addr} {aG ao R CL CP CS CB:Addr}
theorem jw (T:Txt K mg c R CL CP CS CB aG ao):Met P w K mg base CX0 1 CP "price" ["self"] (zy CP):=by
 obtain ⟨f,hf,hm⟩:=T.D_
 refine (cZ (k:=0) hf yp (fun vs H Q E h=>?_) (fun _ _ _ _ _ _=>el1 fun _=>rfl) (fun f cdv A outer s H vs Q E hr h=>?_)).met hm
 ·obtain ⟨y,dy,m,t,c0,g,rfl,_⟩:=h
  rfl
 ·obtain ⟨y,dy,m,t,c0,g,rfl,hy,k⟩:=h
  have nd:=yp.nd
  refine ⟨_,(aC (aW (fO (pv 0) rfl))),?_⟩
  clear nd 
  rw [show start ["self"] [.ref y]=[some (.ref y)] from rfl]
  try dsimp only [cO,bT]
  have bw:ak K CL "many" := ⟨T.clL,T.aY⟩
  have bB:ak K CL "rows" := ⟨T.clL,T.aZ⟩
  have bC:ak K CP "cost" := ⟨T.clP,T.bf⟩
  have aO:ak K CP "number" := ⟨T.clP,T.aN⟩
  have aV:ak K CP "moves" := ⟨T.clP,T.aR⟩
  have aL:ak K CP "stretch" := ⟨T.clP,T.aK⟩
  have aD:ak K CS "stretches" := ⟨T.clS,T.aB⟩
  have rT:=Old.mk (M:=[]) hy nm0
  have F:SH H [] H [] []:=SH.nil
  repeat k_meth
  exact k
theorem pA (T:Txt K mg c R CL CP CS CB aG ao):Met P w K mg base CX0 1 CP "gap" ["self"] (J7 CP):=by
 obtain ⟨f,hf,hm⟩:=T.Qh
 refine (cZ (k:=0) hf Jv (fun vs H Q E h=>?_) (fun _ _ _ _ _ _=>el1 fun _=>rfl) (fun f cdv A outer s H vs Q E hr h=>?_)).met hm
 ·obtain ⟨y,dy,m,t,c0,g,rfl,_⟩:=h
  rfl
 ·obtain ⟨y,dy,m,t,c0,g,rfl,hy,k⟩:=h
  have nd:=Jv.nd
  refine ⟨_,(aC (aW (fO (pv 0) rfl))),?_⟩
  clear nd 
  rw [show start ["self"] [.ref y]=[some (.ref y)] from rfl]
  try dsimp only [cO,bT]
  have bw:ak K CL "many" := ⟨T.clL,T.aY⟩
  have bB:ak K CL "rows" := ⟨T.clL,T.aZ⟩
  have bC:ak K CP "cost" := ⟨T.clP,T.bf⟩
  have aO:ak K CP "number" := ⟨T.clP,T.aN⟩
  have aV:ak K CP "moves" := ⟨T.clP,T.aR⟩
  have aL:ak K CP "stretch" := ⟨T.clP,T.aK⟩
  have aD:ak K CS "stretches" := ⟨T.clS,T.aB⟩
  have rT:=Old.mk (M:=[]) hy nm0
  have F:SH H [] H [] []:=SH.nil
  repeat k_meth
  exact k
theorem kW (T:Txt K mg c R CL CP CS CB aG ao):Met P w K mg base CX0 1 CP "hole" ["self"] (Fi CP):=by
 obtain ⟨f,hf,hm⟩:=T.JR
 refine (cZ (k:=0) hf Dn (fun vs H Q E h=>?_) (fun _ _ _ _ _ _=>el1 fun _=>rfl) (fun f cdv A outer s H vs Q E hr h=>?_)).met hm
 ·obtain ⟨y,dy,m,t,c0,g,rfl,_⟩:=h
  rfl
 ·obtain ⟨y,dy,m,t,c0,g,rfl,hy,k⟩:=h
  have nd:=Dn.nd
  refine ⟨_,(aC (aW (fO (pv 0) rfl))),?_⟩
  clear nd 
  rw [show start ["self"] [.ref y]=[some (.ref y)] from rfl]
  try dsimp only [cO,bT]
  have bw:ak K CL "many" := ⟨T.clL,T.aY⟩
  have bB:ak K CL "rows" := ⟨T.clL,T.aZ⟩
  have bC:ak K CP "cost" := ⟨T.clP,T.bf⟩
  have aO:ak K CP "number" := ⟨T.clP,T.aN⟩
  have aV:ak K CP "moves" := ⟨T.clP,T.aR⟩
  have aL:ak K CP "stretch" := ⟨T.clP,T.aK⟩
  have aD:ak K CS "stretches" := ⟨T.clS,T.aB⟩
  have rT:=Old.mk (M:=[]) hy nm0
  have F:SH H [] H [] []:=SH.nil
  repeat k_meth
  exact k
theorem gC (T:Txt K mg c R CL CP CS CB aG ao):Met P w K mg base CX0 1 CP "slides" ["self"] (wj CP):=by
 obtain ⟨f,hf,hm⟩:=T.yL
 refine (cZ (k:=0) hf vB (fun vs H Q E h=>?_) (fun _ _ _ _ _ _=>el1 fun _=>rfl) (fun f cdv A outer s H vs Q E hr h=>?_)).met hm
 ·obtain ⟨y,dy,m,t,c0,g,ms,rfl,_⟩:=h
  rfl
 ·obtain ⟨y,dy,m,t,c0,g,ms,rfl,hy,hm,k⟩:=h
  have nd:=vB.nd
  refine ⟨_,(aC (aW (gj je rfl T.ji boot_list (aj (fO (pv 0) rfl) aq)))),?_⟩
  clear nd 
  rw [show start ["self"] [.ref y]=[some (.ref y)] from rfl]
  try dsimp only [cO,bT]
  have bw:ak K CL "many" := ⟨T.clL,T.aY⟩
  have bB:ak K CL "rows" := ⟨T.clL,T.aZ⟩
  have bC:ak K CP "cost" := ⟨T.clP,T.bf⟩
  have aO:ak K CP "number" := ⟨T.clP,T.aN⟩
  have aV:ak K CP "moves" := ⟨T.clP,T.aR⟩
  have aL:ak K CP "stretch" := ⟨T.clP,T.aK⟩
  have aD:ak K CS "stretches" := ⟨T.clS,T.aB⟩
  have rT:=Old.mk (M:=[]) hy nm0
  have Ul:=Old.mk (M:=[]) hm nm0
  have F:SH H [] H [] []:=SH.nil
  repeat k_meth
  exact k _ _ SH.nwC
theorem fK (T:Txt K mg c R CL CP CS CB aG ao):Met P w K mg base CX0 1 CP "counted" ["self"] (rN CP):=by
 obtain ⟨f,hf,hm⟩:=T.vL
 refine (cZ (k:=0) hf rE (fun vs H Q E h=>?_) (fun _ _ _ _ _ _=>el1 fun _=>rfl) (fun f cdv A outer s H vs Q E hr h=>?_)).met hm
 ·obtain ⟨y,dy,m,t,c0,g,rfl,_⟩:=h
  rfl
 ·obtain ⟨y,dy,m,t,c0,g,rfl,hy,k⟩:=h
  have nd:=rE.nd
  refine ⟨_,(aC (aW (cj aq))),?_⟩
  clear nd 
  rw [show start ["self"] [.ref y]=[some (.ref y)] from rfl]
  try dsimp only [cO,bT]
  have bw:ak K CL "many" := ⟨T.clL,T.aY⟩
  have bB:ak K CL "rows" := ⟨T.clL,T.aZ⟩
  have bC:ak K CP "cost" := ⟨T.clP,T.bf⟩
  have aO:ak K CP "number" := ⟨T.clP,T.aN⟩
  have aV:ak K CP "moves" := ⟨T.clP,T.aR⟩
  have aL:ak K CP "stretch" := ⟨T.clP,T.aK⟩
  have aD:ak K CS "stretches" := ⟨T.clS,T.aB⟩
  have rT:=Old.mk (M:=[]) hy nm0
  have F:SH H [] H [] []:=SH.nil
  repeat k_meth
  exact k _ _ SH.nwC
theorem lY (T:Txt K mg c R CL CP CS CB aG ao):Met P w K mg base CX0 1 CS "price" ["self"] (o_ CS):=by
 obtain ⟨f,hf,hm⟩:=T.Ea
 refine (cZ (k:=0) hf yq (fun vs H Q E h=>?_) (fun _ _ _ _ _ _=>el1 fun _=>rfl) (fun f cdv A outer s H vs Q E hr h=>?_)).met hm
 ·obtain ⟨y,dy,q,rfl,_⟩:=h
  rfl
 ·obtain ⟨y,dy,q,rfl,hy,k⟩:=h
  have nd:=yq.nd
  refine ⟨_,(aC (aW dz)),?_⟩
  clear nd 
  rw [show start ["self"] [.ref y]=[some (.ref y)] from rfl]
  try dsimp only [cO,bT]
  have bw:ak K CL "many" := ⟨T.clL,T.aY⟩
  have bB:ak K CL "rows" := ⟨T.clL,T.aZ⟩
  have bC:ak K CP "cost" := ⟨T.clP,T.bf⟩
  have aO:ak K CP "number" := ⟨T.clP,T.aN⟩
  have aV:ak K CP "moves" := ⟨T.clP,T.aR⟩
  have aL:ak K CP "stretch" := ⟨T.clP,T.aK⟩
  have aD:ak K CS "stretches" := ⟨T.clS,T.aB⟩
  have rT:=Old.mk (M:=[]) hy nm0
  have F:SH H [] H [] []:=SH.nil
  repeat k_meth
  exact k
theorem sY (T:Txt K mg c R CL CP CS CB aG ao):Met P w K mg base CX0 1 CS "gap" ["self"] (o_ CS):=by
 obtain ⟨f,hf,hm⟩:=T.Qi
 refine (cZ (k:=0) hf Jw (fun vs H Q E h=>?_) (fun _ _ _ _ _ _=>el1 fun _=>rfl) (fun f cdv A outer s H vs Q E hr h=>?_)).met hm
 ·obtain ⟨y,dy,q,rfl,_⟩:=h
  rfl
 ·obtain ⟨y,dy,q,rfl,hy,k⟩:=h
  have nd:=Jw.nd
  refine ⟨_,(aC (aW dz)),?_⟩
  clear nd 
  rw [show start ["self"] [.ref y]=[some (.ref y)] from rfl]
  try dsimp only [cO,bT]
  have bw:ak K CL "many" := ⟨T.clL,T.aY⟩
  have bB:ak K CL "rows" := ⟨T.clL,T.aZ⟩
  have bC:ak K CP "cost" := ⟨T.clP,T.bf⟩
  have aO:ak K CP "number" := ⟨T.clP,T.aN⟩
  have aV:ak K CP "moves" := ⟨T.clP,T.aR⟩
  have aL:ak K CP "stretch" := ⟨T.clP,T.aK⟩
  have aD:ak K CS "stretches" := ⟨T.clS,T.aB⟩
  have rT:=Old.mk (M:=[]) hy nm0
  have F:SH H [] H [] []:=SH.nil
  repeat k_meth
  exact k
theorem pB (T:Txt K mg c R CL CP CS CB aG ao):Met P w K mg base CX0 1 CS "hole" ["self"] (o_ CS):=by
 obtain ⟨f,hf,hm⟩:=T.JT
 refine (cZ (k:=0) hf Dp (fun vs H Q E h=>?_) (fun _ _ _ _ _ _=>el1 fun _=>rfl) (fun f cdv A outer s H vs Q E hr h=>?_)).met hm
 ·obtain ⟨y,dy,q,rfl,_⟩:=h
  rfl
 ·obtain ⟨y,dy,q,rfl,hy,k⟩:=h
  have nd:=Dp.nd
  refine ⟨_,(aC (aW dz)),?_⟩
  clear nd 
  rw [show start ["self"] [.ref y]=[some (.ref y)] from rfl]
  try dsimp only [cO,bT]
  have bw:ak K CL "many" := ⟨T.clL,T.aY⟩
  have bB:ak K CL "rows" := ⟨T.clL,T.aZ⟩
  have bC:ak K CP "cost" := ⟨T.clP,T.bf⟩
  have aO:ak K CP "number" := ⟨T.clP,T.aN⟩
  have aV:ak K CP "moves" := ⟨T.clP,T.aR⟩
  have aL:ak K CP "stretch" := ⟨T.clP,T.aK⟩
  have aD:ak K CS "stretches" := ⟨T.clS,T.aB⟩
  have rT:=Old.mk (M:=[]) hy nm0
  have F:SH H [] H [] []:=SH.nil
  repeat k_meth
  exact k
theorem iJ (T:Txt K mg c R CL CP CS CB aG ao):Met P w K mg base CX0 1 CS "slides" ["self"] (wu CS):=by
 obtain ⟨f,hf,hm⟩:=T.yM
 refine (cZ (k:=0) hf vD (fun vs H Q E h=>?_) (fun _ _ _ _ _ _=>el1 fun _=>rfl) (fun f cdv A outer s H vs Q E hr h=>?_)).met hm
 ·obtain ⟨y,dy,q,rfl,_⟩:=h
  rfl
 ·obtain ⟨y,dy,q,rfl,hy,k⟩:=h
  have nd:=vD.nd
  refine ⟨_,(aC (aW (cj aq))),?_⟩
  clear nd 
  rw [show start ["self"] [.ref y]=[some (.ref y)] from rfl]
  try dsimp only [cO,bT]
  have bw:ak K CL "many" := ⟨T.clL,T.aY⟩
  have bB:ak K CL "rows" := ⟨T.clL,T.aZ⟩
  have bC:ak K CP "cost" := ⟨T.clP,T.bf⟩
  have aO:ak K CP "number" := ⟨T.clP,T.aN⟩
  have aV:ak K CP "moves" := ⟨T.clP,T.aR⟩
  have aL:ak K CP "stretch" := ⟨T.clP,T.aK⟩
  have aD:ak K CS "stretches" := ⟨T.clS,T.aB⟩
  have rT:=Old.mk (M:=[]) hy nm0
  have F:SH H [] H [] []:=SH.nil
  repeat k_meth
  exact k _ _ SH.nwC
end
open M22 M82 M87 M75
instance abE {D:Ends} {σ:L2.St} {H:Hp}:Go (Ml D σ H) (D.bk σ H):=⟨id⟩
def zA:Sp:=fun vs H Q _=>∃(l m:Addr) (ys:List V) (bs:List Rw) (gs:List Int) (x:Int),vs=[.ref l,.ref m,.int x]∧H l=some (.lst ys)∧aJ H ys (aP bs)∧H m=some (.lst (gs.map V.int))∧bs.length=gs.length∧∀H',Same H H'→Q (pV (bO (bs.zip gs) x)) H'
instance Zg {H:Hp} {Q:VK} {E:XK} {l m:Addr} {ys:List V} {bs:List Rw} {gs:List Int} {x:Int} [h:Hat H l (.lst ys)] [t:TpA H ys (aP bs)] [h2:Hat H m (.lst (gs.map V.int))]:Go (zA [.ref l,.ref m,.int x] H Q E) (Sd (bs.length=gs.length) (∀H',Same H H'→Q (pV (bO (bs.zip gs) x)) H')):=⟨fun k=>⟨l,m,ys,bs,gs,x,rfl,h.e,t.e,h2.e,k.1,k.2⟩⟩
instance acS {K:W.Frag} {H:Hp} {p:Addr} {xs:List V} {Z:Addr→Hp→Prop} [h:SqA K H p xs]:Go (∃a xs',V.ref p=V.ref a∧V.int (-1)=V.int (-1)∧SqL K H a xs'∧∀q H',New H H' q (.lst xs'.reverse)→Z q H') (∀q H',New H H' q (.lst xs.reverse)→Z q H'):=⟨fun k=>⟨p,xs,rfl,rfl,h.e,k⟩⟩
theorem Fj (gs:List Int) (g:Nat):(pO (gs.map V.int) none (some (g:Int))).reverse=(gs.take g).reverse.map V.int:=by rw [oF,List.map_reverse,List.map_take]
theorem Fl (gs:List Int) (g:Nat):pO (gs.map V.int) (some ((g:Int) + 1)) none=(gs.drop (g + 1)).map V.int:=by rw [show (g:Int) + 1=((g + 1:Nat):Int) by lia,uw,List.map_drop]
theorem Vu {H:Hp} {ys:List V} {rs:List Rw} (h:aJ H ys (aP rs)) (g:Nat):aJ H (ys.take g) (aP (rs.take g)):=by
 have e:aP (rs.take g)=(aP rs).take g:=by unfold aP;rw [List.map_take]
 rw [e]
 refine ⟨by rw [List.length_take,List.length_take,h.1],fun j r ej=>?_⟩
 rw [List.getElem?_take] at ej
 split at ej
 ·rename_i hj
  obtain ⟨q,a,b⟩:=h.2 j r ej
  exact ⟨q,by rw [List.getElem?_take,if_pos hj];exact a,b⟩
 ·cases ej
theorem Vv {H:Hp} {ys:List V} {rs:List Rw} (h:aJ H ys (aP rs)) (g:Nat):aJ H (ys.drop g) (aP (rs.drop g)):=by
 have e:aP (rs.drop g)=(aP rs).drop g:=by unfold aP;rw [List.map_drop]
 rw [e]
 refine ⟨by rw [List.length_drop,List.length_drop,h.1],fun j r ej=>?_⟩
 rw [List.getElem?_drop] at ej
 obtain ⟨q,a,b⟩:=h.2 _ r ej
 exact ⟨q,by rw [List.getElem?_drop];exact a,b⟩
theorem Vw {H:Hp} {ys:List V} {rs:List Rw} (h:aJ H ys (aP rs)):aJ H ys.reverse (aP rs.reverse):=by
 have e:aP rs.reverse=(aP rs).reverse:=by unfold aP;rw [List.map_reverse]
 rw [e]
 exact h.reverse
def QK:Sp:=fun vs H Q _=>∃(l m:Addr) (ys:List V) (bs:List Rw) (gs:List Int) (s:Nat),vs=[.ref l,.ref m,.int (s:Nat)]∧H l=some (.lst ys)∧aJ H ys (aP bs)∧H m=some (.lst (gs.map V.int))∧(bs.length=gs.length∧s≤240)∧∀q H',New H H' q (.lst ((psh (bs.zip gs) s).map pV))→Q (.ref q) H'
section
variable {P:Program} {w:World} {K:W.Frag} {mg:Str→Option Value} {base:Heap} {c:Nat→Addr} {aG ao R CL CP CS CB:Addr}
theorem jx (T:Txt K mg c R CL CP CS CB aG ao):Def P w K mg base CX0 1 "_law_whole" ["_law_thing"] (nO K):=by
 refine bU T.DK xX (fun vs H Q E h=>?_) (fun _ _ _ _ _ _=>el1 fun _=>rfl) (fun f cdv A outer s H vs Q E hr h=>?_)
 ·obtain ⟨x,n,rfl,_⟩:=h
  rfl
 ·obtain ⟨x,n,rfl,ty,k⟩:=h
  have nd:=xX.nd
  refine ⟨_,(aC (aW (gh (bF cR rfl T.bR boot_isinstance (aj (pv 0) (aj (jo (T := "int") rfl T.vJ boot_int) aq))) (iz (Fx (bF cR rfl T.bR boot_isinstance (aj (pv 0) (aj (jo (T := "bool") rfl T.G6 boot_bool) aq)))))))),?_⟩
  clear nd 
  rw [show start ["_law_thing"] [x]=[some (x)] from rfl]
  try dsimp only [cO,bT]
  rw [Nf] at k
  repeat k_meth
  refine w_is ty (Ng ty) ?_
  repeat k_meth
  refine i_b (fun h=>?_) (fun h=>?_)
  ·repeat k_meth
   refine w_is ty (HY ty) ?_
   repeat k_meth
   rw [h] at k
   exact k
  ·rw [h] at k
   exact k
theorem pC (T:Txt K mg c R CL CP CS CB aG ao):Def P w K mg base CX0 1 "_law_pushed" ["_law_rows_here", "_law_gaps_here", "_law_much"] zA:=by
 refine bU T.DN xY (fun vs H Q E h=>?_) (fun _ _ _ _ _ _=>el3 fun _ _ _=>rfl) (fun f cdv A outer s H vs Q E hr h=>?_)
 ·obtain ⟨l,m,ys,bs,gs,x,rfl,_⟩:=h
  rfl
 ·obtain ⟨l,m,ys,bs,gs,x,rfl,hl,tp,hm,bg,k⟩:=h
  have nd:=xY.nd
  refine ⟨_,(au (aQ (i:=3) nd rfl (Or.inl rfl) aA)
   (au (dB PassesOwn.never rfl (O7 rfl T.Qg (aj (pv 0) (aj (pv 1) aq))) (iZ rfl (bV (iZ rfl (bV (bH (i:=4) nd rfl (Or.inl rfl)) (bV (bH (i:=5) nd rfl (Or.inl rfl)) (bV (bH (i:=6) nd rfl (Or.inl rfl)) (bV (bH (i:=7) nd rfl (Or.inl rfl)) gD))))) (bV (bH (i:=8) nd rfl (Or.inl rfl)) gD))) (au (cL (bK qT (pv 2) aA (bJ _)) (aC Mp) bN)
    (au (cL (bK gY (pv 7) aA (bJ _)) (aC (aW dz)) bN)
    (au (aQ (i:=3) nd rfl (Or.inl rfl) (aX cD (pv 3) (pv 6)))
    (aC (aQ (i:=2) nd rfl (Or.inl rfl) (aX cM (pv 2) (pv 8))))))))
   (au (cL (bK gY (pv 2) aA (bJ _)) (aC (aW dz)) bN)
   (aC (aW (pv 3)))))),?_⟩
  clear nd 
  rw [show start ["_law_rows_here", "_law_gaps_here", "_law_much", "_law_cost", "_law_name", "_law_start", "_law_size", "_law_pins", "_law_gap"] [.ref l,.ref m,.int x]=[some (.ref l),some (.ref m),some (.int x),none,none,none,none,none,none] from rfl]
  try dsimp only [cO,bT]
  have bw:ak K CL "many" := ⟨T.clL,T.aY⟩
  have bB:ak K CL "rows" := ⟨T.clL,T.aZ⟩
  have bC:ak K CP "cost" := ⟨T.clP,T.bf⟩
  have aO:ak K CP "number" := ⟨T.clP,T.aN⟩
  have aV:ak K CP "moves" := ⟨T.clP,T.aR⟩
  have aL:ak K CP "stretch" := ⟨T.clP,T.aK⟩
  have aD:ak K CS "stretches" := ⟨T.clS,T.aB⟩
  have rR:=Old.mk (M:=[]) hl nm0
  have Ul:=Old.mk (M:=[]) hm nm0
  have h_:=fY.mk tp
  have F:SH H [] H [] []:=SH.nil
  have yl:ys.length=bs.length:=by rw [tp.1,bL]
  repeat k_meth
  refine Iu (by rw [List.length_map];lia) (fun i σ' H'=>∃(cost much:Int) (o4 o5 o6 o7 o8:Option V),σ'=[some (.ref l),some (.ref m),some (.int much),some (.int cost),o4,o5,o6,o7,o8]∧bO (bs.zip gs) x=(bO ((bs.zip gs).drop i) much).map (fun y=>cost + y)∧SH H [] H' [] []) ⟨0,x,_,_,_,_,_,rfl,by simp,F⟩ ?_ ?_ ?_
  ·clear F
   rintro i σ' H' _ ⟨_,_,_,_,_,_,_,rfl,_,F⟩
   exact ⟨SqA.e,SqA.e⟩
  ·clear F
   rintro i v u T σ' H' H2 hv hu ⟨cost,much,o4,o5,o6,o7,o8,rfl,em,F⟩ nw
   replace F:=(F.same nw.s).zX nw.e
   obtain ⟨r,q1,e1,rfl,e2⟩:=dj tp hv
   rw [List.getElem?_map] at hu
   obtain ⟨g,hg,rfl⟩:∃g,gs[i]?=some g∧u=.int g:=by
    cases h:gs[i]? with
    | none=>rw [h] at hu;cases hu
    | some g=>rw [h] at hu;exact ⟨g,rfl,(Option.some.inj hu).symm⟩
   have o_q:=Old.mk (M:=[]) e2 nm0
   have dr:(bs.zip gs).drop i=(r,g)::(bs.zip gs).drop (i + 1):=by
    have hz:(bs.zip gs)[i]?=some (r,g):=by rw [List.getElem?_zip_eq_some];exact ⟨e1,hg⟩
    obtain ⟨hi,e⟩:=List.getElem?_eq_some_iff.mp hz
    rw [List.drop_eq_getElem_cons hi,e]
   rw [dr] at em
   have hT:H2 T=some (.tup [.ref q1,.int g]):=bM
   have hq2:H2 q1=some (.tup (dM r)):=bM
   refine ⟨T,_,rfl,SqT.of hT,rfl,.ref q1,_,rfl,q1,_,rfl,SqT.of hq2,rfl,_,_,rfl,_,_,rfl,_,_,rfl,_,_,rfl,rfl,_,_,rfl,rfl,?_⟩
   have eσ:((((([some (V.ref l),some (V.ref m),some (V.int much),some (V.int cost),o4,o5,o6,o7,o8].set 4 (some (V.str (tx r.nm)))).set 5 (some (V.int (r.st:Nat)))).set 6 (some (V.int (r.sz:Nat)))).set 7 (some (V.int (r.pn:Nat)))).set 8 (some (V.int g)))=[some (V.ref l),some (V.ref m),some (V.int much),some (V.int cost),some (V.str (tx r.nm)),some (V.int (r.st:Nat)),some (V.int (r.sz:Nat)),some (V.int (r.pn:Nat)),some (V.int g)]:=rfl
   rw [eσ]
   repeat k_meth
   refine gG (fun h=>?_) (fun h=>?_)
   ·repeat k_meth
    rw [show bO (bs.zip gs) x=some cost by rw [em,iR h];simp] at k
    exact k _ F.sm
   ·repeat k_meth
    refine gG (fun h2=>?_) (fun h2=>?_)
    ·repeat k_meth
     rw [show bO (bs.zip gs) x=none by rw [em];unfold bO;rw [if_neg h,if_pos (by lia)];rfl] at k
     exact k _ F.sm
    ·repeat k_meth
     refine ⟨cost + (r.sz:Int),much - g,_,_,_,_,_,rfl,?_,F.sub SbC.s SbI.s⟩
     rw [em,bO,if_neg h,if_neg (by lia),Option.map_map]
     congr 1
     funext y
     show cost + ((r.sz:Int) + y)=_
     lia
  ·clear F
   rintro σ' H' ⟨cost,much,_,_,_,_,_,rfl,em,F⟩
   rw [List.drop_of_length_le (by rw [List.length_zip];lia)] at em
   repeat k_meth
   refine gG (fun h=>?_) (fun h=>?_)
   ·repeat k_meth
    rw [show bO (bs.zip gs) x=none by rw [em];unfold bO;rw [if_neg (by lia)];rfl] at k
    exact k _ F.sm
   ·repeat k_meth
    rw [show bO (bs.zip gs) x=some cost by rw [em,iR (by lia)];simp] at k
    exact k _ F.sm
theorem pD (T:Txt K mg c R CL CP CS CB aG ao):Def P w K mg base CX0 2 "_law_costs" ["_law_rows_here", "_law_gaps_here", "_law_much"] QK:=by
 have pC:=pC (P:=P) (w:=w) (base:=base) T
 refine bU T.JK Di (fun vs H Q E h=>?_) (fun _ _ _ _ _ _=>el3 fun _ _ _=>rfl) (fun f cdv A outer s H vs Q E hr h=>?_)
 ·obtain ⟨l,m,ys,bs,gs,s,rfl,_⟩:=h
  rfl
 ·obtain ⟨l,m,ys,bs,gs,s,rfl,hl,tp,hm,side,k⟩:=h
  have nd:=Di.nd
  refine ⟨_,(au (aQ (i:=3) nd rfl (Or.inl rfl) (cj aq))
   (au (dB PassesOwn.never rfl (d9 rfl T.eO (aj (aX cD (pv 2) aA) aq)) (bH (i:=4) nd rfl (Or.inl rfl)) (aC (cV (cJ (pv 3) (aM pC hr (aj (pv 0) (aj (pv 1) (aj (pv 4) aq))))))))
   (aC (aW (pv 3))))),?_⟩
  clear nd pC
  rw [show start ["_law_rows_here", "_law_gaps_here", "_law_much", "_law_found", "_law_x"] [.ref l,.ref m,.int (s:Nat)]=[some (.ref l),some (.ref m),some (.int (s:Nat)),none,none] from rfl]
  try dsimp only [cO,bT]
  have bw:ak K CL "many" := ⟨T.clL,T.aY⟩
  have bB:ak K CL "rows" := ⟨T.clL,T.aZ⟩
  have bC:ak K CP "cost" := ⟨T.clP,T.bf⟩
  have aO:ak K CP "number" := ⟨T.clP,T.aN⟩
  have aV:ak K CP "moves" := ⟨T.clP,T.aR⟩
  have aL:ak K CP "stretch" := ⟨T.clP,T.aK⟩
  have aD:ak K CS "stretches" := ⟨T.clS,T.aB⟩
  have rR:=Old.mk (M:=[]) hl nm0
  have Ul:=Old.mk (M:=[]) hm nm0
  have h_:=fY.mk tp
  have F:SH H [] H [] []:=SH.nil
  obtain ⟨bg,Ln⟩:=side
  repeat k_meth
  rename Addr=>fo
  rw [show ((s:Int) + 1).toNat=s + 1 by lia]
  refine gH (fun i σ' H'=>∃o4:Option V,σ'=[some (.ref l),some (.ref m),some (.int (s:Nat)),some (.ref fo),o4]∧SH H [] H' [(fo,.lst (((List.range i).map fun x=>bO (bs.zip gs) (x:Nat)).map pV))] []) ⟨_,rfl,F.sub (L':=[(fo,.lst [])]) SbC.s SbI.s⟩ ?_ ?_
  ·clear F
   rintro i σ' H' hi ⟨_,rfl,F⟩
   have sl:(((List.range i).map fun x=>bO (bs.zip gs) (x:Nat)).map pV).length < sizeLine:=by rw [List.length_map,List.length_map,List.length_range,sizeLine_eq];lia
   repeat k_meth
   rw [show ((List.range i).map fun x=>bO (bs.zip gs) (x:Nat)).map pV++[pV (bO (bs.zip gs) (i:Nat))]=((List.range (i + 1)).map fun x=>bO (bs.zip gs) (x:Nat)).map pV by rw [List.range_succ,List.map_append,List.map_append];rfl] at F
   exact ⟨_,rfl,F.sub SbC.s SbI.s⟩
  ·clear F
   rintro σ' H' ⟨_,rfl,F⟩
   repeat k_meth
   exact k _ _ SH.nwC
end
open M22 M82 M87 M75
theorem Ux {n:Nat} {L:List Sp2} (ch:ChS n 0 L) (ok:OkA 0 n (L.map (·.1))) (pin:∀s∈L,0 < s.1.pn→s.2=(s.1.st:Int)):fL (L.map (·.1)) (jF L)=L.map tgt:=by
 have a:=IV L [] 0 (Int.le_refl _) ch ok pin
 have c:=ChS.le ch
 have b:=IW (n:=n) L.reverse [] n rfl (ChS.rev ch) (by rw [List.map_reverse];exact List.pairwise_reverse.mpr ok.asc) (fun s hs=>(c.2 s (List.mem_reverse.mp hs)).1) (fun s hs=>pin s (List.mem_reverse.mp hs))
 rw [List.map_reverse,List.reverse_reverse,List.append_nil] at b
 simp only [List.nil_append,List.length_nil] at a
 unfold jF
 rw [Pa,a.2.1,b.2.1,List.append_nil,List.map_reverse,List.reverse_reverse]
theorem Yq {D:List Rw} {x:Int} (nn:∀s∈lft D x,0≤s.2) (h:bO (lg D) x≠none) (x0:0≤x):(edR ((lft D x).map tgt):Int)=(edR D:Int) - x:=by
 cases D with
 | nil =>
  have:=iI h
  show ((0:Nat):Int)=((0:Nat):Int) - x
  lia
 | cons r D =>
  have:=nn (r,(r.st:Int) - max x 0) List.mem_cons_self
  have:0≤(r.st:Int) - max x 0:=this
  show ((((r.st:Int) - max x 0).toNat + r.sz:Nat):Int)=((r.st + r.sz:Nat):Int) - x
  lia
theorem Uy {n:Nat} {D:List Rw} {y:Int} (h:bO (rg n D) y≠none) (y0:0≤y):(gK n ((rgt n D y).map tgt):Int)=(gK n D:Int) + y:=by
 cases D with
 | nil =>
  have:=iI h
  show (n:Int)=(n:Int) + y
  lia
 | cons r D =>
  show ((((r.st:Int) + max y 0).toNat:Nat):Int)=(r.st:Int) + y
  lia
def yOf (n:Nat) (rs:List Rw) (s:Nat) (g b:Nat):Int:=max 0 ((s:Int) - fM n rs g - (b:Int))
theorem Uz {n:Nat} {rs:List Rw} {s:Nat} {c:Chc} {g b:Nat} (lya:LyA rs n) (h:Hi n rs s c g b):((edR ((fL rs (jF (tgC n rs (s:Nat) g b))).take g).reverse:Nat):Int)=((edR (rs.take g).reverse:Nat):Int) - (b:Int)∧fM n (fL rs (jF (tgC n rs (s:Nat) g b))) g=(b:Int) + fM n rs g + yOf n rs s g b:=by
 have ok:=QJ lya h
 obtain ⟨u,v,e1,e2,_⟩:=h.ex
 have hg:=h.hg
 have e:=Ux ok.1 (by rw [ok.2.2];exact lya.ok) ok.2.1
 rw [ok.2.2] at e
 have c:=ChS.le ok.1
 have hl:(lft (rs.take g).reverse (b:Nat)).length=g:=by rw [Bh,List.length_reverse,List.length_take];lia
 have e3:(tgC n rs (s:Nat) g b).map tgt=((lft (rs.take g).reverse (b:Nat)).map tgt).reverse++(rgt n (rs.drop g) (yOf n rs s g b)).map tgt:=by unfold tgC tgs;rw [List.map_append,List.map_reverse];rfl
 have t:((tgC n rs (s:Nat) g b).map tgt).take g=((lft (rs.take g).reverse (b:Nat)).map tgt).reverse:=by
  rw [e3,List.take_append_of_le_length (by simp;lia),List.take_of_length_le (by simp;lia)]
 have d:((tgC n rs (s:Nat) g b).map tgt).drop g=(rgt n (rs.drop g) (yOf n rs s g b)).map tgt:=by
  rw [e3,List.drop_append_of_le_length (by simp;lia),List.drop_of_length_le (by simp;lia),List.nil_append]
 have nn:∀q∈lft (rs.take g).reverse (b:Nat),0≤q.2:=fun q hq=>(c.2 q (by unfold tgC tgs;exact List.mem_append_left _ (List.mem_reverse.mpr hq))).1
 have l:=Yq nn (by rw [e1];simp) (by lia)
 have r:=Uy (n:=n) (D:=rs.drop g) (y:=yOf n rs s g b) (by show bO _ (max 0 _)≠none;rw [e2];simp) (by unfold yOf;lia)
 rw [e]
 unfold fM
 rw [t,d,List.reverse_reverse,l,r]
 refine ⟨rfl,?_⟩
 lia
def mq (w:Int):List (Rw×Int)→Int→List Sp2
 | [],_=>[]
 | (r,g)::t,x=>if 0 < x then (r,(r.st:Int) + w * x)::mq w t (x - g) else mq w t x
theorem QL {w x g:Int} {r:Rw} {t:List (Rw×Int)} (h:¬ 0 < x):mq w ((r,g)::t) x=mq w t x:=if_neg h
theorem QM {w x g:Int} {r:Rw} {t:List (Rw×Int)} (h:0 < x):mq w ((r,g)::t) x=(r,(r.st:Int) + w * x)::mq w t (x - g):=if_pos h
theorem qP {w:Int}:∀{t:List (Rw×Int)} {x:Int},x≤0→mq w t x=[]
 | [],_,_=>rfl
 | (r,g)::t,x,h=>by
  unfold mq
  rw [if_neg (by lia)]
  exact qP h
theorem pG {w:Int}:∀{t:List (Rw×Int)} {x:Int},(mq w t x).length≤t.length
 | [],_=>Nat.le_refl _
 | (r,g)::t,x=>by
  unfold mq
  have a:=pG (w:=w) (t:=t) (x:=x - g)
  have b:=pG (w:=w) (t:=t) (x:=x)
  split <;> simp only [List.length_cons] <;> lia
theorem Fp {b:Nat}:∀{D:List Rw} {x:Int},OkD b D→mq (-1) (lg D) x=ml (lft D x)
 | [],_,_=>rfl
 | r::D,x,ok=>by
  by_cases h:0 < x
  ·rw [CK h,← Fp ok.tail]
   show (if 0 < x then _ else _)=_
   rw [if_pos h,show (r.st:Int) + -1 * x=(r.st:Int) - x by lia]
  ·rw [uF _ _ _ ok (by lia),qP (by lia)]
theorem Fq {n lo:Nat}:∀{D:List Rw} {y:Int},OkA lo n D→mq 1 (rg n D) y=mr (rgt n D y)
 | [],_,_=>rfl
 | r::D,y,ok=>by
  by_cases h:0 < y
  ·rw [CN h,← Fq ok.tail]
   show (if 0 < y then _ else _)=_
   rw [if_pos h,show (r.st:Int) + 1 * y=(r.st:Int) + y by lia]
  ·rw [uG _ _ _ ok (by lia),qP (by lia)]
def J8 (b:Option Chc) (c:Chc):Option Chc:=match b with
 | none=>some c
 | some d=>if c.1 < d.1 then some c else some d
theorem QS {c d:Chc} (h:c.1 < d.1):J8 (some d) c=some c:=if_pos h
theorem QT {c d:Chc} (h:¬ c.1 < d.1):J8 (some d) c=some d:=if_neg h
def jT (cs:List Chc):Option Chc:=cs.foldl J8 none
theorem wz (cs:List Chc) (c:Chc):jT (cs++[c])=J8 (jT cs) c:=by unfold jT;rw [List.foldl_append];rfl
def QV (c d:Chc):Prop:=c.2.1 < d.2.1∨(c.2.1=d.2.1∧c.2.2 < d.2.2)
theorem J9 {cs:List Chc} (asc:cs.Pairwise QV):∀j,j < cs.length→cs[eV (cs.map chV) j]?=jT (cs.take (j + 1))∧eV (cs.map chV) j≤j
 | 0,h=>by
  obtain ⟨c,t,rfl⟩:∃c t,cs=c::t:=by cases cs with | nil=>simp at h | cons c t=>exact ⟨c,t,rfl⟩
  exact ⟨rfl,Nat.le_refl _⟩
 | j + 1,h=>by
  obtain ⟨ih,le⟩:=J9 asc j (by lia)
  have e1:cs[j + 1]?=some cs[j + 1]:=List.getElem?_eq_getElem h
  have hb:eV (cs.map chV) j < cs.length:=by lia
  have e2:cs[eV (cs.map chV) j]?=some cs[eV (cs.map chV) j]:=List.getElem?_eq_getElem hb
  have t:cs.take (j + 1 + 1)=cs.take (j + 1)++[cs[j + 1]]:=by rw [List.take_succ,e1];rfl
  rw [t,wz,← ih,e2]
  have lt:=List.pairwise_iff_getElem.mp asc _ _ hb h (by lia)
  have q:HT.lexLt ((cs.map chV).getD (j + 1) []) ((cs.map chV).getD (eV (cs.map chV) j) [])=decide (cs[j + 1].1 < cs[eV (cs.map chV) j].1):=by
   rw [List.getD_eq_getElem?_getD,List.getD_eq_getElem?_getD,List.getElem?_map,List.getElem?_map,e1,e2]
   show HT.lexLt (chV cs[j + 1]) (chV cs[eV (cs.map chV) j])=_
   generalize cs[j + 1]=c at lt
   generalize cs[eV (cs.map chV) j]=d at lt
   obtain ⟨c1,c2,c3⟩:=c
   obtain ⟨d1,d2,d3⟩:=d
   have lt:d2 < c2∨(d2=c2∧d3 < c3):=lt
   show HT.lexLt [c1,c2,c3] [d1,d2,d3]=decide (c1 < d1)
   rw [Bool.eq_iff_iff]
   simp only [HT.lexLt,decide_eq_true_eq]
   constructor
   ·intro h;grind
   ·intro h;grind
  have eb:eV (cs.map chV) (j + 1)=if HT.lexLt ((cs.map chV).getD (j + 1) []) ((cs.map chV).getD (eV (cs.map chV) j) [])=true then j + 1 else eV (cs.map chV) j:=rfl
  rw [eb,q]
  show _=(if _ then _ else _)∧_
  by_cases hc:cs[j + 1].1 < cs[eV (cs.map chV) j].1
  ·rw [if_pos (decide_eq_true hc),if_pos hc]
   exact ⟨e1,Nat.le_refl _⟩
  ·rw [if_neg (by simpa using hc),if_neg hc]
   exact ⟨e2,by lia⟩
theorem Hj {cs:List Chc} (asc:cs.Pairwise QV):qL cs=jT cs:=by
 unfold qL
 cases cs with
 | nil=>rfl
 | cons c t =>
  have:=(J9 asc t.length (by simp)).1
  rw [List.take_of_length_le (by simp)] at this
  simpa using this
theorem UG (g b:Int) (u v:Option Int):(ch2 g b u v).Pairwise QV:=by cases u <;> cases v <;> simp [ch2]
theorem UJ (g c:Int) (s:Nat) (l r:PR) (k:Nat):(chF g c s l r k).Pairwise QV:=by
 unfold chF
 rw [List.pairwise_flatMap]
 refine ⟨fun b _=>UG ..,List.pairwise_lt_range.imp fun {b1 b2} hb x hx y hy=>?_⟩
 obtain ⟨_,_,_,_,rfl⟩:=oU hx
 obtain ⟨_,_,_,_,rfl⟩:=oU hy
 exact .inr ⟨rfl,by show (b1:Int) < (b2:Int);lia⟩
theorem J_ {g c:Int} {s:Nat} {l r:PR} {k:Nat} {x:Chc} (h:x∈chF g c s l r k):x.2.1=g:=by
 obtain ⟨b,_,h⟩:=List.mem_flatMap.mp h
 obtain ⟨_,_,_,_,rfl⟩:=oU h
 rfl
def mz (n:Nat) (rs:List Rw) (s k:Nat):List Chc:=(List.range k).flatMap fun g:Nat=>chF ((g:Nat):Int) ((aF n rs).getD g 0) s (psh ((rs.take g).reverse.zip ((aF n rs).take g).reverse) (min s n)) (psh ((rs.drop g).zip ((aF n rs).drop (g + 1))) (min s n)) (min s n + 1)
theorem Lw (n:Nat) (rs:List Rw) (s k:Nat):mz n rs s (k + 1)=mz n rs s k++chF (k:Int) ((aF n rs).getD k 0) s (psh ((rs.take k).reverse.zip ((aF n rs).take k).reverse) (min s n)) (psh ((rs.drop k).zip ((aF n rs).drop (k + 1))) (min s n)) (min s n + 1):=by unfold mz;rw [List.range_succ,List.flatMap_append];simp
theorem QW (n:Nat) (rs:List Rw) (s k:Nat):(mz n rs s k).Pairwise QV:=by
 unfold mz
 rw [List.pairwise_flatMap]
 refine ⟨fun g _=>UJ ..,List.pairwise_lt_range.imp fun {g1 g2} hb x hx y hy=>.inl ?_⟩
 rw [J_ hx,J_ hy]
 lia
theorem qQ {bs:List (Rw×Int)} {m j:Nat} (h:j≤m):(psh bs m)[j]?=some (bO bs (j:Nat)):=by
 unfold psh
 rw [List.getElem?_map,List.getElem?_range (by lia)]
 rfl
theorem QX {n g:Nat} {rs:List Rw} (hg:g≤rs.length):(rs.take g).reverse.zip ((aF n rs).take g).reverse=lg (rs.take g).reverse:=by
 have e:(rs.take g).length=((aF n rs).take g).length:=by rw [List.length_take,List.length_take,d8];lia
 rw [Bg e,vY,Ja n hg]
theorem QZ {n g:Nat} {rs:List Rw}:(rs.drop g).zip ((aF n rs).drop (g + 1))=rg n (rs.drop g):=by rw [vY,z8]
theorem UL {n:Nat} {rs:List Rw} {s:Nat} (lya:LyA rs n):lcF n rs (s:Int)=jT (mz n rs s (rs.length + 1)):=by
 unfold lcF
 by_cases hs:(n:Int) < (s:Int)
 ·rw [if_pos hs]
  have:mz n rs s (rs.length + 1)=[]:=by
   apply List.eq_nil_iff_forall_not_mem.mpr
   intro c hc
   have ri:=Pu (s:=(s:Int)) lya.ok (by lia)
   rw [← Yi lya.ok] at ri
   have le:=Ut lya.l
   obtain ⟨g,hg,h⟩:=List.mem_flatMap.mp hc
   have hg:=List.mem_range.mp hg
   have hg:g≤rs.length:=by lia
   obtain ⟨b,hb,h⟩:=List.mem_flatMap.mp h
   have hb:=List.mem_range.mp hb
   have hb:b≤min s n:=by lia
   obtain ⟨u,v,e1,e2,rfl⟩:=oU h
   rw [List.getD_eq_getElem?_getD,kO hg,Option.getD_some] at e2
   rw [qQ hb,Option.getD_some,QX hg] at e1
   have hy:(max 0 ((s:Int) - fM n rs g - (b:Int))).toNat≤min s n:=by
    rcases Nat.lt_or_ge (min s n) (max 0 ((s:Int) - fM n rs g - (b:Int))).toNat with z | z
    ·rw [List.getElem?_eq_none (by unfold psh;simp;lia)] at e2
     cases e2
    ·exact z
   rw [qQ hy,Option.getD_some,QZ] at e2
   obtain ⟨w,hw,l⟩:=ri.mp ⟨g,hg,(b:Int),by lia,by lia,by rw [e1];simp,by
    rw [show max 0 ((s:Int) - ((gK n (rs.drop g):Int) - (edR (rs.take g).reverse:Int)) - (b:Int))=(((max 0 ((s:Int) - fM n rs g - (b:Int))).toNat:Nat):Int) by unfold fM;lia,e2];simp⟩
   have:=le w hw
   lia
  rw [this]
  rfl
 ·rw [if_neg hs,show ((s:Int)).toNat=s by lia]
  have e:mz n rs s (rs.length + 1)=gQ n rs s (rs.length + 1):=by
   unfold mz gQ
   rw [show min s n=s by lia]
   have gl:=d8 n rs
   have nn:=jO lya.l lya.a
   have q:∀k,k≤rs.length + 1→(List.range k).flatMap (fun g:Nat=>chF ((g:Nat):Int) ((aF n rs).getD g 0) s (psh ((rs.take g).reverse.zip ((aF n rs).take g).reverse) s) (psh ((rs.drop g).zip ((aF n rs).drop (g + 1))) s) (s + 1))=(List.range k).flatMap (fun g:Nat=>chF ((g:Nat):Int) ((aF n rs).getD g 0) s (fX rs (aF n rs) s g) (dZ rs (aF n rs) s (rs.length - g)) (s + 1)):=by
    intro k
    induction k with
    | zero=>intro _;rfl
    | succ k ih =>
     intro hk
     rw [List.range_succ,List.flatMap_append,List.flatMap_append,ih (by lia)]
     congr 1
     simp only [List.flatMap_cons,List.flatMap_nil,List.append_nil]
     rw [vX gl nn k (by lia),qN gl nn _ (Nat.sub_le _ _),show rs.length - (rs.length - k)=k by lia]
     rfl
   exact q _ (Nat.le_refl _)
  rw [← e]
  exact Hj (QW ..)
open M22 M82 M87 M75
def pH (n:Nat) (rs:List Rw) (s:Nat) (H:Hp) (v:V):Option Chc→Prop
 | none=>v=.non
 | some c=>∃q,v=.ref q∧H q=some (.tup [.int c.1,.int c.2.1,.int c.2.2,.int (max 0 ((s:Int) - (aF n rs).getD c.2.1.toNat 0 - c.2.2))])
theorem pH.same {n:Nat} {rs:List Rw} {s:Nat} {H H':Hp} {v:V} {o:Option Chc} (h:pH n rs s H v o) (sm:Same H H'):pH n rs s H' v o:=by
 cases o with
 | none=>exact h
 | some c=>obtain ⟨q,e,f⟩:=h;exact ⟨q,e,sm _ _ f⟩
def Ka:Sp:=fun vs H Q _=>∃(l:Addr) (n:Nat) (zs:List V) (rs:List Rw) (s:Nat),vs=[.int (n:Nat),.ref l,.int (s:Nat)]∧H l=some (.lst zs)∧aJ H zs (aP rs)∧LyA rs n∧1≤s∧∀v H',Same H H'→pH n rs s H' v (lcF n rs (s:Nat))→Q v H'
section
variable {P:Program} {w:World} {K:W.Frag} {mg:Str→Option Value} {base:Heap} {c:Nat→Addr} {aG ao R CL CP CS CB:Addr}
theorem Bj (T:Txt K mg c R CL CP CS CB aG ao):Def P w K mg base CX0 3 "_law_best" ["_law_many_here", "_law_rows_here", "_law_size"] Ka:=by
 have iV:=iV (P:=P) (w:=w) (base:=base) T
 have pD:=pD (P:=P) (w:=w) (base:=base) T
 refine bU T.Qc Ju (fun vs H Q E h=>?_) (fun _ _ _ _ _ _=>el3 fun _ _ _=>rfl) (fun f cdv A outer s H vs Q E hr h=>?_)
 ·obtain ⟨l,n,zs,rs,s,rfl,_⟩:=h
  rfl
 ·obtain ⟨l,n,zs,rs,s,rfl,hl,tp,lya,s1,k⟩:=h
  have nd:=Ju.nd
  refine' ⟨_,?bd0,?main⟩
  case bd0 =>
   refine' au ?s1 ?r1
   case r1 =>
    refine' au ?s2 ?r2
    case r2 =>
     refine' au ?s3 ?r3
     case r3 =>
      refine' aC ?s4
      case s4 =>
       exact (aW (pv 4))
     case s3 =>
      refine' dB PassesOwn.never rfl ?i6 ?g6 ?d6
      case g6=>exact (bH (i:=5) nd rfl (Or.inl rfl))
      case d6 =>
       refine' au ?s7 ?r7
       case r7 =>
        refine' au ?s8 ?r8
        case r8 =>
         refine' aC ?s9
         case s9 =>
          refine' dB PassesOwn.never rfl ?i10 ?g10 ?d10
          case g10=>exact (bH (i:=8) nd rfl (Or.inl rfl))
          case d10 =>
           refine' au ?s11 ?r11
           case r11 =>
            refine' aC ?s12
            case s12 =>
             exact (cL (PW.pt (zF (bK qT (pv 9) (pv 0) (bJ _)) (zF (bK fV (bD bI (pv 6) (pv 8) (fun _ _=>rfl)) dz (bJ _)) (zE (bK fV (bD bI (pv 7) (pv 9) (fun _ _=>rfl)) dz (bJ _)))))) (aC (cL (PW.pt (eU (bK zR (pv 4) dz (bJ _)) (f9 (bK Bu (aX cD (bD bI (pv 6) (pv 8) (fun _ _=>rfl)) (bD bI (pv 7) (pv 9) (fun _ _=>rfl))) (bD bZ (pv 4) aA (fun _ _=>rfl)) (bJ _))))) (aC (aQ (i:=4) nd rfl (Or.inl rfl) (dg (aj (aX cD (bD bI (pv 6) (pv 8) (fun _ _=>rfl)) (bD bI (pv 7) (pv 9) (fun _ _=>rfl))) (aj (pv 5) (aj (pv 8) (aj (pv 9) aq))))))) bN)) bN)
           case s11 =>
            exact (aQ (i:=9) nd rfl (Or.inl rfl) (bF (fD rfl) rfl T.n_ boot_max (aj aA (aj (aX cM (aX cM (pv 2) (bD bI (pv 3) (pv 5) (fun _ _=>rfl))) (pv 8)) aq))))
          case i10 =>
           exact (d9 rfl T.eO (aj (bF dF rfl T.jr boot_len (aj (pv 6) aq)) aq))
        case s8 =>
         exact (aQ (i:=7) nd rfl (Or.inl rfl) (aM pD hr (aj (fP fU (pv 1) (g8 (pv 5)) gZ) (aj (fP fU (pv 3) (g8 (aX cD (pv 5) aA)) gZ) (aj (bF (iu rfl) rfl T.rJ boot_min (aj (pv 2) (aj (pv 0) aq))) aq)))))
       case s7 =>
        exact (aQ (i:=6) nd rfl (Or.inl rfl) (aM pD hr (aj (lE (K:=K) rfl (fP fU (pv 1) gZ (g8 (pv 5))) (tQ mQ aA)) (aj (lE (K:=K) rfl (fP fU (pv 3) gZ (g8 (pv 5))) (tQ mQ aA)) (aj (bF (iu rfl) rfl T.rJ boot_min (aj (pv 2) (aj (pv 0) aq))) aq)))))
      case i6 =>
       exact (d9 rfl T.eO (aj (bF dF rfl T.jr boot_len (aj (pv 3) aq)) aq))
    case s2 =>
     exact (aQ (i:=4) nd rfl (Or.inl rfl) dz)
   case s1 =>
    exact (aQ (i:=3) nd rfl (Or.inl rfl) (aM iV hr (aj (pv 0) (aj (pv 1) aq))))
  clear nd iV pD
  rw [show start ["_law_many_here", "_law_rows_here", "_law_size", "_law_gaps_here", "_law_best_here", "_law_g", "_law_left", "_law_right", "_law_x", "_law_y"] [.int (n:Nat),.ref l,.int (s:Nat)]=[some (.int (n:Nat)),some (.ref l),some (.int (s:Nat)),none,none,none,none,none,none,none] from rfl]
  try dsimp only [cO,bT]
  have bw:ak K CL "many" := ⟨T.clL,T.aY⟩
  have bB:ak K CL "rows" := ⟨T.clL,T.aZ⟩
  have bC:ak K CP "cost" := ⟨T.clP,T.bf⟩
  have aO:ak K CP "number" := ⟨T.clP,T.aN⟩
  have aV:ak K CP "moves" := ⟨T.clP,T.aR⟩
  have aL:ak K CP "stretch" := ⟨T.clP,T.aK⟩
  have aD:ak K CS "stretches" := ⟨T.clS,T.aB⟩
  have rR:=Old.mk (M:=[]) hl nm0
  have h_:=fY.mk tp
  have F:SH H [] H [] []:=SH.nil
  have few:=lya.l.few
  have m_:=lya.h
  have gl_:=d8 n rs
  have gn:=jO lya.l lya.a
  have zl:zs.length=rs.length:=by rw [tp.1,bL]
  repeat k_meth
  rename Addr=>gl
  rw [show (((aF n rs).map V.int).length:Int).toNat=rs.length + 1 by rw [List.length_map,gl_];lia]
  refine gH (fun g σ' H'=>∃(v:V) (o5 o6 o7 o8 o9:Option V),σ'=[some (.int (n:Nat)),some (.ref l),some (.int (s:Nat)),some (.ref gl),some v,o5,o6,o7,o8,o9]∧pH n rs s H' v (jT (mz n rs s g))∧SH H [] H' [(gl,.lst ((aF n rs).map V.int))] []) ⟨.non,_,_,_,_,_,rfl,rfl,F.sub SbC.s SbI.s⟩ ?_ ?_
  ·clear F
   rintro g σ' H' hg ⟨v,_,_,_,_,_,rfl,bv,F⟩
   have bs0:∀{H2},Same H' H2→pH n rs s H2 v (jT (mz n rs s g)):=fun s2=>bv.same s2
   have len1:(rs.take g).reverse.length=((aF n rs).take g).reverse.length:=by simp;lia
   have len2:(rs.drop g).length=((aF n rs).drop (g + 1)).length:=by simp;lia
   have sm0:=F.sm
   have hgl:H' gl=some (.lst ((aF n rs).map V.int)):=bM
   have Fo1:SH H [] H' [(gl,.lst ((aF n rs).map V.int))] []:=F.sub SbC.s SbI.s
   have Fo:SH H [] H' ([]++[(gl,.lst ((aF n rs).map V.int))]) []:=Fo1
   clear Fo1
   clear F
   have F:SH H' [] H' [] []:=SH.nil
   have aeJ:=Old.mk (M:=[]) (sm0 _ _ hl) nm0
   have Yc:=Old.mk (M:=[]) hgl nm0
   have Vr:=fY.mk (tp.same sm0)
   clear rR h_
   repeat k_meth
   rw [show min (s:Int) (n:Int)=((min s n:Nat):Int) by lia]
   refine ⟨_,_,(zs.take g).reverse,(rs.take g).reverse,((aF n rs).take g).reverse,min s n,rfl,by rw [← oF];exact bM,Vw (Vu TpA.e g),by rw [← Fj];exact bM,⟨len1,by lia⟩,fun q1 H1 n1=>?_⟩
   replace F:=F.newL n1
   repeat k_meth
   rw [show min (s:Int) (n:Int)=((min s n:Nat):Int) by lia]
   refine ⟨_,_,zs.drop g,rs.drop g,(aF n rs).drop (g + 1),min s n,rfl,by rw [← uw];exact bM,Vv TpA.e g,by rw [← Fl];exact bM,⟨len2,by lia⟩,fun q2 H2 n2=>?_⟩
   replace F:=F.newL n2
   have F1:SH H' [] H2 [(q1,.lst ((psh ((rs.take g).reverse.zip ((aF n rs).take g).reverse) (min s n)).map pV)),(q2,.lst ((psh ((rs.drop g).zip ((aF n rs).drop (g + 1))) (min s n)).map pV))] []:=F.sub SbC.s SbI.s
   have bv2:=bs0 F.sm
   clear F
   have F2:=SH.over Fo F1 rfl
   simp only [List.cons_append,List.nil_append] at F2
   clear F1
   have F:SH H [] H2 [(gl,.lst ((aF n rs).map V.int)),(q1,.lst ((psh ((rs.take g).reverse.zip ((aF n rs).take g).reverse) (min s n)).map pV)),(q2,.lst ((psh ((rs.drop g).zip ((aF n rs).drop (g + 1))) (min s n)).map pV))] []:=F2.sub SbC.s SbI.s
   clear F2 Fo aeJ Yc Vr
   have afM:=Old.mk (M:=[]) hl nm0
   have pl1:((psh ((rs.take g).reverse.zip ((aF n rs).take g).reverse) (min s n)).map pV).length=min s n + 1:=by simp [psh]
   have pl2:((psh ((rs.drop g).zip ((aF n rs).drop (g + 1))) (min s n)).map pV).length=min s n + 1:=by simp [psh]
   obtain ⟨gv,egv⟩:∃gv,(aF n rs)[g]?=some gv:=⟨_,List.getElem?_eq_getElem (by lia)⟩
   have gv0:=gn gv (List.mem_of_getElem? egv)
   have gvd:(aF n rs).getD g 0=gv:=by rw [List.getD_eq_getElem?_getD,egv];rfl
   have a0:AtI ((aF n rs).map V.int) ((g:Nat):Int) (.int gv):=⟨b_ (by rw [List.getElem?_map,egv];rfl)⟩
   have cl0:∀j,(mz n rs s g++chF (g:Int) gv s (psh ((rs.take g).reverse.zip ((aF n rs).take g).reverse) (min s n)) (psh ((rs.drop g).zip ((aF n rs).drop (g + 1))) (min s n)) (j + 1))=(mz n rs s g++chF (g:Int) gv s (psh ((rs.take g).reverse.zip ((aF n rs).take g).reverse) (min s n)) (psh ((rs.drop g).zip ((aF n rs).drop (g + 1))) (min s n)) j)++chA (g:Int) gv s (psh ((rs.take g).reverse.zip ((aF n rs).take g).reverse) (min s n)) (psh ((rs.drop g).zip ((aF n rs).drop (g + 1))) (min s n)) j:=fun j=>by rw [kJ,List.append_assoc]
   have e0:jT (mz n rs s g)=jT (mz n rs s g++chF (g:Int) gv s (psh ((rs.take g).reverse.zip ((aF n rs).take g).reverse) (min s n)) (psh ((rs.drop g).zip ((aF n rs).drop (g + 1))) (min s n)) 0):=by rw [show chF (g:Int) gv s (psh ((rs.take g).reverse.zip ((aF n rs).take g).reverse) (min s n)) (psh ((rs.drop g).zip ((aF n rs).drop (g + 1))) (min s n)) 0=[] from rfl,List.append_nil]
   rw [e0] at bv2
   repeat k_meth
   rw [pl1]
   rw [show ((min s n + 1:Nat):Int).toNat=min s n + 1 by lia]
   refine gH (fun j σ' H'=>∃(v:V) (o8 o9:Option V),σ'=[some (.int (n:Nat)),some (.ref l),some (.int (s:Nat)),some (.ref gl),some v,some (.int (g:Nat)),some (.ref q1),some (.ref q2),o8,o9]∧pH n rs s H' v (jT (mz n rs s g++chF (g:Int) gv s (psh ((rs.take g).reverse.zip ((aF n rs).take g).reverse) (min s n)) (psh ((rs.drop g).zip ((aF n rs).drop (g + 1))) (min s n)) j))∧SH H [] H' [(gl,.lst ((aF n rs).map V.int)),(q1,.lst ((psh ((rs.take g).reverse.zip ((aF n rs).take g).reverse) (min s n)).map pV)),(q2,.lst ((psh ((rs.drop g).zip ((aF n rs).drop (g + 1))) (min s n)).map pV))] []) ⟨v,_,_,rfl,bv2,F.sub SbC.s SbI.s⟩ ?_ ?_
   ·clear F bv bv2 bs0
    rintro j σ' H' hj ⟨v,_,_,rfl,bv,F⟩
    have bs0:∀{H2},Same H' H2→pH n rs s H2 v _:=fun s2=>bv.same s2
    have a1:AtI ((psh ((rs.take g).reverse.zip ((aF n rs).take g).reverse) (min s n)).map pV) ((j:Nat):Int) (pV (bO ((rs.take g).reverse.zip ((aF n rs).take g).reverse) (j:Nat))):=⟨b_ (by rw [List.getElem?_map,qQ (by lia)];rfl)⟩
    have ca:chA (g:Int) gv s (psh ((rs.take g).reverse.zip ((aF n rs).take g).reverse) (min s n)) (psh ((rs.drop g).zip ((aF n rs).drop (g + 1))) (min s n)) j=ch2 (g:Int) (j:Int) (bO ((rs.take g).reverse.zip ((aF n rs).take g).reverse) (j:Nat)) (((psh ((rs.drop g).zip ((aF n rs).drop (g + 1))) (min s n))[(max 0 ((s:Int) - gv - (j:Int))).toNat]?).getD none):=by unfold chA;rw [qQ (by lia)];rfl
    have cl:=cl0 j
    rw [ca] at cl
    clear ca
    by_cases hy:max 0 ((s:Int) - gv - (j:Int))≤(n:Int)
    ·have hy2:(max 0 ((s:Int) - gv - (j:Int))).toNat≤min s n:=by lia
     rw [qQ hy2,Option.getD_some] at cl
     have a2:AtI ((psh ((rs.drop g).zip ((aF n rs).drop (g + 1))) (min s n)).map pV) (max 0 ((s:Int) - gv - (j:Int))) (pV (bO ((rs.drop g).zip ((aF n rs).drop (g + 1))) (((max 0 ((s:Int) - gv - (j:Int))).toNat:Nat):Int))):=⟨by
      rw [show max 0 ((s:Int) - gv - (j:Int))=(((max 0 ((s:Int) - gv - (j:Int))).toNat:Nat):Int) by lia]
      exact b_ (by rw [List.getElem?_map,Int.toNat_natCast,qQ hy2];rfl)⟩
     generalize bO ((rs.take g).reverse.zip ((aF n rs).take g).reverse) (j:Nat)=u at a1 cl
     generalize bO ((rs.drop g).zip ((aF n rs).drop (g + 1))) (((max 0 ((s:Int) - gv - (j:Int))).toNat:Nat):Int)=w at a2 cl
     cases u with
     | none =>
      have a3:AtI ((psh ((rs.take g).reverse.zip ((aF n rs).take g).reverse) (min s n)).map pV) ((j:Nat):Int) .non:=a1
      clear a1
      rw [cl.trans (List.append_nil _)]
      repeat k_meth
      exact ⟨v,_,_,rfl,bv,F⟩
     | some u =>
      have a3:AtI ((psh ((rs.take g).reverse.zip ((aF n rs).take g).reverse) (min s n)).map pV) ((j:Nat):Int) (.int u):=a1
      clear a1
      cases w with
      | none =>
       have a4:AtI ((psh ((rs.drop g).zip ((aF n rs).drop (g + 1))) (min s n)).map pV) (max 0 ((s:Int) - gv - (j:Int))) .non:=a2
       clear a2
       rw [cl.trans (List.append_nil _)]
       repeat k_meth
       exact ⟨v,_,_,rfl,bv,F⟩
      | some w =>
       have a4:AtI ((psh ((rs.drop g).zip ((aF n rs).drop (g + 1))) (min s n)).map pV) (max 0 ((s:Int) - gv - (j:Int))) (.int w):=a2
       clear a2
       have cl:_=_++[((u + w,(g:Int),(j:Int)):Chc)]:=cl
       rw [cl,wz]
       have yv:max 0 ((s:Int) - (aF n rs).getD ((g:Int)).toNat 0 - (j:Int))=max 0 ((s:Int) - gv - (j:Int)):=by rw [Int.toNat_natCast,gvd]
       generalize jT _=bo at bv
       cases bo with
       | none =>
        obtain rfl:v=.non:=bv
        repeat k_meth
        exact ⟨_,_,_,rfl,⟨_,rfl,by rw [yv];exact bM⟩,F.sub SbC.s SbI.s⟩
       | some c =>
        obtain ⟨q,rfl,hq⟩:=bv
        replace F:=F.zX hq
        repeat k_meth
        refine gG (fun h=>?_) (fun h=>?_)
        ·repeat k_meth
         exact ⟨_,_,_,rfl,by rw [QS h];exact ⟨_,rfl,by rw [yv];exact bM⟩,F.sub SbC.s SbI.s⟩
        ·repeat k_meth
         exact ⟨_,_,_,rfl,by rw [QT h];exact ⟨_,rfl,hq⟩,F.sub SbC.s SbI.s⟩
    ·rw [List.getElem?_eq_none (by unfold psh;simp;lia),Option.getD_none] at cl
     have z:∀u:Option Int,ch2 (g:Int) (j:Int) u none=[]:=fun u=>by cases u <;> rfl
     rw [z] at cl
     rw [cl.trans (List.append_nil _)]
     repeat k_meth
     exact ⟨v,_,_,rfl,bv,F⟩
   ·clear F bv bv2 bs0
    rintro σ' H' ⟨v,_,_,rfl,bv,F⟩
    rw [← gvd,← Lw] at bv
    repeat k_meth
    exact ⟨v,_,_,_,_,_,rfl,bv,F.sub SbC.s SbI.s⟩
  ·clear F
   rintro σ' H' ⟨v,_,_,_,_,_,rfl,bv,F⟩
   repeat k_meth
   exact k v _ F.sm (by rw [UL lya];exact bv)
end
open M22 M82 M87 M75
instance acT {H:Hp} {Q:VK} {E:XK} {l:Addr} {n s:Nat} {zs:List V} {rs:List Rw} [h:Hat H l (.lst zs)] [t:TpA H zs (aP rs)] [ly:LyA rs n]:Go (Ka [.int (n:Nat),.ref l,.int (s:Nat)] H Q E) (Sd (1≤s) (∀v H',Same H H'→pH n rs s H' v (lcF n rs (s:Nat))→Q v H')):=⟨fun k=>⟨l,n,zs,rs,s,rfl,h.e,t.e,ly,k.1,k.2⟩⟩
def Lx:Sp:=fun vs H Q _=>∃(l m:Addr) (ys:List V) (bs:List Rw) (gs:List Int) (x w:Int),vs=[.ref l,.ref m,.int x,.int w]∧H l=some (.lst ys)∧aJ H ys (aP bs)∧H m=some (.lst (gs.map V.int))∧(bs.length=gs.length∧bs.length≤40∧(w=1∨w=-1))∧∀q zs H',New H H' q (.lst zs)→aJ H' zs (dh (mq w (bs.zip gs) x).reverse)→Q (.ref q) H'
section
variable {P:Program} {w:World} {K:W.Frag} {mg:Str→Option Value} {base:Heap} {c:Nat→Addr} {aG ao R CL CP CS CB:Addr}
theorem kY (T:Txt K mg c R CL CP CS CB aG ao):Def P w K mg base CX0 1 "_law_moves" ["_law_rows_here", "_law_gaps_here", "_law_much", "_law_way"] Lx:=by
 refine bU T.DP xZ (fun vs H Q E h=>?_) (fun _ _ _ _ _ _=>el4 fun _ _ _ _=>rfl) (fun f cdv A outer s H vs Q E hr h=>?_)
 ·obtain ⟨l,m,ys,bs,gs,x,w,rfl,_⟩:=h
  rfl
 ·obtain ⟨l,m,ys,bs,gs,x,w,rfl,hl,tp,hm,side,k⟩:=h
  have nd:=xZ.nd
  refine ⟨_,(au (aQ (i:=4) nd rfl (Or.inl rfl) (cj aq))
   (au (dB PassesOwn.never rfl (O7 rfl T.Qg (aj (pv 0) (aj (pv 1) aq))) (iZ rfl (bV (iZ rfl (bV (bH (i:=5) nd rfl (Or.inl rfl)) (bV (bH (i:=6) nd rfl (Or.inl rfl)) (bV (bH (i:=7) nd rfl (Or.inl rfl)) (bV (bH (i:=8) nd rfl (Or.inl rfl)) gD))))) (bV (bH (i:=9) nd rfl (Or.inl rfl)) gD))) (aC (cL (bK gY (pv 2) aA (bJ _)) (au (cV (T3 (pv 4) aA (dg (aj (pv 5) (aj (aX cD (pv 6) (aX jz (pv 3) (pv 2))) aq)))))
     (aC (aQ (i:=2) nd rfl (Or.inl rfl) (aX cM (pv 2) (pv 9))))) bN)))
   (aC (aW (pv 4))))),?_⟩
  clear nd 
  rw [show start ["_law_rows_here", "_law_gaps_here", "_law_much", "_law_way", "_law_found", "_law_name", "_law_start", "_law_size", "_law_pins", "_law_gap"] [.ref l,.ref m,.int x,.int w]=[some (.ref l),some (.ref m),some (.int x),some (.int w),none,none,none,none,none,none] from rfl]
  try dsimp only [cO,bT]
  have bw:ak K CL "many" := ⟨T.clL,T.aY⟩
  have bB:ak K CL "rows" := ⟨T.clL,T.aZ⟩
  have bC:ak K CP "cost" := ⟨T.clP,T.bf⟩
  have aO:ak K CP "number" := ⟨T.clP,T.aN⟩
  have aV:ak K CP "moves" := ⟨T.clP,T.aR⟩
  have aL:ak K CP "stretch" := ⟨T.clP,T.aK⟩
  have aD:ak K CS "stretches" := ⟨T.clS,T.aB⟩
  have rR:=Old.mk (M:=[]) hl nm0
  have Ul:=Old.mk (M:=[]) hm nm0
  have h_:=fY.mk tp
  have F:SH H [] H [] []:=SH.nil
  obtain ⟨bg,few,wy⟩:=side
  have w64:-(2 ^ 64) < w∧w < 2 ^ 64:=by lia
  have yl:ys.length=bs.length:=by rw [tp.1,bL]
  repeat k_meth
  rename Addr=>fo
  refine Iu (by rw [List.length_map];lia) (fun i σ' H'=>∃(much:Int) (dn:List Sp2) (zs:List V) (o5 o6 o7 o8 o9:Option V),σ'=[some (.ref l),some (.ref m),some (.int much),some (.int w),some (.ref fo),o5,o6,o7,o8,o9]∧dn++mq w ((bs.zip gs).drop i) much=mq w (bs.zip gs) x∧zs.length=dn.length∧dn.length≤i∧SH H [] H' [(fo,.lst zs)] [.tps zs (dh dn.reverse)]) ⟨x,[],[],_,_,_,_,_,rfl,List.nil_append _,rfl,Nat.le_refl _,(F.fW (ys:=[]) (rs:=dh ([]:List Sp2).reverse) aJ.nil).sub SbC.s SbI.s⟩ ?_ ?_ ?_
  ·clear F
   rintro i σ' H' _ ⟨_,_,_,_,_,_,_,_,rfl,_,_,_,F⟩
   exact ⟨SqA.e,SqA.e⟩
  ·clear F
   rintro i v u T σ' H' H2 hv hu ⟨much,dn,zs,o5,o6,o7,o8,o9,rfl,em,zl,dl,F⟩ nw
   replace F:=(F.same nw.s).zX nw.e
   obtain ⟨r,q1,e1,rfl,e2⟩:=dj tp hv
   rw [List.getElem?_map] at hu
   obtain ⟨g,hg,rfl⟩:∃g,gs[i]?=some g∧u=.int g:=by
    cases h:gs[i]? with
    | none=>rw [h] at hu;cases hu
    | some g=>rw [h] at hu;exact ⟨g,rfl,(Option.some.inj hu).symm⟩
   have hi:i < bs.length:=(List.getElem?_eq_some_iff.mp e1).1
   have o_q:=Old.mk (M:=[]) e2 nm0
   have dr:(bs.zip gs).drop i=(r,g)::(bs.zip gs).drop (i + 1):=by
    have hz:(bs.zip gs)[i]?=some (r,g):=by rw [List.getElem?_zip_eq_some];exact ⟨e1,hg⟩
    obtain ⟨hi,e⟩:=List.getElem?_eq_some_iff.mp hz
    rw [List.drop_eq_getElem_cons hi,e]
   rw [dr] at em
   have hT:H2 T=some (.tup [.ref q1,.int g]):=bM
   have hq2:H2 q1=some (.tup (dM r)):=bM
   refine ⟨T,_,rfl,SqT.of hT,rfl,.ref q1,_,rfl,q1,_,rfl,SqT.of hq2,rfl,_,_,rfl,_,_,rfl,_,_,rfl,_,_,rfl,rfl,_,_,rfl,rfl,?_⟩
   have eσ:((((([some (V.ref l),some (V.ref m),some (V.int much),some (V.int w),some (V.ref fo),o5,o6,o7,o8,o9].set 5 (some (V.str (tx r.nm)))).set 6 (some (V.int (r.st:Nat)))).set 7 (some (V.int (r.sz:Nat)))).set 8 (some (V.int (r.pn:Nat)))).set 9 (some (V.int g)))=[some (V.ref l),some (V.ref m),some (V.int much),some (V.int w),some (V.ref fo),some (V.str (tx r.nm)),some (V.int (r.st:Nat)),some (V.int (r.sz:Nat)),some (V.int (r.pn:Nat)),some (V.int g)]:=rfl
   rw [eσ]
   repeat k_meth
   refine gG (fun h=>?_) (fun h=>?_)
   ·repeat k_meth
    refine ⟨fo,zs,0,_,rfl,rfl,bM,⟨by lia,by lia,by lia⟩,fun H3 of3 e3=>?_⟩
    have tq:aJ H_ (V.ref p_::zs) (dh (dn++[(r,(r.st:Int) + w * much)]).reverse):=by
     have t0:=((F.tps (ys:=zs) (rs:=dh dn.reverse) LkP.m).rev.snoc (q:=p_) bM).rev
     rw [List.reverse_append,List.reverse_append,List.reverse_reverse,List.reverse_reverse] at t0
     rw [List.reverse_append]
     exact t0
    have e3:H3 fo=some (.lst (V.ref p_::zs)):=e3
    replace F:=(F.fW tq).aah of3 e3 LkU.u
    repeat k_meth
    exact ⟨much - g,dn++[(r,(r.st:Int) + w * much)],V.ref p_::zs,_,_,_,_,_,rfl,by rw [← em,QM h,List.append_assoc];rfl,by rw [List.length_cons,List.length_append,zl];rfl,by rw [List.length_append];show dn.length + 1≤i + 1;lia,F.sub SbC.s SbI.s⟩
   ·repeat k_meth
    exact ⟨much,dn,zs,_,_,_,_,_,rfl,by rw [← em,QL (by lia)],zl,by lia,F.sub SbC.s SbI.s⟩
  ·clear F
   rintro σ' H' ⟨much,dn,zs,_,_,_,_,_,rfl,em,zl,dl,F⟩
   rw [List.drop_of_length_le (by rw [List.length_zip];lia)] at em
   obtain rfl:dn=mq w (bs.zip gs) x:=by rw [← em];exact (List.append_nil _).symm
   repeat k_meth
   exact k _ _ _ SH.nwC TpA.e
end
open M22 M82 M87 M75
structure Ly (H:Hp) (n:Nat) (rs:List Rw) (s:Nat) (c:Chc) (g b:Nat) (m hd:Addr) (ms:List V):Prop where
 m:H m=some (.lst ms)
 t:aJ H ms (dh (mj (tgC n rs (s:Nat) g b)))
 h:H hd=some (.tup [.int (((edR (rs.take g).reverse:Nat):Int) - (b:Int)),.int ((b:Int) + fM n rs g + yOf n rs s g b)])
def Q0 (H:Hp) (n:Nat) (rs:List Rw) (s:Nat) (v:V):Prop:=(lcF n rs (s:Nat)=none∧v=.non)∨∃c g b d m hd ms,lcF n rs (s:Nat)=some c∧Hi n rs s c g b∧v=.ref d∧H d=some (.tup [.int c.1,.int (g:Nat),.ref m,.ref hd])∧Ly H n rs s c g b m hd ms
def Q5 (CP CS:Addr) (H:Hp) (n:Nat) (rs:List Rw) (s:Nat) (y:Addr):Prop:=(lcF n rs (s:Nat)=none∧∃dy q,H y=some (.ins CS dy [("stretches", .ref q)]))∨∃c g b dy m hd ms,lcF n rs (s:Nat)=some c∧Hi n rs s c g b∧H y=some (.ins CP dy (pF c.1 (g:Nat) m hd))∧Ly H n rs s c g b m hd ms
theorem Ly.same {H H':Hp} {n:Nat} {rs:List Rw} {s:Nat} {c:Chc} {g b:Nat} {m hd:Addr} {ms:List V} (h:Ly H n rs s c g b m hd ms) (sm:Same H H'):Ly H' n rs s c g b m hd ms:=⟨sm _ _ h.m,h.t.same sm,sm _ _ h.h⟩
theorem Q0.same {H H':Hp} {n:Nat} {rs:List Rw} {s:Nat} {v:V} (h:Q0 H n rs s v) (sm:Same H H'):Q0 H' n rs s v:=by
 rcases h with h | ⟨c,g,b,d,m,hd,ms,e,co,ev,hd2,p⟩
 ·exact .inl h
 ·exact .inr ⟨c,g,b,d,m,hd,ms,e,co,ev,sm _ _ hd2,p.same sm⟩
theorem Q5.same {CP CS:Addr} {H H':Hp} {n:Nat} {rs:List Rw} {s:Nat} {y:Addr} (h:Q5 CP CS H n rs s y) (sm:Same H H'):Q5 CP CS H' n rs s y:=by
 rcases h with ⟨e,dy,q,h⟩ | ⟨c,g,b,dy,m,hd,ms,e,co,hy,p⟩
 ·exact .inl ⟨e,dy,q,sm _ _ h⟩
 ·exact .inr ⟨c,g,b,dy,m,hd,ms,e,co,sm _ _ hy,p.same sm⟩
def Was (B:List Addr) (H:Hp):Prop:=∀a∈B,∃u,H a=some u∧∀r,u≠.tup r
def Yr:Sp:=fun vs H Q _=>∃(l:Addr) (n:Nat) (zs:List V) (rs:List Rw) (s:Nat),vs=[.int (n:Nat),.ref l,.int (s:Nat)]∧H l=some (.lst zs)∧aJ H zs (aP rs)∧LyA rs n∧1≤s∧∀v H',Same H H'→(∀B,Was B H→Q0 (hides B H') n rs s v)→Q v H'
theorem hid {B:List Addr} {H:Hp} {a:Addr} {u:HO} (e:H a=some u) (n:a ∉ B):hides B H a=some u:=ux.mpr ⟨n,e⟩
theorem Was.tup {B:List Addr} {H H':Hp} (w:Was B H) (s:Same H H') {a:Addr} {r:List V} (e:H' a=some (.tup r)):a ∉ B:=fun hb=>by
 obtain ⟨u,hu,n⟩:=w a hb
 have:=s _ _ hu
 rw [e] at this
 exact n r (Option.some.inj this).symm
theorem Was.new {B:List Addr} {H:Hp} (w:Was B H) {p:Addr} (n:∀c u,H c=some u→c≠p):p ∉ B:=fun hb=>by
 obtain ⟨u,hu,_⟩:=w p hb
 exact n p u hu rfl
theorem Ft {B:List Addr} {H H':Hp} (w:Was B H) (s:Same H H') {ys:List V} {rs:List (List V)} (t:aJ H' ys rs):aJ (hides B H') ys rs:=⟨t.1,fun j r e=>let ⟨q,a,b⟩:=t.2 j r e;⟨q,a,hid b (w.tup s b)⟩⟩
section
variable {P:Program} {w:World} {K:W.Frag} {mg:Str→Option Value} {base:Heap} {c:Nat→Addr} {aG ao R CL CP CS CB:Addr}
theorem Fv (T:Txt K mg c R CL CP CS CB aG ao):Def P w K mg base CX0 4 "_law_due" ["_law_many_here", "_law_rows_here", "_law_size"] Yr:=by
 have Bj:=Bj (P:=P) (w:=w) (base:=base) T
 have iV:=iV (P:=P) (w:=w) (base:=base) T
 have kY:=kY (P:=P) (w:=w) (base:=base) T
 refine bU T.Vl PB (fun vs H Q E h=>?_) (fun _ _ _ _ _ _=>el3 fun _ _ _=>rfl) (fun f cdv A outer s H vs Q E hr h=>?_)
 ·obtain ⟨l,n,zs,rs,s,rfl,_⟩:=h
  rfl
 ·obtain ⟨l,n,zs,rs,s,rfl,hl,tp,lya,s1,k⟩:=h
  have nd:=PB.nd
  refine' ⟨_,?bd0,?main⟩
  case bd0 =>
   refine' au ?s1 ?r1
   case r1 =>
    refine' au ?s2 ?r2
    case r2 =>
     refine' au ?s3 ?r3
     case r3 =>
      refine' au ?s4 ?r4
      case r4 =>
       refine' au ?s5 ?r5
       case r5 =>
        refine' au ?s6 ?r6
        case r6 =>
         refine' au ?s7 ?r7
         case r7 =>
          refine' aC ?s8
          case s8 =>
           exact (aW (dg (aj (pv 4) (aj (pv 5) (aj (pv 9) (aj (dg (aj (aX cM (pv 10) (pv 6)) (aj (aX cD (aX cD (pv 6) (bD bI (pv 8) (pv 5) (fun _ _=>rfl))) (pv 7)) aq))) aq))))))
         case s7 =>
          exact (cL (bK gY (pv 5) aA (bJ _)) (aC (aQ (i:=10) nd rfl (Or.inl rfl) (aX cD (bD bZ (bD bI (pv 1) (aX cM (pv 5) aA) (fun _ _=>rfl)) aA (fun _ _=>rfl)) (bD bZ (bD bI (pv 1) (aX cM (pv 5) aA) (fun _ _=>rfl)) aA (fun _ _=>rfl))))) bN)
        case s6 =>
         exact (aQ (i:=10) nd rfl (Or.inl rfl) aA)
       case s5 =>
        refine' aQ (i:=9) ?n12 ?h12 ?o12 ?e12
        case n12=>exact nd
        case h12=>exact rfl
        case o12=>exact (Or.inl rfl)
        case e12 =>
         exact (aX kZ (aM kY hr (aj (lE (K:=K) rfl (fP fU (pv 1) gZ (g8 (pv 5))) (tQ mQ aA)) (aj (lE (K:=K) rfl (fP fU (pv 8) gZ (g8 (pv 5))) (tQ mQ aA)) (aj (pv 6) (aj (aX cM aA aA) aq))))) (aM kY hr (aj (fP fU (pv 1) (g8 (pv 5)) gZ) (aj (fP fU (pv 8) (g8 (aX cD (pv 5) aA)) gZ) (aj (pv 7) (aj aA aq))))))
      case s4 =>
       exact (aQ (i:=8) nd rfl (Or.inl rfl) (aM iV hr (aj (pv 0) (aj (pv 1) aq))))
     case s3 =>
      exact (tK (pv 3) (iZ rfl (bV (bH (i:=4) nd rfl (Or.inl rfl)) (bV (bH (i:=5) nd rfl (Or.inl rfl)) (bV (bH (i:=6) nd rfl (Or.inl rfl)) (bV (bH (i:=7) nd rfl (Or.inl rfl)) gD))))))
    case s2 =>
     exact (cL (bK zR (pv 3) dz (bJ _)) (aC (aW dz)) bN)
   case s1 =>
    exact (aQ (i:=3) nd rfl (Or.inl rfl) (aM Bj hr (aj (pv 0) (aj (pv 1) (aj (pv 2) aq)))))
  clear nd Bj iV kY
  rw [show start ["_law_many_here", "_law_rows_here", "_law_size", "_law_best_here", "_law_price", "_law_g", "_law_x", "_law_y", "_law_gaps_here", "_law_moves_here", "_law_at"] [.int (n:Nat),.ref l,.int (s:Nat)]=[some (.int (n:Nat)),some (.ref l),some (.int (s:Nat)),none,none,none,none,none,none,none,none] from rfl]
  try dsimp only [cO,bT]
  have bw:ak K CL "many" := ⟨T.clL,T.aY⟩
  have bB:ak K CL "rows" := ⟨T.clL,T.aZ⟩
  have bC:ak K CP "cost" := ⟨T.clP,T.bf⟩
  have aO:ak K CP "number" := ⟨T.clP,T.aN⟩
  have aV:ak K CP "moves" := ⟨T.clP,T.aR⟩
  have aL:ak K CP "stretch" := ⟨T.clP,T.aK⟩
  have aD:ak K CS "stretches" := ⟨T.clS,T.aB⟩
  have rR:=Old.mk (M:=[]) hl nm0
  have h_:=fY.mk tp
  have F:SH H [] H [] []:=SH.nil
  have few:=lya.l.few
  have m_:=lya.h
  have gl_:=d8 n rs
  have zl:zs.length=rs.length:=by rw [tp.1,bL]
  repeat k_meth
  intro v0 H1 s1_ bv
  replace F:=F.same s1_
  cases e:lcF n rs (s:Nat) with
  | none =>
   rw [e] at bv
   obtain rfl:v0=.non:=bv
   repeat k_meth
   exact k _ _ F.sm fun B w=>.inl ⟨e,rfl⟩
  | some c1 =>
   rw [e] at bv
   obtain ⟨q,rfl,hq⟩:=bv
   replace F:=F.zX hq
   obtain ⟨_,g,b,co⟩:=J4 lya e
   have hg:=co.hg
   have gd:(aF n rs).getD c1.2.1.toNat 0=fM n rs g:=by rw [co.eg,Int.toNat_natCast,List.getD_eq_getElem?_getD,kO hg];rfl
   have yd:max 0 ((s:Int) - (aF n rs).getD c1.2.1.toNat 0 - c1.2.2)=yOf n rs s g b:=by rw [gd,co.eb];rfl
   rw [yd,co.eg,co.eb] at F
   have a0:AtI ((aF n rs).map V.int) ((g:Nat):Int) (.int (fM n rs g)):=⟨b_ (by rw [List.getElem?_map,kO hg];rfl)⟩
   have len1:(rs.take g).reverse.length=((aF n rs).take g).reverse.length:=by simp;lia
   have len2:(rs.drop g).length=((aF n rs).drop (g + 1)).length:=by simp;lia
   have nml:=vR lya.l
   repeat k_meth
   refine ⟨_,_,(zs.take g).reverse,(rs.take g).reverse,((aF n rs).take g).reverse,_,_,rfl,by rw [← oF];exact bM,Vw (Vu TpA.e g),by rw [← Fj];exact bM,⟨len1,by simp;lia,.inr rfl⟩,fun q1 z1 H2 n1 t1=>?_⟩
   replace F:=F.newR n1 t1
   have zl1:z1.length≤40:=by
    have h1:=t1.1
    have h2:=pG (w:=0 - 1) (t:=(rs.take g).reverse.zip ((aF n rs).take g).reverse) (x:=(b:Nat))
    rw [List.length_zip,List.length_reverse,List.length_take] at h2
    rw [h1,gR,List.length_reverse]
    lia
   repeat k_meth
   refine ⟨_,_,zs.drop g,rs.drop g,(aF n rs).drop (g + 1),_,_,rfl,by rw [← uw];exact bM,Vv TpA.e g,by rw [← Fl];exact bM,⟨len2,by simp;lia,.inl rfl⟩,fun q2 z2 H3 n2 t2=>?_⟩
   replace F:=F.newR n2 t2
   have zl2:z2.length≤40:=by
    have h1:=t2.1
    have h2:=pG (w:=1) (t:=(rs.drop g).zip ((aF n rs).drop (g + 1))) (x:=yOf n rs s g b)
    rw [List.length_zip,List.length_drop] at h2
    rw [h1,gR,List.length_reverse]
    lia
   have tq:aJ H3 (z1++z2) (dh (mj (tgC n rs (s:Nat) g b))):=by
    have h:=(F.tps (ys:=z1) LkP.m).app (F.tps (ys:=z2) LkP.m)
    unfold tgC
    rw [Jh,show dh (_++_)=dh _++dh _ from List.map_append,← Fp (v7 lya.ok g),← Fq (v8 lya.ok g),← QX hg,← QZ]
    exact h
   replace F:=F.fW tq
   repeat k_meth
   rcases Nat.eq_zero_or_pos g with h0 | h0
   ·repeat k_meth
    refine (fun h:H_ _=some (.tup [.int (((edR (rs.take g).reverse:Nat):Int) - (b:Int)),.int ((b:Int) + fM n rs g + yOf n rs s g b)])=>k _ _ F.sm fun B w=>.inr ⟨c1,g,b,_,_,_,z1++z2,e,co,rfl,hid bM (w.tup F.sm bM),⟨hid bM (w.new fun c u hc=>F.fresh LkL.m nm0 c u hc),Ft w F.sm TpA.e,hid h (w.tup F.sm h)⟩⟩) ?_
    rw [show rs.take g=[] by rw [h0];rfl]
    exact bM
   ·obtain ⟨g0,rfl⟩:∃g0,g=g0 + 1:=⟨g - 1,by lia⟩
    obtain ⟨r,hr⟩:∃r,rs[g0]?=some r:=⟨_,List.getElem?_eq_getElem (by lia)⟩
    obtain ⟨q3,e3,e4⟩:∃q1,zs[g0]?=some (.ref q1)∧H q1=some (.tup (dM r)):=tp.2 g0 _ (by unfold aP;rw [List.getElem?_map,hr];rfl)
    have afN:=Old.mk (M:=[]) e4 nm0
    have a1:AtI zs (((g0 + 1:Nat):Int) - 1) (.ref q3):=⟨by rw [show (((g0 + 1:Nat):Int) - 1)=((g0:Nat):Int) by lia];exact b_ e3⟩
    repeat k_meth
    refine (fun h:H_ _=some (.tup [.int (((edR (rs.take (g0 + 1)).reverse:Nat):Int) - (b:Int)),.int ((b:Int) + fM n rs (g0 + 1) + yOf n rs s (g0 + 1) b)])=>k _ _ F.sm fun B w=>.inr ⟨c1,(g0 + 1),b,_,_,_,z1++z2,e,co,rfl,hid bM (w.tup F.sm bM),⟨hid bM (w.new fun c u hc=>F.fresh LkL.m nm0 c u hc),Ft w F.sm TpA.e,hid h (w.tup F.sm h)⟩⟩) ?_
    rw [oV hr,show ((edR (r::(rs.take g0).reverse):Nat):Int)=(r.st:Int) + (r.sz:Int) from Int.natCast_add ..]
    exact bM
end
open M22 M82 M87 M75
def Q6 (CP:Addr):Sp:=fun vs H Q _=>∃(y d dy m1 h1 m2 h2:Addr) (ms1 ms2:List V) (ss:List Sp2) (c g a b:Int) (tn:Bool),vs=[.ref y,.ref d,.bl tn]∧H y=some (.ins CP dy (pF c g m1 h1))∧H d=some (.tup [.int c,.int g,.ref m2,.ref h2])∧(H m1=some (.lst ms1)∧H m2=some (.lst ms2))∧(aJ H ms1 (dh ss)∧aJ H ms2 (dh ss))∧(H h1=some (.tup [.int a,.int b])∧H h2=some (.tup [.int a,.int b]))∧ss.length≤40∧∀H',Same H H'→Q (.bl true) H'
def Lz (CP CS:Addr):Sp:=fun vs H Q _=>∃(y:Addr) (v:V) (n:Nat) (rs:List Rw) (s:Nat) (tn:Bool),vs=[.ref y,v,.bl tn]∧Q5 CP CS H n rs s y∧Q0 H n rs s v∧rs.length≤40∧∀H',Same H H'→Q (.bl true) H'
section
variable {c g:Int} {m t q:Addr}
instance Zh:FNo (pF c g m t) "brings" := ⟨rfl⟩
instance Zi:FNo [("stretches", V.ref q)] "brings" := ⟨rfl⟩
instance abF:FNo (pF c g m t) "price" := ⟨rfl⟩
instance abG:FNo [("stretches", V.ref q)] "price" := ⟨rfl⟩
instance aeK:FNo (pF c g m t) "gap" := ⟨rfl⟩
instance aeL:FNo [("stretches", V.ref q)] "gap" := ⟨rfl⟩
instance acU:FNo (pF c g m t) "hole" := ⟨rfl⟩
instance acV:FNo [("stretches", V.ref q)] "hole" := ⟨rfl⟩
instance Zj:FNo (pF c g m t) "slides" := ⟨rfl⟩
instance Zk:FNo [("stretches", V.ref q)] "slides" := ⟨rfl⟩
instance Ys:FNo (pF c g m t) "counted" := ⟨rfl⟩
end
theorem sZ (ss:List Sp2):∀r∈dh ss,∀v∈r,fj v=true:=fun r hr v hv=>by
 obtain ⟨s,_,rfl⟩:=List.mem_map.mp hr
 simp only [List.mem_cons,List.not_mem_nil,or_false] at hv
 rcases hv with rfl | rfl <;> rfl
section
variable {K:W.Frag} {H:Hp} {Q:VK} {p q:Addr} {ys zs:List V} {ss:List Sp2} {a b:Int}
instance Zm [h:Hat H p (.lst [])] [h2:Hat H q (.lst [])]:Go (Ce K (.ref p) (.ref q) H Q) (Q (.bl false) H):=⟨S_ (ts:=[]) (SqL.of h.e) (SqL.of h2.e)⟩
instance acW [h:Hat H p (.lst ys)] [t:TpA H ys (dh ss)] [h2:Hat H q (.lst zs)] [t2:TpA H zs (dh ss)]:Go (Ce K (.ref p) (.ref q) H Q) (Q (.bl false) H):=⟨Cj (jZ (SqL.of h.e) t.e (sZ ss)) (jZ (SqL.of h2.e) t2.e (sZ ss)) (by have:=pY (dh ss);lia)⟩
instance acX [h:Hat H p (.lst ys)] [t:TpA H ys (dh ss)] [h2:Hat H q (.lst zs)] [t2:TpA H zs (dh ss)]:Go (Oa K (.ref p) (.ref q) H Q) (Q (.bl true) H):=⟨Og (jZ (SqL.of h.e) t.e (sZ ss)) (jZ (SqL.of h2.e) t2.e (sZ ss)) (by have:=pY (dh ss);lia)⟩
instance acY [h:Hat H p (.tup [.int a,.int b])] [h2:Hat H q (.tup [.int a,.int b])]:Go (Ce K (.ref p) (.ref q) H Q) (Q (.bl false) H):=⟨Cj (Ir h.e fun v hv=>by simp at hv;rcases hv with rfl | rfl <;> rfl) (Ir h2.e fun v hv=>by simp at hv;rcases hv with rfl | rfl <;> rfl) L2.TQ⟩
end
section
variable {P:Program} {w:World} {K:W.Frag} {mg:Str→Option Value} {base:Heap} {c:Nat→Addr} {aG ao R CL CP CS CB:Addr}
theorem tD (T:Txt K mg c R CL CP CS CB aG ao):Def P w K mg base CX0 2 "_law_plan_right" ["_law_paper", "_law_due_here", "_law_turned"] (Q6 CP):=by
 have gC:=gC (P:=P) (w:=w) (base:=base) T
 have jP:=jP (P:=P) (w:=w) (base:=base) T
 have jx:=jx (P:=P) (w:=w) (base:=base) T
 have jw:=jw (P:=P) (w:=w) (base:=base) T
 have fK:=fK (P:=P) (w:=w) (base:=base) T
 have pA:=pA (P:=P) (w:=w) (base:=base) T
 have kW:=kW (P:=P) (w:=w) (base:=base) T
 refine bU T.JL Dj (fun vs H Q E h=>?_) (fun _ _ _ _ _ _=>el3 fun _ _ _=>rfl) (fun f cdv A outer s H vs Q E hr h=>?_)
 ·obtain ⟨y,d,dy,m1,h1,m2,h2,ms1,ms2,ss,c0,g,a,b,tn,rfl,_⟩:=h
  rfl
 ·obtain ⟨y,d,dy,m1,h1,m2,h2,ms1,ms2,ss,c0,g,a,b,tn,rfl,hy,hd,hm,ht,hh,few,k⟩:=h
  have nd:=Dj.nd
  refine ⟨_,(au (tK (pv 1) (iZ rfl (bV (bH (i:=3) nd rfl (Or.inl rfl)) (bV (bH (i:=4) nd rfl (Or.inl rfl)) (bV (bH (i:=5) nd rfl (Or.inl rfl)) (bV (bH (i:=6) nd rfl (Or.inl rfl)) gD))))))
   (au (cL (PW.pt (eU (cW (cP (bF cR rfl T.bR boot_isinstance (aj (pv 0) (aj (jm (v:=.ref CP) ⟨_,T.sH,rfl⟩) aq))))) (eU (cP (bF cR rfl T.bR boot_isinstance (aj (pv 0) (aj (jm (v:=.ref CS) ⟨_,T.oA,rfl⟩) aq)))) (f9 (cW (cP (bF cR rfl T.bR boot_isinstance (aj (pv 0) (aj (jm (v:=.ref CB) ⟨_,T.vK,rfl⟩) aq))))))))) (aC (aW fZ)) bN)
   (au (cL (PW.pt (zF (cP (pv 2)) (zE (bK (jX hr) (cG (pv 0) T.clP gC hr) (pv 5) (bJ _))))) (aC (aW fZ)) bN)
   (au (cL (PW.pt (eU (bK S5 (cG (pv 0) T.clP jP hr) fZ (bJ _)) (eU (cW (cP (aM jx hr (aj (cG (pv 0) T.clP jw hr) aq)))) (eU (bK Hy (cG (pv 0) T.clP jw hr) (pv 3) (bJ _)) (f9 (bK (jX hr) (cG (pv 0) T.clP fK hr) (cj aq) (bJ _))))))) (aC (aW fZ)) bN)
   (au (cL (PW.pt (eU (cW (cP (aM jx hr (aj (cG (pv 0) T.clP pA hr) aq)))) (eU (bK Hy (cG (pv 0) T.clP pA hr) (pv 4) (bJ _)) (eU (cW (cP (bF cR rfl T.bR boot_isinstance (aj (cG (pv 0) T.clP kW hr) (aj (jo (T := "tuple") rfl T.n6 boot_tuple) aq))))) (f9 (bK (jX hr) (cG (pv 0) T.clP kW hr) (pv 6) (bJ _))))))) (aC (aW fZ)) bN)
   (au (aQ (i:=7) nd rfl (Or.inl rfl) (cG (pv 0) T.clP gC hr))
   (au (cL (PW.pt (eU (cW (cP (bF cR rfl T.bR boot_isinstance (aj (pv 7) (aj (jo (T := "list") rfl T.ji boot_list) aq))))) (f9 (bK (jX hr) (pv 7) (pv 5) (bJ _))))) (aC (aW fZ)) bN)
   (au (dB PassesOwn.never rfl (d7 (pv 7)) (bH (i:=8) nd rfl (Or.inl rfl)) (aC (cL (PW.pt (eU (cW (cP (bF cR rfl T.bR boot_isinstance (aj (pv 8) (aj (jo (T := "tuple") rfl T.n6 boot_tuple) aq))))) (eU (cW (cP (bF cR rfl T.bR boot_isinstance (aj (bD bZ (pv 8) aA (fun _ _=>rfl)) (aj (jo (T := "str") rfl T.Qd boot_str) aq))))) (f9 (cW (cP (aM jx hr (aj (bD bZ (pv 8) aA (fun _ _=>rfl)) aq)))))))) (aC (aW fZ)) bN)))
   (au (cV (cJ (pv 7) (dg (aj mO (aj aA aq)))))
   (au (cV (cJ (cG (pv 0) T.clP fK hr) (dg (aj aA (aj aA (aj aA aq))))))
   (aC (aW (gh (dR (uf hr) (cG (pv 0) T.clP gC hr) (pv 5) (bJ _)) (iz (dR (uf hr) (cG (pv 0) T.clP fK hr) (cj aq) (bJ _)))))))))))))))),?_⟩
  clear nd gC jP jx jw fK pA kW
  rw [show start ["_law_paper", "_law_due_here", "_law_turned", "_law_price", "_law_g", "_law_moves_here", "_law_hole", "_law_told", "_law_move"] [.ref y,.ref d,.bl tn]=[some (.ref y),some (.ref d),some (.bl tn),none,none,none,none,none,none] from rfl]
  try dsimp only [cO,bT]
  have bw:ak K CL "many" := ⟨T.clL,T.aY⟩
  have bB:ak K CL "rows" := ⟨T.clL,T.aZ⟩
  have bC:ak K CP "cost" := ⟨T.clP,T.bf⟩
  have aO:ak K CP "number" := ⟨T.clP,T.aN⟩
  have aV:ak K CP "moves" := ⟨T.clP,T.aR⟩
  have aL:ak K CP "stretch" := ⟨T.clP,T.aK⟩
  have aD:ak K CS "stretches" := ⟨T.clS,T.aB⟩
  have rT:=Old.mk (M:=[]) hy nm0
  have aeM:=Old.mk (M:=[]) hd nm0
  have F:SH H [] H [] []:=SH.nil
  have hm1:=hm.1
  have hm2:=hm.2
  have ht1:=ht.1
  have ht2:=ht.2
  have hh1:=hh.1
  have hh2:=hh.2
  have afa:=Old.mk (M:=[]) hm1 nm0
  have afb:=Old.mk (M:=[]) hm2 nm0
  have afc:=Old.mk (M:=[]) hh1 nm0
  have afd:=Old.mk (M:=[]) hh2 nm0
  have afe:=fY.mk ht1
  have afg:=fY.mk ht2
  have ml1:ms1.length≤40:=by rw [ht1.1,gR];exact few
  have ml2:ms2.length≤40:=by rw [ht2.1,gR];exact few
  repeat k_meth
  refine isR hy T.clP T.yN T.Av T.Aw T.yO Fg ?_
  repeat k_meth
  refine isN hy T.clP T.yN T.Av T.Aw T.yO T.kPS ?_
  repeat k_meth
  refine isR hy T.clP T.yN T.Av T.Aw T.yO T.kPB ?_
  repeat k_meth
  cases tn with
  | false =>
   rw [if_neg (by simp)]
   repeat k_meth
   obtain ⟨td,e⟩:∃z,z=p_:=⟨_,rfl⟩
   subst e
   refine g_ (xs:=ms1) (fun i σ' H'=>∃o8:Option V,σ'=[some (.ref y),some (.ref d),some (.bl false),some (.int c0),some (.int g),some (.ref m2),some (.ref h2),some (.ref td),o8]∧SH H [] H' [(td,.lst ms1)] []) ⟨_,rfl,F.sub SbC.s SbI.s⟩ ?_ ?_ ?_
   ·clear F
    rintro i σ' H' _ ⟨_,rfl,F⟩
    exact SqA.e
   ·clear F
    rintro i v σ' H' hv ⟨_,rfl,F⟩
    obtain ⟨x0,q1,rfl,e2⟩:∃(x0:Sp2) (q1:Addr),v=.ref q1∧H q1=some (.tup (mvS x0)):=by
     obtain ⟨hi,ev⟩:=List.getElem?_eq_some_iff.mp hv
     have hi2:i < ss.length:=by rw [ht1.1,gR] at hi;exact hi
     obtain ⟨q1,a1,b1⟩:=ht1.2 i (mvS ss[i]) (by unfold dh;rw [List.getElem?_map,List.getElem?_eq_getElem hi2];rfl)
     rw [hv] at a1
     exact ⟨_,q1,Option.some.inj a1,b1⟩
    have qK:=Old.mk (M:=[]) e2 nm0
    repeat k_meth
    exact ⟨_,rfl,F.sub SbC.s SbI.s⟩
   ·clear F
    rintro σ' H' ⟨_,rfl,F⟩
    repeat k_meth
    exact k _ F.sm
  | true =>
   rw [if_pos rfl]
   repeat k_meth
   obtain ⟨td,e⟩:∃z,z=p_:=⟨_,rfl⟩
   subst e
   refine g_ (xs:=ms1) (fun i σ' H'=>∃o8:Option V,σ'=[some (.ref y),some (.ref d),some (.bl true),some (.int c0),some (.int g),some (.ref m2),some (.ref h2),some (.ref td),o8]∧SH H [] H' [(td,.lst ms1)] []) ⟨_,rfl,F.sub SbC.s SbI.s⟩ ?_ ?_ ?_
   ·clear F
    rintro i σ' H' _ ⟨_,rfl,F⟩
    exact SqA.e
   ·clear F
    rintro i v σ' H' hv ⟨_,rfl,F⟩
    obtain ⟨x0,q1,rfl,e2⟩:∃(x0:Sp2) (q1:Addr),v=.ref q1∧H q1=some (.tup (mvS x0)):=by
     obtain ⟨hi,ev⟩:=List.getElem?_eq_some_iff.mp hv
     have hi2:i < ss.length:=by rw [ht1.1,gR] at hi;exact hi
     obtain ⟨q1,a1,b1⟩:=ht1.2 i (mvS ss[i]) (by unfold dh;rw [List.getElem?_map,List.getElem?_eq_getElem hi2];rfl)
     rw [hv] at a1
     exact ⟨_,q1,Option.some.inj a1,b1⟩
    have qK:=Old.mk (M:=[]) e2 nm0
    repeat k_meth
    exact ⟨_,rfl,F.sub SbC.s SbI.s⟩
   ·clear F
    rintro σ' H' ⟨_,rfl,F⟩
    repeat k_meth
    exact k _ F.sm
theorem iK (T:Txt K mg c R CL CP CS CB aG ao):Def P w K mg base CX0 3 "_law_paper_right" ["_law_paper", "_law_due_here", "_law_turned"] (Lz CP CS):=by
 have tD:=tD (P:=P) (w:=w) (base:=base) T
 have lY:=lY (P:=P) (w:=w) (base:=base) T
 have sY:=sY (P:=P) (w:=w) (base:=base) T
 have pB:=pB (P:=P) (w:=w) (base:=base) T
 have iJ:=iJ (P:=P) (w:=w) (base:=base) T
 have jQ:=jQ (P:=P) (w:=w) (base:=base) T
 refine bU T.DQ yc (fun vs H Q E h=>?_) (fun _ _ _ _ _ _=>el3 fun _ _ _=>rfl) (fun f cdv A outer s H vs Q E hr h=>?_)
 ·obtain ⟨y,v,n,rs,s,tn,rfl,_⟩:=h
  rfl
 ·obtain ⟨y,v,n,rs,s,tn,rfl,pa,du,few,k⟩:=h
  have nd:=yc.nd
  refine ⟨_,(au (cL (bK fV (pv 1) dz (bJ _)) (aC (aW (aM tD hr (aj (pv 0) (aj (pv 1) (aj (pv 2) aq)))))) bN)
   (au (cL (PW.pt (eU (cW (cP (bF cR rfl T.bR boot_isinstance (aj (pv 0) (aj (jm (v:=.ref CS) ⟨_,T.oA,rfl⟩) aq))))) (eU (cP (bF cR rfl T.bR boot_isinstance (aj (pv 0) (aj (jm (v:=.ref CP) ⟨_,T.sH,rfl⟩) aq)))) (f9 (cW (cP (bF cR rfl T.bR boot_isinstance (aj (pv 0) (aj (jm (v:=.ref CB) ⟨_,T.vK,rfl⟩) aq))))))))) (aC (aW fZ)) bN)
   (au (cL (PW.pt (eU (bK fV (cG (pv 0) T.clS lY hr) dz (bJ _)) (eU (bK fV (cG (pv 0) T.clS sY hr) dz (bJ _)) (f9 (bK fV (cG (pv 0) T.clS pB hr) dz (bJ _)))))) (aC (aW fZ)) bN)
   (au (cV (cJ (cG (pv 0) T.clS iJ hr) (dg (aj mO (aj aA aq)))))
   (aC (aW (gh (dR WK (cG (pv 0) T.clS jQ hr) fZ (bJ _)) (iz (dR (uf hr) (cG (pv 0) T.clS iJ hr) (cj aq) (bJ _)))))))))),?_⟩
  clear nd tD lY sY pB iJ jQ
  rw [show start ["_law_paper", "_law_due_here", "_law_turned"] [.ref y,v,.bl tn]=[some (.ref y),some (v),some (.bl tn)] from rfl]
  try dsimp only [cO,bT]
  have bw:ak K CL "many" := ⟨T.clL,T.aY⟩
  have bB:ak K CL "rows" := ⟨T.clL,T.aZ⟩
  have bC:ak K CP "cost" := ⟨T.clP,T.bf⟩
  have aO:ak K CP "number" := ⟨T.clP,T.aN⟩
  have aV:ak K CP "moves" := ⟨T.clP,T.aR⟩
  have aL:ak K CP "stretch" := ⟨T.clP,T.aK⟩
  have aD:ak K CS "stretches" := ⟨T.clS,T.aB⟩
  have F:SH H [] H [] []:=SH.nil
  rcases pa with ⟨e,dy,q,hy⟩ | ⟨c1,g,b,dy,m1,h1,ms1,e,co,hy,p1⟩
  ·obtain rfl:v=.non:=by
    rcases du with ⟨_,h⟩ | ⟨_,_,_,_,_,_,_,e2,_⟩
    ·exact h
    ·rw [e] at e2;cases e2
   have rT:=Old.mk (M:=[]) hy nm0
   repeat k_meth
   refine isR hy T.clS T.yP T.Av T.Aw T.yQ Fg ?_
   repeat k_meth
   refine isN hy T.clS T.yP T.Av T.Aw T.yQ T.kSP ?_
   repeat k_meth
   refine isR hy T.clS T.yP T.Av T.Aw T.yQ T.kSB ?_
   repeat k_meth
   exact k _ F.sm
  ·obtain ⟨d,m2,h2,ms2,rfl,hd,p2⟩:∃d m2 h2 ms2,v=.ref d∧H d=some (.tup [.int c1.1,.int (g:Nat),.ref m2,.ref h2])∧Ly H n rs s c1 g b m2 h2 ms2:=by
    rcases du with ⟨h,_⟩ | ⟨c2,g2,b2,d,m2,h2,ms2,e2,co2,ev,hd,p2⟩
    ·rw [e] at h;cases h
    ·rw [e] at e2
     obtain rfl:=Option.some.inj e2
     have eg:g=g2:=Int.natCast_inj.mp (co.eg.symm.trans co2.eg)
     have eb:b=b2:=Int.natCast_inj.mp (co.eb.symm.trans co2.eb)
     subst eg eb
     exact ⟨d,m2,h2,ms2,ev,hd,p2⟩
   have Yb:(mj (tgC n rs (s:Nat) g b)).length≤40:=by
    have h1:=Fe (tgC n rs (s:Nat) g b)
    have h2:(tgC n rs (s:Nat) g b).length=rs.length:=by rw [← List.length_map (f:=(·.1)),show (tgC n rs (s:Nat) g b).map (·.1)=rs from Je ..]
    lia
   have aeM:=Old.mk (M:=[]) hd nm0
   repeat k_meth
   refine ⟨y,d,dy,m1,h1,m2,h2,ms1,ms2,_,_,_,_,_,_,rfl,hy,hd,⟨p1.m,p2.m⟩,⟨p1.t,p2.t⟩,⟨p1.h,p2.h⟩,Yb,fun H2 s2=>?_⟩
   replace F:=F.same s2
   repeat k_meth
   exact k _ F.sm
end
open M22 M82 M87 M75
def Bk (P:Addr) (K:W.Frag):Sp:=fun vs H Q _=>∃(a:Addr) (ns:List Int),vs=[.ref a]∧SqL K H a (ns.map V.int)∧ns.length≤63∧H P=some (.tbl #[])∧a≠P∧∀H',Q (.bl true) H'
theorem Q9 {n:Nat}:∀{rs:List Rw} {e:Nat},OkA e n rs→e≤n→0≤(rs.map fun r=>(r.sz:Int)).sum∧(rs.map fun r=>(r.sz:Int)).sum≤(n:Int) - (e:Int)
 | [],e,_,h=>by simp;lia
 | r::rs,e,ok,h=>by
  have hd:=ok.hd
  have ih:=Q9 ok.tail (by lia)
  rw [List.map_cons,List.sum_cons]
  lia
theorem Hl {CL CP CS P x p dx bx:Addr} {pos:Pos} {qual:Str} {H:Hp} {Q:VK} {E:XK} {n s:Nat} {zs xs:List V} {rs:List Rw} {ps:Array Value} (ly:LyH CL H x p dx n zs rs) (lya:LyA rs n) (s1:1≤s) (hP:H P=some (.tbl ps)) (tk:TabOk pos qual ps H) (hb:H bx=some (.lst xs)) (nb:bx≠P)
  (k:∀y H' ps',Kp P H H'→H' P=some (.tbl ps')→TabOk pos qual ps' H'→Q5 CP CS (hides [bx,P] H') n rs s y→Q (.ref y) H'):J6 CL CP CS P pos qual [.ref x,.int (s:Nat)] H Q E:=by
 refine ⟨x,p,dx,n,zs,rs,s,ps,rfl,ly,lya,s1,hP,tk,?_⟩
 have nB:∀{H':Hp} {c:Addr} {u:HO} {ps':Array Value},H' P=some (.tbl ps')→H' c=some u→(∀q,u≠.tbl q)→c≠bx→c ∉ [bx,P]:=fun hP' hc nt ncb=>by
  simp only [List.mem_cons,List.not_mem_nil,or_false,not_or]
  refine ⟨ncb,fun z=>?_⟩
  subst z
  rw [hc] at hP'
  exact nt _ (Option.some.inj hP')
 cases e:lcF n rs (s:Nat) with
 | none =>
  refine .inl ⟨rfl,fun y dy q ys H' F=>?_⟩
  have hy:H' y=some (.ins CS dy [("stretches", .ref q)]):=bM
  have hP':=F.sm _ _ hP
  refine k y H' ps (fun a u _ e=>F.sm a u e) hP' (TabOk.st _ _ (fun a o _ e=>F.sm a o e) tk) (.inl ⟨e,dy,q,hid hy (nB hP' hy (by simp) fun z=>F.fresh (LkL.m (a:=y)) nm0 _ _ hb z.symm)⟩)
 | some c =>
  obtain ⟨_,g,b,co⟩:=J4 lya e
  refine .inr ⟨c,g,b,rfl,co,fun y dy m ms t ps' H' F=>?_⟩
  have hy:H' y=some (.ins CP dy (pF c.1 (g:Nat) m t)):=bM
  have hm:H' m=some (.lst ms):=bM
  have hP':H' P=some (.tbl ps'):=bM
  have ht:H' t=some (.tup _):=F.tup (q:=t) LkI.m
  have tm:aJ H' ms _:=F.tps (ys:=ms) LkP.m
  have hb':H' bx=some (.lst xs):=F.kpo _ _ nb hb
  have hi:=Uz lya co
  rw [hi.1,hi.2] at ht
  have nyP:y ∉ [P]:=fun z=>by rw [List.mem_singleton.mp z,hP'] at hy;cases hy
  have nmP:m ∉ [P]:=fun z=>by rw [List.mem_singleton.mp z,hP'] at hm;cases hm
  refine k y H' ps' F.kpo hP' SH.tab (.inr ⟨c,g,b,dy,m,t,ms,e,co,hid hy (nB hP' hy (by simp) fun z=>F.fresh (LkL.m (a:=y)) nyP _ _ hb z.symm),⟨hid hm (nB hP' hm (by simp) fun z=>F.fresh (LkL.m (a:=m)) nmP _ _ hb z.symm),⟨tm.1,fun j r ej=>?_⟩,hid ht (nB hP' ht (by simp) fun z=>?_)⟩⟩)
  ·obtain ⟨q,a1,b1⟩:=tm.2 j r ej
   exact ⟨q,a1,hid b1 (nB hP' b1 (by simp) fun z=>by rw [z,hb'] at b1;cases b1)⟩
  ·rw [z,hb'] at ht
   cases ht
section
variable {P:Program} {w:World} {K:W.Frag} {mg:Str→Option Value} {base:Heap} {c:Nat→Addr} {aG ao R CL CP CS CB:Addr}
theorem Yt (T:Txt K mg c R CL CP CS CB aG ao) (B:Bm mg base) {f:Addr} {fd:FuncData} (F:Fun K "law" "law" nZ f fd):i_ P w K mg base CX0 12 f fd ["_law_script"] (Bk ao K):=by
 have JV:=JV (P:=P) (w:=w) (base:=base) T
 have Az:=Az (P:=P) (w:=w) (base:=base) T
 have gM:=gM (P:=P) (w:=w) (base:=base) T B
 have Fv:=Fv (P:=P) (w:=w) (base:=base) T
 have qO:=qO (P:=P) (w:=w) (base:=base) T B
 have lJ:=lJ (P:=P) (w:=w) (base:=base) T
 have Ax:=Ax (P:=P) (w:=w) (base:=base) T
 have cA:=cA (P:=P) (w:=w) (base:=base) T
 have sS:=sS (P:=P) (w:=w) (base:=base) T
 have iK:=iK (P:=P) (w:=w) (base:=base) T
 refine Ss F PJ (fun vs H Q E h=>?_) (fun cdv A outer s H vs Q E hr h=>?_)
 ·obtain ⟨a,ns,rfl,_⟩:=h
  rfl
 ·obtain ⟨a,ns,rfl,hS,hl,hP,hne,k⟩:=h
  have nd:=PJ.nd
  refine' ⟨_,?bd0,?main⟩
  case bd0 =>
   refine' au ?s1 ?r1
   case r1 =>
    refine' aC ?s2
    case s2 =>
     exact (aW fZ)
   case s1 =>
    refine' dB PassesOwn.never rfl ?i4 ?g4 ?d4
    case g4=>exact (bH (i:=1) nd rfl (Or.inl rfl))
    case d4 =>
     refine' au ?s5 ?r5
     case r5 =>
      refine' au ?s6 ?r6
      case r6 =>
       refine' au ?s7 ?r7
       case r7 =>
        refine' au ?s8 ?r8
        case r8 =>
         refine' au ?s9 ?r9
         case r9 =>
          refine' au ?s10 ?r10
          case r10 =>
           refine' au ?s11 ?r11
           case r11 =>
            refine' au ?s12 ?r12
            case r12 =>
             refine' au ?s13 ?r13
             case r13 =>
              refine' au ?s14 ?r14
              case r14 =>
               refine' au ?s15 ?r15
               case r15 =>
                refine' au ?s16 ?r16
                case r16 =>
                 refine' au ?s17 ?r17
                 case r17 =>
                  refine' aC ?s18
                  case s18 =>
                   exact (cL (PW.pt (eU (cW (cP (aM iK hr (aj (aM qO hr (aj (pv 8) (aj (pv 7) aq))) (aj (pv 9) (aj (Fx (pv 10)) aq)))))) (f9 (cW (cP (aM iK hr (aj (pv 11) (aj (pv 9) (aj fZ aq))))))))) (aC (aW fZ)) bN)
                 case s17 =>
                  exact (cL (PW.pt (eU (cW (cP (aM iK hr (aj (pv 11) (aj (pv 9) (aj (pv 10) aq)))))) (f9 (cW (cP (aM iK hr (aj (pv 13) (aj (aM Fv hr (aj (pv 3) (aj (pv 4) (aj (pv 12) aq)))) (aj (pv 10) aq))))))))) (aC (aW fZ)) bN)
                case s16 =>
                 exact (aQ (i:=13) nd rfl (Or.inl rfl) (aM qO hr (aj (pv 8) (aj (pv 12) aq))))
               case s15 =>
                exact (aQ (i:=12) nd rfl (Or.inl rfl) (aX cD aA (aM cA hr (aj (pv 2) (aj aA aq)))))
              case s14 =>
               exact (aQ (i:=11) nd rfl (Or.inl rfl) (aM qO hr (aj (pv 8) (aj (pv 7) aq))))
             case s13 =>
              exact (aQ (i:=10) nd rfl (Or.inl rfl) (dR mD (aM cA hr (aj (pv 2) (aj aA aq))) aA (bJ _)))
            case s12 =>
             exact (aQ (i:=9) nd rfl (Or.inl rfl) (aM Fv hr (aj (pv 3) (aj (pv 4) (aj (pv 7) aq)))))
           case s11 =>
            exact (aQ (i:=8) nd rfl (Or.inl rfl) (sy gM hr (aj (pv 3) (aj (aM sS hr (aj (pv 2) (aj (pv 4) aq))) aq))))
          case s10 =>
           exact (aQ (i:=7) nd rfl (Or.inl rfl) (aX cD aA (bD bI (pv 6) (bF (fD rfl) rfl T.n_ boot_max (aj aA (aj (aX cM (aM cA hr (aj (pv 2) (aj aA aq))) aA) aq))) (fun _ _=>rfl))))
         case s9 =>
          refine' aQ (i:=6) ?n28 ?h28 ?o28 ?e28
          case n28=>exact nd
          case h28=>exact rfl
          case o28=>exact (Or.inl rfl)
          case e28 =>
           refine' cj ?p29
           case p29 =>
            refine' aj ?a30 ?b30 ?c30
            case a30=>exact (aM cA hr (aj (pv 2) (aj aA aq)))
            case c30=>first | with_reducible rfl | rfl
            case b30 =>
             refine' aj ?a31 ?b31 ?c31
             case a31=>exact (aM cA hr (aj (pv 2) (aj (aX cD (pv 5) aA) aq)))
             case c31=>first | with_reducible rfl | rfl
             case b31 =>
              refine' aj ?a32 ?b32 ?c32
              case a32=>exact (aM cA hr (aj (pv 2) (aj (aX cD (pv 3) aA) aq)))
              case c32=>first | with_reducible rfl | rfl
              case b32 =>
               refine' aj ?a33 ?b33 ?c33
               case a33=>exact (aX cD aA (aM cA hr (aj (pv 2) (aj (aX Mx aA aA) aq))))
               case c33=>first | with_reducible rfl | rfl
               case b33 =>
                exact aq
        case s8 =>
         exact (aQ (i:=5) nd rfl (Or.inl rfl) (aX cM (pv 3) (bF (xq rfl) rfl T.Qf boot_sum (aj (iQ (N:=["_law_row"]) (nt:=1) (fr:=[]) (d7 (pv 4)) (fun _ _ _ _=>(bH (i:=0) (show (["_law_row"]:List Str).Nodup from by decide +kernel) rfl (Or.inl rfl))) (fun _ _ _ _=>iM) (fun _ _ _ _=>(bD (lu (K:=K) rfl) (pv 0) aA (fun _ _=>rfl)))) aq))))
       case s7 =>
        exact (aQ (i:=4) nd rfl (Or.inl rfl) (aM Az hr (aj (pv 2) (aj (pv 3) aq))))
      case s6 =>
       exact (aQ (i:=3) nd rfl (Or.inl rfl) (bF (iu rfl) rfl T.rJ boot_min (aj (aM Ax hr (aj (pv 2) aq)) (aj (bD bI (cj (aj aA (aj aA aq))) (gj k_ rfl T.vJ boot_int (aj (dR gY (pv 1) aA (bJ _)) aq)) (fun _ _=>rfl)) aq))))
     case s5 =>
      exact (aQ (i:=2) nd rfl (Or.inl rfl) (aM JV hr (aj (aM lJ hr (aj (pv 0) (aj (pv 1) aq))) aq)))
    case i4 =>
     exact (d9 rfl T.eO (aj (bF (fD rfl) rfl T.n_ boot_max (aj aA (aj (bF (iu rfl) rfl T.rJ boot_min (aj aA (aj (bF dF rfl T.jr boot_len (aj (pv 0) aq)) aq))) aq))) aq))
  clear nd JV Az gM Fv qO lJ Ax cA sS iK
  rw [show start ["_law_script", "_law_k", "_law_box_here", "_law_many_here", "_law_rows_here", "_law_free", "_law_some", "_law_size", "_law_layout", "_law_due_here", "_law_turned", "_law_paper", "_law_other", "_law_more"] [.ref a]=[some (.ref a),none,none,none,none,none,none,none,none,none,none,none,none,none] from rfl]
  try dsimp only [cO,bT]
  have bw:ak K CL "many" := ⟨T.clL,T.aY⟩
  have bB:ak K CL "rows" := ⟨T.clL,T.aZ⟩
  have bC:ak K CP "cost" := ⟨T.clP,T.bf⟩
  have aO:ak K CP "number" := ⟨T.clP,T.aN⟩
  have aV:ak K CP "moves" := ⟨T.clP,T.aR⟩
  have aL:ak K CP "stretch" := ⟨T.clP,T.aK⟩
  have aD:ak K CS "stretches" := ⟨T.clS,T.aB⟩
  have F:SH H [ao] H [(ao,.tbl #[])] [gJ cY cH #[]]:=(SH.nil.jg List.mem_cons_self hP rfl (by simp)).lZ (.inl rfl)
  have aew:=W8.mk (M:=[ao]) hS (nm1 hne)
  repeat k_meth
  generalize (max 1 (min 6 ((ns.map V.int).length:Int))).toNat=N
  refine gH (fun i σ' H'=>∃(o1 o2 o3 o4 o5 o6 o7 o8 o9 o10 o11 o12 o13:Option V) (ps:Array Value),σ'=[some (.ref a),o1,o2,o3,o4,o5,o6,o7,o8,o9,o10,o11,o12,o13]∧SH H [ao] H' [(ao,.tbl ps)] [gJ cY cH ps]) ⟨_,_,_,_,_,_,_,_,_,_,_,_,_,#[],rfl,F⟩ ?_ ?_
  ·clear F
   rintro i σ' H' hi ⟨_,_,_,_,_,_,_,_,_,_,_,_,_,ps,rfl,F⟩
   repeat k_meth
   obtain ⟨bx,e⟩:∃z,z=p_:=⟨_,rfl⟩
   subst e
   intro n1 h16 m_
   repeat k_meth
   obtain ⟨n0,hn0,at1⟩:∃n0:Nat,60≤n0∧AtI [V.int 240,V.int 60] (if decide (0 < (i:Int))=true then 1 else 0) (V.int (n0:Nat)):=by
    split
    ·exact ⟨60,by lia,⟨rfl⟩⟩
    ·exact ⟨240,by lia,⟨rfl⟩⟩
   repeat k_meth
   obtain ⟨n,em,hm1,hm2⟩:∃m:Nat,min (n1:Int) (n0:Int)=(m:Int)∧16≤m∧m≤240:=⟨min n1 n0,by lia,by lia,by lia⟩
   rw [em]
   repeat k_meth
   intro rs ly as
   have few:=ly.few
   have lya:LyA rs n:=⟨ly,as,hm2,hm1⟩
   repeat k_meth
   obtain ⟨rl,e⟩:∃z,z=p_:=⟨_,rfl⟩
   subst e
   obtain ⟨rz,e⟩:∃z,z=ys_:=⟨_,rfl⟩
   subst e
   have ss0:=Q9 lya.ok (Nat.zero_le n)
   refine lD (F:=fun r=>r.getD 2 .non) bM (TpA.e (rs:=aP rs)) (by rw [l_];lia) rfl (fun q r H1 R hr s1 e1 kk=>?_) fun l H1 n1=>?_
   ·clear F
    have F:SH H1 [] H1 [] []:=SH.nil
    obtain ⟨w,hw,rfl⟩:=List.mem_map.mp hr
    have abp:=Old.mk (M:=[]) e1 nm0
    repeat k_meth
    exact kk _ (Same.refl _)
   rw [show (aP rs).map (fun r=>r.getD 2 V.non)=(rs.map fun r=>(r.sz:Int)).map V.int by unfold aP;rw [List.map_map,List.map_map];rfl] at n1
   replace F:=F.newL n1
   have szs:(∀z∈(rs.map fun r=>(r.sz:Int)),0≤z∧z≤1000000)∧(rs.map fun r=>(r.sz:Int)).length≤1000000:=⟨fun z hz=>by
    obtain ⟨r,hr,rfl⟩:=List.mem_map.mp hz
    have:=(ly.good r hr).le
    show 0≤(r.sz:Int)∧(r.sz:Int)≤1000000
    lia,by rw [List.length_map];lia⟩
   repeat k_meth
   clear szs
   generalize (rs.map fun r=>(r.sz:Int)).sum=fr at ss0 F
   repeat k_meth
   rename_i r0 _ _ _ rl0 rh0 _ r1 _ _ _ rl1 rh1 _ r2 _ _ _ rl2 rh2 _ r3 _ _ _ rl3 rh3 _ _
   obtain ⟨s,s1,at2⟩:∃s:Nat,1≤s∧∃v:Int,1 + v=(s:Int)∧AtI [V.int r0,V.int r1,V.int r2,V.int (240 + r3)] (max 0 (r_ - 2)) (.int v):=by
    rcases (show max 0 (r_ - 2)=0∨max 0 (r_ - 2)=1∨max 0 (r_ - 2)=2∨max 0 (r_ - 2)=3 by lia) with e | e | e | e <;> rw [e]
    ·exact ⟨(1 + r0).toNat,by lia,r0,by lia,⟨rfl⟩⟩
    ·exact ⟨(1 + r1).toNat,by lia,r1,by lia,⟨rfl⟩⟩
    ·exact ⟨(1 + r2).toNat,by lia,r2,by lia,⟨rfl⟩⟩
    ·exact ⟨(1 + (240 + r3)).toNat,by lia,240 + r3,by lia,⟨rfl⟩⟩
   obtain ⟨v,ev,at3⟩:=at2
   clear rh3
   repeat k_meth
   rw [ev]
   repeat k_meth
   intro qs pm
   have la:T_ n qs rs:=⟨pm,ly,as⟩
   obtain ⟨b1,e⟩:∃z,z=x_:=⟨_,rfl⟩
   subst e
   obtain ⟨b2,e⟩:∃z,z=y_:=⟨_,rfl⟩
   subst e
   obtain ⟨b3,e⟩:∃z,z=c_:=⟨_,rfl⟩
   subst e
   repeat k_meth
   intro ps2
   repeat k_meth
   obtain ⟨lx,e⟩:∃z,z=x_:=⟨_,rfl⟩
   subst e
   obtain ⟨dl,e⟩:∃z,z=dx_:=⟨_,rfl⟩
   subst e
   obtain ⟨pl,e⟩:∃z,z=p_:=⟨_,rfl⟩
   subst e
   obtain ⟨lz,e⟩:∃z,z=ys_:=⟨_,rfl⟩
   subst e
   have hbx:H_ bx=some (.lst [.int b1,.int b2,.int b3]):=bM
   have hpt:H_ ao=some (.tbl ps2):=bM
   have neb:bx≠ao:=cT hbx hpt (by simp)
   have npl:pl≠bx:=SH.neC (F:=F)
   have nrl:rl≠bx:=SH.neC (F:=F)
   have was:Was [bx,ao] H_:=fun a ha=>by
    simp only [List.mem_cons,List.not_mem_nil,or_false] at ha
    rcases ha with rfl | rfl
    ·exact ⟨_,hbx,fun r=>by simp⟩
    ·exact ⟨_,hpt,fun r=>by simp⟩
   refine ⟨rl,n,rz,rs,s,rfl,bM,TpA.e,lya,s1,fun vd HB sD dD=>?_⟩
   replace F:=F.same sD
   have dq:=dD [bx,ao] was
   clear dD was hbx hpt
   have hbx:HB bx=some (.lst [.int b1,.int b2,.int b3]):=bM
   have hpt:HB ao=some (.tbl ps2):=bM
   have tk:TabOk cY cH ps2 HB:=SH.tab
   have hlx:HB lx=some (.ins CL dl (lF (n:Nat) pl)):=bM
   have hpl:HB pl=some (.lst lz):=bM
   have tpl:aJ HB lz (aP rs):=TpA.e
   have hrl:HB rl=some (.lst rz):=bM
   have trl:aJ HB rz (aP rs):=TpA.e
   have Fo1:SH H [ao] HB [(bx,.lst [.int b1,.int b2,.int b3]),(ao,.tbl ps2)] [gJ cY cH ps2]:=F.sub SbC.s SbI.s
   have Fo:SH H [ao] HB ([(bx,.lst [.int b1,.int b2,.int b3]),(ao,.tbl ps2)]++[]) [gJ cY cH ps2]:=Fo1
   clear F Fo1
   have F:SH HB [bx,ao] HB [(bx,.lst [.int b1,.int b2,.int b3]),(ao,.tbl ps2)] [.tps lz (aP rs),.tps rz (aP rs),gJ cY cH ps2]:=((((SH.nil.jg (by simp) hpt rfl (by simp)).jg (by simp) hbx rfl (by simp [Ne.symm neb])).lZ tk).fW trl).fW tpl
   have abH:=Old.mk (M:=[bx,ao]) hlx (nm2 (cT hlx hbx (by simp)) (cT hlx hpt (by simp)))
   have abI:=Old.mk (M:=[bx,ao]) hpl (nm2 npl (cT hpl hpt (by simp)))
   have abJ:=Old.mk (M:=[bx,ao]) hrl (nm2 nrl (cT hrl hpt (by simp)))
   clear hlx hpl hrl tpl trl tk hbx hpt
   repeat k_meth
   replace dq:=dq.same (eN fun a u hn e=>F.fr a u hn e)
   refine Hl (bx:=bx) ⟨bM,bM,TpA.e⟩ lya s1 bM SH.tab bM neb fun y H2 ps3 kp hP2 tk2 pq=>?_
   replace dq:=dq.same (eN fun a u hn e=>kp a u (fun z=>hn (by simp [z])) e)
   replace F:=SH.lZ (st:=TabOk.st) (F.kp kp hP2 LkU.u rfl) tk2
   have hbx:H2 bx=some (.lst [.int x_,.int y_,.int z_]):=bM
   have hpt:H2 ao=some (.tbl ps3):=bM
   have tk:TabOk cY cH ps3 H2:=SH.tab
   have hlx:H2 lx=some (.ins CL dl (lF (n:Nat) pl)):=bM
   have hpl:H2 pl=some (.lst lz):=bM
   have tpl:aJ H2 lz (aP rs):=TpA.e
   have hrl:H2 rl=some (.lst rz):=bM
   have trl:aJ H2 rz (aP rs):=TpA.e
   have F9:SH HB [bx,ao] H2 [(bx,.lst [.int x_,.int y_,.int z_]),(ao,.tbl ps3)] [gJ cY cH ps3]:=F.sub SbC.s SbI.s
   have Fo0:=SH.over Fo F9 rfl
   clear F9 Fo
   simp only [List.cons_append,List.nil_append,List.append_nil] at Fo0
   have Fo1:SH H [ao] H2 [(bx,.lst [.int x_,.int y_,.int z_]),(ao,.tbl ps3)] [gJ cY cH ps3]:=Fo0.sub SbC.s SbI.s
   have Fo:SH H [ao] H2 ([(bx,.lst [.int x_,.int y_,.int z_]),(ao,.tbl ps3)]++[]) [gJ cY cH ps3]:=Fo1
   clear F Fo1 Fo0 abH abI abJ
   have F:SH H2 [bx,ao] H2 [(bx,.lst [.int x_,.int y_,.int z_]),(ao,.tbl ps3)] [.tps lz (aP rs),.tps rz (aP rs),gJ cY cH ps3]:=((((SH.nil.jg (by simp) hpt rfl (by simp)).jg (by simp) hbx rfl (by simp [Ne.symm neb])).lZ tk).fW trl).fW tpl
   have abH:=Old.mk (M:=[bx,ao]) hlx (nm2 (cT hlx hbx (by simp)) (cT hlx hpt (by simp)))
   have abI:=Old.mk (M:=[bx,ao]) hpl (nm2 npl (cT hpl hpt (by simp)))
   have abJ:=Old.mk (M:=[bx,ao]) hrl (nm2 nrl (cT hrl hpt (by simp)))
   clear hlx hpl hrl tpl trl tk hbx hpt
   repeat k_meth
   replace dq:=dq.same (eN fun a u hn e=>F.fr a u hn e)
   replace pq:=pq.same (eN fun a u hn e=>F.fr a u hn e)
   obtain ⟨s2,e2,s21⟩:∃s2:Nat,1 + r_=(s2:Int)∧1≤s2:=⟨(1 + r_).toNat,by lia,by lia⟩
   rw [e2]
   repeat k_meth
   refine Hl (bx:=bx) ⟨bM,bM,TpA.e⟩ lya s21 bM SH.tab bM neb fun y2 H3 ps4 kp hP3 tk3 pq2=>?_
   replace dq:=dq.same (eN fun a u hn e=>kp a u (fun z=>hn (by simp [z])) e)
   replace pq:=pq.same (eN fun a u hn e=>kp a u (fun z=>hn (by simp [z])) e)
   replace F:=SH.lZ (st:=TabOk.st) (F.kp kp hP3 LkU.u rfl) tk3
   repeat k_meth
   refine ⟨y,vd,n,rs,s,_,rfl,pq.same fH,dq.same fH,few,fun H4 s4=>?_⟩
   replace F:=F.same s4
   replace dq:=dq.same (dN s4)
   replace pq:=pq.same (dN s4)
   replace pq2:=pq2.same (dN s4)
   repeat k_meth
   have was:Was [bx,ao] H4:=fun a ha=>by
    simp only [List.mem_cons,List.not_mem_nil,or_false] at ha
    rcases ha with rfl | rfl
    ·exact ⟨_,bM,fun r=>by simp⟩
    ·exact ⟨_,bM,fun r=>by simp⟩
   refine ⟨rl,n,rz,rs,s2,rfl,bM,TpA.e,lya,s21,fun vd2 H5 s5 dD=>?_⟩
   have dq2:=dD [bx,ao] was
   clear dD was
   replace F:=F.same s5
   replace dq:=dq.same (dN s5)
   replace pq:=pq.same (dN s5)
   replace pq2:=pq2.same (dN s5)
   repeat k_meth
   refine ⟨y2,vd2,n,rs,s2,_,rfl,pq2.same fH,dq2.same fH,few,fun H6 s6=>?_⟩
   clear dq2 pq2
   replace F:=F.same s6
   replace dq:=dq.same (dN s6)
   replace pq:=pq.same (dN s6)
   repeat k_meth
   refine Hl (bx:=bx) ⟨bM,bM,TpA.e⟩ lya s1 bM SH.tab bM neb fun y3 H7 ps5 kp hP7 tk7 pq3=>?_
   replace dq:=dq.same (eN fun a u hn e=>kp a u (fun z=>hn (by simp [z])) e)
   replace pq:=pq.same (eN fun a u hn e=>kp a u (fun z=>hn (by simp [z])) e)
   replace F:=SH.lZ (st:=TabOk.st) (F.kp kp hP7 LkU.u rfl) tk7
   repeat k_meth
   refine ⟨y3,vd,n,rs,s,_,rfl,pq3.same fH,dq.same fH,few,fun H8 s8=>?_⟩
   clear pq3
   replace F:=F.same s8
   replace dq:=dq.same (dN s8)
   replace pq:=pq.same (dN s8)
   repeat k_meth
   refine ⟨y,vd,n,rs,s,_,rfl,pq.same fH,dq.same fH,few,fun H9 s9=>?_⟩
   replace F:=F.same s9
   repeat k_meth
   have F2:=SH.over Fo (F.sub (L':=[(bx,.lst [.int x_,.int y_,.int z_]),(ao,.tbl ps5)]) (I':=[gJ cY cH ps5]) SbC.s SbI.s) rfl
   clear F
   simp only [List.cons_append,List.nil_append] at F2
   exact ⟨_,_,_,_,_,_,_,_,_,_,_,_,_,ps5,rfl,F2.sub SbC.s SbI.s⟩
  ·clear F
   rintro σ' H' ⟨_,_,_,_,_,_,_,_,_,_,_,_,_,ps,rfl,F⟩
   repeat k_meth
   exact k _
end
end K74
namespace K74
open PySem L2 PyProof.Rows M22 M82 M87 M75
abbrev LkH (K:W.Frag) (g:Addr) (m q:Str) (st:Stmt) (xd xn:Option Addr) (xs:Array (Option Value)) (xo xk xe xp xc xt:Value):Prop:=K.lookup g=some ⟨xo,xd,.func (W.fnOf m q (eX st) (dH st) (aH st) .none xk xe xp xn xc xt),xs⟩∧W.codeIn K xc q=true∧W.keepIn K (.ref g)=true
abbrev DfH (K:W.Frag) (m:Str) (st:Stmt):Prop:=∃g xd xn xs xo xk xe xp xc xt,W.nsIn K mainGlobals m=some (some (.ref g))∧LkH K g m m st xd xn xs xo xk xe xp xc xt
abbrev MeH (K:W.Frag) (C:Addr) (m q:Str) (st:Stmt):Prop:=∃g xd xn xs xo xk xe xp xc xt,W.findIn K (.ref C) m=some (some (.ref g))∧W.isFn K (.ref g)=true∧LkH K g m q st xd xn xs xo xk xe xp xc xt
abbrev CdH (K:W.Frag) (C:Addr) (m q:Str) (st:Stmt):Prop:=∃g xd xn xs xo xk xe xp xc xt,W.specialIn K (.ref C) "__getattribute__" = some (some (.builtin "type.__getattribute__"))∧W.readsIn K C (.type "type")=true∧W.findCls K (.ref C) (.type "type") m=some (.val (.ref g))∧LkH K g m q st xd xn xs xo xk xe xp xc xt
abbrev ClH (K:W.Frag) (C:Addr):Prop:=W.plainGet K C Str.empty=true∧W.hasDictIn K C=true∧W.plainOver K C=true∧W.findIn K (.ref C) "__setattr__" = some (some (.builtin "object.__setattr__"))∧W.makesIn K C=true∧W.keepIn K (.ref C)=true
section
variable {K:W.Frag} {h:Heap} {mg:Str→Option Value} {C:Addr} {m q:Str} {st:Stmt}
theorem DfH.has (d:DfH K m st) (X:K.In h) (G:h.Ns mainGlobals mg):HasDef K mg m st:=let ⟨_,_,_,_,_,_,_,_,_,_,a,l,c,k⟩:=d;HasDef.mk (W.mg_of X G a) l c k
theorem MeH.me (d:MeH K C m q st):∃f,FnAt K m q st f∧Meth K C m f:=let ⟨g,_,_,_,_,_,_,_,_,_,a,f,l,c,k⟩:=d;⟨g,⟨_,pP (st:=st) l c k⟩,⟨a,f,k⟩⟩
theorem MeH.mk (d:MeH K C "__init__" q st) (c:ClH K C):∃f,FnAt K "__init__" q st f∧Mk K C f:=let ⟨g,_,_,_,_,_,_,_,_,_,a,f,l,cd,k⟩:=d;⟨g,⟨_,pP (st:=st) l cd k⟩,⟨c.2.2.2.2.1,a,f,c.2.2.2.2.2⟩⟩
theorem CdH.cd (d:CdH K C m q st):∃f,FnAt K m q st f∧Z5 K C m f:=let ⟨g,_,_,_,_,_,_,_,_,_,a,r,f,l,c,k⟩:=d;⟨g,⟨_,pP (st:=st) l c k⟩,⟨a,r,f,by rfl,k⟩⟩
end
theorem all_mk {aG ao:Addr} {l:W.OpenLaw} {w:World} {K:W.Frag} {h:Heap} {mg:Str→Option Value} {fa g48_:Addr} (X:K.In h) (G:h.Ns mainGlobals mg) (hfa:mg "law" = some (.ref fa))
  {R:Addr}
  (eR:W.nsIn K mainGlobals "RoomError" = some (some (.ref R)))
  (eh:W.specialIn K (.builtin "object.__class__") "__get__" = some (some (.builtin "getset_descriptor.__get__")))
  (et:W.takesIn K (.builtin "object.__class__")=some true)
  {od48_ an48_:Option Addr} {sl48_:Array (Option Value)} {oc48_ kV48_ dc48_ pm48_ cd48_ ct48_:Value}
  (d0_:DfH K "is_whole" m6)
  (d1_:DfH K "is_from" qp)
  (d2_:DfH K "is_within" j9)
  (d3_:DfH K "is_many" qt)
  (d4_:DfH K "is_name" qw)
  (d5_:DfH K "end_of" uM)
  (d6_:DfH K "is_row" uN)
  (d7_:DfH K "cells_of" m7)
  (d8_:DfH K "need_row" m8)
  (d9_:DfH K "need_rows" j_)
  (d10_:DfH K "share_cells" Aa)
  (d11_:DfH K "_law_cell_at" qx)
  (d12_:DfH K "_law_box" Px)
  (d13_:DfH K "_law_take" GJ)
  (d14_:DfH K "_law_names" Ab)
  (d15_:DfH K "_law_many" GK)
  (d16_:DfH K "_law_rows" GP)
  (d17_:DfH K "_law_mixed" Ac)
  (d18_:DfH K "is_pair" uP)
  (d19_:DfH K "is_slide" qy)
  (d20_:DfH K "step_of" uR)
  (d21_:DfH K "gone_through" GQ)
  (d22_:DfH K "slid" GR)
  (d23_:DfH K "gaps_of" uT)
  (d24_:DfH K "row_at_end" Ad)
  (d25_:DfH K "row_beside" uU)
  (d26_:DfH K "left_prices" GX)
  (d27_:DfH K "right_prices" Ae)
  (d28_:DfH K "prices" uV)
  (d29_:DfH K "blocks_between" qz)
  (d30_:DfH K "free_between" Af)
  (d31_:DfH K "stretches_of" kh)
  (d32_:DfH K "need_size" Ag)
  (d33_:DfH K "choices_at" qC)
  (d34_:DfH K "least_choice" Ah)
  (d35_:DfH K "slides_to_lesser" uY)
  (d36_:DfH K "slides_to_greater" qD)
  (d37_:DfH K "hole_at_gap" u5)
  (d38_:DfH K "plan" GZ)
  (d39_:DfH K "_law_whole" u6)
  (d40_:DfH K "_law_gaps" Ai)
  (d41_:DfH K "_law_pushed" u9)
  (d42_:DfH K "_law_costs" Aj)
  (d43_:DfH K "_law_best" G3)
  (d44_:DfH K "_law_moves" u_)
  (d45_:DfH K "_law_due" Pz)
  (d46_:DfH K "_law_plan_right" Ak)
  (d47_:DfH K "_law_paper_right" vf)
  (a48_:W.nsIn K mainGlobals "law" = some (some (.ref g48_))) (l48_:K.lookup g48_=some ⟨oc48_,od48_,.func (W.fnOf "law" "law" (eX nZ) (dH nZ) (aH nZ) .none kV48_ dc48_ pm48_ an48_ cd48_ ct48_),sl48_⟩) (c48_:W.codeIn K cd48_ "law" = true) (k48_:W.keepIn K (.ref g48_)=true)
  (nb0:W.nsIn K mainGlobals "isinstance" = some none)
  (nb1:W.nsIn K mainGlobals "int" = some none)
  (nb2:W.nsIn K mainGlobals "bool" = some none)
  (nb3:W.nsIn K mainGlobals "str" = some none)
  (nb4:W.nsIn K mainGlobals "list" = some none)
  (nb5:W.nsIn K mainGlobals "tuple" = some none)
  (nb6:W.nsIn K mainGlobals "len" = some none)
  (nb7:W.nsIn K mainGlobals "all" = some none)
  (nb8:W.nsIn K mainGlobals "range" = some none)
  (nb9:W.nsIn K mainGlobals "sorted" = some none)
  (aeN:W.nsIn K mainGlobals "max" = some none)
  (aeO:W.nsIn K mainGlobals "min" = some none)
  (aeP:W.nsIn K mainGlobals "sum" = some none)
  (aeQ:W.nsIn K mainGlobals "enumerate" = some none)
  (aeR:W.nsIn K mainGlobals "zip" = some none)
  (aeS:W.nsIn K mainGlobals "reversed" = some none)
  (aeT:W.nsIn K mainGlobals "any" = some none)
  {tk0:Tok} (aeU:W.nsIn K mainGlobals "LETTERS" = some (some (.str LET tk0)))
  {tk1:Tok} (aeV:W.nsIn K mainGlobals "NAME_SIGNS" = some (some (.str SGN tk1)))
  {tk2:Tok} (aeW:W.nsIn K mainGlobals "MOST_SIGNS" = some (some (.int 8 tk2)))
  {tk3:Tok} (aeX:W.nsIn K mainGlobals "FEWEST_CELLS" = some (some (.int 16 tk3)))
  {tk4:Tok} (aeY:W.nsIn K mainGlobals "MOST_CELLS" = some (some (.int 240 tk4)))
  {tk5:Tok} (aeZ:W.nsIn K mainGlobals "MOST_BLOCKS" = some (some (.int 40 tk5)))
  {nmR qR:Str} {NR:Addr} {bsR bmR:List Value} {hdR:Bool} {snR:List Str} {ae0:List Value} {abR:Bool} {ae1:Option Bool} {ddR:Option Addr} {k0R k1R k2R k3R k5R:Option Value} {newR:String}
  (zc:K.lookup R=some (excClassObj nmR qR R NR bsR bmR hdR snR ae0 abR ae1 ddR k0R k1R k2R k3R k5R newR)) (zt:W.typeIn K (.ref R)=some (.type "type")) (zm:W.mroIn K R (.type "BaseException")=some true)
  {CL CP CS CB pI:Addr}
  (aCL:W.nsIn K mainGlobals "Layout" = some (some (.ref CL)))
  (LC:ClH K CL)
  (Q_:W.findIn K (.ref CL) "many" = some none)
  (Ra:W.findIn K (.ref CL) "rows" = some none)
  (aCP:W.nsIn K mainGlobals "Plan" = some (some (.ref CP)))
  (Rb:ClH K CP)
  (Rf:W.findIn K (.ref CP) "cost" = some none)
  (Ho:W.findIn K (.ref CP) "number" = some none)
  (LK:W.findIn K (.ref CP) "moves" = some none)
  (Fw:W.findIn K (.ref CP) "stretch" = some none)
  (aCS:W.nsIn K mainGlobals "Stuck" = some (some (.ref CS)))
  (Rg:ClH K CS)
  (wJ:W.findIn K (.ref CS) "stretches" = some none)
  (aCB:W.nsIn K mainGlobals "Paper" = some (some (.ref CB)))
  (UW:ClH K CB)
  {Rh Ri:Option Addr} {Rj:Array (Option Value)} {Rk Rm Rn Ro Rp:Value}
  (Rq:W.findIn K (.ref CL) "__init__" = some (some (.ref pI))) (Rr:W.isFn K (.ref pI)=true)
  (Rt:K.lookup pI=some ⟨Rk,Rh,.func (W.fnOf "__init__" "Layout.__init__" (eX lG) (dH lG) (aH lG) .none Rm Rn Ro Ri (.ref aG) Rp),Rj⟩) (Ru:W.codeIn K (.ref aG) "Layout.__init__" = true) (Rv:W.keepIn K (.ref pI)=true) (tb_Linit:W.codeHdIn K aG ao=true) (tn_Linit:K.lookup ao=none)
  (LQ:MeH K CL "blocks" "Layout.blocks" qF)
  (Rx:MeH K CL "names" "Layout.names" vh)
  (Ry:MeH K CL "block" "Layout.block" vm)
  (Rz:MeH K CL "moved" "Layout.moved" vo)
  (U0:MeH K CP "__init__" "Plan.__init__" Am)
  (LR:MeH K CP "brings" "Plan.brings" qG)
  (U3:MeH K CS "__init__" "Stuck.__init__" Ao)
  (L_:MeH K CS "brings" "Paper.brings" qH)
  (RB:MeH K CP "price" "Plan.price" vA)
  (Yu:MeH K CP "gap" "Plan.gap" G4)
  (U4:MeH K CP "hole" "Plan.hole" Aq)
  (Ma:MeH K CP "slides" "Plan.slides" qI)
  (Hq:MeH K CP "counted" "Paper.counted" m9)
  (RD:MeH K CS "price" "Paper.price" vC)
  (Yv:MeH K CS "gap" "Paper.gap" G5)
  (U5:MeH K CS "hole" "Paper.hole" Ar)
  (Mf:MeH K CS "slides" "Paper.slides" qJ)
  (Av:W.specialIn K (.builtin "object.__class__") "__get__" = some (some (.builtin "getset_descriptor.__get__")))
  (Aw:W.takesIn K (.builtin "object.__class__")=some true)
  (yN:W.findIn K (.ref CP) "__class__" = some (some (.builtin "object.__class__")))
  (yO:W.mroIn K CP (.type "object")=some true)
  (yP:W.findIn K (.ref CS) "__class__" = some (some (.builtin "object.__class__")))
  (yQ:W.mroIn K CS (.type "object")=some true)
  (kPS:W.kitOne K (.ref CP) (.ref CS)=some false)
  (kPB:W.kitOne K (.ref CP) (.ref CB)=some true)
  (kSP:W.kitOne K (.ref CS) (.ref CP)=some false)
  (kSB:W.kitOne K (.ref CS) (.ref CB)=some true)
  : (∀p∈[ao],K.lookup p=none∧∃c,W.codeHdIn K c p=true)∧∃fd:FuncData,(∀(s:Shared) (v:Value),BindsTo s fd ⟨[v],[]⟩ [("_law_script", v)])∧∀base:Heap,K.In base→base.Ns mainGlobals mg→Bm mg base→i_ l.prog w K mg base CX0 12 fa fd ["_law_script"] (Bk ao K):=by
 have e:=hfa.symm.trans (W.mg_of X G a48_)
 cases e
 have T:Txt K mg (fun i=>([]:List Addr).getD i 0) R CL CP CS CB aG ao:={
  vG:=d0_.has X G
  yr:=d1_.has X G
  rF:=d2_.has X G
  yt:=d3_.has X G
  yu:=d4_.has X G
  Dq:=d5_.has X G
  Dr:=d6_.has X G
  vH:=d7_.has X G
  vI:=d8_.has X G
  rG:=d9_.has X G
  Jx:=d10_.has X G
  yw:=d11_.has X G
  Vk:=d12_.has X G
  PK:=d13_.has X G
  Jy:=d14_.has X G
  PL:=d15_.has X G
  PN:=d16_.has X G
  Jz:=d17_.has X G
  Ds:=d18_.has X G
  yx:=d19_.has X G
  Du:=d20_.has X G
  PX:=d21_.has X G
  P0:=d22_.has X G
  Dv:=d23_.has X G
  JB:=d24_.has X G
  Dw:=d25_.has X G
  P_:=d26_.has X G
  JC:=d27_.has X G
  Dy:=d28_.has X G
  yC:=d29_.has X G
  JD:=d30_.has X G
  rH:=d31_.has X G
  JF:=d32_.has X G
  yD:=d33_.has X G
  JG:=d34_.has X G
  Dz:=d35_.has X G
  yE:=d36_.has X G
  DG:=d37_.has X G
  Qa:=d38_.has X G
  DK:=d39_.has X G
  JH:=d40_.has X G
  DN:=d41_.has X G
  JK:=d42_.has X G
  Qc:=d43_.has X G
  DP:=d44_.has X G
  Vl:=d45_.has X G
  JL:=d46_.has X G
  DQ:=d47_.has X G
  bR:=W.mg_none_of X G nb0
  vJ:=W.mg_none_of X G nb1
  G6:=W.mg_none_of X G nb2
  Qd:=W.mg_none_of X G nb3
  ji:=W.mg_none_of X G nb4
  n6:=W.mg_none_of X G nb5
  jr:=W.mg_none_of X G nb6
  Qe:=W.mg_none_of X G nb7
  eO:=W.mg_none_of X G nb8
  DR:=W.mg_none_of X G nb9
  n_:=W.mg_none_of X G aeN
  rJ:=W.mg_none_of X G aeO
  Qf:=W.mg_none_of X G aeP
  kj:=W.mg_none_of X G aeQ
  Qg:=W.mg_none_of X G aeR
  jG:=W.mg_none_of X G aeS
  aa6:=W.mg_none_of X G aeT
  yF:=⟨_,W.mg_of X G aeU,⟨_,rfl⟩⟩
  oh:=⟨_,W.mg_of X G aeV,⟨_,rfl⟩⟩
  ou:=⟨_,W.mg_of X G aeW,⟨_,rfl⟩⟩
  kE:=⟨_,W.mg_of X G aeX,⟨_,rfl⟩⟩
  jH:=⟨_,W.mg_of X G aeY,⟨_,rfl⟩⟩
  mJ:=⟨_,W.mg_of X G aeZ,⟨_,rfl⟩⟩
  g_R:=W.mg_of X G eR
  c_R:=by unfold W.clsIn;rw [zc];rfl
  t_R:=zt
  m_R:=zm
  clL:=⟨LC.1,LC.2.1,LC.2.2.1,LC.2.2.2.1⟩
  yG:=W.mg_of X G aCL
  aY:=Q_
  aZ:=Ra
  clP:=⟨Rb.1,Rb.2.1,Rb.2.2.1,Rb.2.2.2.1⟩
  sH:=W.mg_of X G aCP
  bf:=Rf
  aN:=Ho
  aR:=LK
  aK:=Fw
  clS:=⟨Rg.1,Rg.2.1,Rg.2.2.1,Rg.2.2.2.1⟩
  oA:=W.mg_of X G aCS
  aB:=wJ
  clB:=⟨UW.1,UW.2.1,UW.2.2.1,UW.2.2.2.1⟩
  vK:=W.mg_of X G aCB
  yH:=tb_Linit
  JM:=⟨pI,⟨_,pP (st:=lG) Rt Ru Rv,rfl⟩,⟨LC.2.2.2.2.1,Rq,Rr,LC.2.2.2.2.2⟩⟩
  yI:=LQ.me
  DW:=Rx.me
  DX:=Ry.me
  DY:=Rz.me
  JN:=U0.mk Rb
  yJ:=LR.me
  JQ:=U3.mk Rg
  yK:=L_.me
  D_:=RB.me
  Qh:=Yu.me
  JR:=U4.me
  yL:=Ma.me
  vL:=Hq.me
  Ea:=RD.me
  Qi:=Yv.me
  JT:=U5.me
  yM:=Mf.me
  Av:=Av
  Aw:=Aw
  yN:=yN
  yO:=yO
  yP:=yP
  yQ:=yQ
  kPS:=kPS
  kPB:=kPB
  kSP:=kSP
  kSB:=kSB }
 refine ⟨fun p hp=>?_,W.fnOf "law" "law" (eX nZ) (dH nZ) (aH nZ) .none kV48_ dc48_ pm48_ an48_ cd48_ ct48_,fun s v=>.of_eq rfl,fun base _ _ Bb=>?_⟩
 ·simp only [List.mem_cons,List.not_mem_nil,or_false] at hp
  rcases hp with rfl
  ·exact ⟨tn_Linit,_,tb_Linit⟩
 exact Yt T Bb (pP (st:=nZ) l48_ c48_ k48_)
theorem walk {l:W.OpenLaw} {q:Program} {loose:List Str} {XP:(Str→Option Value)→Heap→Prop} {YP:World→Heap→Prop} {d:DefRec} {K:Params→W.Frag} {ao:Addr} (hn:l.most=some 63) (hdf:d.params.defaults=[])
  (hY:∀(w:World) (h:Heap),YP w h→(K w.params).In h∧∀p∈[ao],h.get? p=some (W.tabObj #[]))
  (F:∀(w:World) (mg:Str→Option Value) (fa:Addr) (h:Heap),(K w.params).In h→h.Ns mainGlobals mg→mg d.name=some (.ref fa)→(∀p∈[ao],(K w.params).lookup p=none∧∃c,W.codeHdIn (K w.params) c p=true) ∧ 
   ∃fd:FuncData,(∀(s:Shared) (u:Value),BindsTo s fd ⟨[u],[]⟩ [("_law_script", u)])∧∀base:Heap,(K w.params).In base→base.Ns mainGlobals mg→Bm mg base→i_ l.prog w (K w.params) mg base CX0 12 fa fd ["_law_script"] (Bk ao (K w.params))) :
  W.WalkO q loose XP YP l.row.toRowW d [] (fun f vs=>PySem.call f vs) :=
 L2.Ow (ts:=[ao]) (n:=63) (k:=12) (x := "_law_script") (CX:=fun _=>CX0) (sp:=fun w=>Bk ao (K w.params)) hn (by decide) hdf ⟨rfl,by decide,by decide,rfl⟩ hY F (fun _ _ a ns hl hO hn hS=>⟨a,ns,rfl,hS,hl,hO.1 ao (by simp),(fun z=>hn (by simp [z])),fun _=>rfl⟩) fun _ _ _ _ _ z=>z
end K74
namespace PySem.W.Fast
def tw14268511739822069676:=0
def tw14611181492541551978:=0
def tw4858485379155233826:=0
def tw10022097530879903070:=0
def tw10064556378272990926:=0
def tw10067829767739059191:=0
def tw10099376435601279461:=0
def tw10131939717727443411:=0
def tw10144061400954097979:=0
def tw10165117957074004670:=0
def tw10177293003622754473:=0
def tw10188113787135409524:=0
def tw10219977718940677183:=0
def tw10243680376379599428:=0
def tw10255911127018494818:=0
def tw10256519214621257093:=0
def tw1028608577821000001:=0
def tw10292240757727694410:=0
def tw1030469610346582126:=0
def tw10310284605205568609:=0
def tw10340876108598485742:=0
def tw10344857189623396704:=0
def tw10356662763066394476:=0
def tw10363273399456535170:=0
def tw10377621211078451938:=0
def tw10408974332342604125:=0
def tw10421869878238235755:=0
def tw10425279156882443273:=0
def tw10427404078894789159:=0
def tw10433829724345340860:=0
def tw10469515818777889903:=0
def tw10477202816934632596:=0
def tw10510918683935116945:=0
def tw10529093434219621871:=0
def tw10574040989227469711:=0
def tw10655830196847984043:=0
def tw10661904261218314081:=0
def tw10705160434645849473:=0
def tw10712773042599186754:=0
def tw10716726293939554390:=0
def tw10717217037968612483:=0
def tw10720340060556852658:=0
def tw10729162847305516397:=0
def tw10735082860878127106:=0
def tw1076438355086485469:=0
def tw10862496486464676070:=0
def tw10890822066614574063:=0
def tw10902495509349169023:=0
def tw10925688182310095942:=0
def tw10980159594329323388:=0
def tw1098698430558334167:=0
def tw11024849627438736770:=0
def tw11032891745395071729:=0
def tw1104865483013313525:=0
def tw11054165040360899234:=0
def tw1106646556032710219:=0
def tw1107609982079795159:=0
def tw11115357727795751890:=0
def tw11136198986640574468:=0
def tw11165893088918074682:=0
def tw1118111288932296470:=0
def tw11181389401472265871:=0
def tw11181664119015421070:=0
def tw11191633430337182914:=0
def tw11204710525633309253:=0
def tw112113235210757416:=0
def tw11310286274207271938:=0
def tw11316386580021815511:=0
def tw11343911657704534630:=0
def tw11354568342162056773:=0
def tw1137413897773612971:=0
def tw11381553109027786624:=0
def tw11389629672180512806:=0
def tw11390558664110688436:=0
def tw11393607895950161396:=0
def tw11417532999628968635:=0
def tw1143870143939050689:=0
def tw11447380502043257378:=0
def tw11457187760632133527:=0
def tw11472985812292014911:=0
def tw11486081706639159909:=0
def tw11510656213592942080:=0
def tw11511397582056901835:=0
def tw11528608323925818242:=0
def tw11549921088253037196:=0
def tw11578888519174729745:=0
def tw11606275484865714086:=0
def tw11625580091201557000:=0
def tw11704994791535029733:=0
def tw11705585578560097371:=0
def tw11738228016309778425:=0
def tw11738980187079420958:=0
def tw11792173948543137936:=0
def tw11846667409524936222:=0
def tw11852914141250821719:=0
def tw11871253362571528158:=0
def tw11895312926606849538:=0
def tw11904970977187279989:=0
def tw11910100418305405836:=0
def tw11916832432611927496:=0
def tw1194942753181100820:=0
def tw11950479678380797575:=0
def tw11957165625974167417:=0
def tw1196009909851662563:=0
def tw11996733349728566350:=0
def tw11998011536225523167:=0
def tw11998260721378565203:=0
def tw12009715049951208371:=0
def tw1201033939120358122:=0
def tw12013680743545751110:=0
def tw12039515207900886611:=0
def tw12048484970470031098:=0
def tw12102826980157268009:=0
def tw12151520079551450560:=0
def tw12166412044600664634:=0
def tw12176173530252109338:=0
def tw12178757519681344144:=0
def tw12181836993731376882:=0
def tw12190597097822833688:=0
def tw12205436504856784884:=0
def tw12224873178177336467:=0
def tw12230093046240129983:=0
def tw12240727296445984937:=0
def tw12249090111368774686:=0
def tw12266349471163151861:=0
def tw12272192177086106140:=0
def tw12287073034314735111:=0
def tw12333142123925441710:=0
def tw12345357037266057672:=0
def tw12369873472859559007:=0
def tw12377283155763241163:=0
def tw1239796611556548891:=0
def tw12402619203720481343:=0
def tw12428539371967174446:=0
def tw12431580521546211259:=0
def tw12435053463074455109:=0
def tw12458317173059100108:=0
def tw1248828428606005645:=0
def tw12516559339525515446:=0
def tw12523541018874219415:=0
def tw12530151100476589510:=0
def tw12557810438713375426:=0
def tw12638655830760363558:=0
def tw12641587435770853303:=0
def tw12681810973052013000:=0
def tw12739301236414407016:=0
def tw12761419056299393526:=0
def tw1276266009654375343:=0
def tw12765688801938868175:=0
def tw12770490437433461289:=0
def tw12788588197606381498:=0
def tw12823428357953811911:=0
def tw12829837774529431957:=0
def tw12856602935379109180:=0
def tw12911619689887074225:=0
def tw12931298558017530705:=0
def tw13000750094027719126:=0
def tw13100308361035004591:=0
def tw13137183938391621559:=0
def tw13159805934888331363:=0
def tw13162204896770522546:=0
def tw13182503332181215138:=0
def tw13196183432595535277:=0
def tw13214500950107485371:=0
def tw13218318835860445753:=0
def tw13228876602575007694:=0
def tw13237667092058182534:=0
def tw13242386977256595713:=0
def tw13280008642082607447:=0
def tw13291959684163122841:=0
def tw13304399309536779550:=0
def tw13311700379925900657:=0
def tw13352484365243653200:=0
def tw13377049012288042148:=0
def tw13397290224160361458:=0
def tw13397790059740308820:=0
def tw13418990382664621131:=0
def tw13445575272909175310:=0
def tw13472150701075443698:=0
def tw13472528857100887785:=0
def tw13496586840197923845:=0
def tw13497327787704879640:=0
def tw1351319929157489206:=0
def tw13572626965955735198:=0
def tw13588376775144119265:=0
def tw13604576734646191301:=0
def tw13650866307353426451:=0
def tw13680207984063873207:=0
def tw13683208154779297052:=0
def tw13692448112492990947:=0
def tw1374406617815049335:=0
def tw13751147285869367636:=0
def tw13754937628389057463:=0
def tw13830715251590237879:=0
def tw13841125052894766131:=0
def tw13850032813514912997:=0
def tw13894967389519855339:=0
def tw13913771632355584968:=0
def tw1394010402138444084:=0
def tw13966134300539081597:=0
def tw13971056130985449568:=0
def tw13981617877344548564:=0
def tw13981728037554119865:=0
def tw13982040431388226778:=0
def tw14000669771455558738:=0
def tw14002013734206688390:=0
def tw14071273986227228570:=0
def tw14072816282850300732:=0
def tw14087024887853430649:=0
def tw14099311918333479849:=0
def tw14101159391627431298:=0
def tw14119385487701159264:=0
def tw14126574472819417710:=0
def tw14137456936558323871:=0
def tw14213027409618569029:=0
def tw14227098270087836463:=0
def tw14302058171027341802:=0
def tw14331039223264873126:=0
def tw14332154577330580732:=0
def tw14347208968188636129:=0
def tw14357614703808457379:=0
def tw14369152635736188308:=0
def tw14399905193602610705:=0
def tw14428535910366151474:=0
def tw14458789201746248616:=0
def tw14472894845265969611:=0
def tw14479469181024690574:=0
def tw14494069245789950648:=0
def tw14510070666556437705:=0
def tw14515786339674766516:=0
def tw14573518637505217935:=0
def tw14592536288321516445:=0
def tw14599215904470014007:=0
def tw14624410378866804136:=0
def tw14625571638726657081:=0
def tw1462598161873468595:=0
def tw14641608116497513948:=0
def tw14725931961415685977:=0
def tw14726472576199839078:=0
def tw14757703000610385878:=0
def tw14760676341340628498:=0
def tw14777710757989354078:=0
def tw14847486838551357917:=0
def tw1489198402938140669:=0
def tw14905560673220786752:=0
def tw14934490633669137840:=0
def tw1494361579352798543:=0
def tw14963814869478075123:=0
def tw1497237813237007254:=0
def tw14990795240432602717:=0
def tw15066933305512378017:=0
def tw15069791777060314169:=0
def tw1508406681446884725:=0
def tw1508654230243753003:=0
def tw15116491388345300396:=0
def tw15144261544863626168:=0
def tw15187029223727529510:=0
def tw15192338554945083656:=0
def tw15211696070596309432:=0
def tw15228806643621030039:=0
def tw15247059564874949057:=0
def tw15289577689740390741:=0
def tw1530773844554086456:=0
def tw15343798792058319170:=0
def tw15350923423700657906:=0
def tw15352979642581364356:=0
def tw15368250290247201931:=0
def tw15411016540505622732:=0
def tw15412126419806380888:=0
def tw15417108578525866800:=0
def tw15440370816884920534:=0
def tw1546422424987539446:=0
def tw15486933399057594450:=0
def tw15491018257105544621:=0
def tw15497482209358158531:=0
def tw15527674683034716158:=0
def tw15529114923448720872:=0
def tw15529880841989110754:=0
def tw15561327500584376141:=0
def tw15601242521807972921:=0
def tw15614738142947904878:=0
def tw15630752309166534496:=0
def tw1563524463887273363:=0
def tw15638393612510613528:=0
def tw15672409328004033702:=0
def tw15715194923602250095:=0
def tw15754862813000680778:=0
def tw1575808800167742901:=0
def tw15767921721021677575:=0
def tw158758893651980058:=0
def tw15883464261736843839:=0
def tw15932835413169196819:=0
def tw15969876545239685175:=0
def tw15972630847152957043:=0
def tw15977156755774258781:=0
def tw15979483559538033233:=0
def tw16036566311724090012:=0
def tw16039225446650526923:=0
def tw16044787709273742625:=0
def tw16054628493134730369:=0
def tw16066793934773670722:=0
def tw16091422821561045108:=0
def tw16101047635646308862:=0
def tw16126697783094922560:=0
def tw1614365779273020835:=0
def tw16246281400709127502:=0
def tw16283246911031968997:=0
def tw1630294632179745601:=0
def tw16307909422695398701:=0
def tw16354618716405545367:=0
def tw16368006001691152034:=0
def tw16411727254190588023:=0
def tw16446288334469950525:=0
def tw16459136578080085811:=0
def tw16477564708946422629:=0
def tw16516526304740386855:=0
def tw16528071125479976055:=0
def tw16531926479834874357:=0
def tw16534208543810640231:=0
def tw16542770726399891710:=0
def tw16549629311529910167:=0
def tw16580628641228143971:=0
def tw16592036890892802427:=0
def tw16611025029092745024:=0
def tw16665643413709713225:=0
def tw16709616266605426582:=0
def tw16808396363556872825:=0
def tw16830093150044868235:=0
def tw16834536897293100976:=0
def tw16863528823406159418:=0
def tw16886237849473597250:=0
def tw1688889024834446007:=0
def tw16896223955176102302:=0
def tw16917877183745131568:=0
def tw16924813275648590462:=0
def tw1700925167797908729:=0
def tw17015618564278560591:=0
def tw17044551715677861809:=0
def tw17062073139459376353:=0
def tw17073461049805736017:=0
def tw17075710644486392739:=0
def tw17147061190608246459:=0
def tw1717207325329575118:=0
def tw17179605578845059186:=0
def tw17196751456950487507:=0
def tw17199392311582085554:=0
def tw17215878410384705085:=0
def tw17260075322843300729:=0
def tw17263771787734134298:=0
def tw17265987821073741364:=0
def tw17305262174743143029:=0
def tw17347597512647939951:=0
def tw17362300957788479658:=0
def tw17371971767355845279:=0
def tw17375317843562435583:=0
def tw17389776605948329532:=0
def tw17423580014803883945:=0
def tw17449672522860124406:=0
def tw17467265476249182824:=0
def tw17485250573327091571:=0
def tw17498273061511617183:=0
def tw17525136029971070865:=0
def tw17547085655667494071:=0
def tw17610147081534413670:=0
def tw17622594210351810754:=0
def tw17656259898271731644:=0
def tw176638446713248379:=0
def tw17673156985722131878:=0
def tw17684033310792717311:=0
def tw17699946915826441699:=0
def tw17733537194980474716:=0
def tw17736971148988852825:=0
def tw17811397032977691235:=0
def tw17815528307594719392:=0
def tw17836463398784639652:=0
def tw17847264848650027200:=0
def tw17850762312116748916:=0
def tw17853953547168352088:=0
def tw17855731434708737840:=0
def tw17857867037881710128:=0
def tw17870025366777909485:=0
def tw17878180470969875788:=0
def tw17892605964575520083:=0
def tw17930049900050469977:=0
def tw17932076293884168705:=0
def tw17950006349034851677:=0
def tw17952631826610971308:=0
def tw18073155854507863231:=0
def tw18115088447194972277:=0
def tw18135204479034738953:=0
def tw1813524671415676044:=0
def tw18149402520065044870:=0
def tw18175200148435517360:=0
def tw18177725058397001146:=0
def tw1818360097925020764:=0
def tw18203804292303199009:=0
def tw18233700208538482937:=0
def tw18235695948042965856:=0
def tw18240953219669888463:=0
def tw1826848523358403994:=0
def tw18298243805647917566:=0
def tw183175144764353875:=0
def tw18324296514033006468:=0
def tw18377051409304540842:=0
def tw1839374860852238533:=0
def tw18433011267030545647:=0
def tw18441347422361897567:=0
def tw18441690424901409408:=0
def tw1844471328877993073:=0
def tw1852549916994794729:=0
def tw1872821387445335063:=0
def tw1887773787279631543:=0
def tw1891550941077252359:=0
def tw191236974390814010:=0
def tw1947114536075108135:=0
def tw1983164503144169430:=0
def tw202066450837002533:=0
def tw2026457463290826541:=0
def tw2036258561380781128:=0
def tw2043256893324711126:=0
def tw2053530464265957512:=0
def tw208989736571292080:=0
def tw2099783763904071924:=0
def tw2138940642181149465:=0
def tw2163485183749840836:=0
def tw2168576630926635179:=0
def tw2173752473925797504:=0
def tw2193552255128225444:=0
def tw2204628838056366911:=0
def tw2205255776977968612:=0
def tw2209022648576644156:=0
def tw2209958321863594113:=0
def tw222893395791741450:=0
def tw2245084796395655146:=0
def tw2260555235884439334:=0
def tw226112293590782825:=0
def tw2264360542395665431:=0
def tw2314775902242307646:=0
def tw2328633748821988151:=0
def tw2343780521419434180:=0
def tw2350338287993791190:=0
def tw2350613348050079169:=0
def tw2364098009607172080:=0
def tw2367205102265411248:=0
def tw2370769076095268086:=0
def tw239185407418145939:=0
def tw2392934710529616403:=0
def tw2411791451202138767:=0
def tw2422676709171524692:=0
def tw2443784606667612942:=0
def tw245028457760588332:=0
def tw2459216545324202271:=0
def tw2462687046986379169:=0
def tw2492666505872906797:=0
def tw2507868131068808341:=0
def tw2540237181983074083:=0
def tw2571407552654466748:=0
def tw2593127787438647016:=0
def tw2604021787749433936:=0
def tw2630008456253556161:=0
def tw2677124819281085073:=0
def tw2704811887580493732:=0
def tw2725381026505998851:=0
def tw2757649092178856169:=0
def tw2757913778243719841:=0
def tw2827558058550030214:=0
def tw2837053261914563090:=0
def tw2852829370249407935:=0
def tw2854586793125857364:=0
def tw286239625465657370:=0
def tw2863891731732022416:=0
def tw2875678650195505529:=0
def tw2881217764371109561:=0
def tw2895377567373111508:=0
def tw2908224052101492544:=0
def tw2930787465947723989:=0
def tw2964073436086640476:=0
def tw2965042893716096144:=0
def tw2978222769221832247:=0
def tw298215895367403159:=0
def tw3001957444669857331:=0
def tw3019591457069052855:=0
def tw3101064034612179051:=0
def tw3117086538941485290:=0
def tw3122914696598721526:=0
def tw3125153109732485641:=0
def tw3130364538260638316:=0
def tw3142864226503314639:=0
def tw3152236975949863009:=0
def tw3174809121416831263:=0
def tw3178194681969993196:=0
def tw3179227465347766440:=0
def tw3202388017540111375:=0
def tw320314238959372568:=0
def tw320488055858892072:=0
def tw3210067559952240941:=0
def tw3219820159876703755:=0
def tw3224661843283279463:=0
def tw325407223630353568:=0
def tw3264476840825719425:=0
def tw3271190314679298581:=0
def tw3289845901997771090:=0
def tw3307980357481989175:=0
def tw3340896948325421261:=0
def tw3349870810768507601:=0
def tw3389761841332468627:=0
def tw3399158611972774184:=0
def tw3437883556427083041:=0
def tw3439017021697710960:=0
def tw3443159978302051982:=0
def tw3445077288113350702:=0
def tw3449158889971216538:=0
def tw345731033268805346:=0
def tw3457322302122189627:=0
def tw3465486106100760690:=0
def tw3471114159306321822:=0
def tw3485955276345399790:=0
def tw3515583783901665890:=0
def tw351595421144351363:=0
def tw3552308328753450588:=0
def tw3625684161334651210:=0
def tw3644340512783630768:=0
def tw3644703474669857494:=0
def tw3655767417214517083:=0
def tw3657651385939662662:=0
def tw3679476957708974470:=0
def tw3700861030199997237:=0
def tw3704998771263075689:=0
def tw3719075553037219403:=0
def tw3719247953233237460:=0
def tw3723696525065190755:=0
def tw3757390976031663164:=0
def tw3769647551028961611:=0
def tw3792806505945844650:=0
def tw3837661406505016738:=0
def tw3868254933025843477:=0
def tw387086269040455111:=0
def tw3934069160230462184:=0
def tw3943562353687909420:=0
def tw3970045512317504228:=0
def tw39768285185155217:=0
def tw3984523251348765488:=0
def tw4006403123698328336:=0
def tw4016512367959672933:=0
def tw4021011608999307851:=0
def tw4036234965888407394:=0
def tw4038459025996251213:=0
def tw4104278553333935370:=0
def tw4115748536676581739:=0
def tw411738100557730248:=0
def tw4126707217808228309:=0
def tw4132645991107048478:=0
def tw4133885553223685706:=0
def tw4140882468833858315:=0
def tw4154009748766389289:=0
def tw4163052040627819835:=0
def tw4172054956838832074:=0
def tw4174618177135668519:=0
def tw4181105185203683223:=0
def tw4188331199282461192:=0
def tw4218947533846097498:=0
def tw4222725295260520480:=0
def tw4235942820172852638:=0
def tw4247196906728776289:=0
def tw4247657842141150358:=0
def tw4256758613870366728:=0
def tw4267431953866048594:=0
def tw4285176902186220991:=0
def tw4290079057461699027:=0
def tw4292889197687668719:=0
def tw4302354186703567196:=0
def tw4321759443344399772:=0
def tw4323262226779001966:=0
def tw4332655884006011033:=0
def tw4334847407644471920:=0
def tw433954195530852581:=0
def tw4340315104935227812:=0
def tw4341616496379265856:=0
def tw4343065952849742938:=0
def tw442818575419468750:=0
def tw4508359962327926840:=0
def tw4509009455062776994:=0
def tw4512700051420915650:=0
def tw4521991752956447142:=0
def tw4537014228064942343:=0
def tw4575009510891223249:=0
def tw4585726989226789132:=0
def tw4611242495890344124:=0
def tw4615662938422128653:=0
def tw4646970772611345836:=0
def tw4717717610109062550:=0
def tw4721237874939284300:=0
def tw4726826032890697765:=0
def tw4740240833131659304:=0
def tw4765484278781895565:=0
def tw4792799188953835733:=0
def tw4816912423416033469:=0
def tw4828713324922330169:=0
def tw4867289938333637402:=0
def tw4884611847222558368:=0
def tw488939134969433790:=0
def tw4925454556833638233:=0
def tw4943132183214280480:=0
def tw4946562298246460588:=0
def tw4960704955224587727:=0
def tw4977073833420682098:=0
def tw4999355850935430697:=0
def tw5030293330435047716:=0
def tw5035551147229465680:=0
def tw5036817836180579090:=0
def tw5049356809403431889:=0
def tw5172523545318219375:=0
def tw5211284180488956616:=0
def tw5230922152737365271:=0
def tw524875723960809511:=0
def tw527036157121582598:=0
def tw5270647324564701684:=0
def tw5369470398418566950:=0
def tw5382828774750589838:=0
def tw5388226692409638236:=0
def tw5393123247149598706:=0
def tw5400972298918167155:=0
def tw5412511251522835670:=0
def tw5414272787665671315:=0
def tw5436595530667236647:=0
def tw5439139574515923671:=0
def tw5453488654680903139:=0
def tw5516850292616797645:=0
def tw5519541666954671207:=0
def tw5584264169758468081:=0
def tw560826627503260981:=0
def tw5619221656557556960:=0
def tw5644953230984257906:=0
def tw5645872227872751191:=0
def tw5662595439409164878:=0
def tw5689184899167869668:=0
def tw5689312268714100492:=0
def tw5709334888046145946:=0
def tw5777772473398895671:=0
def tw591684343713771412:=0
def tw5957383455776948972:=0
def tw5963510198154593365:=0
def tw597776348761313124:=0
def tw6033388026271055058:=0
def tw6035006796792793961:=0
def tw6042028810047122381:=0
def tw6103746061899409638:=0
def tw6106179694928471925:=0
def tw6137848788803759114:=0
def tw6147640004914066435:=0
def tw6159820782416382263:=0
def tw6161156698433375480:=0
def tw6180240616891345056:=0
def tw6181437758345871317:=0
def tw6195101269086100780:=0
def tw6197871156781566092:=0
def tw6234339599454873888:=0
def tw6236806027856149644:=0
def tw6301392774182035575:=0
def tw6344193295349341588:=0
def tw6380126225890312310:=0
def tw6382188472154389247:=0
def tw6382502105100965410:=0
def tw6417778815032475985:=0
def tw6481529040207518132:=0
def tw652070465703327465:=0
def tw6531573429551178482:=0
def tw6574635084748868976:=0
def tw6595901458824981826:=0
def tw6598885650821714413:=0
def tw662735711450304892:=0
def tw6640016625575158797:=0
def tw6643807834823474850:=0
def tw6670193096857220909:=0
def tw667180727043571702:=0
def tw6682562878090563226:=0
def tw6690000325283982540:=0
def tw678397449604096998:=0
def tw6791248568366390771:=0
def tw6802518203888131900:=0
def tw680543095415846940:=0
def tw6813813849092836433:=0
def tw6818980718907746951:=0
def tw6821764370332800711:=0
def tw6825699441178149001:=0
def tw6832627746380289560:=0
def tw6850423971420853226:=0
def tw6883291036033467440:=0
def tw6890784215511071794:=0
def tw6900712906416605475:=0
def tw6919588029445093343:=0
def tw6933568627639577269:=0
def tw6950710909767220117:=0
def tw69605561698639685:=0
def tw7005552493326211415:=0
def tw7009857754800330778:=0
def tw7028105638995326184:=0
def tw7053046484941772308:=0
def tw7077204633442598223:=0
def tw7081104667513658350:=0
def tw708305189412683783:=0
def tw7103616793470529625:=0
def tw7122597100768409502:=0
def tw7155426095566172863:=0
def tw7169209225301089993:=0
def tw7179087766958690792:=0
def tw7202303714113603414:=0
def tw7209239398240735741:=0
def tw7229051119303186161:=0
def tw7236457571763009544:=0
def tw7243024870117334442:=0
def tw7257763784709709853:=0
def tw7291843894539188661:=0
def tw7294628143421065581:=0
def tw7295837974929979420:=0
def tw737071634311468436:=0
def tw7396826322175550341:=0
def tw7402601825609507148:=0
def tw7424503249685397772:=0
def tw7476394832272657320:=0
def tw7491260508924890166:=0
def tw7495276052592343783:=0
def tw7527964690766917238:=0
def tw7547316661320524063:=0
def tw7575217059252580918:=0
def tw7643313156811801540:=0
def tw764628344801940783:=0
def tw7663645807171914093:=0
def tw7697793593505968557:=0
def tw7715807351069955563:=0
def tw7737147138314555816:=0
def tw7742610760088622328:=0
def tw778237054709319568:=0
def tw7807550060464422497:=0
def tw7843690173637144827:=0
def tw7863469087744729125:=0
def tw7872965659051279427:=0
def tw7898621977907231633:=0
def tw7923851960927124466:=0
def tw7945209915798627555:=0
def tw8029945583082876091:=0
def tw8034890807033156257:=0
def tw8114924411565914765:=0
def tw81247356128233191:=0
def tw8129665253552914351:=0
def tw817689833332421280:=0
def tw8186641839054805070:=0
def tw8186654095995432544:=0
def tw8208550488794466301:=0
def tw8216671953451075383:=0
def tw8223943557466677899:=0
def tw823181896009391259:=0
def tw8268069844239809216:=0
def tw8271537360738562987:=0
def tw8306805264692654785:=0
def tw8311816367979803825:=0
def tw8328997541146216133:=0
def tw839227697895345309:=0
def tw8400068437843306302:=0
def tw8401012358188839159:=0
def tw8408310064615629202:=0
def tw8422136319888955805:=0
def tw8436632513279046870:=0
def tw8501164753200062776:=0
def tw8519513771995605040:=0
def tw8565611189310580119:=0
def tw8605816560838502485:=0
def tw863621809667003938:=0
def tw8644776010566909515:=0
def tw8715490457695850910:=0
def tw871889020970706785:=0
def tw8783673104143898399:=0
def tw8798420676411269887:=0
def tw8826178719940488295:=0
def tw8834675465511561993:=0
def tw8894588274079161462:=0
def tw8914075990531214972:=0
def tw8921718540532535275:=0
def tw8944367480924397300:=0
def tw89535633737217959:=0
def tw8984887029884185042:=0
def tw9037794187415350526:=0
def tw9067278222119899217:=0
def tw906774085848724671:=0
def tw9080107191352853723:=0
def tw9121904573264178850:=0
def tw9147007587266743657:=0
def tw9157339821755268171:=0
def tw9170728807887744034:=0
def tw9183694273500259408:=0
def tw9188043057905099471:=0
def tw9211955988490136302:=0
def tw9271521573743344693:=0
def tw9274293480225214546:=0
def tw9312695443718642637:=0
def tw9319731801005883514:=0
def tw9323444807717632922:=0
def tw9325289865572111645:=0
def tw9341112824574432429:=0
def tw9363508069081670314:=0
def tw9363886758939698960:=0
def tw9386816514816120451:=0
def tw9449512684803214567:=0
def tw9453356526703503981:=0
def tw9469517485996724945:=0
def tw9477202404579038633:=0
def tw949657397892082061:=0
def tw9519296731986059161:=0
def tw9525466500786223979:=0
def tw9532053470783612418:=0
def tw95679508032167273:=0
def tw958094928531144608:=0
def tw9589648961531499086:=0
def tw9594169700604786273:=0
def tw9602988065100799355:=0
def tw9644122592388771573:=0
def tw9676046078928313234:=0
def tw9676804470425112480:=0
def tw9703138684854637953:=0
def tw9795275145661499251:=0
def tw9877239280253451249:=0
def tw9895946848211012597:=0
def tw9900430651930930832:=0
def tw9904763975938008673:=0
def tw9907301013074046450:=0
def tw9907699710579872232:=0
def tw9928255937149017873:=0
def tw9931081763831040262:=0
def tw9962517180466394709:=0
def tw9969101123844983132:=0
def tw998245850070483266:=0
def tw9983347662055558461:=0
def tw10167222002481220686:=0
def tw11048004216364372722:=0
def tw11178125677289364792:=0
def tw11347170714951684634:=0
def tw13664258079728742152:=0
def tw14155738456543747761:=0
def tw14448946211239231927:=0
def tw1595355484266941528:=0
def tw16497128051618749910:=0
def tw16838247211534143645:=0
def tw169713205576755467:=0
def tw18412535315249908914:=0
def tw2315808080960756491:=0
def tw2760402711785461408:=0
def tw2885968672325367315:=0
def tw3689351755564971325:=0
def tw4020563089545902525:=0
def tw6423710435488952026:=0
def tw6949130549643444111:=0
def tw7616538043350913012:=0
def tw8909671923685539540:=0
def tw905773921667741149:=0
def tw1077768383578217582:=0
def tw11179599679271957526:=0
def tw12180888340415484118:=0
def tw13072806553119639902:=0
def tw14057084237154683798:=0
def tw14235247771430119124:=0
def tw14660995973410971876:=0
def tw14834617882185435817:=0
def tw15575439270604573366:=0
def tw16806486926287883163:=0
def tw2113471005108861438:=0
def tw2341416457413844910:=0
def tw3005017992625190744:=0
def tw4710297168275234292:=0
def tw5078729905032564321:=0
def tw5982706735733984560:=0
def tw6227574093588026361:=0
def tw7273048035040484811:=0
def tw7585371042891707543:=0
def tw8288527108238138882:=0
def tw8909016679644142580:=0
def tw929582960299853891:=0
def tw9671675891635741665:=0
def tw7982332922033773575:=0
def tw1443572629770305582:=0
def tw526690000107234884:=0
def tw6833726199704298103:=0
end PySem.W.Fast
open PySem PySem.W PyProof.Rows
set_option maxRecDepth 100000 in
set_option maxHeartbeats 0 in
theorem PySem.Challenge.cw_slideroom_k74_plans_walked_holds : PySem.Challenge.rw_slideroom_k74_plans_walked.Holds := by
 w_on;o_law;k_head;(case hw=>w_witness2)
 k_fill
 refine K74.walk (l:=PySem.Challenge.rw_slideroom_k74_plans_walked) rfl rfl (fun w h Y=>⟨PySem.W.km_in_of Y,PySem.W.km_tabs_of Y⟩) ?F
 case F =>
  intro w mg fa h KX G hmg
  refine' K74.all_mk KX G hmg ?_ ?_ ?_ ?_ ?_ ?_ ?_ ?_ ?_ ?_ ?_ ?_ ?_ ?_ ?_ ?_ ?_ ?_ ?_ ?_ ?_ ?_ ?_ ?_ ?_ ?_ ?_ ?_ ?_ ?_ ?_ ?_ ?_ ?_ ?_ ?_ ?_ ?_ ?_ ?_ ?_ ?_ ?_ ?_ ?_ ?_ ?_ ?_ ?_ ?_ ?_ ?_ ?_ ?_ ?_ ?_ ?_ ?_ ?_ ?_ ?_ ?_ ?_ ?_ ?_ ?_ ?_ ?_ ?_ ?_ ?_ ?_ ?_ ?_ ?_ ?_ ?_ ?_ ?_ ?_ ?_ ?_ ?_ ?_ ?_ ?_ ?_ ?_ ?_ ?_ ?_ ?_ ?_ ?_ ?_ ?_ ?_ ?_ ?_ ?_ ?_ ?tb_Linit ?tn_Linit ?_ ?_ ?_ ?_ ?_ ?_ ?_ ?_ ?_ ?_ ?_ ?_ ?_ ?_ ?_ ?_ ?_ ?_ ?_ ?_ ?_ ?_ ?_ ?kPS ?kPB ?kSP ?kSB
  all_goals try first
   | k_is
   | exact ⟨_,_,_,_,_,_,_,_,_,_,by k_is,by k_is,by k_is,by k_is⟩
   | exact ⟨_,_,_,_,_,_,_,_,_,_,by k_is,by k_is,by k_is,by k_is,by k_is⟩
   | exact ⟨_,_,_,_,_,_,_,_,_,_,by k_is,by k_is,by k_is,by k_is,by k_is,by k_is⟩
   | exact ⟨by k_is,by k_is,by k_is,by k_is,by k_is,by k_is⟩
  (case kPS=>kit_is)
  (case kPB=>kit_is)
  (case kSP=>kit_is)
  (case kSB=>kit_is)
  (case tb_Linit=>kernel_rfl)
  (case tn_Linit=>kernel_rfl)

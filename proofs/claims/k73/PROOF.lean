import PyProof.Rows.All
import Wide.All
import OpenK.AllK
import Wide.FinOn
import Lean
import PyProof.EqAt
import PyProof.EqKinds
import PyProof.TupleCall
import PyProof.NeKinds
import PyProof.ExcInit
import PyProof.StationsW
import PyProof.ExcBaseAll.ValueError
import PyProof.ExcArgs
import KE.KIsAll
import PyProof.ReprRoads
import PyProof.CallFns
import PyProof.ExcClass3
import PyProof.StrBlock2
import PyProof.FitsInt
import PyProof.StrLawsRepr
import KE.KTryMore
import PyProof.RulesAs
import KE.KIntText
import PyProof.StrLawsChain
import PyProof.StrCalls2
import PyProof.ZipIter
import PyProof.Conv_bool
import PyProof.CallStr
import PyProof.TupleIter
import KE.KEqDict
import PySem.Challenge.RW_slideroom_k73_forged_prices
-- CHANGE: your row's module here, as the last of these rows
set_option Elab.async false
set_option linter.all false
set_option maxRecDepth 100000
namespace L2
open PySem PySem.Spec PyProof.Rows
abbrev Key:=Sum Int Str
def keyIs:Key→Value→Bool
 | .inl k,v=>Value.isInt k v
 | .inr x,v=>Value.isStrOf x v
def keyH (w:World):Key→Int
 | .inl k=>hashInt k
 | .inr x=>hashStr w x
theorem keyIs_shape:∀{k:Key} {v:Value},keyIs k v=true→(∃i t,k=Sum.inl i∧v=Value.int i t)∨(∃x t,k=Sum.inr x∧v=Value.str x t)
 | .inl i,v,h=>by
  obtain ⟨t,e⟩:=Value.isInt_shape (k:=i) (v:=v) h
  exact .inl ⟨i,t,rfl,e⟩
 | .inr x,v,h=>by
  obtain ⟨t,e⟩:=Value.isStrOf_shape (x:=x) (v:=v) h
  exact .inr ⟨x,t,rfl,e⟩
theorem key_ll (a b:Int):decide ((Sum.inl a:Key)=Sum.inl b)=(a == b):=by
 by_cases e:a=b
 ·subst e;simp
 ·have h:¬ (Sum.inl a:Key)=Sum.inl b:=fun q=>e (Sum.inl.inj q)
  rw [decide_eq_false h]
  exact (beq_eq_false_iff_ne.mpr e).symm
theorem key_rr (a b:Str):decide ((Sum.inr a:Key)=Sum.inr b)=decide (a=b):=by
 by_cases e:a=b
 ·subst e;simp
 ·have h:¬ (Sum.inr a:Key)=Sum.inr b:=fun q=>e (Sum.inr.inj q)
  rw [decide_eq_false h,decide_eq_false e]
theorem key_lr (a:Int) (b:Str):decide ((Sum.inl a:Key)=Sum.inr b)=false:=decide_eq_false (fun q=>nomatch q)
theorem key_rl (a:Str) (b:Int):decide ((Sum.inr a:Key)=Sum.inl b)=false:=decide_eq_false (fun q=>nomatch q)
def mixKind (prog:Program) (w:World):PySem.KeyKind prog w Key where
 is:=keyIs
 hash:=keyH w
 inj:=fun v a b ha hb=>by
  rcases keyIs_shape ha with ⟨i,t,rfl,rfl⟩ | ⟨x,t,rfl,rfl⟩
  ·rcases keyIs_shape hb with ⟨j,u,rfl,e⟩ | ⟨y,u,rfl,e⟩
   ·injection e with e1 _;rw [e1]
   ·exact nomatch e
  ·rcases keyIs_shape hb with ⟨j,u,rfl,e⟩ | ⟨y,u,rfl,e⟩
   ·exact nomatch e
   ·injection e with e1 _;rw [e1]
 byValue:=fun k v h=>by
  rcases keyIs_shape h with ⟨i,t,rfl,rfl⟩ | ⟨x,t,rfl,rfl⟩ <;> rfl
 pyHash:=fun hv h=>by
  rcases keyIs_shape hv with ⟨i,t,rfl,rfl⟩ | ⟨x,t,rfl,rfl⟩
  ·exact wpAny_pyHash_int h
  ·exact wpAny_pyHash_str h
 eqBool:=fun hu hv h=>by
  rcases keyIs_shape hu with ⟨i,t,rfl,rfl⟩ | ⟨x,t,rfl,rfl⟩
  ·rcases keyIs_shape hv with ⟨j,u,rfl,rfl⟩ | ⟨y,u,rfl,rfl⟩
   ·rw [key_ll] at h;exact wpAny_eqBool_int h
   ·rw [key_lr] at h;exact SeqAt.EqAt.int_str i t y u _ _ _ _ h
  ·rcases keyIs_shape hv with ⟨j,u,rfl,rfl⟩ | ⟨y,u,rfl,rfl⟩
   ·rw [key_rl] at h;exact SeqAt.EqAt.str_int x t j u _ _ _ _ h
   ·rw [key_rr] at h;exact wpAny_eqBool_str h
 «strs»:=fun k x t v h=>by
  rcases keyIs_shape h with ⟨i,u,rfl,e⟩ | ⟨y,u,rfl,e⟩
  ·exact nomatch e
  ·injection e with e1 _
   subst e1
   cases v <;> rfl
inductive V where
 | non | bl (b:Bool) | int (i:Int) | str (x:Str) | byt (b:Array UInt8) | flt (b:UInt64) | ref (a:Addr) | ty (n:String)
 deriving DecidableEq
def RelV:V→Value→Prop
 | .non,u=>u=Value.none
 | .bl b,u=>u=Value.bool b
 | .int i,u=>∃t,u=Value.int i t
 | .str x,u=>∃t,u=Value.str x t
 | .byt b,u=>∃t,u=Value.bytes b t
 | .flt b,u=>∃t,u=Value.float b t
 | .ref a,u=>u=Value.ref a
 | .ty n,u=>u=Value.type n
abbrev Vals:List V→List Value→Prop:=Paired RelV
theorem Vals.length {xs:List V} {us:List Value} (r:Vals xs us):xs.length=us.length:=Paired.length r
theorem Vals.get:∀{xs:List V} {us:List Value} {i:Nat} {x:V},Vals xs us→xs[i]?=some x→∃u,us[i]?=some u∧RelV x u
 | _,_,_,_,.nil,e=>by simp at e
 | _,_,0,_,.cons r _,e=>by simp at e;subst e;exact ⟨_,rfl,r⟩
 | _,_,i + 1,x,.cons _ t,e=>by
  obtain ⟨u,h1,h2⟩:=Vals.get (i:=i) (x:=x) t (by simpa using e)
  exact ⟨u,by simpa using h1,h2⟩
theorem Vals.set {x:V} {u:Value} (r:RelV x u):∀{xs:List V} {us:List Value} (i:Nat),Vals xs us→Vals (xs.set i x) (us.set i u)
 | _,_,_,.nil=>.nil
 | _,_,0,.cons _ t=>.cons r t
 | _,_,i + 1,.cons q t=>.cons q (Vals.set r i t)
theorem Vals.append:∀{xs ys:List V} {us ws:List Value},Vals xs us→Vals ys ws→Vals (xs++ys) (us++ws)
 | _,_,_,_,.nil,s=>s
 | _,_,_,_,.cons r t,s=>.cons r (Vals.append t s)
theorem Vals.take:∀{xs:List V} {us:List Value} (n:Nat),Vals xs us→Vals (xs.take n) (us.take n)
 | _,_,0,_=>.nil
 | _,_,_ + 1,.nil=>.nil
 | _,_,n + 1,.cons r t=>.cons r (Vals.take n t)
theorem Vals.drop:∀{xs:List V} {us:List Value} (n:Nat),Vals xs us→Vals (xs.drop n) (us.drop n)
 | _,_,0,r=>r
 | _,_,_ + 1,.nil=>.nil
 | _,_,n + 1,.cons _ t=>Vals.drop n t
def RelO:Option V→Option Value→Prop
 | some v,some u=>RelV v u
 | none,none=>True
 | _,_=>False
def KV {κ:Type}:List (κ×V)→List (κ×Value)→Prop:=Paired fun (p:κ×V) (q:κ×Value)=>p.1=q.1∧RelV p.2 q.2
def kV:Key→V
 | .inl i=>.int i
 | .inr x=>.str x
inductive HO where
 /-- a list -/
 | lst (xs:List V)
 /-- a tuple (never changes) -/
 | tup (xs:List V)
 /-- a dict whose keys are ints and texts; one whose keys are tuples of ints and texts (the empty one is both) -/
 | dK (kvs:List (Key×V)) | dT (kvs:List (List Key×V))
 /-- a set of ints: its members, its size -/
 | set (S:Int→Bool) (n:Nat)
 /-- an instance of the class at C, its dict at dx, its attributes -/
 | ins (C dx:Addr) (fs:List (Str×V))
 /-- the dict of the instance at x -/
 | own (x:Addr)
 /-- the dict of an exception -/
 | xd (fs:List (Str×V))
 /-- a bound method, f of x -/
 | met (f x:Addr)
 /-- a range object lo, lo + 1, .. below hi -/
 | rng (lo hi:Int)
 /-- a thing that is known to the object (the script; a dict while a loop walks it): read, never written while it is so -/
 | frz (o:Obj) (u:HO)
 /-- a code object's table -/
 | tbl (ps:Array Value)
 /-- any other thing, by what is true of its one object (a def of one's own: SetO a S n := HO.ext fun h => ..) -/
 | ext (φ:Heap→Prop)
abbrev Hp:=Addr→Option HO
def upd (H:Hp) (a:Addr) (o:HO):Hp:=fun b=>if b=a then some o else H b
theorem upd_same {H:Hp} {a:Addr} {o:HO}:upd H a o a=some o:=by unfold upd;rw [if_pos rfl]
theorem upd_ne {H:Hp} {a b:Addr} {o:HO} (h:b≠a):upd H a o b=H b:=by unfold upd;rw [if_neg h]
theorem upd_upd {H:Hp} {a:Addr} {o u:HO}:upd (upd H a o) a u=upd H a u:=by
 funext b;unfold upd;split <;> rfl
theorem ne_of_none {H:Hp} {a b:Addr} {o:HO} (h:H a=some o) (h':H b=none):a≠b:=by
 intro e;subst e;rw [h] at h';cases h'
section
variable (P:Program) (w:World)
def ObjOk (H:Hp) (h:Heap) (a:Addr):HO→Prop
 | .lst xs=>xs.length≤sizeLine∧∃(its:List Value) (n:Nat),Vals xs its∧h.get? a=some { cls:=.type "list", data:=.seq its.toArray n }
 | .tup xs=>xs.length≤sizeLine∧∃its:List Value,Vals xs its∧IsTup h a its.toArray
 | .dK kvs=>kvs.length≤sizeLine∧(a == sysModules)=false∧∃vs,KV kvs vs∧h.DictOf (mixKind P w) a vs
 | .dT kvs=>kvs.length≤sizeLine∧(a == sysModules)=false∧∃xs:List (List Key×Addr×Value),
   Paired (fun (p:List Key×V) (q:List Key×Addr×Value)=>p.1=q.1∧H q.2.1=some (.tup (p.1.map kV))∧RelV p.2 q.2.2) kvs xs ∧
   ∃o es ep,h.get? a=some o∧o.ExactDict∧o.data=.dict es ep∧es.toList=xs.map (entryOfKey (tupleKind (mixKind P w)))∧(xs.map (·.1)).Nodup
 | .set S n=>h.SetOf (intKind P w) a S n
 | .ins C dx fs=>H dx=some (.own a)∧fs.length≤1000∧dx≠a∧h.get? a=some (W.instObj C dx) ∧
   ∃mA,h.Ns1 dx mA∧(∀f,RelO (fs.lookup f) (mA f))∧PySem.Within mA (fs.map (·.1))
 | .own _=>∃o,h.get? a=some o
 | .xd fs=>∃mA,h.Ns1 a mA∧∀f,RelO (fs.lookup f) (mA f)
 | .rng lo hi=>∃t u v,h.get? a=some { cls:=.type "range", data:=.fields #[.int lo t,.int hi u,.int 1 v] }
 | .frz o u=>h.get? a=some o∧ObjOk H h a u
 | .tbl ps=>h.get? a=some { cls:=.none,data:=.fields ps }
 | .met f x=>h.get? a=some (W.methodObj (.ref f) (.ref x))
 | .ext φ=>φ h∧(∃o,h.get? a=some o)∧∀h1 h2:Heap,φ h1→(∀o,h1.get? a=some o→h2.get? a=some o)→φ h2
def HOk (H:Hp) (h:Heap):Prop:=∀a o,H a=some o→ObjOk P w H h a o
end
section
variable {P:Program} {w:World} {H H':Hp} {h h':Heap} {a:Addr} {o:HO}
theorem ObjOk.lt (x:ObjOk P w H h a o):a < h.objs.size:=by
 cases o with
 | lst xs=>obtain ⟨_,_,_,_,e⟩:=x;exact Heap.lt_size e
 | tup xs=>obtain ⟨_,_,_,p⟩:=x;exact p.lt
 | dK kvs=>obtain ⟨_,_,_,_,o,_,_,e,_⟩:=x;exact Heap.lt_size e
 | dT kvs=>obtain ⟨_,_,_,_,o,_,_,e,_⟩:=x;exact Heap.lt_size e
 | set S n=>obtain ⟨o,_,_,_,e,_⟩:=x;exact Heap.lt_size e
 | ins C dx fs=>obtain ⟨_,_,_,e,_⟩:=x;exact Heap.lt_size e
 | own y=>obtain ⟨_,e⟩:=x;exact Heap.lt_size e
 | xd fs=>obtain ⟨_,⟨_,_,_,e,_⟩,_⟩:=x;exact Heap.lt_size e
 | rng lo hi=>obtain ⟨_,_,_,e⟩:=x;exact Heap.lt_size e
 | frz ob u=>obtain ⟨e,_⟩:=x;exact Heap.lt_size e
 | tbl ps=>exact Heap.lt_size (show h.get? a=some _ from x)
 | met f y=>exact Heap.lt_size (show h.get? a=some _ from x)
 | ext φ=>obtain ⟨_,⟨_,e⟩,_⟩:=x;exact Heap.lt_size e
theorem Paired.mapP {α β:Type} {F G:α→β→Prop}:∀{l₁:List α} {l₂:List β},Paired F l₁ l₂→(∀a b,F a b→G a b)→Paired G l₁ l₂
 | _,_,.nil,_=>.nil
 | _,_,.cons r t,f=>.cons (f _ _ r) (Paired.mapP t f)
theorem ObjOk.stay (x:ObjOk P w H h a o) (k:∀b u,(b=a∨H b=some (.own a))→h.get? b=some u→h'.get? b=some u)
  (ho:∀b,H b=some (.own a)→H' b=some (.own a)) (ht:∀b xs,H b=some (.tup xs)→H' b=some (.tup xs)):ObjOk P w H' h' a o:=by
 induction o with
 | lst xs=>obtain ⟨z,its,n,r,e⟩:=x;exact ⟨z,its,n,r,k _ _ (.inl rfl) e⟩
 | tup xs=>obtain ⟨z,its,r,ob,e,c⟩:=x;exact ⟨z,its,r,ob,k _ _ (.inl rfl) e,c⟩
 | dK kvs=>obtain ⟨z,y,vs,r,ob,es,ep,e,c⟩:=x;exact ⟨z,y,vs,r,ob,es,ep,k _ _ (.inl rfl) e,c⟩
 | dT kvs =>
  obtain ⟨z,y,xs,r,ob,es,ep,e,c⟩:=x
  exact ⟨z,y,xs,Paired.mapP r fun p q z=>⟨z.1,ht _ _ z.2.1,z.2.2⟩,ob,es,ep,k _ _ (.inl rfl) e,c⟩
 | set S n=>obtain ⟨ob,es,ep,t,e,c⟩:=x;exact ⟨ob,es,ep,t,k _ _ (.inl rfl) e,c⟩
 | ins C dx fs =>
  obtain ⟨d,z,ne,e,mA,⟨od,es,ep,e2,c⟩,r⟩:=x
  exact ⟨ho _ d,z,ne,k _ _ (.inl rfl) e,mA,⟨od,es,ep,k _ _ (.inr d) e2,c⟩,r⟩
 | own y=>obtain ⟨ob,e⟩:=x;exact ⟨ob,k _ _ (.inl rfl) e⟩
 | xd fs=>obtain ⟨mA,⟨od,es,ep,e,c⟩,r⟩:=x;exact ⟨mA,⟨od,es,ep,k _ _ (.inl rfl) e,c⟩,r⟩
 | rng lo hi=>obtain ⟨t,u,v,e⟩:=x;exact ⟨t,u,v,k _ _ (.inl rfl) e⟩
 | frz ob u ih=>obtain ⟨e,q⟩:=x;exact ⟨k _ _ (.inl rfl) e,ih q⟩
 | tbl ps =>
  have e:h.get? a=some { cls:=.none,data:=.fields ps }:=x
  show h'.get? a=some { cls:=.none,data:=.fields ps }
  exact k a _ (.inl rfl) e
 | met f y =>
  have e:h.get? a=some (W.methodObj (.ref f) (.ref y)):=x
  show h'.get? a=some (W.methodObj (.ref f) (.ref y))
  exact k a _ (.inl rfl) e
 | ext φ=>obtain ⟨p,⟨o,e⟩,st⟩:=x;exact ⟨st _ _ p fun o q=>k _ _ (.inl rfl) q,⟨o,k _ _ (.inl rfl) e⟩,st⟩
theorem HOk.lt (x:HOk P w H h) (e:H a=some o):a < h.objs.size:=(x a o e).lt
theorem HOk.fresh (x:HOk P w H h) (e:h.objs.size≤a):H a=none:=by
 cases q:H a with
 | none=>rfl
 | some u=>exact absurd (Nat.lt_of_lt_of_le (x.lt q) e) (Nat.lt_irrefl _)
theorem HOk.kept (x:HOk P w H h) (k:∀b u,h.get? b=some u→h'.get? b=some u):HOk P w H h':=fun a o e =>
 (x a o e).stay (fun b u _ q=>k b u q) (fun _ q=>q) fun _ _ q=>q
theorem HOk.laid (x:HOk P w H h) (k:∀b u,h.get? b=some u→h'.get? b=some u) (hp:h.objs.size≤a) (new:ObjOk P w (upd H a o) h' a o):HOk P w (upd H a o) h':=fun b u e=>by
 have hn:=x.fresh hp
 by_cases hb:b=a
 ·subst hb;rw [upd_same] at e;cases e;exact new
 ·rw [upd_ne hb] at e
  exact (x b u e).stay (fun c v _ q=>k c v q) (fun c q=>by rw [upd_ne (ne_of_none q hn)];exact q) fun c xs q=>by rw [upd_ne (ne_of_none q hn)];exact q
end
def Rd (H:Hp) (a:Addr) (u:HO):Prop:=H a=some u∨∃o,H a=some (.frz o u)
theorem Rd.of {H:Hp} {a:Addr} {u:HO} (h:H a=some u):Rd H a u:=.inl h
theorem Rd.ok {P:Program} {w:World} {H:Hp} {h:Heap} {a:Addr} {u:HO} (r:Rd H a u) (x:HOk P w H h):ObjOk P w H h a u:=by
 rcases r with r | ⟨o,r⟩
 ·exact x a u r
 ·obtain ⟨_,q⟩:=x a _ r
  exact q
def Mut:Option HO→Prop
 | some (.lst _)=>True
 | some (.dK _)=>True
 | some (.dT _)=>True
 | some (.set _ _)=>True
 | some (.ins _ _ _)=>True
 | some (.ext _)=>True
 | _=>False
section
variable {P:Program} {w:World} {H:Hp} {h h':Heap} {x e:Addr} {o':HO}
theorem HOk.write (ok:HOk P w H h) (mu:Mut (H x)) (he:e=x∨H e=some (.own x)) (k:∀b u,b≠e→h.get? b=some u→h'.get? b=some u) (heo:∃u,h'.get? e=some u)
  (new:ObjOk P w (upd H x o') h' x o'):HOk P w (upd H x o') h':=fun b u q=>by
 have nown:∀c y,H c=some (.own y)→c≠x:=fun c y r z=>by subst z;rw [r] at mu;exact mu
 have ntup:∀c xs,H c=some (.tup xs)→c≠x:=fun c xs r z=>by subst z;rw [r] at mu;exact mu
 by_cases hb:b=x
 ·subst hb;rw [upd_same] at q;cases q;exact new
 ·rw [upd_ne hb] at q
  by_cases hbe:b=e
  ·have q':H b=some (.own x):=by
    rcases he with z | z
    ·exact absurd (hbe.trans z) hb
    ·rw [hbe];exact z
   rw [q] at q';cases q'
   obtain ⟨v,hv⟩:=heo
   exact ⟨v,by rw [hbe];exact hv⟩
  ·refine (ok b u q).stay (fun c v hc r=>k c v ?_ r) (fun c r=>by rw [upd_ne (nown c b r)];exact r) fun c xs r=>by rw [upd_ne (ntup c xs r)];exact r
   rcases hc with rfl | hc
   ·exact hbe
   ·rintro rfl
    rcases he with z | z
    ·exact nown c b hc z
    ·rw [hc] at z;cases z;exact hb rfl
end
structure Un (fs ex:List Addr) (H H':Hp) (h h':Heap):Prop where
 keep:∀b o,h.get? b=some o→H b=none→b ∉ fs→b ∉ ex→h'.get? b=some o
 slot:∀b o,h.get? b=some o→H b=none→b∈fs→b ∉ ex→∃sl,h'.get? b=some { o with slots:=sl }
 free:∀b o,h.get? b=some o→H b=none→b ∉ ex→H' b=none
 there:∀b o,h.get? b=some o→b ∉ ex→∃o',h'.get? b=some o'
 tups:∀b xs,H b=some (.tup xs)→H' b=some (.tup xs)
 frzs:∀b o u,H b=some (.frz o u)→H' b=some (.frz o u)
 tbls:∀b ps,H b=some (.tbl ps)→∃more,H' b=some (.tbl (ps++more))
section
variable {fs fs' ex ex':List Addr} {H H1 H2:Hp} {h h1 h2 h':Heap} {a x e:Addr} {o:HO}
theorem Un.any (u:Un fs ex H H1 h h1) {b:Addr} {ob:Obj} (q:h.get? b=some ob) (n:H b=none) (hx:b ∉ ex):∃sl,h1.get? b=some { ob with slots:=sl }:=by
 by_cases hb:b∈fs
 ·exact u.slot b ob q n hb hx
 ·exact ⟨ob.slots,u.keep b ob q n hb hx⟩
theorem Un.trans (a:Un fs ex H H1 h h1) (b:Un fs ex H1 H2 h1 h2):Un fs ex H H2 h h2 where
 keep:=fun c ob q n hc hx=>b.keep c ob (a.keep c ob q n hc hx) (a.free c ob q n hx) hc hx
 slot:=fun c ob q n hc hx=>by
  obtain ⟨sl,e1⟩:=a.slot c ob q n hc hx
  obtain ⟨sl',e2⟩:=b.slot c _ e1 (a.free c ob q n hx) hc hx
  exact ⟨sl',e2⟩
 free:=fun c ob q n hx=>by
  obtain ⟨o',e1⟩:=a.there c ob q hx
  exact b.free c o' e1 (a.free c ob q n hx) hx
 there:=fun c ob q hx=>by
  obtain ⟨o',e1⟩:=a.there c ob q hx
  exact b.there c o' e1 hx
 tups:=fun c xs q=>b.tups c xs (a.tups c xs q)
 frzs:=fun c ob xs q=>b.frzs c ob xs (a.frzs c ob xs q)
 tbls:=fun c ps q=>by
  obtain ⟨m1,e1⟩:=a.tbls c ps q
  obtain ⟨m2,e2⟩:=b.tbls c _ e1
  exact ⟨m1++m2,by rw [e2,Array.append_assoc]⟩
theorem Un.kept (k:∀b u,h.get? b=some u→h'.get? b=some u):Un fs ex H H h h' :=
 ⟨fun b ob q _ _ _=>k b ob q,fun b ob q _ _ _=>⟨ob.slots,k b ob q⟩,fun _ _ _ n _=>n,fun b ob q _=>⟨ob,k b ob q⟩,fun _ _ q=>q,fun _ _ _ q=>q,fun _ ps q=>⟨#[],by rw [q];simp⟩⟩
theorem Un.refl:Un fs ex H H h h:=Un.kept fun _ _ q=>q
theorem Un.laid (k:∀b u,h.get? b=some u→h'.get? b=some u) (hp:h.objs.size≤a) (hn:H a=none):Un fs ex H (upd H a o) h h' where
 keep:=fun b u q _ _ _=>k b u q
 slot:=fun b u q _ _ _=>⟨u.slots,k b u q⟩
 free:=fun b u q n _=>by rw [upd_ne (Nat.ne_of_lt (Nat.lt_of_lt_of_le (Heap.lt_size q) hp))];exact n
 there:=fun b u q _=>⟨u,k b u q⟩
 tups:=fun b xs q=>by rw [upd_ne (ne_of_none q hn)];exact q
 frzs:=fun b u xs q=>by rw [upd_ne (ne_of_none q hn)];exact q
 tbls:=fun b ps q=>⟨#[],by rw [upd_ne (ne_of_none q hn),q];simp⟩
theorem Un.write (mu:Mut (H x)) (he:e=x∨H e=some (.own x)) (k:∀b u,b≠e→h.get? b=some u→h'.get? b=some u) (heo:∃u,h'.get? e=some u):Un fs ex H (upd H x o) h h':=by
 have hx:∀b,H b=none→b≠x:=fun b n z=>by subst z;rw [n] at mu;exact mu
 have hb:∀b,H b=none→b≠e:=fun b n z=>by
  subst z
  rcases he with r | r
  ·exact hx b n r
  ·rw [n] at r;cases r
 have hm:∀b u,H b=some u→¬ Mut (some u)→b≠x:=fun b u q nm z=>by subst z;rw [q] at mu;exact nm mu
 refine ⟨fun b u q n _ _=>k b u (hb b n) q,fun b u q n _ _=>⟨u.slots,k b u (hb b n) q⟩,fun b u q n _=>by rw [upd_ne (hx b n)];exact n,fun b u q _=>?_,
  fun b xs q=>by rw [upd_ne (hm b _ q fun z=>z)];exact q,fun b u xs q=>by rw [upd_ne (hm b _ q fun z=>z)];exact q,fun b ps q=>⟨#[],by rw [upd_ne (hm b _ q fun z=>z),q];simp⟩⟩
 by_cases hbe:b=e
 ·subst hbe;exact heo
 ·exact ⟨u,k b u hbe q⟩
end
def trk (h:Heap) (H:Hp):List Addr:=(List.range h.objs.size).filter fun a=>(H a).isSome
def hidT (h:Heap) (H:Hp):Heap:=W.hideAll h (trk h H)
theorem hidT_size (h:Heap) (H:Hp):(hidT h H).objs.size=h.objs.size:=W.hideAll_size _ _
theorem hidT_get {h:Heap} {H:Hp} {b:Addr} {o:Obj} (e:h.get? b=some o) (n:H b=none):(hidT h H).get? b=some o :=
 W.hideAll_get _ e fun hm=>by
  have q:(H b).isSome=true:=(List.mem_filter.mp hm).2
  rw [n] at q;simp at q
theorem of_hidT {h:Heap} {H:Hp} {b:Addr} {o:Obj} (e:(hidT h H).get? b=some o):h.get? b=some o∧H b=none:=by
 have e':h.get? b=some o:=W.of_hideAll (trk h H) e
 refine ⟨e',?_⟩
 cases q:H b with
 | none=>rfl
 | some x =>
  have hm:b∈trk h H:=List.mem_filter.mpr ⟨List.mem_range.mpr (Heap.lt_size e'),by simp [q]⟩
  have z:(hidT h H).get? b=none:=W.hideAll_none (trk h H) hm
  rw [z] at e;cases e
structure Mod (K:W.Frag) (mg:Str→Option Value) (base:Heap):Prop where
 kin:K.In base
 glob:base.Ns mainGlobals mg
 blt:∃mb,base.Ns builtinsNs mb∧∀x:Str,x ≠ "__name__" → mb x=bootBuiltins x
 nolimit:base.NoLimit
/-- the context: a def's body (or a comprehension's block) running. base: fixed through the whole law; s₀, H₀: the entry; outer: the frames whose slots others may change (a def's callers); stack: all frames that run;
   ex: iterators that were made ahead of the entry and are walked here (a comprehension's);fn: the names whose cells were made at the entry (a def: all;a comprehension's block: its own);calm: not within an except suite;pn: pins that every state bears;xe: what is wanted of an exception that leaves the code -/
structure Cx where
 prog:Program
 w:World
 K:W.Frag
 mg:Str→Option Value
 base:Heap
 A:Around
 N:List Str
 s₀:Shared
 H₀:Hp
 env:Env
 outer:List Env
 stack:List Env
 ex:List Addr
 fn:Str→Bool
 calm:Bool
 pn:List (Addr×Obj)
 xe:Value→Shared→Prop
def frs (l:List Env):List Addr:=l.filterMap (·.frame)
abbrev Cx.fs (X:Cx):List Addr:=frs X.outer
def Vis (sc:Scope) (x:Str):Prop:=sc.names.lookup x=some .local∨sc.names.lookup x=some .cell∨sc.names.lookup x=some .free
def Loc (sc:Scope) (x:Str):Prop:=sc.names.lookup x=some .local∨sc.names.lookup x=some .cell
def Look (env:Env) (h:Heap) (m:Str→Option Value) (x:Str) (u:Value):Prop :=
 (env.kindOf x=some .local∧m x=some u)∨((env.kindOf x=some .cell∨env.kindOf x=some .free)∧∃c,env.cells.lookup x=some c∧h.IsCell c (some u))
structure Cx.Ok (X:Cx):Prop where
 mod:Mod X.K X.mg X.base
 kind:X.env.scope.kind=.function
 glob:X.env.globals=mainGlobals
 blt:X.env.builtins=builtinsNs
 above:X.s₀.heap.objs.size≤X.env.locals
 inj:∀x y c,X.env.cells.lookup x=some c→X.env.cells.lookup y=some c→x=y
 has:∀x,(X.env.kindOf x=some .cell∨X.env.kindOf x=some .free)→∃c,X.env.cells.lookup x=some c
 cab:∀x c,X.fn x=true→X.env.cells.lookup x=some c→X.s₀.heap.objs.size≤c
 hd:X.calm=true→X.A.handled=none
 frames:X.A.frames=some X.stack
 stk:X.stack=X.outer∨(X.stack=X.env::X.outer∧X.env.frame=some X.env.locals)
 exf:∀b∈X.ex,b≠X.env.locals∧∀x c,X.env.cells.lookup x=some c→c≠b
 bs:∀b o,X.base.get? b=some o→X.s₀.heap.get? b=some o∧X.H₀ b=none
 bsz:X.base.objs.size≤X.s₀.heap.objs.size
 noex:∀b o,X.base.get? b=some o→b ∉ X.ex
 exfs:∀b∈X.ex,b ∉ X.fs
 funs:X.s₀.heap.FunFrames X.base X.outer
 frf:∀b∈X.fs,X.H₀ b=none
structure Inv (X:Cx) (pins:List (Addr×Obj)) (σ:List (Option V)) (H:Hp) (s:Shared):Prop where
 ok:X.Ok
 os:s.os=X.s₀.os
 bare:AllBare s.gens
 base:Un X.fs X.ex X.H₀ H X.s₀.heap s.heap
 loc:∃m,s.heap.Ns X.env.locals m∧∀(i:Nat) (x:Str) (v:V),X.N[i]?=some x→σ[i]?=some (some v)→Vis X.env.scope x→∃u,RelV v u∧Look X.env s.heap m x u
 cell:∀x c,X.env.cells.lookup x=some c→∃v,s.heap.IsCell c v
 free:H X.env.locals=none
 freeC:∀x c,X.env.cells.lookup x=some c→H c=none
 pin:∀p∈X.pn++pins,s.heap.get? p.1=some p.2∧H p.1=none∧p.1≠X.env.locals∧p.1 ∉ X.fs∧∀v,p.2.data≠.cell v
 hok:HOk X.prog X.w H s.heap
 len:σ.length=X.N.length
section
variable {X:Cx} {pins:List (Addr×Obj)} {σ:List (Option V)} {H H':Hp} {s:Shared} {h':Heap}
theorem Cx.Ok.nofr (ok:X.Ok) {b:Addr} {o:Obj} (e:X.base.get? b=some o):b ∉ X.fs:=fun hb=>by
 have:=(ok.funs.mem hb).1
 rw [e] at this;cases this
theorem Inv.bs (I:Inv X pins σ H s):∀b o,X.base.get? b=some o→s.heap.get? b=some o∧H b=none:=fun b o e =>
 ⟨I.base.keep b o (I.ok.bs b o e).1 (I.ok.bs b o e).2 (I.ok.nofr e) (I.ok.noex b o e),I.base.free b o (I.ok.bs b o e).1 (I.ok.bs b o e).2 (I.ok.noex b o e)⟩
theorem Inv.bk (I:Inv X pins σ H s):∀b o,X.base.get? b=some o→s.heap.get? b=some o:=fun b o e=>(I.bs b o e).1
theorem Inv.mod (I:Inv X pins σ H s):Mod X.K X.mg X.base:=I.ok.mod
theorem Inv.kIn (I:Inv X pins σ H s):X.K.In s.heap:=I.ok.mod.kin.keeps I.bk
theorem Inv.fr (I:Inv X pins σ H s):∃m,Fr X.base X.env.locals s.heap m :=
 let ⟨m,hn,_⟩:=I.loc
 ⟨m,hn,I.bk,Nat.le_trans I.ok.bsz I.ok.above⟩
theorem Inv.lt (I:Inv X pins σ H s):X.env.locals < s.heap.objs.size:=let ⟨_,hn,_⟩:=I.loc;hn.lt
theorem Inv.sz (I:Inv X pins σ H s):X.s₀.heap.objs.size≤s.heap.objs.size:=Nat.le_trans I.ok.above (Nat.le_of_lt I.lt)
theorem Inv.nofs (I:Inv X pins σ H s) {a:Addr} (h:s.heap.objs.size≤a):a ∉ X.fs:=fun hb=>by
 obtain ⟨_,o,ho,_⟩:=I.ok.funs.mem hb
 exact absurd (Nat.lt_of_lt_of_le (Heap.lt_size ho) (Nat.le_trans I.sz h)) (Nat.lt_irrefl _)
theorem Inv.cne (I:Inv X pins σ H s):∀x c,X.env.cells.lookup x=some c→c≠X.env.locals:=fun x c e z=>by
 obtain ⟨v,o,ho,hd⟩:=I.cell x c e
 obtain ⟨m,⟨o',es,ep,ho',hd',_⟩,_⟩:=I.loc
 rw [z,ho'] at ho;cases ho;rw [hd'] at hd;cases hd
theorem Inv.funs (I:Inv X pins σ H s):s.heap.FunFrames X.base X.outer:=by
 have all:∀(l:List Env),(∀b∈frs l,b∈X.fs)→X.s₀.heap.FunFrames X.base l→s.heap.FunFrames X.base l:=by
  intro l
  induction l with
  | nil=>intro _ _;trivial
  | cons env r ih =>
   intro hs hl
   obtain ⟨hk,⟨L,o,hf,hn,ho,hd⟩,hr⟩:=hl
   have hL:L∈X.fs:=hs L (by unfold frs;rw [List.filterMap_cons,hf];exact List.mem_cons_self)
   obtain ⟨sl,e⟩:=I.base.slot L o ho (I.ok.frf L hL) hL fun z=>I.ok.exfs L z hL
   exact ⟨hk,⟨L,_,hf,hn,e,hd⟩,ih (fun b hb=>hs b (by unfold frs;rw [List.filterMap_cons,hf];exact List.mem_cons_of_mem _ hb)) hr⟩
 exact all X.outer (fun _ hb=>hb) I.ok.funs
theorem Inv.stack (I:Inv X pins σ H s):s.heap.FunFrames X.base X.stack:=by
 rcases I.ok.stk with e | ⟨e,hf⟩
 ·rw [e];exact I.funs
 ·rw [e]
  obtain ⟨m,hn,_⟩:=I.loc
  refine .cons (by rw [I.ok.kind];decide) hf hn ?_ I.funs
  exact Heap.get?_none_of_le (Nat.le_trans I.ok.bsz I.ok.above)
theorem Inv.stkSub (I:Inv X pins σ H s):∀b∈frs X.stack,b∈X.env.locals::X.fs:=fun b hb=>by
 rcases I.ok.stk with e | ⟨e,hf⟩
 ·rw [e] at hb;exact List.mem_cons_of_mem _ hb
 ·rw [e] at hb
  unfold frs at hb
  rw [List.filterMap_cons,hf] at hb
  exact hb
theorem Inv.stkFree (I:Inv X pins σ H s):∀b∈frs X.stack,H b=none:=fun b hb=>by
 rcases List.mem_cons.mp (I.stkSub b hb) with e | hb
 ·rw [e];exact I.free
 ·obtain ⟨_,o,ho,_⟩:=I.ok.funs.mem hb
  exact I.base.free b o ho (I.ok.frf b hb) fun z=>I.ok.exfs b z hb
theorem Inv.step {g':Array GenState} {t':Nat} {d':Drawn} {ch:List Addr} (I:Inv X pins σ H s)
  (hch:∀b∈ch,(b∈X.ex∨X.s₀.heap.objs.size≤b)∧b≠X.env.locals∧(∀x c,X.env.cells.lookup x=some c→c≠b)∧∀p∈X.pn++pins,p.1≠b)
  (keep:∀b o,b≠X.env.locals→b ∉ X.fs→b ∉ ch→s.heap.get? b=some o→H b=none→h'.get? b=some o)
  (slot:∀b o,b≠X.env.locals→b∈X.fs→b ∉ ch→s.heap.get? b=some o→H b=none→∃sl,h'.get? b=some { o with slots:=sl }) (free:∀b o,b ∉ ch→s.heap.get? b=some o→H b=none→H' b=none)
  (there:∀b o,b ∉ ch→s.heap.get? b=some o→∃o',h'.get? b=some o')
  (tups:∀b xs,H b=some (.tup xs)→H' b=some (.tup xs)) (frzs:∀b o u,H b=some (.frz o u)→H' b=some (.frz o u)) (tbls:∀b ps,H b=some (.tbl ps)→∃more,H' b=some (.tbl (ps++more)))
  (ns:∀m,s.heap.Ns X.env.locals m→h'.Ns X.env.locals m) (hok:HOk X.prog X.w H' h') (hg:AllBare g') :
  Inv X pins σ H' { s with heap:=h',gens:=g',drawn:=d',toks:=t' }:=by
 have neL:∀b o,X.s₀.heap.get? b=some o→b≠X.env.locals:=fun b o e=>Nat.ne_of_lt (Nat.lt_of_lt_of_le (Heap.lt_size e) I.ok.above)
 have neC:∀b o,X.s₀.heap.get? b=some o→b ∉ X.ex→b ∉ ch:=fun b o e hx hb=>by
  rcases (hch b hb).1 with z | z
  ·exact hx z
  ·exact absurd (Nat.lt_of_lt_of_le (Heap.lt_size e) z) (Nat.lt_irrefl _)
 have cellK:∀x c,X.env.cells.lookup x=some c→∀v,s.heap.IsCell c v→h'.IsCell c v:=fun x c e v ⟨o,ho,hd⟩=>by
  have nch:c ∉ ch:=fun z=>(hch c z).2.2.1 x c e rfl
  by_cases hc:c∈X.fs
  ·obtain ⟨sl,q⟩:=slot c o (I.cne x c e) hc nch ho (I.freeC x c e)
   exact ⟨_,q,hd⟩
  ·exact ⟨o,keep c o (I.cne x c e) hc nch ho (I.freeC x c e),hd⟩
 refine ⟨I.ok,I.os,hg,⟨fun b o e n hb hx=>?_,fun b o e n hb hx=>?_,fun b o e n hx=>?_,fun b o e hx=>?_,fun b xs e=>tups b xs (I.base.tups b xs e),fun b o xs e=>frzs b o xs (I.base.frzs b o xs e),fun b ps e=>?_⟩,?_,fun x c e=>?_,?_,fun x c e=>?_,fun p hp=>?_,hok,I.len⟩
 ·exact keep b o (neL b o e) hb (neC b o e hx) (I.base.keep b o e n hb hx) (I.base.free b o e n hx)
 ·obtain ⟨sl,e1⟩:=I.base.slot b o e n hb hx
  obtain ⟨sl',e2⟩:=slot b _ (neL b o e) hb (neC b o e hx) e1 (I.base.free b o e n hx)
  exact ⟨sl',e2⟩
 ·obtain ⟨o',e1⟩:=I.base.there b o e hx
  exact free b o' (neC b o e hx) e1 (I.base.free b o e n hx)
 ·obtain ⟨o',e1⟩:=I.base.there b o e hx
  exact there b o' (neC b o e hx) e1
 ·obtain ⟨m1,e1⟩:=I.base.tbls b ps e
  obtain ⟨m2,e2⟩:=tbls b _ e1
  exact ⟨m1++m2,by rw [e2,Array.append_assoc]⟩
 ·obtain ⟨m,hn,hl⟩:=I.loc
  refine ⟨m,ns m hn,fun i x v e1 e2 e3=>?_⟩
  obtain ⟨u,r,l⟩:=hl i x v e1 e2 e3
  refine ⟨u,r,?_⟩
  rcases l with l | ⟨k,c,e,z⟩
  ·exact .inl l
  ·exact .inr ⟨k,c,e,cellK x c e _ z⟩
 ·obtain ⟨v,z⟩:=I.cell x c e
  exact ⟨v,cellK x c e v z⟩
 ·obtain ⟨m,⟨o,_,_,ho,_⟩,_⟩:=I.loc
  exact free _ o (fun z=>(hch _ z).2.1 rfl) ho I.free
 ·obtain ⟨v,o,ho,hd⟩:=I.cell x c e
  exact free c o (fun z=>(hch c z).2.2.1 x c e rfl) ho (I.freeC x c e)
 ·obtain ⟨e,n,ne,nf,d⟩:=I.pin p hp
  have nch:p.1 ∉ ch:=fun z=>(hch p.1 z).2.2.2 p hp rfl
  exact ⟨keep p.1 p.2 ne nf nch e n,free p.1 p.2 nch e n,ne,nf,d⟩
theorem Inv.un {t':Nat} (I:Inv X pins σ H s) (u:Un X.fs [] H H' s.heap h') (hok:HOk X.prog X.w H' h'):Inv X pins σ H' { s with heap:=h',toks:=t' }:=by
 obtain ⟨m,⟨o,es,ep,ho,r⟩,_⟩:=id I.loc
 obtain ⟨sl,hL⟩:=u.any ho I.free (by simp)
 exact I.step (g':=s.gens) (d':=s.drawn) (ch:=[]) (fun _ z=>nomatch z) (fun b o _ hb _ e n=>u.keep b o e n hb (by simp)) (fun b o _ hb _ e n=>u.slot b o e n hb (by simp)) (fun b o _ e n=>u.free b o e n (by simp)) (fun b o _ e=>u.there b o e (by simp)) u.tups u.frzs u.tbls (fun m' hm=>by
  obtain ⟨o',es',ep',ho',r'⟩:=hm
  rw [ho] at ho';cases ho'
  exact ⟨_,es',ep',hL,r'⟩) hok I.bare
theorem Inv.call {g':Array GenState} {t':Nat} {d':Drawn} {ch:List Addr} (I:Inv X pins σ H s) (u:Un (frs X.stack) ch H H' s.heap h') (hok:HOk X.prog X.w H' h') (hg:AllBare g')
  (hch:∀b∈ch,(b∈X.ex∨X.s₀.heap.objs.size≤b)∧b≠X.env.locals∧(∀x c,X.env.cells.lookup x=some c→c≠b)∧∀p∈X.pn++pins,p.1≠b) :
  Inv X pins σ H' { s with heap:=h',gens:=g',drawn:=d',toks:=t' }:=by
 obtain ⟨m,⟨o,es,ep,ho,r⟩,_⟩:=id I.loc
 obtain ⟨sl,hL⟩:=u.any ho I.free fun z=>(hch _ z).2.1 rfl
 exact I.step (ch:=ch) hch (fun b o hL hb hc e n=>u.keep b o e n (fun z=>(List.mem_cons.mp (I.stkSub b z)).elim hL hb) hc) (fun b o _ _ hc e n=>u.any e n hc) (fun b o hc e n=>u.free b o e n hc) (fun b o hc e=>u.there b o e hc) u.tups u.frzs u.tbls (fun m' hm=>by
  obtain ⟨o',es',ep',ho',r'⟩:=hm
  rw [ho] at ho';cases ho'
  exact ⟨_,es',ep',hL,r'⟩) hok hg
theorem Inv.turned {t':Nat} {it:Addr} (I:Inv X pins σ H s) (k:∀b o,b≠it→s.heap.get? b=some o→h'.get? b=some o) (hn:H it=none) (hL:it≠X.env.locals)
  (h1:it∈X.ex∨X.s₀.heap.objs.size≤it) (h2:∀x c,X.env.cells.lookup x=some c→c≠it) (h3:∀p∈X.pn++pins,p.1≠it):Inv X pins σ H { s with heap:=h',toks:=t' }:=by
 have nit:∀b u,H b=some u→b≠it:=fun b u e z=>by rw [z,hn] at e;cases e
 refine I.step (g':=s.gens) (d':=s.drawn) (ch:=[it]) (fun b hb=>?_) (fun b o _ _ hc e _=>k b o (fun z=>hc (by simp [z])) e) (fun b o _ _ hc e _=>⟨o.slots,k b o (fun z=>hc (by simp [z])) e⟩) (fun _ _ _ _ n=>n)
  (fun b o hc e=>⟨o,k b o (fun z=>hc (by simp [z])) e⟩) (fun _ _ e=>e) (fun _ _ _ e=>e) (fun b ps e=>⟨#[],by rw [e];simp⟩) (fun m hm=>?_) (fun b u e=>?_) I.bare
 ·have e:b=it:=by simpa using hb
  subst e
  exact ⟨h1,hL,h2,h3⟩
 ·obtain ⟨o,es,ep,ho,r⟩:=hm
  exact ⟨o,es,ep,k _ o (Ne.symm hL) ho,r⟩
 ·refine (I.hok b u e).stay (fun c v hc q=>k c v ?_ q) (fun _ q=>q) fun _ _ q=>q
  rcases hc with z | z
  ·rw [z];exact nit b u e
  ·exact nit c _ z
theorem Inv.tok (I:Inv X pins σ H s) (t:Nat):Inv X pins σ H { s with toks:=t }:=I.un (h':=s.heap) (t':=t) Un.refl I.hok
theorem Inv.kept {t':Nat} (I:Inv X pins σ H s) (k:∀b u,s.heap.get? b=some u→h'.get? b=some u):Inv X pins σ H { s with heap:=h',toks:=t' }:=I.un (Un.kept k) (I.hok.kept k)
theorem Inv.laid {a:Addr} {o:HO} {t':Nat} (I:Inv X pins σ H s) (k:∀b u,s.heap.get? b=some u→h'.get? b=some u) (hp:s.heap.objs.size≤a) (new:ObjOk X.prog X.w (upd H a o) h' a o) :
  Inv X pins σ (upd H a o) { s with heap:=h',toks:=t' }:=I.un (Un.laid k hp (I.hok.fresh hp)) (I.hok.laid k hp new)
theorem Inv.write {x e:Addr} {o:HO} {t':Nat} (I:Inv X pins σ H s) (mu:Mut (H x)) (he:e=x∨H e=some (.own x)) (k:∀b u,b≠e→s.heap.get? b=some u→h'.get? b=some u) (heo:∃u,h'.get? e=some u)
  (new:ObjOk X.prog X.w (upd H x o) h' x o):Inv X pins σ (upd H x o) { s with heap:=h',toks:=t' }:=I.un (Un.write mu he k heo) (I.hok.write mu he k heo new)
theorem Inv.pins_of {pins':List (Addr×Obj)} (I:Inv X pins σ H s) (h:∀p∈pins',s.heap.get? p.1=some p.2∧H p.1=none∧p.1≠X.env.locals∧p.1 ∉ X.fs∧∀v,p.2.data≠.cell v):Inv X pins' σ H s :=
 ⟨I.ok,I.os,I.bare,I.base,I.loc,I.cell,I.free,I.freeC,fun p hp=>(List.mem_append.mp hp).elim (fun z=>I.pin p (List.mem_append_left _ z)) (h p),I.hok,I.len⟩
theorem nodup_ix {N:List Str} (hN:N.Nodup) {i j:Nat} {x:Str} (a:N[i]?=some x) (b:N[j]?=some x):i=j:=by
 obtain ⟨h1,e1⟩:=List.getElem?_eq_some_iff.mp a
 obtain ⟨h2,e2⟩:=List.getElem?_eq_some_iff.mp b
 exact (List.getElem_inj hN).mp (e1.trans e2.symm)
theorem store_ok2 {M:Model} {A:Around} {E:Value→Shared→Prop} {i:Nat} {x:Str} {v:V} {u:Value} {Q:Unit→Shared→Prop} (I:Inv X pins σ H s) (hN:X.N.Nodup) (hi:X.N[i]?=some x) (hx:Loc X.env.scope x) (r:RelV v u)
  (h:∀s',Inv X pins (σ.set i (some v)) H s'→(∃a,Heap.SameBut a s.heap s'.heap∧(a=X.env.locals∨X.env.cells.lookup x=some a))→Q () s') (hf:X.fn x=true∨X.env.scope.names.lookup x=some .local:=by first | exact .inl rfl | exact .inr rfl | assumption):wpAny M A (storeName X.env x u) Q E s:=by
 obtain ⟨m,hn,hl⟩:=id I.loc
 have hcls:(X.env.scope.kind == .class || (X.env.scope.kind == .module && X.env.locals != X.env.globals))=false:=by rw [I.ok.kind];rfl
 have hiσ:i < σ.length:=by rw [I.len];exact (List.getElem?_eq_some_iff.mp hi).1
 have cne:=I.cne
 have tracked:∀{a:Addr} {h':Heap},(∃o,s.heap.get? a=some o∧H a=none)→Heap.SameBut a s.heap h'→HOk X.prog X.w H h':=fun {a h'} ha hs b ob e=>by
  obtain ⟨_,_,hfree⟩:=ha
  refine (I.hok b ob e).stay (fun c w' hc q=>(hs.2 c ?_).trans q) (fun _ q=>q) fun _ _ q=>q
  rintro rfl
  rcases hc with rfl | hc
  ·rw [hfree] at e;cases e
  ·rw [hfree] at hc;cases hc
 rcases hx with hk | hk
 ·refine wpAny_storeName_local hk hn (fun h' hn' hs=>?_) hcls
  obtain ⟨oL,_,_,hoL,_⟩:=id hn
  refine h _ ⟨I.ok,I.os,I.bare,⟨fun b o e n hb hx=>?_,fun b o e n hb hx=>?_,I.base.free,fun b o e hx=>?_,I.base.tups,I.base.frzs,I.base.tbls⟩,⟨_,hn',fun j y v' e1 e2 e3=>?_⟩,fun y c e=>?_,I.free,I.freeC,fun p hp=>?_,tracked ⟨oL,hoL,I.free⟩ hs,by simpa using I.len⟩ ⟨_,hs,.inl rfl⟩
  ·exact (hs.2 b (Nat.ne_of_lt (Nat.lt_of_lt_of_le (Heap.lt_size e) I.ok.above))).trans (I.base.keep b o e n hb hx)
  ·obtain ⟨sl,e1⟩:=I.base.slot b o e n hb hx
   exact ⟨sl,(hs.2 b (Nat.ne_of_lt (Nat.lt_of_lt_of_le (Heap.lt_size e) I.ok.above))).trans e1⟩
  ·obtain ⟨o',e1⟩:=I.base.there b o e hx
   exact ⟨o',(hs.2 b (Nat.ne_of_lt (Nat.lt_of_lt_of_le (Heap.lt_size e) I.ok.above))).trans e1⟩
  ·by_cases hj:j=i
   ·subst hj
    rw [hi] at e1;cases e1
    rw [List.getElem?_set_self hiσ] at e2
    cases e2
    exact ⟨u,r,.inl ⟨hk,by simp⟩⟩
   ·rw [List.getElem?_set_ne (Ne.symm hj)] at e2
    obtain ⟨u',r',q⟩:=hl j y v' e1 e2 e3
    refine ⟨u',r',?_⟩
    rcases q with ⟨k,e⟩ | ⟨k,c,e,z⟩
    ·refine .inl ⟨k,?_⟩
     have:y≠x:=fun e=>hj (nodup_ix hN e1 (e▸hi))
     simp [this,e]
    ·exact .inr ⟨k,c,e,z.sameBut hs (cne y c e)⟩
  ·obtain ⟨w',z⟩:=I.cell y c e
   exact ⟨w',z.sameBut hs (cne y c e)⟩
  ·obtain ⟨e,n,ne,nf,d⟩:=I.pin p hp
   exact ⟨(hs.2 p.1 ne).trans e,n,ne,nf,d⟩
 ·have hfn:X.fn x=true:=by
   rcases hf with z | z
   ·exact z
   ·rw [z] at hk;cases hk
  obtain ⟨c,hc⟩:=I.ok.has x (.inl hk)
  obtain ⟨w',z⟩:=I.cell x c hc
  refine wpAny_storeName_cell I.ok.kind hk hc z (fun h' hc' hs=>?_)
  obtain ⟨oc,hoc,hocd⟩:=id z
  refine h { s with heap:=h' } ⟨I.ok,I.os,I.bare,⟨fun b o e n hb hx=>?_,fun b o e n hb hx=>?_,I.base.free,fun b o e hx=>?_,I.base.tups,I.base.frzs,I.base.tbls⟩,⟨m,hn.sameBut hs (Ne.symm (cne x c hc)),fun j y v' e1 e2 e3=>?_⟩,fun y c' e=>?_,I.free,I.freeC,fun p hp=>?_,tracked ⟨oc,hoc,I.freeC x c hc⟩ hs,by simpa using I.len⟩ ⟨c,hs,.inr hc⟩
  ·exact (hs.2 b (Nat.ne_of_lt (Nat.lt_of_lt_of_le (Heap.lt_size e) (I.ok.cab x c hfn hc)))).trans (I.base.keep b o e n hb hx)
  ·obtain ⟨sl,e1⟩:=I.base.slot b o e n hb hx
   exact ⟨sl,(hs.2 b (Nat.ne_of_lt (Nat.lt_of_lt_of_le (Heap.lt_size e) (I.ok.cab x c hfn hc)))).trans e1⟩
  ·obtain ⟨o',e1⟩:=I.base.there b o e hx
   exact ⟨o',(hs.2 b (Nat.ne_of_lt (Nat.lt_of_lt_of_le (Heap.lt_size e) (I.ok.cab x c hfn hc)))).trans e1⟩
  ·by_cases hj:j=i
   ·subst hj
    rw [hi] at e1;cases e1
    rw [List.getElem?_set_self hiσ] at e2
    cases e2
    exact ⟨u,r,.inr ⟨.inl hk,c,hc,hc'⟩⟩
   ·rw [List.getElem?_set_ne (Ne.symm hj)] at e2
    obtain ⟨u',r',q⟩:=hl j y v' e1 e2 e3
    refine ⟨u',r',?_⟩
    rcases q with q | ⟨k,c',e,z'⟩
    ·exact .inl q
    ·refine .inr ⟨k,c',e,z'.sameBut hs ?_⟩
     rintro rfl
     exact hj (nodup_ix hN e1 (I.ok.inj _ _ _ e hc▸hi))
  ·by_cases hcc:c'=c
   ·subst hcc;exact ⟨_,hc'⟩
   ·obtain ⟨w2,z2⟩:=I.cell y c' e
    exact ⟨w2,z2.sameBut hs hcc⟩
  ·obtain ⟨e,n,ne,nf,d⟩:=I.pin p hp
   refine ⟨(hs.2 p.1 ?_).trans e,n,ne,nf,d⟩
   intro q
   rw [q,hoc] at e
   have q':oc=p.2:=Option.some.inj e
   exact d w' (by rw [← q'];exact hocd)
theorem store_ok {M:Model} {A:Around} {E:Value→Shared→Prop} {i:Nat} {x:Str} {v:V} {u:Value} {Q:Unit→Shared→Prop} (I:Inv X pins σ H s) (hN:X.N.Nodup) (hi:X.N[i]?=some x) (hx:Loc X.env.scope x) (r:RelV v u)
  (h:∀s',Inv X pins (σ.set i (some v)) H s'→Q () s') (hf:X.fn x=true∨X.env.scope.names.lookup x=some .local:=by first | exact .inl rfl | exact .inr rfl | assumption):wpAny M A (storeName X.env x u) Q E s :=
 store_ok2 I hN hi hx r (fun s' I' _=>h s' I') hf
theorem Inv.call' {s':Shared} {ch:List Addr} (I:Inv X pins σ H s) (ho:s'.os=s.os) (u:Un (frs X.stack) ch H H' s.heap s'.heap) (hok:HOk X.prog X.w H' s'.heap) (hg:AllBare s'.gens)
  (hch:∀b∈ch,(b∈X.ex∨X.s₀.heap.objs.size≤b)∧b≠X.env.locals∧(∀x c,X.env.cells.lookup x=some c→c≠b)∧∀p∈X.pn++pins,p.1≠b):Inv X pins σ H' s':=by
 obtain ⟨h',g',d',t',o'⟩:=s'
 have e:o'=s.os:=ho
 subst e
 exact I.call (g':=g') (t':=t') (d':=d') u hok hg hch
end
abbrev XK:=Value→Option Addr→Hp→Prop
abbrev St:=List (Option V)
abbrev VK:=V→Hp→Prop
abbrev TE:=St→Hp→VK→Prop
abbrev TT:=St→Hp→(Bool→Hp→Prop)→Prop
abbrev TA:=St→Hp→(List V→Hp→Prop)→Prop
structure Ends where
 nx:St→Hp→Prop
 rt:VK
 bk:St→Hp→Prop:=fun _ _=>False
 ct:St→Hp→Prop:=fun _ _=>False
abbrev TS:=Ends→St→Hp→Prop
def EP (X:Cx) (pins:List (Addr×Obj)) (σ:St) (Q:VK) (u:Value) (s':Shared):Prop:=∃v H',Inv X pins σ H' s'∧RelV v u∧Q v H'
def TP (X:Cx) (pins:List (Addr×Obj)) (σ:St) (Q:Bool→Hp→Prop) (b:Bool) (s':Shared):Prop:=∃H',Inv X pins σ H' s'∧Q b H'
def AP (X:Cx) (pins:List (Addr×Obj)) (σ:St) (Q:List V→Hp→Prop) (us:List Value) (s':Shared):Prop:=∃vs H',Inv X pins σ H' s'∧Vals vs us∧Q vs H'
def SP (X:Cx) (pins:List (Addr×Obj)) (D:Ends) (f:Flow) (s':Shared):Prop :=
 match f with
 | .next=>∃σ' H',Inv X pins σ' H' s'∧D.nx σ' H'
 | .brk=>∃σ' H',Inv X pins σ' H' s'∧D.bk σ' H'
 | .cont=>∃σ' H',Inv X pins σ' H' s'∧D.ct σ' H'
 | .ret u=>∃v σ' H',Inv X pins σ' H' s'∧RelV v u∧D.rt v H'
def PE (X:Cx) (e:Expr) (t:TE):Prop :=
 ∀(pins:List (Addr×Obj)) (s:Shared) (σ:St) (H:Hp) (Q:VK),Inv X pins σ H s→t σ H Q→wpAny (model X.prog X.w) X.A (eval e X.env) (EP X pins σ Q) X.xe s
def PT (X:Cx) (e:Expr) (t:TT):Prop :=
 ∀(pins:List (Addr×Obj)) (s:Shared) (σ:St) (H:Hp) (Q:Bool→Hp→Prop),Inv X pins σ H s→t σ H Q→wpAny (model X.prog X.w) X.A (isTrue e X.env (eval e X.env)) (TP X pins σ Q) X.xe s
def PW (X:Cx) (e:Expr) (t:TT):Prop :=
 ∀(whole:Sem Value) (pins:List (Addr×Obj)) (s:Shared) (σ:St) (H:Hp) (Q:Bool→Hp→Prop),Inv X pins σ H s→t σ H Q→wpAny (model X.prog X.w) X.A (isTrue e X.env whole) (TP X pins σ Q) X.xe s
theorem PW.pt {X:Cx} {e:Expr} {t:TT} (h:PW X e t):PT X e t:=h _
def PA (X:Cx) (es:List Expr) (t:TA):Prop :=
 ∀(pos:Pos) (pins:List (Addr×Obj)) (s:Shared) (σ:St) (H:Hp) (Q:List V→Hp→Prop),Inv X pins σ H s→t σ H Q→wpAny (model X.prog X.w) X.A (spliced (backTo pos (starEach es X.env))) (AP X pins σ Q) X.xe s
def PS (X:Cx) (st:Stmt) (t:TS):Prop :=
 ∀(pins:List (Addr×Obj)) (s:Shared) (σ:St) (H:Hp) (D:Ends),Inv X pins σ H s→t D σ H→wpAny (model X.prog X.w) X.A (exec st X.env) (SP X pins D) X.xe s
def PSs (X:Cx) (st:List Stmt) (t:TS):Prop :=
 ∀(pins:List (Addr×Obj)) (s:Shared) (σ:St) (H:Hp) (D:Ends),Inv X pins σ H s→t D σ H→wpAny (model X.prog X.w) X.A (execs st X.env) (SP X pins D) X.xe s
theorem thn {α:Type} {t:Sem α} {Q Q':α→Shared→Prop} {M:Model} {A:Around} {E:Value→Shared→Prop} {s:Shared} (h:wpAny M A t Q E s) (hQ:∀a s,Q a s→Q' a s):wpAny M A t Q' E s:=wpAny_mono h hQ fun _ _ x=>x
section
variable {X:Cx}
def tVar (i:Nat):TE:=fun σ H Q=>∃v,σ[i]?=some (some v)∧Q v H
def tC (v:V):TE:=fun _ H Q=>Q v H
theorem pe_var {i:Nat} {x:Str} {pos:Pos} (hN:X.N[i]?=some x) (hv:Vis X.env.scope x) (hd:(x == ("__debug__" : Str))=false:=by decide) (hcd:(x == ("__classdict__" : Str))=false:=by decide):PE X (.Name x pos) (tVar i):=by
 intro pins s σ H Q I h
 obtain ⟨v,e,h⟩:=h
 obtain ⟨m,hn,hl⟩:=I.loc
 obtain ⟨u,r,l⟩:=hl i x v hN e hv
 have fin:EP X pins σ Q u s:=⟨v,H,I,r,h⟩
 rcases l with ⟨hk,hm⟩ | ⟨hk,c,hc,hcell⟩
 ·exact wpAny_Name (wpAny_loadName_local I.ok.kind hk hn hm fin) hd
 ·rcases hk with hk | hk
  ·exact wpAny_Name (wpAny_loadName_cell I.ok.kind hk hc hcell fin) hd
  ·exact wpAny_Name (wpAny_loadName_free I.ok.kind hk hc hcell fin hcd) hd
theorem pe_int {i j pos}:PE X (.Constant (.int i) j pos) (tC (.int i)):=fun _ _ _ H _ I h=>wpAny_Constant_int ⟨.int i,H,I.tok _,⟨_,rfl⟩,h⟩
theorem pe_bl {b j pos}:PE X (.Constant (.bool b) j pos) (tC (.bl b)):=fun _ _ _ H _ I h=>Constant_bool ⟨.bl b,H,I,rfl,h⟩
theorem pe_non {j pos}:PE X (.Constant .none j pos) (tC .non):=fun _ _ _ H _ I h=>Constant_none ⟨.non,H,I,rfl,h⟩
theorem pe_str {x j pos}:PE X (.Constant (.str x) j pos) (tC (.str x)):=fun _ _ _ H _ I h=>Calls.Constant_str ⟨.str x,H,I.tok _,⟨_,rfl⟩,h⟩
def Gl (X:Cx) (x:Str):Prop:=X.env.kindOf x=some .globalImplicit
theorem ld_glob {E:Value→Shared→Prop} {pins:List (Addr×Obj)} {s:Shared} {σ:St} {H:Hp} {x:Str} {u:Value} {pos:Pos} {Q:Value→Shared→Prop} (I:Inv X pins σ H s) (hg:Gl X x) (hm:X.mg x=some u) (h:Q u s)
  (hd:(x == ("__debug__" : Str))=false:=by decide):wpAny (model X.prog X.w) X.A (eval (.Name x pos) X.env) Q E s :=
 Calls.Name_function_global I.ok.kind hg (Calls.loadGlobal_global (by rw [I.ok.glob];exact I.mod.glob.keeps I.bk) hm h) hd
theorem ld_blt {E:Value→Shared→Prop} {pins:List (Addr×Obj)} {s:Shared} {σ:St} {H:Hp} {x:Str} {u:Value} {pos:Pos} {Q:Value→Shared→Prop} (I:Inv X pins σ H s) (hg:Gl X x) (hm:X.mg x=none) (hv:bootBuiltins x=some u) (h:Q u s)
  (hn:x ≠ "__name__" := by decide) (hd:(x == ("__debug__" : Str))=false:=by decide):wpAny (model X.prog X.w) X.A (eval (.Name x pos) X.env) Q E s:=by
 obtain ⟨mb,h1,h2⟩:=I.mod.blt
 exact Calls.Name_function_global I.ok.kind hg (Calls.loadGlobal_builtin (by rw [I.ok.glob];exact I.mod.glob.keeps I.bk) hm (by rw [I.ok.blt];exact h1.keeps I.bk) ((h2 x hn).trans hv) h) hd
theorem pe_glob {x:Str} {v:V} {u:Value} {pos:Pos} (hg:Gl X x) (hm:X.mg x=some u) (r:RelV v u) (hd:(x == ("__debug__" : Str))=false:=by decide):PE X (.Name x pos) (tC v) :=
 fun _ _ _ H _ I h=>ld_glob I hg hm ⟨v,H,I,r,h⟩ hd
theorem pe_bltn {x:Str} {v:V} {u:Value} {pos:Pos} (hg:Gl X x) (hm:X.mg x=none) (hv:bootBuiltins x=some u) (r:RelV v u) (hn:x ≠ "__name__" := by decide) (hd:(x == ("__debug__" : Str))=false:=by decide):PE X (.Name x pos) (tC v) :=
 fun _ _ _ H _ I h=>ld_blt I hg hm hv ⟨v,H,I,r,h⟩ hn hd
variable {a b:Expr} {ta tb:TE} {pos:Pos}
def tB (t:TE):TT:=fun σ H Q=>t σ H fun x H1=>∃c,x=.bl c∧Q c H1
theorem pt_val {e:Expr} {t:TE} (h:PE X e t) (he:∀whole,isTrue e X.env whole=(do let v ← whole;standAt e.pos;holding [v] (truthy v)):=by intro _;rfl):PT X e (tB t):=by
 intro pins s σ H Q I hw
 refine isTrue_plain (thn (h pins s σ H _ I hw) fun v s1 ⟨x,H1,I1,r1,q1⟩=>?_) (he _)
 obtain ⟨d,rfl,q⟩:=q1
 cases r1
 exact wpAny_truthy_bool ⟨H1,I1,q⟩
variable {tA tB':TT} {rest:List Expr}
def tOr (t u:TT):TT:=fun σ H Q=>t σ H fun c H1=>if c=true then Q true H1 else u σ H1 Q
def tNot (t:TT):TT:=fun σ H Q=>t σ H fun c H1=>Q (!c) H1
theorem pw_or1 (ha:PT X a tA):PW X (.BoolOp .Or [a] pos) tA:=by
 intro wh pins s σ H Q I h
 refine isTrue_or (thn (ha pins s σ H Q I h) fun c s1 e=>?_)
 cases c with
 | false=>exact isTrue_or_nil e
 | true=>exact e
theorem pw_or (ha:PT X a tA) (hb:PW X (.BoolOp .Or (b::rest) pos) tB'):PW X (.BoolOp .Or (a::b::rest) pos) (tOr tA tB'):=by
 intro wh pins s σ H Q I h
 refine isTrue_or (thn (ha pins s σ H _ I h) fun c s1 ⟨H1,I1,q1⟩=>?_)
 cases c with
 | true=>exact ⟨H1,I1,q1⟩
 | false=>exact hb wh pins s1 σ H1 Q I1 q1
theorem pt_not (ha:PT X a tA):PT X (.UnaryOp .Not a pos) (tNot tA):=by
 intro pins s σ H Q I h
 exact isTrue_not (ha pins s σ H (fun c H1=>Q (!c) H1) I h)
def tAndV (ta tb:TE):TE:=fun σ H Q=>ta σ H fun x H1=>∃c,x=.bl c∧if c=true then tb σ H1 Q else Q (.bl false) H1
def tNotV (ta:TE):TE:=fun σ H Q=>ta σ H fun x H1=>∃c,x=.bl c∧Q (.bl (!c)) H1
theorem pe_one {op} {t:TE} (h:PE X a t):PE X (.BoolOp op [a] pos) t:=fun pins s σ H Q I hw=>BoolOp_one (h pins s σ H Q I hw)
theorem pe_and (ha:PE X a ta) (hb:PE X (.BoolOp .And (b::rest) pos) tb):PE X (.BoolOp .And (a::b::rest) pos) (tAndV ta tb):=by
 intro pins s σ H Q I h
 refine BoolOp_and (thn (ha pins s σ H _ I h) fun v s1 ⟨x,H1,I1,r1,q1⟩=>?_)
 obtain ⟨c,rfl,q1⟩:=q1
 cases r1
 refine wpAny_truthy_bool ?_
 cases c with
 | true=>exact hb pins s1 σ H1 Q I1 q1
 | false=>exact ⟨.bl false,H1,I1,rfl,q1⟩
theorem pe_not (ha:PE X a ta):PE X (.UnaryOp .Not a pos) (tNotV ta):=by
 intro pins s σ H Q I h
 refine UnaryOp_ (thn (ha pins s σ H _ I h) fun v s1 ⟨x,H1,I1,r1,q1⟩=>?_)
 obtain ⟨c,rfl,q1⟩:=q1
 cases r1
 exact not_of (wpAny_truthy_bool ⟨.bl (!c),H1,I1,rfl,q1⟩)
end
def SqL (K:W.Frag) (H:Hp) (a:Addr) (xs:List V):Prop :=
 Rd H a (.lst xs) ∨
  ∃(o:Obj) (its:Array Value) (n:Nat),K.lookup a=some o∧o.cls=.type "list" ∧ o.dict=none∧o.data=.seq its n∧its.size≤sizeLine∧Vals xs its.toList
def SqT (K:W.Frag) (H:Hp) (a:Addr) (xs:List V):Prop :=
 Rd H a (.tup xs) ∨
  ∃(o:Obj) (its:Array Value) (n:Nat),K.lookup a=some o∧o.cls=.type "tuple" ∧ o.data=.seq its n∧its.size≤sizeLine∧Vals xs its.toList
def absV:Value→Option V
 | .none=>some .non
 | .bool b=>some (.bl b)
 | .int i _=>some (.int i)
 | .str x _=>some (.str x)
 | .bytes b _=>some (.byt b)
 | .float b _=>some (.flt b)
 | .ref a=>some (.ref a)
 | .type n=>some (.ty n)
 | _=>none
theorem RelV.abs {x:V} {u:Value} (r:RelV x u):absV u=some x:=by
 cases x with
 | non=>cases r;rfl
 | bl _=>cases r;rfl
 | int _=>obtain ⟨t,rfl⟩:=r;rfl
 | str _=>obtain ⟨t,rfl⟩:=r;rfl
 | byt _=>obtain ⟨t,rfl⟩:=r;rfl
 | flt _=>obtain ⟨t,rfl⟩:=r;rfl
 | ref _=>cases r;rfl
 | ty _=>cases r;rfl
theorem RelV.inj {x y:V} {u:Value} (r:RelV x u) (q:RelV y u):x=y:=Option.some.inj (r.abs.symm.trans q.abs)
theorem Vals.inj:∀{xs ys:List V} {us:List Value},Vals xs us→Vals ys us→xs=ys
 | _,_,_,.nil,.nil=>rfl
 | _,_,_,.cons r t,.cons r' t'=>by rw [r.inj r',Vals.inj t t']
section
variable {X:Cx} {pins:List (Addr×Obj)} {σ:St} {H:Hp} {s:Shared} {a:Addr} {xs ys:List V}
theorem SqL.of {K:W.Frag} (h:H a=some (.lst xs)):SqL K H a xs:=.inl (.inl h)
theorem SqT.of {K:W.Frag} (h:H a=some (.tup xs)):SqT K H a xs:=.inl (.inl h)
theorem Inv.list (I:Inv X pins σ H s) (h:SqL X.K H a xs):∃its:List Value,Vals xs its∧PlainL s.heap a its.toArray∧xs.length≤sizeLine:=by
 rcases h with h | ⟨o,its,n,hk,hc,hd,hs,hz,r⟩
 ·obtain ⟨z,its,n,r,e⟩:=h.ok I.hok
  exact ⟨its,r,⟨_,n,e,rfl,rfl,rfl⟩,z⟩
 ·refine ⟨its.toList,r,⟨o,n,I.kIn a o hk,hc,hd,by simpa using hs⟩,?_⟩
  have e:=r.length
  simp only [Array.length_toList] at e
  omega
theorem Inv.tuple (I:Inv X pins σ H s) (h:SqT X.K H a xs):∃its:List Value,Vals xs its∧IsTup s.heap a its.toArray∧xs.length≤sizeLine:=by
 rcases h with h | ⟨o,its,n,hk,hc,hs,hz,r⟩
 ·obtain ⟨z,its,r,p⟩:=h.ok I.hok
  exact ⟨its,r,p,z⟩
 ·refine ⟨its.toList,r,⟨o,I.kIn a o hk,hc,n,by simpa using hs⟩,?_⟩
  have e:=r.length
  simp only [Array.length_toList] at e
  omega
theorem Inv.list_inj (I:Inv X pins σ H s) (h:SqL X.K H a xs) (h':SqL X.K H a ys):xs=ys:=by
 obtain ⟨its,r,⟨o,n,e,_,_,d⟩,_⟩:=I.list h
 obtain ⟨its',r',⟨o',n',e',_,_,d'⟩,_⟩:=I.list h'
 rw [e] at e';cases e'
 rw [d] at d'
 injection d' with d1 _
 have:its=its':=by simpa using congrArg Array.toList d1
 subst this
 exact r.inj r'
theorem Inv.tuple_inj (I:Inv X pins σ H s) (h:SqT X.K H a xs) (h':SqT X.K H a ys):xs=ys:=by
 obtain ⟨its,r,⟨o,e,_,n,d⟩,_⟩:=I.tuple h
 obtain ⟨its',r',⟨o',e',_,n',d'⟩,_⟩:=I.tuple h'
 rw [e] at e';cases e'
 rw [d] at d'
 injection d' with d1 _
 have:its=its':=by simpa using congrArg Array.toList d1
 subst this
 exact r.inj r'
end
abbrev Cx.wish (X:Cx) (E:Value→Shared→Prop):Cx:={ X with xe:=E }
abbrev Cx.nox (X:Cx):Cx:=X.wish fun _ _=>False
theorem Cx.Ok.wish {X:Cx} (ok:X.Ok) (E:Value→Shared→Prop):(X.wish E).Ok :=
 ⟨ok.mod,ok.kind,ok.glob,ok.blt,ok.above,ok.inj,ok.has,ok.cab,ok.hd,ok.frames,ok.stk,ok.exf,ok.bs,ok.bsz,ok.noex,ok.exfs,ok.funs,ok.frf⟩
theorem Cx.Ok.unwish {X:Cx} {E:Value→Shared→Prop} (ok:(X.wish E).Ok):X.Ok :=
 ⟨ok.mod,ok.kind,ok.glob,ok.blt,ok.above,ok.inj,ok.has,ok.cab,ok.hd,ok.frames,ok.stk,ok.exf,ok.bs,ok.bsz,ok.noex,ok.exfs,ok.funs,ok.frf⟩
section
variable {X:Cx} {pins:List (Addr×Obj)} {σ:St} {H:Hp} {s:Shared} {E:Value→Shared→Prop}
theorem Inv.wish (I:Inv X pins σ H s) (E:Value→Shared→Prop):Inv (X.wish E) pins σ H s:=⟨I.ok.wish E,I.os,I.bare,I.base,I.loc,I.cell,I.free,I.freeC,I.pin,I.hok,I.len⟩
theorem Inv.unwish (I:Inv (X.wish E) pins σ H s):Inv X pins σ H s:=⟨I.ok.unwish,I.os,I.bare,I.base,I.loc,I.cell,I.free,I.freeC,I.pin,I.hok,I.len⟩
theorem SP.unwish {D:Ends} {f:Flow} {s':Shared} (h:SP (X.wish E) pins D f s'):SP X pins D f s':=by
 cases f with
 | next=>obtain ⟨σ',H',I,q⟩:=h;exact ⟨σ',H',I.unwish,q⟩
 | brk=>obtain ⟨σ',H',I,q⟩:=h;exact ⟨σ',H',I.unwish,q⟩
 | cont=>obtain ⟨σ',H',I,q⟩:=h;exact ⟨σ',H',I.unwish,q⟩
 | ret u=>obtain ⟨v,σ',H',I,r,q⟩:=h;exact ⟨v,σ',H',I.unwish,r,q⟩
theorem PE.nox {e:Expr} {t:TE} (h:PE X.nox e t):PE X e t:=fun pins s σ H Q I hw =>
 wpAny_mono (h pins s σ H Q (I.wish _) hw) (fun _ _ ⟨v,H',I',r,q⟩=>⟨v,H',I'.unwish,r,q⟩) fun _ _ z=>False.elim z
theorem PT.nox {e:Expr} {t:TT} (h:PT X.nox e t):PT X e t:=fun pins s σ H Q I hw =>
 wpAny_mono (h pins s σ H Q (I.wish _) hw) (fun _ _ ⟨H',I',q⟩=>⟨H',I'.unwish,q⟩) fun _ _ z=>False.elim z
theorem PSs.nox {st:List Stmt} {t:TS} (h:PSs X.nox st t):PSs X st t:=fun pins s σ H D I hw =>
 wpAny_mono (h pins s σ H D (I.wish _) hw) (fun _ _ q=>q.unwish) fun _ _ z=>False.elim z
end
section
variable {X:Cx} {st:Stmt} {rest:List Stmt} {t u:TS} {e:Expr} {te:TE} {pos:Pos}
def tNext:TS:=fun D σ H=>D.nx σ H
def tSeq (t u:TS):TS:=fun D σ H=>t { D with nx:=u D } σ H
theorem pss_nil:PSs X [] tNext:=fun _ _ σ H _ I h=>wpAny_execs_nil ⟨σ,H,I,h⟩
theorem pss_cons (h1:PS X st t) (h2:PSs X rest u):PSs X (st::rest) (tSeq t u):=by
 intro pins s σ H D I h
 refine wpAny_execs_cons (thn (h1 pins s σ H { D with nx:=u D } I h) fun f s1 q=>?_)
 cases f with
 | next =>
  obtain ⟨σ',H',I',q⟩:=q
  exact h2 pins s1 σ' H' D I' q
 | ret v=>exact q
 | brk=>exact q
 | cont=>exact q
theorem pss_one (h1:PS X st t):PSs X [st] t:=by
 intro pins s σ H D I h
 refine wpAny_execs_cons (thn (h1 pins s σ H D I h) fun f s1 q=>?_)
 cases f with
 | next=>exact wpAny_execs_nil q
 | ret v=>exact q
 | brk=>exact q
 | cont=>exact q
theorem Inv.quiet {pins:List (Addr×Obj)} {σ:St} {H:Hp} {s:Shared} (I:Inv X pins σ H s):interactive X.env=false:=by simp [interactive,I.ok.kind]
def tDrop (te:TE):TS:=fun D σ H=>te σ H fun _ H1=>D.nx σ H1
theorem ps_expr (he:PE X e te) (hs:swapsWith e none pos.line X.env=pure false:=by rfl):PS X (.Expr e pos) (tDrop te):=by
 intro pins s σ H D I h
 exact wpAny_Expr_any (thn (he pins s σ H _ I h) fun v s1 ⟨x,H1,I1,r1,q1⟩=>⟨σ,H1,I1,q1⟩) I.quiet hs
def tRet (te:TE):TS:=fun D σ H=>te σ H D.rt
theorem ps_ret (he:PE X e te):PS X (.Return (some e) pos) (tRet te):=by
 intro pins s σ H D I h
 exact wpAny_Return_some (thn (he pins s σ H _ I h) fun v s1 ⟨x,H1,I1,r1,q1⟩=>⟨x,σ,H1,I1,r1,q1⟩)
def tIfS (c:TT) (t u:TS):TS:=fun D σ H=>c σ H fun b H1=>if b=true then t D σ H1 else u D σ H1
theorem ps_if {c:Expr} {a b:List Stmt} {tc:TT} (hc:PT X c tc) (ha:PSs X a t) (hb:PSs X b u):PS X (.If c a b pos) (tIfS tc t u):=by
 intro pins s σ H D I h
 refine wpAny_If (thn (hc pins s σ H _ I h) fun d s1 ⟨H1,I1,q1⟩=>?_)
 cases d with
 | true=>exact ha pins s1 σ H1 D I1 q1
 | false=>exact hb pins s1 σ H1 D I1 q1
def tNever:TS:=fun _ _ _=>False
theorem pss_never {sts:List Stmt}:PSs X sts tNever:=fun _ _ _ _ _ _ h=>h.elim
end
abbrev TG:=V→St→Hp→(St→Hp→Prop)→Prop
abbrev TGs:=List V→St→Hp→(St→Hp→Prop)→Prop
def PG (X:Cx) (target:Expr) (t:TG):Prop :=
 ∀(pins:List (Addr×Obj)) (s:Shared) (σ:St) (H:Hp) (v:V) (u:Value) (Q:St→Hp→Prop),Inv X pins σ H s→RelV v u→t v σ H Q →
  wpAny (model X.prog X.w) X.A (assign target X.env u) (fun _ s'=>∃σ' H',Inv X pins σ' H' s'∧Q σ' H') X.xe s
def PGs (X:Cx) (ts:List Expr) (t:TGs):Prop :=
 ∀(pins:List (Addr×Obj)) (s:Shared) (σ:St) (H:Hp) (vs:List V) (us:List Value) (Q:St→Hp→Prop),Inv X pins σ H s→Vals vs us→t vs σ H Q →
  wpAny (model X.prog X.w) X.A (assignInOrder ((assignEach ts X.env).map (·.2)) us) (fun _ s'=>∃σ' H',Inv X pins σ' H' s'∧Q σ' H') X.xe s
abbrev TSet:=V→V→V→Hp→(Hp→Prop)→Prop
def PSet (X:Cx) (t:TSet):Prop :=
 ∀(pins:List (Addr×Obj)) (s:Shared) (σ:St) (H:Hp) (o i v:V) (ov iv u:Value) (Q:Hp→Prop),Inv X pins σ H s→RelV o ov→RelV i iv→RelV v u→t o i v H Q →
  wpAny (model X.prog X.w) X.A (setItem ov iv u) (fun _ s'=>∃H',Inv X pins σ H' s'∧Q H') X.xe s
section
variable {X:Cx} {pos:Pos}
def gName (i:Nat):TG:=fun v σ H Q=>Q (σ.set i (some v)) H
theorem pg_name {i:Nat} {x:Str} (hN:X.N.Nodup) (hi:X.N[i]?=some x) (hx:Loc X.env.scope x) (hf:X.fn x=true∨X.env.scope.names.lookup x=some .local:=by first | exact .inl rfl | exact .inr rfl | assumption):PG X (.Name x pos) (gName i):=by
 intro pins s σ H v u Q I r h
 exact wpAny_assign_Name (store_ok I hN hi hx r (fun s' I'=>⟨_,H,I',h⟩) hf)
def gNil:TGs:=fun vs σ H Q=>vs=[]∧Q σ H
def gCons (t:TG) (u:TGs):TGs:=fun vs σ H Q=>∃v r,vs=v::r∧t v σ H fun σ' H'=>u r σ' H' Q
theorem pgs_nil:PGs X [] gNil:=by
 intro pins s σ H vs us Q I r h
 obtain ⟨e,h⟩:=h
 subst e
 cases r
 exact assignInOrder_nil ⟨σ,H,I,h⟩
theorem pgs_cons {e:Expr} {es:List Expr} {t:TG} {u:TGs} (h1:PG X e t) (h2:PGs X es u)
  (hs:(assignEach (e::es) X.env).map (·.2)=assign e X.env::(assignEach es X.env).map (·.2):=by rfl):PGs X (e::es) (gCons t u):=by
 intro pins s σ H vs us Q I r h
 obtain ⟨v,vr,e1,h⟩:=h
 subst e1
 cases r with
 | cons r rr =>
  rw [hs]
  refine assignInOrder_cons (thn (h1 pins s σ H _ _ _ I r h) fun _ s1 ⟨σ1,H1,I1,q1⟩=>?_)
  exact h2 pins s1 σ1 H1 _ _ Q I1 rr q1
def gTup (K:W.Frag) (n:Nat) (t:TGs):TG:=fun v σ H Q=>∃a xs,v=.ref a∧SqT K H a xs∧xs.length=n∧t xs σ H Q
theorem pg_tup {es:List Expr} {k:Nat} {t:TGs} {n:Nat} (hc:X.calm=true) (h:PGs X es t)
  (hn:(assignEach es X.env).length=n:=by rfl) (hst:(assignEach es X.env).findIdx? (·.1)=none:=by rfl):PG X (.Tuple es k pos) (gTup X.K n t):=by
 intro pins s σ H v u Q I r hw
 obtain ⟨a,xs,e1,hq,hl,hw⟩:=hw
 subst e1
 cases r
 obtain ⟨its,rv,ht,hz⟩:=I.tuple hq
 refine assign_Tuple_tuple (I.ok.hd hc) ht (by simp [hn,← hl,rv.length]) hst fun h' hx=>?_
 have I1:Inv X pins σ H { s with heap:=h' }:=I.kept (t':=s.toks) fun b o e=>hx b o (Nat.ne_of_lt (Heap.lt_size e)) e
 exact h pins _ σ H xs _ Q I1 (by simpa using rv) hw
def gSub (to ti:TE) (t:TSet):TG:=fun v σ H Q=>to σ H fun o H1=>ti σ H1 fun i H2=>t o i v H2 fun H3=>Q σ H3
theorem pg_sub {o i:Expr} {to ti:TE} {t:TSet} (ho:PE X o to) (hi:PE X i ti) (hs:PSet X t)
  (ha:∀v,assign (.Subscript o i pos) X.env v=(do
   let ov ← holding [v] (eval o X.env)
   let iv ← holding [v,ov] (eval i X.env)
   standAt pos
   holding [v,ov,iv] (setItem ov iv v)
   release [v,ov,iv] []):=by intro _;rfl):PG X (.Subscript o i pos) (gSub to ti t):=by
 intro pins s σ H v u Q I r h
 rw [ha]
 refine wpAny_bind (wpAny_holding (thn (ho pins s σ H _ I h) fun ov s1 ⟨x,H1,I1,r1,q1⟩=>?_))
 refine wpAny_bind (wpAny_holding (thn (hi pins s1 σ H1 _ I1 q1) fun iv s2 ⟨y,H2,I2,r2,q2⟩=>?_))
 refine wpAny_bind (wpAny_standAt (wpAny_bind (wpAny_holding (thn (hs pins s2 σ H2 x y v ov iv u _ I2 r1 r2 r q2) fun _ s3 ⟨H3,I3,q3⟩=>?_))))
 exact wpAny_release ⟨σ,H3,I3,q3⟩
def tAsg (te:TE) (g:TG):TS:=fun D σ H=>te σ H fun x H1=>g x σ H1 D.nx
theorem ps_asg {tg e:Expr} {te:TE} {g:TG} (he:PE X e te) (hg:PG X tg g) (hs:swapsWithSole [tg] e pos.line X.env=pure false:=by rfl) (hw:swappedStores [tg] e X.env=pure none:=by rfl)
  (h1:(assignEach [tg] X.env).map (·.2)=[assign tg X.env]:=by rfl):PS X (.Assign [tg] e pos) (tAsg te g):=by
 intro pins s σ H D I h
 refine wpAny_Assign_stores (thn (he pins s σ H _ I h) fun v s1 ⟨x,H1,I1,r1,q1⟩=>?_) hs hw
 rw [h1]
 exact thn (hg pins s1 σ H1 x v _ I1 r1 q1) fun _ s2 q=>q
theorem ps_set {i:Nat} {x:Str} {e:Expr} {te:TE} {pos':Pos} (hN:X.N.Nodup) (hi:X.N[i]?=some x) (hx:Loc X.env.scope x) (he:PE X e te) (hs:swapsWith e (some (.Name x pos')) pos.line X.env=pure false:=by rfl) (hf:X.fn x=true∨X.env.scope.names.lookup x=some .local:=by first | exact .inl rfl | exact .inr rfl | assumption) :
  PS X (.Assign [.Name x pos'] e pos) (tAsg te (gName i)):=by
 intro pins s σ H D I h
 refine wpAny_Assign_Name (thn (he pins s σ H _ I h) fun v s1 ⟨y,H1,I1,r1,q1⟩=>?_) hs
 exact store_ok I1 hN hi hx r1 (fun s2 I2=>⟨_,H1,I2,q1⟩) hf
end
structure It where
 go:Nat→Hp→Prop
 yld:Nat→Hp→V→Hp→Prop
 stop:Nat→Hp→Prop
def FpOk (X:Cx) (pins:List (Addr×Obj)) (H:Hp) (b:Addr):Prop :=
 H b=none∧b≠X.env.locals∧b ∉ X.fs∧(b∈X.ex∨X.s₀.heap.objs.size≤b)∧(∀x c,X.env.cells.lookup x=some c→c≠b)∧∀p∈X.pn++pins,p.1≠b
theorem Inv.fpOk {X:Cx} {pins:List (Addr×Obj)} {σ:St} {H H':Hp} {s:Shared} {b:Addr} (I:Inv X pins σ H s) (hb:s.heap.objs.size≤b) (hn:H' b=none):FpOk X pins H' b:=by
 refine ⟨hn,Nat.ne_of_gt (Nat.lt_of_lt_of_le I.lt hb),I.nofs hb,.inr (Nat.le_trans I.sz hb),fun x c e z=>?_,fun p hp z=>?_⟩
 ·obtain ⟨v,q⟩:=I.cell x c e
  exact absurd (Nat.lt_of_lt_of_le q.lt (by rw [z];exact hb)) (Nat.lt_irrefl _)
 ·exact absurd (Nat.lt_of_lt_of_le (Heap.lt_size (I.pin p hp).1) (by rw [z];exact hb)) (Nat.lt_irrefl _)
structure Turn (P:Program) (w:World) (K:W.Frag) (tg:Expr) (J:It) (fp:List Addr) (it:Addr) (tn:Nat→Heap→Prop):Prop where
 mem:it∈fp
 obj:∀i h,tn i h→∀b∈fp,∃o,h.get? b=some o∧∀v,o.data≠.cell v
 keep:∀i h h',tn i h→(∀b∈fp,∀o,h.get? b=some o→h'.get? b=some o)→tn i h'
 item:∀(X:Cx),X.prog=P→X.w=w→X.K=K→X.calm=true→∀(i:Nat) (pins:List (Addr×Obj)) (s:Shared) (σ:St) (H:Hp) (E:Value→Shared→Prop),Inv X pins σ H s→(∀b∈fp,FpOk X pins H b)→tn i s.heap→J.go i H →
  wpAny (model P w) X.A (pyNext (.ref it)) (fun r s1=>∃u,r=some u ∧
   wpAny (model P w) X.A (letOwnedTupleGo tg (.ref it) u) (fun _ s2=>∃x H',Inv X pins σ H' s2∧RelV x u∧J.yld i H x H'∧tn (i + 1) s2.heap∧∀b∈fp,H' b=none) E s1) E s
 done:∀(X:Cx),X.prog=P→X.w=w→X.K=K→X.calm=true→∀(i:Nat) (pins:List (Addr×Obj)) (s:Shared) (σ:St) (H:Hp) (E:Value→Shared→Prop),Inv X pins σ H s→(∀b∈fp,FpOk X pins H b)→tn i s.heap→J.stop i H →
  wpAny (model P w) X.A (pyNext (.ref it)) (fun r s1=>r=none∧Inv X pins σ H s1) E s
 self:∀(A:Around) (i:Nat) (s:Shared) (Q:Value→Shared→Prop) (E:Value→Shared→Prop),tn i s.heap→Q (.ref it) s→wpAny (model P w) A (pyIter (.ref it)) Q E s
abbrev TI:=St→Hp→(It→Hp→Prop)→Prop
def PIE (X:Cx) (pins:List (Addr×Obj)) (σ:St) (tg:Expr) (R:It→Hp→Prop) (itv:Value) (s2:Shared):Prop :=
 ∃(it:Addr) (fp:List Addr) (tn:Nat→Heap→Prop) (J:It) (H':Hp),itv=.ref it∧Inv X pins σ H' s2∧Turn X.prog X.w X.K tg J fp it tn∧tn 0 s2.heap∧(∀b∈fp,FpOk X pins H' b)∧R J H'
def PI (X:Cx) (tg iter:Expr) (wi:TI):Prop :=
 ∀(pins:List (Addr×Obj)) (s:Shared) (σ:St) (H:Hp) (R:It→Hp→Prop),Inv X pins σ H s→wi σ H R →
  wpAny (model X.prog X.w) X.A (eval iter X.env) (fun v s1=>wpAny (model X.prog X.w) X.A (pyIter v) (PIE X pins σ tg R) X.xe s1) X.xe s
theorem go_of {M:Model} {A:Around} {E:Value→Shared→Prop} {s:Shared} {tg:Expr} {it:Addr} {u:Value} {o:Obj} {n:String} {vs:Array Value} {Q:Unit→Shared→Prop} (ho:s.heap.get? it=some o) (hc:o.cls=.type n) (hd:o.data=.fields vs)
  (hn:["enumerate", "zip", "dict_itemiterator", "dict_reverseitemiterator", "odict_iterator", "itertools.zip_longest", "itertools.pairwise"].contains n=false) (hQ:Q () s):wpAny M A (letOwnedTupleGo tg (.ref it) u) Q E s:=by
 unfold letOwnedTupleGo
 cases tg <;> first
  | exact wpAny_pure hQ
  | (cases u <;> first
    | exact wpAny_pure hQ
    | (refine wpAny_bind (wpAny_load ho ?_)
       rw [hc,hd]
       show wpAny M A (if (["enumerate", "zip", "dict_itemiterator", "dict_reverseitemiterator", "odict_iterator", "itertools.zip_longest", "itertools.pairwise"].contains n && vs[0]? == some (rawInt _))=true then _ else _) Q E s
       rw [if_neg (by intro h;rw [hn,Bool.false_and] at h;cases h)]
       exact wpAny_pure hQ))
def Itl (K:W.Frag) (a:Addr):It :=
 ⟨fun i H=>∃xs x,SqL K H a xs∧xs[i]?=some x,fun i H x H'=>H'=H∧∀xs,SqL K H a xs→xs[i]?=some x,fun i H=>∃xs,SqL K H a xs∧xs.length≤i⟩
def Itt (K:W.Frag) (a:Addr):It :=
 ⟨fun i H=>∃xs x,SqT K H a xs∧xs[i]?=some x,fun i H x H'=>H'=H∧∀xs,SqT K H a xs→xs[i]?=some x,fun i H=>∃xs,SqT K H a xs∧xs.length≤i⟩
def Itr (lo:Int) (n:Nat):It:=⟨fun i _=>i < n,fun i H x H'=>H'=H∧x=.int (lo + i),fun i _=>n≤i⟩
theorem turn_list {P:Program} {w:World} {K:W.Frag} {tg:Expr} (a it:Addr):Turn P w K tg (Itl K a) [it] it (fun i h=>h.IsListIter it a i) where
 mem:=by simp
 obj:=fun i h st b hb=>by
  have e:b=it:=by simpa using hb
  subst e
  obtain ⟨o,e,c,d⟩:=st
  exact ⟨o,e,fun v z=>by rw [d] at z;cases z⟩
 keep:=fun i h h' st k=>st.at fun o e=>k it (by simp) o e
 item:=by
  intro X hP hw hK hc i pins s σ H E I hf st hg
  subst hP hw hK
  obtain ⟨xs,x,hq,hx⟩:=hg
  obtain ⟨its,rv,p,hz⟩:=I.list hq
  obtain ⟨u,hu,ru⟩:=rv.get hx
  obtain ⟨f0,f1,f2,f3,f4,f5⟩:=hf it (by simp)
  refine wpAny_pyNext_list_item st p.isList (x:=u) (by simpa using hu) fun h' st' sb=>?_
  have I1:Inv X pins σ H { s with heap:=h' }:=I.turned (t':=s.toks) (fun b o hb e=>(sb.2 b hb).trans e) f0 f1 f3 f4 f5
  obtain ⟨o,e,c,d⟩:=id st'
  exact ⟨u,rfl,go_of (s:={ s with heap:=h' }) e c d (by decide) ⟨x,H,I1,ru,⟨rfl,fun ys hy=>by rw [I.list_inj hy hq];exact hx⟩,st',fun b hb=>(hf b hb).1⟩⟩
 done:=by
  intro X hP hw hK hc i pins s σ H E I hf st hg
  subst hP hw hK
  obtain ⟨xs,hq,hx⟩:=hg
  obtain ⟨its,rv,p,hz⟩:=I.list hq
  obtain ⟨f0,f1,f2,f3,f4,f5⟩:=hf it (by simp)
  have hl:=rv.length
  exact wpAny_pyNext_list_end (I.ok.hd hc) st p.isList (by simp;omega) fun h' eb=>⟨rfl,I.turned (t':=s.toks) (fun b o hb e=>eb b o hb e) f0 f1 f3 f4 f5⟩
 self:=fun _ _ _ _ _ st h=>wpAny_pyIter_listiter st h
theorem turn_tuple {P:Program} {w:World} {K:W.Frag} {tg:Expr} (a it:Addr):Turn P w K tg (Itt K a) [it] it (fun i h=>h.IsTupleIter it a i) where
 mem:=by simp
 obj:=fun i h st b hb=>by
  have e:b=it:=by simpa using hb
  subst e
  obtain ⟨o,e,c,d⟩:=st
  exact ⟨o,e,fun v z=>by rw [d] at z;cases z⟩
 keep:=fun i h h' st k=>st.at fun o e=>k it (by simp) o e
 item:=by
  intro X hP hw hK hc i pins s σ H E I hf st hg
  subst hP hw hK
  obtain ⟨xs,x,hq,hx⟩:=hg
  obtain ⟨its,rv,p,hz⟩:=I.tuple hq
  obtain ⟨u,hu,ru⟩:=rv.get hx
  obtain ⟨f0,f1,f2,f3,f4,f5⟩:=hf it (by simp)
  refine wpAny_pyNext_tuple_item st (show s.heap.IsTuple a its.toArray from p) (x:=u) (by simpa using hu) fun h' st' sb=>?_
  have I1:Inv X pins σ H { s with heap:=h' }:=I.turned (t':=s.toks) (fun b o hb e=>(sb.2 b hb).trans e) f0 f1 f3 f4 f5
  obtain ⟨o,e,c,d⟩:=id st'
  exact ⟨u,rfl,go_of (s:={ s with heap:=h' }) e c d (by decide) ⟨x,H,I1,ru,⟨rfl,fun ys hy=>by rw [I.tuple_inj hy hq];exact hx⟩,st',fun b hb=>(hf b hb).1⟩⟩
 done:=by
  intro X hP hw hK hc i pins s σ H E I hf st hg
  subst hP hw hK
  obtain ⟨xs,hq,hx⟩:=hg
  obtain ⟨its,rv,p,hz⟩:=I.tuple hq
  obtain ⟨f0,f1,f2,f3,f4,f5⟩:=hf it (by simp)
  have hl:=rv.length
  exact wpAny_pyNext_tuple_end (I.ok.hd hc) st (show s.heap.IsTuple a its.toArray from p) (by simp;omega) fun h' eb=>⟨rfl,I.turned (t':=s.toks) (fun b o hb e=>eb b o hb e) f0 f1 f3 f4 f5⟩
 self:=fun _ _ _ _ _ st h=>wpAny_pyIter_tupleiter st h
theorem turn_range {P:Program} {w:World} {K:PySem.W.Frag} {tg:Expr} (it:Addr) (lo:Int) (n:Nat):Turn P w K tg (Itr lo n) [it] it (fun i h=>IsRangeIter h it (lo + (i:Nat) * 1) ((n:Int) - (i:Nat)) 1) where
 mem:=by simp
 obj:=fun i h st b hb=>by
  have e:b=it:=by simpa using hb
  subst e
  exact ⟨_,st,fun v z=>by
   have z':Data.fields _=Data.cell v:=z
   cases z'⟩
 keep:=fun i h h' st k=>k it (by simp) _ st
 item:=by
  intro X hP hw hK hc i pins s σ H E I hf st hg
  subst hP hw hK
  obtain ⟨f0,f1,f2,f3,f4,f5⟩:=hf it (by simp)
  have W:=Walks.range (prog:=X.prog) (w:=X.w) (I.ok.hd hc) it lo 1 n
  refine W.item i s _ _ hg st fun v h' tk hv st' kk=>?_
  obtain ⟨t,rfl⟩:=hv
  have I1:Inv X pins σ H { s with heap:=h',toks:=tk }:=I.turned (fun b o hb e=>kk b o (by simpa using hb) e) f0 f1 f3 f4 f5
  refine ⟨_,rfl,go_of (s:={ s with heap:=h',toks:=tk }) (n := "range_iterator") st' rfl rfl (by decide) ⟨.int (lo + i),H,I1,⟨t,?_⟩,⟨rfl,rfl⟩,st',fun b hb=>(hf b hb).1⟩⟩
  rw [Int.mul_one]
 done:=by
  intro X hP hw hK hc i pins s σ H E I hf st hg
  subst hP hw hK
  obtain ⟨f0,f1,f2,f3,f4,f5⟩:=hf it (by simp)
  exact wpAny_pyNext_range_end (I.ok.hd hc) st (by have:n≤i:=hg;omega) fun h' eb=>⟨rfl,I.turned (t':=s.toks) (fun b o hb e=>eb b o hb e) f0 f1 f3 f4 f5⟩
 self:=fun _ _ _ _ _ st h=>wpAny_pyIter_rangeiter st h
section
variable {X:Cx} {tg:Expr}
def iList (K:W.Frag) (tl:TE):TI:=fun σ H R=>tl σ H fun x H1=>∃a,x=.ref a∧(∃xs,SqL K H1 a xs)∧R (Itl K a) H1
def iTup (K:W.Frag) (tl:TE):TI:=fun σ H R=>tl σ H fun x H1=>∃a,x=.ref a∧(∃xs,SqT K H1 a xs)∧R (Itt K a) H1
theorem pi_list {l:Expr} {tl:TE} (hl:PE X l tl):PI X tg l (iList X.K tl):=by
 intro pins s σ H R I h
 refine thn (hl pins s σ H _ I h) fun v s1 ⟨x,H1,I1,r1,q1⟩=>?_
 obtain ⟨a,e,⟨xs,hq⟩,q⟩:=q1
 subst e
 cases r1
 obtain ⟨its,rv,p,hz⟩:=I1.list hq
 refine wpAny_pyIter_list p.isList ?_
 refine ⟨s1.heap.objs.size,[s1.heap.objs.size],_,_,H1,rfl,I1.kept (t':=s1.toks) fun b o e=>Heap.get?_push_of_some _ e,turn_list a _,⟨_,Heap.get?_push_size _ rfl,rfl,rfl⟩,fun b hb=>?_,q⟩
 have e:b=s1.heap.objs.size:=by simpa using hb
 subst e
 exact I1.fpOk (Nat.le_refl _) (I1.hok.fresh (Nat.le_refl _))
theorem pi_tup {l:Expr} {tl:TE} (hl:PE X l tl):PI X tg l (iTup X.K tl):=by
 intro pins s σ H R I h
 refine thn (hl pins s σ H _ I h) fun v s1 ⟨x,H1,I1,r1,q1⟩=>?_
 obtain ⟨a,e,⟨xs,hq⟩,q⟩:=q1
 subst e
 cases r1
 obtain ⟨its,rv,p,hz⟩:=I1.tuple hq
 refine wpAny_pyIter_tuple (show s1.heap.IsTuple a its.toArray from p) ?_
 refine ⟨s1.heap.objs.size,[s1.heap.objs.size],_,_,H1,rfl,I1.kept (t':=s1.toks) fun b o e=>Heap.get?_push_of_some _ e,turn_tuple a _,⟨_,Heap.get?_push_size _ rfl,rfl,rfl⟩,fun b hb=>?_,q⟩
 have e:b=s1.heap.objs.size:=by simpa using hb
 subst e
 exact I1.fpOk (Nat.le_refl _) (I1.hok.fresh (Nat.le_refl _))
theorem range_it {pins:List (Addr×Obj)} {σ:St} {H:Hp} {s:Shared} {R:It→Hp→Prop} {E:Value→Shared→Prop} {lo hi:Int} {t u v:Tok} {tk:Nat} (I:Inv X pins σ H s) (h1:-(2 ^ 62)≤lo) (h2:lo < 2 ^ 62) (h3:-(2 ^ 62)≤hi) (h4:hi < 2 ^ 62)
  (q:R (Itr lo (hi - lo).toNat) H):wpAny (model X.prog X.w) X.A (pyIter (.ref s.heap.objs.size)) (PIE X pins σ tg R) E { s with heap:=s.heap.push { cls:=.type "range", data:=.fields #[.int lo t,.int hi u,.int 1 v] },toks:=tk }:=by
 refine wpAny_pyIter_range (IsRange.new ..) (small_one h1 h2 h3 h4) ?_
 have I1:Inv X pins σ H { s with heap:=s.heap.push { cls:=.type "range", data:=.fields #[.int lo t,.int hi u,.int 1 v] },toks:=tk }:=I.kept fun b o e=>Heap.get?_push_of_some _ e
 refine ⟨(s.heap.push { cls:=.type "range", data:=.fields #[.int lo t,.int hi u,.int 1 v] }).objs.size,[(s.heap.push { cls:=.type "range", data:=.fields #[.int lo t,.int hi u,.int 1 v] }).objs.size],_,_,H,rfl,
  I1.kept (t':=tk) fun b o e=>Heap.get?_push_of_some _ e,turn_range _ lo (hi - lo).toNat,?_,fun b hb=>?_,q⟩
 ·have e1:lo + ((0:Nat):Int) * 1=lo:=by simp
  have e2:(((hi - lo).toNat:Nat):Int) - ((0:Nat):Int)=Builtin.Range.rangeSize lo hi 1:=by rw [rangeSize_one];split <;> omega
  show IsRangeIter _ _ (lo + ((0:Nat):Int) * 1) ((((hi - lo).toNat:Nat):Int) - ((0:Nat):Int)) 1
  rw [e1,e2]
  exact Heap.get?_push_size _ rfl
 ·have e:b=(s.heap.push { cls:=.type "range", data:=.fields #[.int lo t,.int hi u,.int 1 v] }).objs.size:=by simpa using hb
  subst e
  exact I1.fpOk (Nat.le_refl _) (I1.hok.fresh (Nat.le_refl _))
def iRng1 (ta:TA):TI:=fun σ H R=>ta σ H fun vs H1=>∃j:Int,vs=[.int j]∧-(2 ^ 62)≤j∧j < 2 ^ 62∧R (Itr 0 j.toNat) H1
def iRng2 (ta:TA):TI:=fun σ H R=>ta σ H fun vs H1=>∃i j:Int,vs=[.int i,.int j]∧(-(2 ^ 62)≤i∧i < 2 ^ 62∧-(2 ^ 62)≤j∧j < 2 ^ 62)∧R (Itr i (j - i).toNat) H1
theorem pi_range1 {a:Expr} {ta:TA} {p pos:Pos} (hg:Gl X "range") (hm:X.mg "range" = none) (ha:PA X [a] ta) (hs:starEach [a] X.env=[(false,eval a X.env)]:=by rfl):PI X tg (.Call (.Name "range" p) [a] [] pos) (iRng1 ta):=by
 intro pins s σ H R I h
 refine Call_ (ld_blt I hg hm boot_range (PyProof.Rows.callWith_type1 (thn (ha pos pins s σ H _ I h) fun us s1 ⟨vs,H1,I1,r1,q1⟩=>?_) hs rfl))
 obtain ⟨j,e,q1,q2,q⟩:=q1
 subst e
 cases r1 with
 | cons r rr =>
  cases rr
  obtain ⟨t,rfl⟩:=r
  exact call_range_1 (range_it I1 (by omega) (by omega) q1 q2 (by simpa using q))
theorem pi_range2 {a b:Expr} {ta:TA} {p pos:Pos} (hg:Gl X "range") (hm:X.mg "range" = none) (ha:PA X [a,b] ta) (hs:starEach [a,b] X.env=[(false,eval a X.env),(false,eval b X.env)]:=by rfl) (hs2:starEach [b] X.env=[(false,eval b X.env)]:=by rfl) :
  PI X tg (.Call (.Name "range" p) [a,b] [] pos) (iRng2 ta):=by
 intro pins s σ H R I h
 refine Call_ (ld_blt I hg hm boot_range (PyProof.Rows.callWith_type1 (thn (ha pos pins s σ H _ I h) fun us s1 ⟨vs,H1,I1,r1,q1⟩=>?_) (by rw [hs,hs2]) (by rw [hs2];rfl)))
 obtain ⟨i,j,e,⟨q1,q2,q3,q4⟩,q⟩:=q1
 subst e
 cases r1 with
 | cons r rr =>
  cases rr with
  | cons r' rr =>
   cases rr
   obtain ⟨t,rfl⟩:=r
   obtain ⟨t',rfl⟩:=r'
   exact call_range_2 (range_it I1 q1 q2 q3 q4 q)
def tFor (wi:TI) (g:TG) (tb:TS):TS:=fun D σ H=>wi σ H fun J H1=>∃W:Nat→Nat→St→Hp→Prop,(∃m,W 0 m σ H1)∧∀i m σ H,W i m σ H →
 (J.stop i H∧D.nx σ H)∨(J.go i H∧∃N:St→Hp→Prop,(∀σ' H',N σ' H'→∃m',m' < m∧W (i + 1) m' σ' H')∧∀x H',J.yld i H x H'→g x σ H' fun σ2 H2=>tb { D with nx:=N,ct:=N,bk:=D.nx } σ2 H2)
def pinsAt (fp:List Addr) (h:Heap):List (Addr×Obj):=fp.filterMap fun b=>(h.get? b).map fun o=>(b,o)
theorem mem_pinsAt {fp:List Addr} {h:Heap} {b:Addr} {o:Obj} (hb:b∈fp) (e:h.get? b=some o):(b,o)∈pinsAt fp h:=List.mem_filterMap.mpr ⟨b,hb,by rw [e];rfl⟩
theorem of_pinsAt {fp:List Addr} {h:Heap} {p:Addr×Obj} (hp:p∈pinsAt fp h):p.1∈fp∧h.get? p.1=some p.2:=by
 obtain ⟨b,hb,e⟩:=List.mem_filterMap.mp hp
 cases q:h.get? b with
 | none=>rw [q] at e;cases e
 | some o =>
  rw [q] at e
  have e':(b,o)=p:=Option.some.inj e
  subst e'
  exact ⟨hb,q⟩
theorem Inv.pinned {pins:List (Addr×Obj)} {σ:St} {H:Hp} {s:Shared} {fp:List Addr} (I:Inv X pins σ H s) (hf:∀b∈fp,FpOk X pins H b) (ho:∀b∈fp,∃o,s.heap.get? b=some o∧∀v,o.data≠.cell v):Inv X (pins++pinsAt fp s.heap) σ H s :=
 I.pins_of fun p hp=>(List.mem_append.mp hp).elim (fun z=>I.pin p (List.mem_append_right _ z)) fun z=>by
  obtain ⟨hb,e⟩:=of_pinsAt z
  obtain ⟨f0,f1,f2,_⟩:=hf p.1 hb
  obtain ⟨o,e',d⟩:=ho p.1 hb
  rw [e] at e';cases e'
  exact ⟨e,f0,f1,f2,d⟩
theorem Inv.unpinned {pins pl:List (Addr×Obj)} {σ:St} {H:Hp} {s:Shared} (I:Inv X (pins++pl) σ H s):Inv X pins σ H s:=I.pins_of fun p hp=>I.pin p (List.mem_append_right _ (List.mem_append_left _ hp))
theorem ps_for {iter:Expr} {body:List Stmt} {wi:TI} {g:TG} {tb:TS} {pos:Pos} (hp:PassesOwn (model X.prog X.w) X.A X.env X.xe) (hc:X.calm=true) (hi:PI X tg iter wi) (hg:PG X tg g) (hb:PSs X body tb)
  (hs:∀x,foldedSetIterable iter X.env x=pure x:=by intro _;rfl):PS X (.For tg iter body [] pos) (tFor wi g tb):=by
 intro pins s σ H D I h
 refine wpAny_For (thn (hi pins s σ H _ I h) fun v s1 h1=>thn h1 fun itv s2 h2=>?_) hs
 obtain ⟨it,fp,tn,J,H2,e,I2,T,st2,f2,W,⟨m0,w0⟩,turn⟩:=h2
 subst e
 -- what stays true of the iterator's objects through the loop
 have stat:∀{H':Hp},(∀b∈fp,H' b=none)→∀b∈fp,FpOk X pins H' b:=fun hn b hb=>⟨hn b hb,(f2 b hb).2⟩
 refine codeAny_forLoop_any (fun n s'=>∃i σ' H',Inv X pins σ' H' s'∧tn i s'.heap∧(∀b∈fp,H' b=none)∧W i n σ' H') ?_ m0 ⟨0,σ,H2,I2,st2,fun b hb=>(f2 b hb).1,w0⟩
 rintro n s3 ⟨i,σ3,H3,I3,st3,fr3,w3⟩
 rcases turn i n σ3 H3 w3 with ⟨stop,qn⟩ | ⟨go,N,hN,step⟩
 ·refine wpAny_passesOwn hp (thn (T.done X rfl rfl rfl hc i pins s3 σ3 H3 X.xe I3 (stat fr3) st3 stop) fun r s4 ⟨hr,I4⟩=>?_)
  subst hr
  exact wpAny_execs_nil ⟨σ3,H3,I4,qn⟩
 ·refine wpAny_passesOwn hp (thn (T.item X rfl rfl rfl hc i pins s3 σ3 H3 X.xe I3 (stat fr3) st3 go) fun r s4 ⟨u,hr,h4⟩=>?_)
  subst hr
  refine wpAny_passesOwn hp (thn h4 fun _ s5 ⟨x,H5,I5,r5,y5,st5,fr5⟩=>?_)
  have I5':=I5.pinned (stat fr5) (T.obj _ _ st5)
  refine wpAny_passesOwn hp (thn (hg _ s5 σ3 H5 x u _ I5' r5 (step x H5 y5)) fun _ s6 ⟨σ6,H6,I6,q6⟩=>?_)
  refine wpAny_passesOwn hp (thn (hb _ s6 σ6 H6 _ I6 q6) fun f s7 q7=>?_)
  have again:∀{σ7:St} {H7:Hp},Inv X (pins++pinsAt fp s5.heap) σ7 H7 s7→N σ7 H7→∃m,m < n∧∃i σ' H',Inv X pins σ' H' s7∧tn i s7.heap∧(∀b∈fp,H' b=none)∧W i m σ' H':=fun {σ7 H7} I7 n7=>by
   obtain ⟨m',hm,w7⟩:=hN σ7 H7 n7
   refine ⟨m',hm,i + 1,σ7,H7,I7.unpinned,T.keep _ _ _ st5 fun b hb o e=>(I7.pin (b,o) (List.mem_append_right _ (List.mem_append_right _ (mem_pinsAt hb e)))).1,fun b hb=>?_,w7⟩
   obtain ⟨o,e,d⟩:=T.obj _ _ st5 b hb
   exact (I7.pin (b,o) (List.mem_append_right _ (List.mem_append_right _ (mem_pinsAt hb e)))).2.1
  cases f with
  | next=>obtain ⟨σ7,H7,I7,n7⟩:=q7;exact again I7 n7
  | cont=>obtain ⟨σ7,H7,I7,n7⟩:=q7;exact again I7 n7
  | brk=>obtain ⟨σ7,H7,I7,q7⟩:=q7;exact ⟨σ7,H7,I7.unpinned,q7⟩
  | ret v=>obtain ⟨x7,σ7,H7,I7,r7,q7⟩:=q7;exact ⟨x7,σ7,H7,I7.unpinned,r7,q7⟩
end
theorem for_list {K:PySem.W.Frag} {a:Addr} {xs:List V} {g:TG} {tb:TS} {D:Ends} {σ:St} {H:Hp} (Pv:Nat→St→Hp→Prop) (h0:Pv 0 σ H) (hl:∀i σ H,i≤xs.length→Pv i σ H→SqL K H a xs)
  (hs:∀i x σ H,xs[i]?=some x→Pv i σ H→g x σ H fun σ2 H2=>tb { D with nx:=Pv (i + 1),ct:=Pv (i + 1),bk:=D.nx } σ2 H2) (hd:∀σ H,Pv xs.length σ H→D.nx σ H) :
  ∃W:Nat→Nat→St→Hp→Prop,(∃m,W 0 m σ H)∧∀i m σ H,W i m σ H →
   ((Itl K a).stop i H∧D.nx σ H)∨((Itl K a).go i H∧∃N:St→Hp→Prop,(∀σ' H',N σ' H'→∃m',m' < m∧W (i + 1) m' σ' H')∧∀x H',(Itl K a).yld i H x H'→g x σ H' fun σ2 H2=>tb { D with nx:=N,ct:=N,bk:=D.nx } σ2 H2):=by
 refine ⟨fun i m σ H=>m=xs.length - i∧i≤xs.length∧Pv i σ H,⟨xs.length,by simp,Nat.zero_le _,h0⟩,?_⟩
 rintro i m σ H ⟨rfl,hi,p⟩
 have q:=hl i σ H hi p
 by_cases hlt:i < xs.length
 ·refine .inr ⟨⟨xs,xs[i],q,by simp [hlt]⟩,Pv (i + 1),fun σ' H' p'=>⟨xs.length - (i + 1),by omega,rfl,hlt,p'⟩,fun x H' y=>?_⟩
  obtain ⟨e,y⟩:=y
  subst e
  exact hs i x σ _ (y xs q) p
 ·have e:i=xs.length:=by omega
  subst e
  exact .inl ⟨⟨xs,q,Nat.le_refl _⟩,hd σ H p⟩
theorem for_range {lo:Int} {n:Nat} {g:TG} {tb:TS} {D:Ends} {σ:St} {H:Hp} (Pv:Nat→St→Hp→Prop) (h0:Pv 0 σ H)
  (hs:∀i σ H,i < n→Pv i σ H→g (.int (lo + i)) σ H fun σ2 H2=>tb { D with nx:=Pv (i + 1),ct:=Pv (i + 1),bk:=D.nx } σ2 H2) (hd:∀σ H,Pv n σ H→D.nx σ H) :
  ∃W:Nat→Nat→St→Hp→Prop,(∃m,W 0 m σ H)∧∀i m σ H,W i m σ H →
   ((Itr lo n).stop i H∧D.nx σ H)∨((Itr lo n).go i H∧∃N:St→Hp→Prop,(∀σ' H',N σ' H'→∃m',m' < m∧W (i + 1) m' σ' H')∧∀x H',(Itr lo n).yld i H x H'→g x σ H' fun σ2 H2=>tb { D with nx:=N,ct:=N,bk:=D.nx } σ2 H2):=by
 refine ⟨fun i m σ H=>m=n - i∧i≤n∧Pv i σ H,⟨n,by simp,Nat.zero_le _,h0⟩,?_⟩
 rintro i m σ H ⟨rfl,hi,p⟩
 by_cases hlt:i < n
 ·refine .inr ⟨hlt,Pv (i + 1),fun σ' H' p'=>⟨n - (i + 1),by omega,rfl,hlt,p'⟩,fun x H' y=>?_⟩
  obtain ⟨e,y⟩:=y
  subst e y
  exact hs i σ _ hlt p
 ·have e:i=n:=by omega
  subst e
  exact .inl ⟨Nat.le_refl _,hd σ H p⟩
abbrev R2:=V→V→Hp→VK→Prop
def OpR (X:Cx) (f:Value→Value→Sem Value) (r:R2):Prop :=
 ∀(pins:List (Addr×Obj)) (s:Shared) (σ:St) (H:Hp) (x y:V) (v u:Value) (Q:VK),Inv X pins σ H s→RelV x v→RelV y u→r x y H Q →
  wpAny (model X.prog X.w) X.A (f v u) (EP X pins σ Q) X.xe s
def UnR (X:Cx) (f:Value→Sem Value) (r:V→Hp→VK→Prop):Prop :=
 ∀(pins:List (Addr×Obj)) (s:Shared) (σ:St) (H:Hp) (x:V) (v:Value) (Q:VK),Inv X pins σ H s→RelV x v→r x H Q →
  wpAny (model X.prog X.w) X.A (f v) (EP X pins σ Q) X.xe s
def CallR (X:Cx) (f:Value) (r:List V→Hp→VK→Prop):Prop :=
 ∀(pins:List (Addr×Obj)) (s:Shared) (σ:St) (H:Hp) (xs:List V) (us:List Value) (Q:VK),Inv X pins σ H s→Vals xs us→r xs H Q →
  wpAny (model X.prog X.w) X.A (call f us) (EP X pins σ Q) X.xe s
def tOp (r:R2) (ta tb:TE):TE:=fun σ H Q=>ta σ H fun x H1=>tb σ H1 fun y H2=>r x y H2 Q
def tUn (r:V→Hp→VK→Prop) (ta:TE):TE:=fun σ H Q=>ta σ H fun x H1=>r x H1 Q
def rI (C:Int→Int→Prop) (g:Int→Int→V):R2:=fun x y H Q=>∃i j,x=.int i∧y=.int j∧C i j∧Q (g i j) H
def rI0 (g:Int→Int→V):R2:=fun x y H Q=>∃i j,x=.int i∧y=.int j∧Q (g i j) H
def rU (g:Int→V):V→Hp→VK→Prop:=fun x H Q=>∃i,x=.int i∧Q (g i) H
section
variable {X:Cx} {a b c:Expr} {ta tb tc:TE} {pos:Pos}
theorem binT (ha:PE X a ta) (hb:PE X b tb) {pins:List (Addr×Obj)} {s:Shared} {σ:St} {H:Hp} {R:V→V→Hp→Prop} (I:Inv X pins σ H s)
  (h:ta σ H fun x H1=>tb σ H1 fun y H2=>R x y H2) {Q:Value→Shared→Prop} {f:Value→Value→Sem Value}
  (hf:∀v u s2 x y H2,Inv X pins σ H2 s2→RelV x v→RelV y u→R x y H2→wpAny (model X.prog X.w) X.A (f v u) Q X.xe s2) :
  wpAny (model X.prog X.w) X.A (eval a X.env) (fun v s₁=>wpAny (model X.prog X.w) X.A (eval b X.env) (fun u s₂=>wpAny (model X.prog X.w) X.A (f v u) Q X.xe s₂) X.xe s₁) X.xe s:=by
 refine thn (ha pins s σ H _ I h) fun v s1 ⟨x,H1,I1,r1,q1⟩=>?_
 refine thn (hb pins s1 σ H1 _ I1 q1) fun u s2 ⟨y,H2,I2,r2,q2⟩=>?_
 exact hf v u s2 x y H2 I2 r1 r2 q2
theorem pe_op {op:Operator} {r:R2} (ho:OpR X (binaryOp op) r) (ha:PE X a ta) (hb:PE X b tb):PE X (.BinOp a op b pos) (tOp r ta tb):=by
 intro pins s σ H Q I h
 exact wpAny_BinOp (binT ha hb I h fun v u s2 x y H2 I2 rx ry q=>ho pins s2 σ H2 x y v u Q I2 rx ry q)
theorem pe_un {op:UnaryOp} {r:V→Hp→VK→Prop} (ho:UnR X (unaryOp op) r) (ha:PE X a ta):PE X (.UnaryOp op a pos) (tUn r ta):=by
 intro pins s σ H Q I h
 exact UnaryOp_ (thn (ha pins s σ H _ I h) fun v s1 ⟨x,H1,I1,r1,q1⟩=>ho pins s1 σ H1 x v Q I1 r1 q1)
theorem opI {f:Value→Value→Sem Value} {C:Int→Int→Prop} {g:Int→Int→Int}
  (rule:∀(i j:Int) (t u:Tok) (s:Shared) (Q:Value→Shared→Prop) (E:Value→Shared→Prop),C i j→Q (.int (g i j) s.toks) { s with toks:=s.toks + 1 }→wpAny (model X.prog X.w) X.A (f (.int i t) (.int j u)) Q E s) :
  OpR X f (rI C fun i j=>.int (g i j)):=by
 intro pins s σ H x y v u Q I rx ry h
 obtain ⟨i,j,rfl,rfl,hc,q⟩:=h
 obtain ⟨t,rfl⟩:=rx
 obtain ⟨t',rfl⟩:=ry
 exact rule i j t t' s _ _ hc ⟨.int (g i j),H,I.tok _,⟨_,rfl⟩,q⟩
theorem opI0 {f:Value→Value→Sem Value} {g:Int→Int→Int}
  (rule:∀(i j:Int) (t u:Tok) (s:Shared) (Q:Value→Shared→Prop) (E:Value→Shared→Prop),Q (.int (g i j) s.toks) { s with toks:=s.toks + 1 }→wpAny (model X.prog X.w) X.A (f (.int i t) (.int j u)) Q E s) :
  OpR X f (rI0 fun i j=>.int (g i j)):=by
 intro pins s σ H x y v u Q I rx ry h
 obtain ⟨i,j,rfl,rfl,q⟩:=h
 obtain ⟨t,rfl⟩:=rx
 obtain ⟨t',rfl⟩:=ry
 exact rule i j t t' s _ _ ⟨.int (g i j),H,I.tok _,⟨_,rfl⟩,q⟩
theorem opB0 {f:Value→Value→Sem Value} {g:Int→Int→Bool}
  (rule:∀(i j:Int) (t u:Tok) (s:Shared) (Q:Value→Shared→Prop) (E:Value→Shared→Prop),Q (.bool (g i j)) s→wpAny (model X.prog X.w) X.A (f (.int i t) (.int j u)) Q E s) :
  OpR X f (rI0 fun i j=>.bl (g i j)):=by
 intro pins s σ H x y v u Q I rx ry h
 obtain ⟨i,j,rfl,rfl,q⟩:=h
 obtain ⟨t,rfl⟩:=rx
 obtain ⟨t',rfl⟩:=ry
 exact rule i j t t' s _ _ ⟨.bl (g i j),H,I,rfl,q⟩
def CDiv (i j:Int):Prop:=0 < j∧j < 1073741824
def CPow (i j:Int):Prop:=0≤j∧j≤1000000∧i.natAbs < 2 ^ 64
def CMul (i j:Int):Prop:=(-(2 ^ 64) < i∧i < 2 ^ 64)∨(-(2 ^ 64) < j∧j < 2 ^ 64)
theorem CMul.ok {i j:Int} (h:CMul i j):IntMulOk i j:=by
 rcases h with ⟨h1,h2⟩ | ⟨h1,h2⟩
 ·exact .of_left (intBits_le_64 h1 h2)
 ·exact .of_right (intBits_le_64 h1 h2)
theorem op_add:OpR X (binaryOp .Add) (rI0 fun i j=>.int (i + j)):=opI0 fun _ _ _ _ _ _ _ q=>add_int q
theorem op_sub:OpR X (binaryOp .Sub) (rI0 fun i j=>.int (i - j)):=opI0 fun _ _ _ _ _ _ _ q=>sub_int q
theorem op_mul:OpR X (binaryOp .Mult) (rI CMul fun i j=>.int (i * j)):=opI fun _ _ _ _ _ _ _ hc q=>mul_int q hc.ok
theorem op_fdiv:OpR X (binaryOp .FloorDiv) (rI CDiv fun i j=>.int (i / j)):=opI fun i j _ _ _ _ _ hc q=>by
 have h1:(0:Int) < j:=hc.1
 have h2:j < 1073741824:=hc.2
 exact floordiv_int (by omega) (by rw [Int.fdiv_eq_ediv_of_nonneg i (by omega)];exact q) (.inl (PyProof.noPylong_small (by omega)))
theorem op_mod:OpR X (binaryOp .Mod) (rI (fun _ j=>0 < j) fun i j=>.int (i % j)):=opI fun i j _ _ _ _ _ hc q=>by
 have h1:(0:Int) < j:=hc
 exact mod_int' (by omega) (by rw [Int.fmod_eq_emod_of_nonneg i (by omega)];exact q)
theorem op_pow:OpR X (binaryOp .Pow) (rI CPow fun i j=>.int (i ^ j.toNat)):=opI fun _ _ _ _ _ _ _ hc q=>pow_int_small hc.1 hc.2.1 hc.2.2 q
theorem unI {f:Value→Sem Value} {g:Int→Int}
  (rule:∀(i:Int) (t:Tok) (s:Shared) (Q:Value→Shared→Prop) (E:Value→Shared→Prop),Q (.int (g i) s.toks) { s with toks:=s.toks + 1 }→wpAny (model X.prog X.w) X.A (f (.int i t)) Q E s) :
  UnR X f (rU fun i=>.int (g i)):=by
 intro pins s σ H x v Q I rx h
 obtain ⟨i,rfl,q⟩:=h
 obtain ⟨t,rfl⟩:=rx
 exact rule i t s _ _ ⟨.int (g i),H,I.tok _,⟨_,rfl⟩,q⟩
theorem un_neg:UnR X (unaryOp .USub) (rU fun i=>.int (-i)):=unI fun _ _ _ _ _ q=>neg_int q
end
def scal:V→V→Bool
 | .non,.non=>true | .non,.int _=>true | .int _,.non=>true | .non,.bl _=>true | .bl _,.non=>true | .non,.str _=>true | .str _,.non=>true
 | .int _,.int _=>true | .bl _,.bl _=>true | .str _,.str _=>true | .byt _,.byt _=>true
 | .int _,.str _=>true | .str _,.int _=>true | .bl _,.str _=>true | .str _,.bl _=>true
 | _,_=>false
def rEq:R2:=fun x y H Q=>scal x y=true∧Q (.bl (decide (x=y))) H
def rNe:R2:=fun x y H Q=>scal x y=true∧Q (.bl (!decide (x=y))) H
theorem dec_int {i j:Int}:decide (V.int i=V.int j)=(i == j):=by
 rw [Bool.eq_iff_iff]
 simp
theorem dec_bl {i j:Bool}:decide (V.bl i=V.bl j)=(i == j):=by
 rw [Bool.eq_iff_iff]
 simp
theorem dec_str {i j:Str}:decide (V.str i=V.str j)=(i == j):=by
 rw [Bool.eq_iff_iff]
 simp
theorem dec_byt {i j:Array UInt8}:decide (V.byt i=V.byt j)=(i.toList == j.toList):=by
 rw [Bool.eq_iff_iff]
 cases i
 cases j
 simp
section
variable {X:Cx} {a b c:Expr} {ta tb tc:TE} {pos:Pos}
theorem fin_bl {pins:List (Addr×Obj)} {σ:St} {H:Hp} {s:Shared} {Q:VK} {k k':Bool} (I:Inv X pins σ H s) (q:Q (.bl k) H) (e:k=k'):EP X pins σ Q (.bool k') s:=by
 subst e
 exact ⟨.bl k,H,I,rfl,q⟩
theorem op_eq:OpR X (compareOp .Eq) rEq:=by
 intro pins s σ H x y v u Q I rx ry h
 obtain ⟨hs,q⟩:=h
 cases x with
 | non =>
  cases rx
  cases y with
  | non=>cases ry;exact PySem.EqNone.eq_none_none (fin_bl I q (by simp))
  | bl j=>cases ry;exact PySem.EqNone.eq_none_bool (fin_bl I q (by simp))
  | int j=>obtain ⟨t',rfl⟩:=ry;exact PySem.EqNone.eq_none_int (fin_bl I q (by simp))
  | str j=>obtain ⟨t',rfl⟩:=ry;exact PySem.EqNone.eq_none_str (fin_bl I q (by simp))
  | _=>exact absurd (show false=true from hs) Bool.false_ne_true
 | bl i =>
  cases rx
  cases y with
  | non=>cases ry;exact PySem.EqNone.eq_bool_none (fin_bl I q (by simp))
  | bl j=>cases ry;exact eq_bool (fin_bl I q dec_bl)
  | str j=>obtain ⟨t',rfl⟩:=ry;exact PySem.EqMixed.eq_bool_str (fin_bl I q (by simp))
  | _=>exact absurd (show false=true from hs) Bool.false_ne_true
 | int i =>
  obtain ⟨t,rfl⟩:=rx
  cases y with
  | non=>cases ry;exact PySem.EqNone.eq_int_none (fin_bl I q (by simp))
  | int j=>obtain ⟨t',rfl⟩:=ry;exact eq_int (fin_bl I q dec_int)
  | str j=>obtain ⟨t',rfl⟩:=ry;exact PySem.EqMixed.eq_int_str (fin_bl I q (by simp))
  | _=>exact absurd (show false=true from hs) Bool.false_ne_true
 | str i =>
  obtain ⟨t,rfl⟩:=rx
  cases y with
  | non=>cases ry;exact PySem.EqNone.eq_str_none (fin_bl I q (by simp))
  | bl j=>cases ry;exact PySem.EqMixed.eq_str_bool (fin_bl I q (by simp))
  | int j=>obtain ⟨t',rfl⟩:=ry;exact PySem.EqMixed.eq_str_int (fin_bl I q (by simp))
  | str j=>obtain ⟨t',rfl⟩:=ry;exact eq_str (fin_bl I q dec_str)
  | _=>exact absurd (show false=true from hs) Bool.false_ne_true
 | byt i =>
  obtain ⟨t,rfl⟩:=rx
  cases y with
  | byt j=>obtain ⟨t',rfl⟩:=ry;exact W.eq_bytes (fin_bl I q dec_byt)
  | _=>exact absurd (show false=true from hs) Bool.false_ne_true
 | _=>cases y <;> exact absurd (show false=true from hs) Bool.false_ne_true
theorem op_ne:OpR X (compareOp .NotEq) rNe:=by
 intro pins s σ H x y v u Q I rx ry h
 obtain ⟨hs,q⟩:=h
 cases x with
 | non =>
  cases rx
  cases y with
  | non=>cases ry;exact PySem.EqNone.ne_none_none (fin_bl I q (by simp))
  | bl j=>cases ry;exact PySem.EqNone.ne_none_bool (fin_bl I q (by simp))
  | int j=>obtain ⟨t',rfl⟩:=ry;exact PySem.EqNone.ne_none_int (fin_bl I q (by simp))
  | str j=>obtain ⟨t',rfl⟩:=ry;exact PySem.EqNone.ne_none_str (fin_bl I q (by simp))
  | _=>exact absurd (show false=true from hs) Bool.false_ne_true
 | bl i =>
  cases rx
  cases y with
  | non=>cases ry;exact PySem.EqNone.ne_bool_none (fin_bl I q (by simp))
  | bl j=>cases ry;exact ne_bool (fin_bl I q (congrArg not dec_bl))
  | str j=>obtain ⟨t',rfl⟩:=ry;exact PySem.EqMixed.ne_bool_str (fin_bl I q (by simp))
  | _=>exact absurd (show false=true from hs) Bool.false_ne_true
 | int i =>
  obtain ⟨t,rfl⟩:=rx
  cases y with
  | non=>cases ry;exact PySem.EqNone.ne_int_none (fin_bl I q (by simp))
  | int j=>obtain ⟨t',rfl⟩:=ry;exact ne_int (fin_bl I q (congrArg not dec_int))
  | str j=>obtain ⟨t',rfl⟩:=ry;exact PySem.EqMixed.ne_int_str (fin_bl I q (by simp))
  | _=>exact absurd (show false=true from hs) Bool.false_ne_true
 | str i =>
  obtain ⟨t,rfl⟩:=rx
  cases y with
  | non=>cases ry;exact PySem.EqNone.ne_str_none (fin_bl I q (by simp))
  | bl j=>cases ry;exact PySem.EqMixed.ne_str_bool (fin_bl I q (by simp))
  | int j=>obtain ⟨t',rfl⟩:=ry;exact PySem.EqMixed.ne_str_int (fin_bl I q (by simp))
  | str j=>obtain ⟨t',rfl⟩:=ry;exact ne_str (fin_bl I q (congrArg not dec_str))
  | _=>exact absurd (show false=true from hs) Bool.false_ne_true
 | byt i =>
  obtain ⟨t,rfl⟩:=rx
  cases y with
  | byt j=>obtain ⟨t',rfl⟩:=ry;exact W.ne_bytes (fin_bl I q (congrArg not dec_byt))
  | _=>exact absurd (show false=true from hs) Bool.false_ne_true
 | _=>cases y <;> exact absurd (show false=true from hs) Bool.false_ne_true
theorem op_lt:OpR X (compareOp .Lt) (rI0 fun i j=>.bl (decide (i < j))):=opB0 fun _ _ _ _ _ _ _ q=>lt_int q
theorem op_le:OpR X (compareOp .LtE) (rI0 fun i j=>.bl (decide (i≤j))):=opB0 fun _ _ _ _ _ _ _ q=>le_int q
theorem op_gt:OpR X (compareOp .Gt) (rI0 fun i j=>.bl (decide (j < i))):=opB0 fun _ _ _ _ _ _ _ q=>gt_int q
theorem op_ge:OpR X (compareOp .GtE) (rI0 fun i j=>.bl (decide (j≤i))):=opB0 fun _ _ _ _ _ _ _ q=>ge_int q
theorem op_notN:OpR X (compareOp .IsNot) (fun x y H Q=>y=.non∧Q (.bl (!decide (x=.non))) H):=by
 intro pins s σ H x y v u Q I rx ry h
 obtain ⟨rfl,q⟩:=h
 cases ry
 refine isnot_none_gen (fin_bl I q ?_)
 cases x <;> first
  | (cases rx;rfl)
  | (obtain ⟨t,rfl⟩:=rx;rfl)
theorem OpR.or {f:Value→Value→Sem Value} {r r':R2} (h:OpR X f r) (h':OpR X f r'):OpR X f (fun x y H Q=>r x y H Q∨r' x y H Q):=by
 intro pins s σ H x y v u Q I rx ry q
 rcases q with q | q
 ·exact h pins s σ H x y v u Q I rx ry q
 ·exact h' pins s σ H x y v u Q I rx ry q
theorem nomark (b:Expr) {op:CmpOp} (h:op≠.In:=by decide) (h2:op≠.NotIn:=by decide):behindInMarks op b=false:=by
 have e1:(op == CmpOp.In)=false:=by cases op <;> first | rfl | exact absurd rfl h
 have e2:(op == CmpOp.NotIn)=false:=by cases op <;> first | rfl | exact absurd rfl h2
 cases b <;> simp [behindInMarks,e1,e2]
theorem pe_cmpR {op:CmpOp} {r:R2} (ho:OpR X (compareOp op) r) (ha:PE X a ta) (hb:PE X b tb) (hm:behindInMarks op b=false):PE X (.Compare a [op] [b] pos) (tOp r ta tb):=by
 intro pins s σ H Q I h
 exact wpAny_Compare1 (binT ha hb I h fun v u s2 x y H2 I2 rx ry q=>ho pins s2 σ H2 x y v u Q I2 rx ry q) hm
def tTest (t:TE):TT:=fun σ H Q=>t σ H fun x H'=>∃k,x=.bl k∧Q k H'
theorem pt_cmpR {op:CmpOp} {r:R2} (ho:OpR X (compareOp op) r) (ha:PE X a ta) (hb:PE X b tb) (hm:behindInMarks op b=false):PT X (.Compare a [op] [b] pos) (tTest (tOp r ta tb)):=by
 intro pins s σ H Q I h
 refine wpAny_isTrue_Compare1 (thn (ha pins s σ H _ I h) fun v s1 ⟨x,H1,I1,r1,q1⟩=>thn (hb pins s1 σ H1 _ I1 q1) fun u s2 ⟨y,H2,I2,r2,q2⟩ =>
  thn (ho pins s2 σ H2 x y v u _ I2 r1 r2 q2) fun c s3 ⟨z,H3,I3,r3,k,e,q3⟩=>?_) hm
 subst e
 cases r3
 exact wpAny_truthy_bool ⟨H3,I3,q3⟩
def tChain (r r':R2) (ta tb tc:TE):TE:=fun σ H Q=>ta σ H fun x H1=>tb σ H1 fun y H2=>r x y H2 fun z H3=>∃k,z=.bl k ∧
 (if k=true then tc σ H3 fun w' H4=>r' y w' H4 Q else Q (.bl false) H3)
theorem pe_chain {op op':CmpOp} {r r':R2} (ho:OpR X (compareOp op) r) (ho':OpR X (compareOp op') r') (ha:PE X a ta) (hb:PE X b tb) (hc:PE X c tc)
  (hm:lastMarks [op,op'] [b,c]=false:=by with_unfolding_all rfl):PE X (.Compare a [op,op'] [b,c] pos) (tChain r r' ta tb tc):=by
 intro pins s σ H Q I h
 refine Compare_chain (thn (ha pins s σ H _ I h) fun v s1 ⟨x,H1,I1,r1,q1⟩=>chain_link (thn (hb pins s1 σ H1 _ I1 q1) fun u s2 ⟨y,H2,I2,r2,q2⟩ =>
  thn (ho pins s2 σ H2 x y v u _ I2 r1 r2 q2) fun d s3 ⟨z,H3,I3,r3,k,e,q3⟩=>?_)) hm
 subst e
 cases r3
 refine wpAny_truthy_bool ?_
 cases k with
 | false=>exact ite_ff ⟨.bl false,H3,I3,rfl,q3⟩
 | true=>exact ite_tt (chain_last (thn (hc pins s3 σ H3 _ I3 q3) fun w' s4 ⟨z',H4,I4,r4,q4⟩=>ho' pins s4 σ H4 y z' u w' Q I4 r2 r4 q4))
theorem pt_chain {op op':CmpOp} {r r':R2} (ho:OpR X (compareOp op) r) (ho':OpR X (compareOp op') r') (ha:PE X a ta) (hb:PE X b tb) (hc:PE X c tc)
  (hm:lastMarks [op,op'] [b,c]=false:=by with_unfolding_all rfl):PT X (.Compare a [op,op'] [b,c] pos) (tTest (tChain r r' ta tb tc)):=by
 intro pins s σ H Q I h
 refine isTrue_chain (thn (ha pins s σ H _ I h) fun v s1 ⟨x,H1,I1,r1,q1⟩=>test_link (thn (hb pins s1 σ H1 _ I1 q1) fun u s2 ⟨y,H2,I2,r2,q2⟩ =>
  thn (ho pins s2 σ H2 x y v u _ I2 r1 r2 q2) fun d s3 ⟨z,H3,I3,r3,k,e,q3⟩=>?_)) hm
 subst e
 cases r3
 refine wpAny_truthy_bool ?_
 cases k with
 | false =>
  obtain ⟨k',e',q'⟩:=q3
  cases e'
  exact ite_ff ⟨H3,I3,q'⟩
 | true =>
  refine ite_tt (test_last (thn (hc pins s3 σ H3 _ I3 q3) fun w' s4 ⟨z',H4,I4,r4,q4⟩=>thn (ho' pins s4 σ H4 y z' u w' _ I4 r2 r4 q4) fun d' s5 ⟨z2,H5,I5,r5,k2,e2,q5⟩=>?_))
  subst e2
  cases r5
  exact wpAny_truthy_bool ⟨H5,I5,q5⟩
theorem line63:(sizeLine:Nat) < 2 ^ 63:=by rw [sizeLine_eq];decide
theorem op_add_str:OpR X (binaryOp .Add) (fun x y H Q=>∃i j,x=.str i∧y=.str j∧i.length + j.length≤sizeLine∧Q (.str (i++j)) H):=by
 intro pins s σ H x y v u Q I rx ry h
 obtain ⟨i,j,rfl,rfl,hz,q⟩:=h
 obtain ⟨t,rfl⟩:=rx
 obtain ⟨t',rfl⟩:=ry
 exact add_str (fun t' tk=>⟨.str (i++j),H,I.tok _,⟨_,rfl⟩,q⟩) hz
theorem vals1 {x:V} {us:List Value} (r:Vals [x] us):∃u,us=[u]∧RelV x u:=by
 cases r with
 | cons r1 r2=>cases r2;exact ⟨_,rfl,r1⟩
theorem vals2 {x y:V} {us:List Value} (r:Vals [x,y] us):∃u w',us=[u,w']∧RelV x u∧RelV y w':=by
 cases r with
 | cons r1 r2 =>
  cases r2 with
  | cons r3 r4=>cases r4;exact ⟨_,_,rfl,r1,r3⟩
theorem call_max2 (hc:X.calm=true):CallR X (.builtin "max") (fun xs H Q=>∃i j,xs=[.int i,.int j]∧Q (.int (if j > i then j else i)) H):=by
 intro pins s σ H xs us Q I r h
 obtain ⟨i,j,rfl,q⟩:=h
 obtain ⟨u,w',rfl,⟨t,rfl⟩,⟨t',rfl⟩⟩:=vals2 r
 refine max_two_ints (I.ok.hd hc) fun h' tk k=>⟨_,H,I.kept k,?_,q⟩
 by_cases hj:j > i
 ·rw [if_pos hj,if_pos hj];exact ⟨_,rfl⟩
 ·rw [if_neg hj,if_neg hj];exact ⟨_,rfl⟩
theorem call_min2 (hc:X.calm=true):CallR X (.builtin "min") (fun xs H Q=>∃i j,xs=[.int i,.int j]∧Q (.int (if j < i then j else i)) H):=by
 intro pins s σ H xs us Q I r h
 obtain ⟨i,j,rfl,q⟩:=h
 obtain ⟨u,w',rfl,⟨t,rfl⟩,⟨t',rfl⟩⟩:=vals2 r
 refine min_two_ints (I.ok.hd hc) fun h' tk k=>⟨_,H,I.kept k,?_,q⟩
 by_cases hj:j < i
 ·rw [if_pos hj,if_pos hj];exact ⟨_,rfl⟩
 ·rw [if_neg hj,if_neg hj];exact ⟨_,rfl⟩
theorem call_int1:CallR X (.type "int") (fun xs H Q=>(∃i,xs=[.int i]∧Q (.int i) H)∨∃k,xs=[.bl k]∧Q (.int (if k then 1 else 0)) H):=by
 intro pins s σ H xs us Q I r h
 rcases h with ⟨i,rfl,q⟩ | ⟨k,rfl,q⟩
 ·obtain ⟨u,rfl,t,rfl⟩:=vals1 r
  exact call_int_int ⟨.int i,H,I,⟨_,rfl⟩,q⟩
 ·obtain ⟨u,rfl,r1⟩:=vals1 r
  cases r1
  exact call_int_bool ⟨.int (if k then 1 else 0),H,I.tok _,⟨_,rfl⟩,q⟩
def LenV (K:W.Frag) (x:V) (H:Hp) (n:Nat):Prop :=
 match x with
 | .str y=>y.length≤sizeLine∧n=y.length
 | .byt y=>y.size≤sizeLine∧n=y.size
 | .ref p=>(∃xs,SqL K H p xs∧n=xs.length)∨∃xs,SqT K H p xs∧n=xs.length
 | _=>False
theorem call_len:CallR X (.builtin "len") (fun xs H Q=>∃x n,xs=[x]∧LenV X.K x H n∧Q (.int n) H):=by
 intro pins s σ H xs us Q I r h
 obtain ⟨x,n,rfl,e,q⟩:=h
 obtain ⟨u,rfl,rx⟩:=vals1 r
 have hl:=line63
 have hs:sizeLine=16777216:=sizeLine_eq
 cases x with
 | str y =>
  obtain ⟨t,rfl⟩:=rx
  obtain ⟨hy,e'⟩:y.length≤sizeLine∧n=y.length:=e
  subst e'
  exact len_str (by omega) ⟨.int _,H,I.tok _,⟨_,rfl⟩,q⟩
 | byt y =>
  obtain ⟨t,rfl⟩:=rx
  obtain ⟨hy,e'⟩:y.size≤sizeLine∧n=y.size:=e
  subst e'
  exact W.len_bytes (by omega) ⟨.int _,H,I.tok _,⟨_,rfl⟩,q⟩
 | ref p =>
  cases rx
  have e':(∃xs,SqL X.K H p xs∧n=xs.length)∨∃xs,SqT X.K H p xs∧n=xs.length:=e
  rcases e' with ⟨xs,hx,e'⟩ | ⟨xs,hx,e'⟩
  ·subst e'
   obtain ⟨its,r',pl,hz⟩:=I.list hx
   have hlen:=r'.length
   exact Calls.call_len_list pl.isList (by simp only [List.size_toArray];omega) ⟨.int xs.length,H,I.tok _,⟨_,by simp only [List.size_toArray];rw [hlen]⟩,q⟩
  ·subst e'
   obtain ⟨its,r',pl,hz⟩:=I.tuple hx
   have hlen:=r'.length
   exact len_tuple pl (by simp only [List.size_toArray];omega) ⟨.int xs.length,H,I.tok _,⟨_,by simp only [List.size_toArray];rw [hlen]⟩,q⟩
 | _=>exact (show False from e).elim
end
structure ObjM (h:Heap) (x dx C:Addr) (mA:Str→Option Value):Prop where
 obj:h.get? x=some (W.instObj C dx)
 ns:h.Ns1 dx mA
 ne:dx≠x
theorem lookIn_ns {h:Heap} {dx:Addr} {mA:Str→Option Value} (n:h.Ns1 dx mA):∃od,h.get? dx=some od∧∀name,W.lookIn name od=some (mA name):=by
 obtain ⟨o,es,ep,ho,hd,hk,_,hm⟩:=n
 refine ⟨o,ho,fun name=>?_⟩
 have e:=hm name
 unfold nsFind findBy at e
 rw [← Array.find?_toList] at e
 unfold W.lookIn
 rw [hd]
 dsimp only
 split
 ·rename_i y q
  rw [q] at e
  exact congrArg some e
 ·rename_i q
  rw [q] at e
  have a:es.toList.any (·.refKey)=false:=by
   rw [List.any_eq_false]
   intro y hy
   obtain ⟨z,t,hkey⟩:=hk y (Array.mem_toList_iff.mp hy)
   simp [DictEntry.refKey,hkey]
  have a':¬ es.toList.any (·.refKey)=true:=by rw [a];exact Bool.false_ne_true
  rw [if_neg a']
  exact congrArg some e
theorem ObjM.look {h:Heap} {x dx C:Addr} {mA:Str→Option Value} (I:ObjM h x dx C mA):∃od,W.InstAt h x (W.instObj C dx) C (some od)∧∀name,W.lookIn name od=some (mA name) :=
 let ⟨od,ho,hl⟩:=lookIn_ns I.ns
 ⟨od,⟨I.obj,rfl,rfl,ho⟩,hl⟩
section
variable {prog:Program} {w:World} {A:Around} {E:Value→Shared→Prop} {s:Shared} {K:W.Frag} {x dx C f:Addr} {mA:Str→Option Value} {name:Str} {v:Value}
theorem get_map {expr:Bool} {Q:Value→Shared→Prop} (X:K.In s.heap) (I:ObjM s.heap x dx C mA) (hg:W.plainGet K C name=true) (hh:W.hasDictIn K C=true)
  (ha:W.findIn K (.ref C) name=some none) (hv:mA name=some v) (hv':W.handedIn v=true) (h:Q v { s with toks:=s.toks + 1 }) :
  wpAny (model prog w) A (getAttr (.ref x) name expr) Q E s:=by
 obtain ⟨od,J,hl⟩:=I.look
 exact W.get_value X J (W.plainGet_of hg).1 (W.findObj_own hh ha rfl (by rw [hl,hv])) hv' h
theorem get_meth {pl:Sem Bool} {Q:Value×List Value→Shared→Prop} (X:K.In s.heap) (I:ObjM s.heap x dx C mA) (hg:W.plainGet K C name=true)
  (hf:W.findIn K (.ref C) name=some (some (.ref f))) (ht:W.isFn K (.ref f)=true) (hv:mA name=none) (h:Q (.ref f,[.ref x]) s) :
  wpAny (model prog w) A (getMethod (.ref x) name pl) Q E s:=by
 obtain ⟨od,J,hl⟩:=I.look
 exact W.method_fn X J (W.plainGet_of hg).1 (W.plainGet_of hg).2 hf (beq_iff_eq.mp ht) (by show (W.lookIn name od).map (·.isSome)=some false;rw [hl,hv];rfl) h
theorem set_map {ns:List Str} {Q:Unit→Shared→Prop} (X:K.In s.heap) (I:ObjM s.heap x dx C mA)
  (hs:W.findIn K (.ref C) "__setattr__" = some (some (.builtin "object.__setattr__"))) (hp:W.plainOver K C=true) (ht:W.takerIn K C name=some none) (hh:W.hasDictIn K C=true)
  (hw:PySem.Within mA ns) (hsz:ns.length≤sizeLine)
  (h:∀h',ObjM h' x dx C (fun y=>if y=name then some v else mA y)→Heap.SameBut dx s.heap h'→Q () { s with heap:=h',toks:=s.toks + 2 }) :
  wpAny (model prog w) A (setAttr (.ref x) name v) Q E s:=by
 obtain ⟨od,J,hl⟩:=I.look
 refine W.set_plain X J hs (W.osa_open (s:={ s with toks:=s.toks + 1 }) (r:=none) X J hp ht fun b=>?_)
 obtain ⟨cd,hc,hd'⟩:=W.any_some hh
 have hx:s.heap.get? x=some ⟨.ref C,some dx,.plain,#[]⟩:=I.obj
 refine wpAny_bind (wpAny_pure (wpAny_bind (wpAny_bind (wpAny_loadPart hx (wpAny_bind (W.Looks.here (s:={ s with toks:=s.toks + 1 }) (W.looks_clsIn X hc) ?_))))))
 rw [hd']
 refine wpAny_pure (a:=some dx) (wpAny_bind (wpAny_pure (wpAny_bind ?_)))
 refine wpAny_nsSet1 (s:={ s with toks:=s.toks + 1 }) I.ns fun h' hn2 hs2=>?_
 obtain ⟨oD,esD,epD,hoD,hdD,hcD⟩:=hn2.count (PySem.Within.cons name v hw)
 refine wpAny_bind (wpAny_lookBehind hoD (by rw [hdD];exact pastItsLine_dict (Nat.le_trans hcD (by rw [List.length_cons];omega))) ?_)
 exact wpAny_pure (h _ ⟨(hs2.2 _ (Ne.symm I.ne)).trans I.obj,hn2,I.ne⟩ hs2)
theorem make_map {R:Result→Shared→Prop} {vs:List Value} {kw:List (Str×Value)} (X:K.In s.heap) (hm:W.makesIn K C=true)
  (hi:W.findIn K (.ref C) "__init__" = some (some (.ref f))) (hf:W.typeIn K (.ref f)=some (.type "function"))
  (h:codeAny (model prog w) (A.under (.builtin "type.__call__" ⟨.ref C::vs,kw⟩)) (.call (.ref f) ⟨.ref (s.heap.objs.size + 1)::vs,kw⟩) (W.InitBack (s.heap.objs.size + 1) R)
   { s with heap:=(s.heap.push W.emptyDict).push (W.instObj C s.heap.objs.size) }) :
  codeAny (model prog w) A (.call (.ref C) ⟨vs,kw⟩) R s:=by
 obtain ⟨hh,g,d,t,os⟩:=s
 exact W.make_core (W.makes_of X hm) (W.looks_findIn X hi) (fun self=>W.bind_fn X self hf) (.inl rfl) h
end
def putF (f:Str) (v:V):List (Str×V)→List (Str×V)
 | []=>[(f,v)]
 | (g,x)::r=>if g=f then (g,v)::r else (g,x)::putF f v r
theorem lookup_putF (f g:Str) (v:V):∀fs:List (Str×V),(putF f v fs).lookup g=if g=f then some v else fs.lookup g
 | []=>by
  show List.lookup g [(f,v)]=_
  by_cases h:g=f
  ·have hb:(g == f)=true:=beq_iff_eq.mpr h
   simp only [List.lookup,hb,if_pos h]
  ·have hb:(g == f)=false:=beq_eq_false_iff_ne.mpr h
   simp only [List.lookup,hb,if_neg h]
 | (k,x)::r=>by
  have ih:=lookup_putF f g v r
  rw [show putF f v ((k,x)::r)=(if k=f then (k,v)::r else (k,x)::putF f v r) from rfl]
  by_cases hk:k=f
  ·rw [if_pos hk]
   by_cases h:g=k
   ·have hb:(g == k)=true:=beq_iff_eq.mpr h
    simp only [List.lookup,hb,if_pos (h.trans hk)]
   ·have hb:(g == k)=false:=beq_eq_false_iff_ne.mpr h
    simp only [List.lookup,hb,if_neg (fun e:g=f=>h (e.trans hk.symm))]
  ·rw [if_neg hk]
   by_cases h:g=k
   ·have hb:(g == k)=true:=beq_iff_eq.mpr h
    simp only [List.lookup,hb,if_neg (fun e:g=f=>hk (h.symm.trans e))]
   ·have hb:(g == k)=false:=beq_eq_false_iff_ne.mpr h
    simp only [List.lookup,hb]
    exact ih
theorem keys_putF (f:Str) (v:V):∀fs:List (Str×V),f∈(putF f v fs).map (·.1)∧∀g,g∈fs.map (·.1)→g∈(putF f v fs).map (·.1)
 | []=>⟨by simp [putF],fun g h=>by simp at h⟩
 | (k,x)::r=>by
  obtain ⟨i1,i2⟩:=keys_putF f v r
  rw [show putF f v ((k,x)::r)=(if k=f then (k,v)::r else (k,x)::putF f v r) from rfl]
  by_cases hk:k=f
  ·rw [if_pos hk]
   subst hk
   exact ⟨by simp,fun g h=>by simpa using h⟩
  ·rw [if_neg hk]
   refine ⟨?_,fun g h=>?_⟩
   ·rw [List.map_cons]
    exact List.mem_cons_of_mem _ i1
   ·rw [List.map_cons] at h ⊢
    rcases List.mem_cons.mp h with e | e
    ·exact List.mem_cons.mpr (.inl e)
    ·exact List.mem_cons_of_mem _ (i2 g e)
theorem length_putF (f:Str) (v:V):∀fs:List (Str×V),(putF f v fs).length≤fs.length + 1
 | []=>by simp [putF]
 | (k,x)::r=>by
  have ih:=length_putF f v r
  rw [show putF f v ((k,x)::r)=(if k=f then (k,v)::r else (k,x)::putF f v r) from rfl]
  by_cases hk:k=f
  ·rw [if_pos hk,List.length_cons,List.length_cons];omega
  ·rw [if_neg hk,List.length_cons,List.length_cons];omega
theorem RelO.some_of {v:V} {o:Option Value} (r:RelO (some v) o):∃u,o=some u∧RelV v u:=by
 cases o with
 | none=>exact (show False from r).elim
 | some u=>exact ⟨u,rfl,r⟩
theorem RelO.none_of {o:Option Value} (r:RelO none o):o=none:=by
 cases o with
 | none=>rfl
 | some u=>exact (show False from r).elim
theorem handed_of {v:V} {u:Value} (r:RelV v u):W.handedIn u=true:=by
 cases v with
 | non=>cases (show u=Value.none from r);rfl
 | bl b=>cases (show u=Value.bool b from r);rfl
 | int i=>obtain ⟨t,e⟩:=(show ∃t,u=Value.int i t from r);cases e;rfl
 | str x=>obtain ⟨t,e⟩:=(show ∃t,u=Value.str x t from r);cases e;rfl
 | byt b=>obtain ⟨t,e⟩:=(show ∃t,u=Value.bytes b t from r);cases e;rfl
 | flt b=>obtain ⟨t,e⟩:=(show ∃t,u=Value.float b t from r);cases e;rfl
 | ref a=>cases (show u=Value.ref a from r);rfl
 | ty n=>cases (show u=Value.type n from r);rfl
section
variable {P:Program} {w:World} {H H':Hp} {h h':Heap} {a C dx:Addr} {fs fs':List (Str×V)}
theorem ins_get (hok:HOk P w H h) (e:H a=some (.ins C dx fs)):∃mA,ObjM h a dx C mA∧(∀f,RelO (fs.lookup f) (mA f))∧PySem.Within mA (fs.map (·.1))∧fs.length≤1000∧H dx=some (.own a):=by
 obtain ⟨d,z,ne,ob,mA,n,r,q⟩:=(show ObjOk P w H h a (.ins C dx fs) from hok a _ e)
 exact ⟨mA,⟨ob,n,ne⟩,r,q,z,d⟩
end
structure Cls (K:W.Frag) (C:Addr):Prop where
 pg:W.plainGet K C Str.empty=true
 hd:W.hasDictIn K C=true
 po:W.plainOver K C=true
 sa:W.findIn K (.ref C) "__setattr__" = some (some (.builtin "object.__setattr__"))
theorem Cls.get {K:W.Frag} {C:Addr} (c:Cls K C) (f:Str):W.plainGet K C f=true:=c.pg
def NoAttr (K:W.Frag) (C:Addr) (f:Str):Prop:=W.findIn K (.ref C) f=some none
theorem NoAttr.taker {K:W.Frag} {C:Addr} {f:Str} (n:NoAttr K C f):W.takerIn K C f=some none:=by
 unfold W.takerIn
 rw [show W.findIn K (.ref C) f=some none from n]
 rfl
structure Meth (K:W.Frag) (C:Addr) (m:Str) (f:Addr):Prop where
 at_:W.findIn K (.ref C) m=some (some (.ref f))
 fn:W.isFn K (.ref f)=true
 kp:W.keepIn K (.ref f)=true
section
variable {X:Cx} {pins:List (Addr×Obj)} {σ:St} {H:Hp} {s:Shared} {a C dx:Addr} {fs:List (Str×V)} {f:Str} {v:V} {A:Around} {E:Value→Shared→Prop}
theorem getattr_ok {b:Bool} {Q:Value→Shared→Prop} (I:Inv X pins σ H s) (e:H a=some (.ins C dx fs)) (c:Cls X.K C) (n:NoAttr X.K C f) (l:fs.lookup f=some v)
  (h:∀u s',Inv X pins σ H s'→RelV v u→Q u s'):wpAny (model X.prog X.w) A (getAttr (.ref a) f b) Q E s:=by
 obtain ⟨mA,O,r,_,_,_⟩:=ins_get I.hok e
 obtain ⟨u,hu,ru⟩:=RelO.some_of (v:=v) (o:=mA f) (by rw [← l];exact r f)
 exact get_map I.kIn O (c.get f) c.hd n hu (handed_of ru) (h u _ (I.tok _) ru)
theorem getmeth_ok {m:Str} {g:Addr} {pl:Sem Bool} {Q:Value×List Value→Shared→Prop} (I:Inv X pins σ H s) (e:H a=some (.ins C dx fs)) (c:Cls X.K C) (k:Meth X.K C m g) (l:fs.lookup m=none)
  (h:Q (.ref g,[.ref a]) s):wpAny (model X.prog X.w) A (getMethod (.ref a) m pl) Q E s:=by
 obtain ⟨mA,O,r,_,_,_⟩:=ins_get I.hok e
 have hn:mA m=none:=RelO.none_of (by rw [← l];exact r m)
 exact get_meth I.kIn O (c.get m) k.at_ k.fn hn h
theorem setattr_ok {y:V} {u:Value} {Q:Unit→Shared→Prop} (I:Inv X pins σ H s) (e:H a=some (.ins C dx fs)) (c:Cls X.K C) (n:NoAttr X.K C f) (hl:fs.length < 1000) (ry:RelV y u)
  (h:∀s',Inv X pins σ (upd H a (.ins C dx (putF f y fs))) s'→Q () s'):wpAny (model X.prog X.w) A (setAttr (.ref a) f u) Q E s:=by
 obtain ⟨mA,O,r,wi,_,ho⟩:=ins_get I.hok e
 have hz:(fs.map (·.1)).length≤sizeLine:=by rw [List.length_map,sizeLine_eq];omega
 refine set_map I.kIn O c.sa c.po n.taker c.hd wi hz fun h' O' sb=>h _ ?_
 have hd:∃o,h'.get? dx=some o:=let ⟨o,_,_,e',_⟩:=O'.ns;⟨o,e'⟩
 refine I.write (x:=a) (e:=dx) (by rw [e];exact True.intro) (.inr ho) (fun b q hb z=>(sb.2 b hb).trans z) hd ?_
 refine ⟨by rw [upd_ne O.ne];exact ho,?_,O.ne,O'.obj,_,O'.ns,fun g=>?_,fun g hg=>?_⟩
 ·have:=length_putF f y fs;omega
 ·show RelO ((putF f y fs).lookup g) (if g=f then some u else mA g)
  rw [lookup_putF]
  by_cases q:g=f
  ·rw [if_pos q,if_pos q];exact ry
  ·rw [if_neg q,if_neg q];exact r g
 ·by_cases q:g=f
  ·rw [q];exact (keys_putF f y fs).1
  ·refine (keys_putF f y fs).2 g (wi g fun z=>hg ?_)
   show (if g=f then some u else mA g)=none
   rw [if_neg q];exact z
theorem Inv.made (I:Inv X pins σ H s):Inv X pins σ (upd (upd H s.heap.objs.size (.own (s.heap.objs.size + 1))) (s.heap.objs.size + 1) (.ins C s.heap.objs.size []))
  { s with heap:=(s.heap.push W.emptyDict).push (W.instObj C s.heap.objs.size) }:=by
 have e1:(s.heap.push W.emptyDict).get? s.heap.objs.size=some W.emptyDict:=Heap.get?_push_size s.heap rfl
 have e2:((s.heap.push W.emptyDict).push (W.instObj C s.heap.objs.size)).get? (s.heap.objs.size + 1)=some (W.instObj C s.heap.objs.size):=by
  have:=Heap.get?_push_size (s.heap.push W.emptyDict) (o:=W.instObj C s.heap.objs.size) rfl
  rwa [Heap.size_push] at this
 have e3:(s.heap.push W.emptyDict).Ns s.heap.objs.size (fun _=>none):=⟨W.emptyDict,#[],_,e1,rfl,(fun e he=>absurd he (by simp)),fun _=>rfl⟩
 have I1:=I.laid (a:=s.heap.objs.size) (o:=.own (s.heap.objs.size + 1)) (h':=s.heap.push W.emptyDict) (t':=s.toks) (fun b u q=>Heap.get?_push_of_some _ q) (Nat.le_refl _) ⟨_,e1⟩
 refine I1.laid (a:=s.heap.objs.size + 1) (o:=.ins C s.heap.objs.size []) (t':=s.toks) (fun b u q=>Heap.get?_push_of_some _ q) (Nat.le_of_eq (Heap.size_push _ _)) ?_
 have ne:s.heap.objs.size≠s.heap.objs.size + 1:=Nat.ne_of_lt (Nat.lt_succ_self _)
 refine ⟨by rw [upd_ne ne,upd_same],Nat.zero_le _,ne,e2,fun _=>none,(Heap.Ns1.of_empty e3).at fun o q=>Heap.get?_push_of_some _ q,fun _=>True.intro,fun y hy=>absurd rfl hy⟩
theorem attr_of {prog:Program} {w:World} {env:Env} {e:Expr} {f:Str} {pos:Pos} {s:Shared} {Q:Value→Shared→Prop} (hb:attributeBase e f env (eval e env)=eval e env)
  (h:wpAny (model prog w) A (eval e env) (fun o s₁=>wpAny (model prog w) A (getAttr o f true) Q E s₁) E s):wpAny (model prog w) A (eval (.Attribute e f pos) env) Q E s :=
 Attribute_any_ h (by rw [arm_eval_Attribute,hb])
end
def tFld (K:W.Frag) (ta:TE) (f:Str):TE:=fun σ H Q=>ta σ H fun x H1=>∃a C dx fs v,x=.ref a∧H1 a=some (.ins C dx fs)∧Cls K C∧NoAttr K C f∧fs.lookup f=some v∧Q v H1
def sFld (K:W.Frag) (ta tv:TE) (f:Str):TS:=fun D σ H=>tv σ H fun y H1=>ta σ H1 fun x H2=>∃a C dx fs,x=.ref a∧H2 a=some (.ins C dx fs)∧Cls K C∧NoAttr K C f∧fs.length < 1000 ∧
 D.nx σ (upd H2 a (.ins C dx (putF f y fs)))
section
variable {X:Cx} {o e value:Expr} {f:Str} {pos pos' tpos:Pos} {ta tv:TE}
theorem pe_fld (he:PE X e ta) (hb:attributeBase e f X.env (eval e X.env)=eval e X.env):PE X (.Attribute e f pos) (tFld X.K ta f):=by
 intro pins s σ H Q I h
 refine attr_of hb (thn (he pins s σ H _ I h) fun u s1 ⟨x,H1,I1,rx,a,C,dx,fs,v,ex,ea,c,n,l,q⟩=>?_)
 subst ex
 obtain rfl:u=Value.ref a:=rx
 exact getattr_ok I1 ea c n l fun u' s2 I2 ru=>⟨v,H1,I2,ru,q⟩
theorem ps_fld (ha:PE X o ta) (hv:PE X value tv) (hs:swapsWith value (some (.Attribute o f pos')) pos.line X.env=pure false):PS X (.Assign [.Attribute o f pos'] value pos) (sFld X.K ta tv f):=by
 intro pins s σ H D I h
 refine plainObj_wpAny_Assign_Attribute (thn (hv pins s σ H _ I h) fun u s1 ⟨y,H1,I1,ry,q⟩=>thn (ha pins s1 σ H1 _ I1 q) fun ov s2 ⟨x,H2,I2,rx,a,C,dx,fs,ex,ea,c,n,l,q2⟩=>?_) hs
 subst ex
 obtain rfl:ov=Value.ref a:=rx
 exact setattr_ok I2 ea c n l ry fun s3 I3=>⟨σ,_,I3,q2⟩
end
section
variable {X:Cx} {pins:List (Addr×Obj)} {σ:St} {H:Hp} {s:Shared} {A:Around} {E:Value→Shared→Prop} {Q:Value→Shared→Prop} {c:Value} {b:Bool}
inductive TyOf (K:W.Frag) (H:Hp):V→Value→Prop where
 | non:TyOf K H .non (.type "NoneType")
 | bl (x:Bool):TyOf K H (.bl x) (.type "bool")
 | int (i:Int):TyOf K H (.int i) (.type "int")
 | str (x:Str):TyOf K H (.str x) (.type "str")
 | flt (x:UInt64):TyOf K H (.flt x) (.type "float")
 | lst {a:Addr} {xs:List V} (e:H a=some (.lst xs)):TyOf K H (.ref a) (.type "list")
 | frz {a:Addr} {o:Obj} {xs:List V} (e:H a=some (.frz o (.lst xs))):TyOf K H (.ref a) (.type "list")
 | tup {a:Addr} {xs:List V} (e:H a=some (.tup xs)):TyOf K H (.ref a) (.type "tuple")
 | dK {a:Addr} {kvs:List (Key×V)} (e:H a=some (.dK kvs)):TyOf K H (.ref a) (.type "dict")
 | dT {a:Addr} {kvs:List (List Key×V)} (e:H a=some (.dT kvs)):TyOf K H (.ref a) (.type "dict")
 | ins {a C dx:Addr} {fs:List (Str×V)} (e:H a=some (.ins C dx fs)) (cl:Cls K C) (ha:W.findIn K (.ref C) "__class__" = some (some (.builtin "object.__class__")))
   (hn:W.specialIn K (.builtin "object.__class__") "__get__" = some (some (.builtin "getset_descriptor.__get__"))) (htk:W.takesIn K (.builtin "object.__class__")=some true)
   (hm:W.mroIn K C (.type "object")=some true):TyOf K H (.ref a) (.ref C)
theorem isinst_ok {x:V} {u t:Value} (I:Inv X pins σ H s) (rx:RelV x u) (ty:TyOf X.K H x t) (e:W.kitOne X.K t c=some b) (h:∀tk,Q (.bool b) { s with toks:=tk }) :
  wpAny (model X.prog X.w) A (call (.builtin "isinstance") [u,c]) Q E s:=by
 cases ty with
 | non=>cases (show u=Value.none from rx);exact W.kia_one W.kitx_none I.kIn True.intro e (fun z=>nomatch z) h
 | bl y=>cases (show u=Value.bool y from rx);exact W.kia_one W.kitx_bool I.kIn True.intro e (fun z=>nomatch z) h
 | int i=>obtain ⟨t,q⟩:=(show ∃t,u=Value.int i t from rx);cases q;exact W.kia_one W.kitx_int I.kIn True.intro e (fun z=>nomatch z) h
 | str y=>obtain ⟨t,q⟩:=(show ∃t,u=Value.str y t from rx);cases q;exact W.kia_one W.kitx_str I.kIn True.intro e (fun z=>nomatch z) h
 | flt y=>obtain ⟨t,q⟩:=(show ∃t,u=Value.float y t from rx);cases q;exact W.kia_one W.kitx_float I.kIn True.intro e (fun z=>nomatch z) h
 | @lst a xs ea =>
  cases (show u=Value.ref a from rx)
  obtain ⟨_,_,n,_,h1⟩:=(show ObjOk X.prog X.w H s.heap a (.lst xs) from I.hok a _ ea)
  exact W.kia_one W.kitx_list I.kIn ⟨_,h1,rfl⟩ e (fun z=>nomatch z) h
 | @frz a ob xs ea =>
  cases (show u=Value.ref a from rx)
  obtain ⟨_,_,_,n,_,h1⟩:=(show ObjOk X.prog X.w H s.heap a (.frz ob (.lst xs)) from I.hok a _ ea)
  exact W.kia_one W.kitx_list I.kIn ⟨_,h1,rfl⟩ e (fun z=>nomatch z) h
 | @tup a xs ea =>
  cases (show u=Value.ref a from rx)
  obtain ⟨_,_,_,p⟩:=(show ObjOk X.prog X.w H s.heap a (.tup xs) from I.hok a _ ea)
  obtain ⟨o,h1,h2,_⟩:=p
  exact W.kia_one W.kitx_tuple I.kIn ⟨o,h1,h2⟩ e (fun z=>nomatch z) h
 | @dK a kvs ea =>
  cases (show u=Value.ref a from rx)
  obtain ⟨_,_,vs,_,p⟩:=(show ObjOk X.prog X.w H s.heap a (.dK kvs) from I.hok a _ ea)
  obtain ⟨o,es,ep,h1,h2,_⟩:=p
  exact W.kia_one W.kitx_dict I.kIn ⟨o,h1,h2.1⟩ e (fun z=>nomatch z) h
 | @dT a kvs ea =>
  cases (show u=Value.ref a from rx)
  obtain ⟨_,_,xs,_,o,es,ep,h1,h2,_⟩:=(show ObjOk X.prog X.w H s.heap a (.dT kvs) from I.hok a _ ea)
  exact W.kia_one W.kitx_dict I.kIn ⟨o,h1,h2.1⟩ e (fun z=>nomatch z) h
 | @ins a C dx fs ea cl ha hn htk hm =>
  cases (show u=Value.ref a from rx)
  obtain ⟨mA,O,_⟩:=ins_get I.hok ea
  obtain ⟨od,J,_⟩:=O.look
  exact W.kia_one (W.kitx_own (cl.get _) cl.hd ha hn htk hm) I.kIn J e (fun z=>nomatch z) h
end
structure Room (k:Nat) (A:Around):Prop where
 hd:A.handled=none
 dp:A.depth + 3 * k + 5 < recursionLimit
 un:A.units + 16 * k + 200 < cLine
 gd:A.guards=some []
theorem Room.mono {j k:Nat} {A:Around} (r:Room k A) (h:j≤k):Room j A:=⟨r.hd,by have:=r.dp;omega,by have:=r.un;omega,r.gd⟩
theorem Room.deeper {k:Nat} {A:Around} (r:Room (k + 1) A) (env:Env):Room k (A.deeper env) :=
 ⟨r.hd,by have:=r.dp;show A.depth + 1 + 3 * k + 5 < _;omega,by have:=r.un;show A.units + 3 + 16 * k + 200 < _;omega,r.gd⟩
theorem Room.in1 {k:Nat} {A:Around} (r:Room (k + 1) A):Room k A.in1 :=
 ⟨r.hd,by have:=r.dp;show A.depth + 3 * k + 5 < _;omega,by have:=r.un;show A.units + 1 + 16 * k + 200 < _;omega,r.gd⟩
theorem make_depth {A:Around} {C:Addr} {us:List Value} {kw:List (Str×Value)}:(A.under (.builtin "type.__call__" ⟨.ref C::us,kw⟩)).depth=A.depth + 1:=by
 first | rfl | simp [Around.under,Code.weight,Code.isCreation,Code.isGuard,Code.isCaller,Code.frames,Code.isFrame,guardIds]
theorem make_units {A:Around} {C:Addr} {us:List Value} {kw:List (Str×Value)}:(A.under (.builtin "type.__call__" ⟨.ref C::us,kw⟩)).units=A.units + 1:=by
 first | rfl | simp [Around.under,Code.cUnits,Code.frames,Code.isFrame]
theorem Room.make {k:Nat} {A:Around} (r:Room (k + 1) A) (C:Addr) (us:List Value) (kw:List (Str×Value)):Room k (A.under (.builtin "type.__call__" ⟨.ref C::us,kw⟩)) :=
 ⟨r.hd,by have:=r.dp;rw [make_depth];omega,by have:=r.un;rw [make_units];omega,by first | exact r.gd | (simp [Around.under,Code.guards,Code.isGuard,guardIds,pushGuards];exact r.gd)⟩
theorem Room.depth {k:Nat} {A:Around} (r:Room k A):A.depth < recursionLimit:=by have:=r.dp;omega
theorem Room.units {k:Nat} {A:Around} (r:Room k A):A.units + 64 < cLine:=by have:=r.un;omega
def tNil:TA:=fun _ H Q=>Q [] H
def tCons (ta:TE) (tr:TA):TA:=fun σ H Q=>ta σ H fun x H1=>tr σ H1 fun xs H2=>Q (x::xs) H2
section
variable {X:Cx} {e:Expr} {es:List Expr} {te:TE} {t:TA} {pos:Pos}
theorem pa_nil:PA X [] tNil:=fun _ _ _ _ H Q I h=>Calls.spliced_nil ⟨[],H,I,.nil,h⟩
theorem pa_cons (ha:PE X e te) (hr:PA X es t) (hs:starEach (e::es) X.env=(false,eval e X.env)::starEach es X.env:=by rfl):PA X (e::es) (tCons te t):=by
 intro pos pins s σ H Q I h
 rw [hs]
 show wpAny _ _ (spliced ((false,eval e X.env)::backTo pos (starEach es X.env))) _ _ s
 refine Calls.spliced_cons (thn (ha pins s σ H _ I h) fun u s1 ⟨x,H1,I1,r1,q1⟩=>?_)
 exact thn (hr pos pins s1 σ H1 _ I1 q1) fun us s2 ⟨xs,H2,I2,r2,q2⟩=>⟨x::xs,H2,I2,.cons r1 r2,q2⟩
end
abbrev Sp:=List V→Hp→VK→XK→Prop
abbrev CXT:=List Env→Hp→Shared→XK→Value→Shared→Prop
structure Env0 (P:Program) (w:World) (K:W.Frag) (mg:Str→Option Value) (base:Heap) (A:Around) (outer:List Env) (s:Shared) (H:Hp):Prop where
 frames:A.frames=some outer
 mod:Mod K mg base
 bs:∀b o,base.get? b=some o→s.heap.get? b=some o∧H b=none
 bsz:base.objs.size≤s.heap.objs.size
 funs:s.heap.FunFrames base outer
 frf:∀b∈frs outer,H b=none
 hok:HOk P w H s.heap
 bare:AllBare s.gens
def CE (outer:List Env) (P:Program) (w:World) (H:Hp) (s:Shared) (Q:VK) (u:Value) (s':Shared):Prop :=
 ∃v H',s'.os=s.os∧AllBare s'.gens∧Un (frs outer) [] H H' s.heap s'.heap∧HOk P w H' s'.heap∧RelV v u∧Q v H'
def CR (CX:CXT) (outer:List Env) (P:Program) (w:World) (H:Hp) (s:Shared) (Q:VK) (E:XK) (r:Result) (s':Shared):Prop :=
 match r with
 | .ok (.ret u)=>CE outer P w H s Q u s'
 | .ok _=>False
 | .error e=>CX outer H s E e s'
structure FnOk (P:Program) (w:World) (K:W.Frag) (mg:Str→Option Value) (base:Heap) (CX:CXT) (k:Nat) (f:Addr) (fd:FuncData) (ps:List Str) (sp:Sp):Prop where
 len:∀vs H Q E,sp vs H Q E→vs.length=ps.length
 run:∀(A:Around) (outer:List Env) (s:Shared) (H:Hp) (args:Args) (us:List Value) (vs:List V) (Q:VK) (E:XK),Room k A→Env0 P w K mg base A outer s H→BindsTo s fd args (ps.zip us)→Vals vs us→sp vs H Q E →
  codeAny (model P w) A (.call (.ref f) args) (CR CX outer P w H s Q E) s
theorem Env0.make {P:Program} {w:World} {K:W.Frag} {mg:Str→Option Value} {base:Heap} {A:Around} {outer:List Env} {s:Shared} {H:Hp} (e:Env0 P w K mg base A outer s H) (C:Addr) (us:List Value) (kw:List (Str×Value)) :
  Env0 P w K mg base (A.under (.builtin "type.__call__" ⟨.ref C::us,kw⟩)) outer s H:=⟨by first | exact e.frames | (simpa [Around.under,Code.envs,Code.isFrame,pushEnvs] using e.frames),e.mod,e.bs,e.bsz,e.funs,e.frf,e.hok,e.bare⟩
theorem Env0.in1 {P:Program} {w:World} {K:W.Frag} {mg:Str→Option Value} {base:Heap} {A:Around} {outer:List Env} {s:Shared} {H:Hp} (e:Env0 P w K mg base A outer s H) :
  Env0 P w K mg base A.in1 outer s H:=⟨e.frames,e.mod,e.bs,e.bsz,e.funs,e.frf,e.hok,e.bare⟩
section
variable {X:Cx} {pins:List (Addr×Obj)} {σ:St} {H:Hp} {s s':Shared}
theorem Inv.env0 (I:Inv X pins σ H s):Env0 X.prog X.w X.K X.mg X.base X.A X.stack s H :=
 ⟨I.ok.frames,I.ok.mod,I.bs,Nat.le_trans I.ok.bsz I.sz,I.stack,I.stkFree,I.hok,I.bare⟩
theorem Inv.after {Q:VK} {u:Value} (I:Inv X pins σ H s) (h:CE X.stack X.prog X.w H s Q u s'):EP X pins σ Q u s':=by
 obtain ⟨v,H',os,bare,un,hok,r,q⟩:=h
 obtain ⟨hh,g,d,t,os'⟩:=s'
 obtain rfl:os'=s.os:=os
 exact ⟨v,H',I.call (h':=hh) (g':=g) (d':=d) (t':=t) (ch:=[]) un hok bare (fun b z=>absurd z (by simp)),r,q⟩
end
def tCall (sp:Sp) (dvs:List V) (E:XK) (t:TA):TE:=fun σ H Q=>t σ H fun vs H1=>sp (vs++dvs) H1 Q E
def tMeth (C:Addr) (m:Str) (sp:Sp) (dvs:List V) (E:XK) (ta:TE) (t:TA):TE:=fun σ H Q=>ta σ H fun x H1=>∃a dx fs,x=.ref a∧H1 a=some (.ins C dx fs)∧fs.lookup m=none ∧
 t σ H1 fun vs H2=>sp (x::(vs++dvs)) H2 Q E
def Binds (K:W.Frag) (fd:FuncData) (ps:List Str) (ds:List Value):Prop :=
 ∀(s:Shared) (us:List Value),K.In s.heap→(us++ds).length=ps.length→BindsTo s fd ⟨us,[]⟩ (ps.zip (us++ds))
theorem Binds.all {K:W.Frag} {fd:FuncData} {ps:List Str} (h:∀us:List Value,us.length=ps.length→bindArgs fd ⟨us,[]⟩=pure (ps.zip us)):Binds K fd ps []:=fun s us _ hl=>by
 rw [List.append_nil] at hl ⊢
 exact .of_eq (h us hl)
def Passes (CX:CXT) (X:Cx) (E:XK):Prop:=∀(pins:List (Addr×Obj)) (σ:St) (H:Hp) (s:Shared) (e:Value) (s':Shared),Inv X pins σ H s→CX X.stack H s E e s'→X.xe e s'
section
variable {X:Cx} {CX:CXT} {k:Nat} {f C:Addr} {fd:FuncData} {ps:List Str} {sp:Sp} {dvs:List V} {ds:List Value} {E:XK} {x m:Str} {p pos apos:Pos} {e o:Expr} {es:List Expr} {ta:TE} {t:TA}
theorem run_fn {pins:List (Addr×Obj)} {σ:St} {H:Hp} {s:Shared} {Q:VK} {us:List Value} {vs:List V} (F:FnOk X.prog X.w X.K X.mg X.base CX k f fd ps sp) (hr:Room k X.A) (hb:Binds X.K fd ps ds) (hd:Vals dvs ds) (hx:Passes CX X E)
  (I:Inv X pins σ H s) (r:Vals vs us) (h:sp (vs++dvs) H Q E):wpAny (model X.prog X.w) X.A (call (.ref f) us) (EP X pins σ Q) X.xe s:=by
 have r2:Vals (vs++dvs) (us++ds):=r.append hd
 have hl:(us++ds).length=ps.length:=by rw [← r2.length];exact F.len _ _ _ _ h
 refine wpAny_call (codeAny_mono (F.run X.A X.stack s H ⟨us,[]⟩ (us++ds) (vs++dvs) Q E hr I.env0 (hb s us I.kIn hl) r2 h) fun r s' hq=>?_)
 cases r with
 | error e=>exact hx pins σ H s e s' I hq
 | ok fl =>
  cases fl with
  | ret u=>exact I.after hq
  | next=>exact False.elim hq
  | brk=>exact False.elim hq
  | cont=>exact False.elim hq
theorem pe_call (F:FnOk X.prog X.w X.K X.mg X.base CX k f fd ps sp) (hr:Room k X.A) (hg:Gl X x) (hm:X.mg x=some (.ref f)) (hk:W.keepIn X.K (.ref f)=true) (hb:Binds X.K fd ps ds) (hd:Vals dvs ds) (hx:Passes CX X E)
  (ha:PA X (e::es) t) (hdb:(x == ("__debug__" : Str))=false:=by decide) (he:starEach (e::es) X.env=(false,eval e X.env)::starEach es X.env:=by rfl) (hpl:(backTo pos (starEach es X.env)).any (·.1)=false:=by rfl) :
  PE X (.Call (.Name x p) (e::es) [] pos) (tCall sp dvs E t):=by
 intro pins s σ H Q I h
 refine wpAny_Call_Name_kw (ld_glob I hg hm ?_ hdb)
 refine W.callWith_K (h₀:=X.base) I.ok.mod.kin hk (thn (ha pos pins s σ H _ I h) fun us s1 ⟨vs,H1,I1,r,q⟩=>⟨I1.kIn,?_⟩) he hpl
 exact run_fn F hr hb hd hx I1 r q
theorem pe_meth0 {pl:Sem Bool} (he:PE X o ta) (c:Cls X.K C) (hm:Meth X.K C m f) (F:FnOk X.prog X.w X.K X.mg X.base CX k f fd ps sp) (hr:Room k X.A) (hb:Binds X.K fd ps ds) (hd:Vals dvs ds) (hx:Passes CX X E)
  (ht:eval (.Call (.Attribute o m apos) [] [] pos) X.env=(do
   let ov ← eval o X.env
   standAt apos.atName
   let (f,first) ← holding [ov] (getMethod ov m pl)
   callWith pos f first (backTo pos (starEach [] X.env)) (backToKw pos (keywordEach [] X.env))):=by rfl) :
  PE X (.Call (.Attribute o m apos) [] [] pos) (tMeth C m sp dvs E ta tNil):=by
 intro pins s σ H Q I h
 refine W.methodCall_KW (pl:=pl) (thn (he pins s σ H _ I h) fun u s1 ⟨x,H1,I1,rx,a,dx,fs,ex,ea,l,q⟩=>?_) ht
 subst ex
 obtain rfl:u=Value.ref a:=rx
 refine getmeth_ok I1 ea c hm l ?_
 exact W.callWith_K0 (first:=[.ref a]) I1.kIn hm.kp (run_fn (us:=[.ref a]) (vs:=[.ref a]) F hr hb hd hx I1 (.cons rfl .nil) q)
structure Mk (K:W.Frag) (C f:Addr):Prop where
 makes:W.makesIn K C=true
 init:W.findIn K (.ref C) "__init__" = some (some (.ref f))
 fn:W.isFn K (.ref f)=true
 kp:W.keepIn K (.ref C)=true
theorem run_make {pins:List (Addr×Obj)} {σ:St} {H:Hp} {s:Shared} {Q:VK} {us:List Value} {vs:List V} (M:Mk X.K C f) (F:FnOk X.prog X.w X.K X.mg X.base CX k f fd ps sp) (hr:Room (k + 1) X.A) (hb:Binds X.K fd ps ds) (hd:Vals dvs ds)
  (hx:Passes CX X E) (I:Inv X pins σ H s) (r:Vals vs us)
  (h:∀x dx,H x=none→H dx=none→dx≠x→sp (.ref x::(vs++dvs)) (upd (upd H dx (.own x)) x (.ins C dx [])) (fun v H2=>v=.non∧Q (.ref x) H2) E) :
  wpAny (model X.prog X.w) X.A (call (.ref C) us) (EP X pins σ Q) X.xe s:=by
 have hq:=h (s.heap.objs.size + 1) s.heap.objs.size (I.hok.fresh (Nat.le_succ _)) (I.hok.fresh (Nat.le_refl _)) (Nat.ne_of_lt (Nat.lt_succ_self _))
 have I2:=Inv.made (C:=C) I
 have r2:Vals (V.ref (s.heap.objs.size + 1)::(vs++dvs)) (Value.ref (s.heap.objs.size + 1)::(us++ds)):=.cons rfl (r.append hd)
 have hl:(Value.ref (s.heap.objs.size + 1)::us++ds).length=ps.length:=by
  have e:=r2.length
  rw [F.len _ _ _ _ hq] at e
  exact e.symm
 refine wpAny_call (make_map (f:=f) I.kIn M.makes M.init (beq_iff_eq.mp M.fn) (codeAny_mono (F.run _ X.stack _ _ ⟨Value.ref (s.heap.objs.size + 1)::us,[]⟩ (Value.ref (s.heap.objs.size + 1)::(us++ds)) _ _ E (hr.make C us [])
  (I2.env0.make C us []) (hb _ (Value.ref (s.heap.objs.size + 1)::us) I2.kIn hl) r2 hq) fun r s' hq'=>?_))
 cases r with
 | error e=>exact hx pins σ _ _ e s' I2 hq'
 | ok fl =>
  cases fl with
  | ret u =>
   obtain ⟨v,H',I3,rv,ev,q3⟩:=I2.after hq'
   subst ev
   exact ⟨rv,⟨V.ref (s.heap.objs.size + 1),H',I3,rfl,q3⟩⟩
  | next=>exact False.elim hq'
  | brk=>exact False.elim hq'
  | cont=>exact False.elim hq'
end
structure FnScope (N P:List Str) (sc:Scope):Prop where
 kind:sc.kind=.function
 co:sc.isCoroutine=false
 gen:sc.isGenerator=false
 nd:N.Nodup
 pre:N.take P.length=P
 par:∀x∈P,sc.names.lookup x=some .local∨sc.names.lookup x=some .cell
 nofree:∀y∈sc.names,y.2≠.free
theorem bindL_out {kindOf:Str→Option NameKind} {x:Str}:∀{binds:List (Str×Value)} {m:Str→Option Value},(∀v,(x,v) ∉ binds)→bindL kindOf binds m x=m x
 | [],_,_=>rfl
 | (n,v)::r,m,h=>by
  unfold bindL
  rw [bindL_out fun w hw=>h w (List.mem_cons_of_mem _ hw)]
  split
  ·have:x≠n:=by rintro rfl;exact h v List.mem_cons_self
   simp [this]
  ·rfl
theorem bindC_out {kindOf:Str→Option NameKind} {x:Str}:∀{binds:List (Str×Value)} {m:Str→Option Value},(∀v,(x,v) ∉ binds)→bindC kindOf binds m x=m x
 | [],_,_=>rfl
 | (n,v)::r,m,h=>by
  unfold bindC
  rw [bindC_out fun w hw=>h w (List.mem_cons_of_mem _ hw)]
  split
  ·rfl
  ·have:x≠n:=by rintro rfl;exact h v List.mem_cons_self
   simp [this]
theorem bindL_get {kindOf:Str→Option NameKind} {x:Str} {v:Value}:∀{P:List Str} {vs:List Value} {i:Nat} {m:Str→Option Value},P.Nodup→P[i]?=some x→vs[i]?=some v→kindOf x=some .local →
  bindL kindOf (P.zip vs) m x=some v
 | [],_,_,_,_,h,_,_=>by simp at h
 | _::_,[],_,_,_,_,h,_=>by simp at h
 | p::P,w::vs,0,m,nd,h1,h2,hk=>by
  simp at h1 h2;subst h1;subst h2
  show bindL kindOf ((p,w)::P.zip vs) m p=_
  unfold bindL
  rw [bindL_out fun v hv=>(List.nodup_cons.mp nd).1 (List.of_mem_zip hv).1,if_pos hk]
  simp
 | p::P,w::vs,i + 1,m,nd,h1,h2,hk=>by
  show bindL kindOf ((p,w)::P.zip vs) m x=_
  unfold bindL
  exact bindL_get (i:=i) (List.nodup_cons.mp nd).2 (by simpa using h1) (by simpa using h2) hk
theorem bindC_get {kindOf:Str→Option NameKind} {x:Str} {v:Value}:∀{P:List Str} {vs:List Value} {i:Nat} {m:Str→Option Value},P.Nodup→P[i]?=some x→vs[i]?=some v→kindOf x≠some .local →
  bindC kindOf (P.zip vs) m x=some v
 | [],_,_,_,_,h,_,_=>by simp at h
 | _::_,[],_,_,_,_,h,_=>by simp at h
 | p::P,w::vs,0,m,nd,h1,h2,hk=>by
  simp at h1 h2;subst h1;subst h2
  show bindC kindOf ((p,w)::P.zip vs) m p=_
  unfold bindC
  rw [bindC_out fun v hv=>(List.nodup_cons.mp nd).1 (List.of_mem_zip hv).1,if_neg hk]
  simp
 | p::P,w::vs,i + 1,m,nd,h1,h2,hk=>by
  show bindC kindOf ((p,w)::P.zip vs) m x=_
  unfold bindC
  exact bindC_get (i:=i) (List.nodup_cons.mp nd).2 (by simpa using h1) (by simpa using h2) hk
def start (N:List Str) (vs:List V):St:=vs.map some++List.replicate (N.length - vs.length) none
def cxOf (CX:CXT) (P:Program) (w:World) (K:W.Frag) (mg:Str→Option Value) (base:Heap) (N:List Str) (qual:Str) (scope:Scope) (f:Addr) (cd:Value) (A:Around) (outer:List Env) (s:Shared) (H:Hp) (E:XK):Cx where
 prog:=P
 w:=w
 K:=K
 mg:=mg
 base:=base
 A:=A.deeper (envOfC qual scope s.heap.objs.size f cd)
 N:=N
 s₀:=s
 H₀:=H
 env:=envOfC qual scope s.heap.objs.size f cd
 outer:=outer
 stack:=envOfC qual scope s.heap.objs.size f cd::outer
 ex:=[]
 calm:=true
 fn:=fun _=>true
 pn:=[]
 xe:=fun e s'=>wpAny (model P w) (A.deeper (envOfC qual scope s.heap.objs.size f cd)) (leaving (envOfC qual scope s.heap.objs.size f cd) e) (fun _ s''=>CX outer H s E e s'') (fun e' s''=>CX outer H s E e' s'') s'
theorem cell_has {sc:Scope} {n:Nat} {x:Str} (h:sc.names.lookup x=some .cell):∃c,(cellsFrom n sc.names []).lookup x=some c:=by
 have q:=W.cellsFrom_some sc.names n [] (.inl h)
 exact Option.isSome_iff_exists.mp q
theorem inv_start {CX:CXT} {P:Program} {w:World} {K:W.Frag} {mg:Str→Option Value} {base:Heap} {N ps:List Str} {qual:Str} {scope:Scope} {f:Addr} {cd:Value} {A:Around} {outer:List Env} {s s1:Shared} {H:Hp} {E:XK} {us:List Value} {vs:List V}
  (S:FnScope N ps scope) (hd:A.handled=none) (e0:Env0 P w K mg base A outer s H) (hl:vs.length=ps.length) (r:Vals vs us)
  (x:InCallC s s.heap.objs.size (bindL (envOfC qual scope s.heap.objs.size f cd).kindOf (ps.zip us) fun _=>none) (cellsFrom (s.heap.objs.size + 1) scope.names []) (bindC (envOfC qual scope s.heap.objs.size f cd).kindOf (ps.zip us) fun _=>none) s1) :
  Inv (cxOf CX P w K mg base N qual scope f cd A outer s H E) [] (start N vs) H s1:=by
 have hpl:ps.length≤N.length:=by have:=congrArg List.length S.pre;rw [List.length_take] at this;omega
 obtain ⟨h1,tk,rfl,hk⟩:=x.done
 have noA:∀b:Addr,b ∉ (cxOf CX P w K mg base N qual scope f cd A outer s H E).ex:=fun b z=>absurd (show b∈([]:List Addr) from z) (by simp)
 refine ⟨⟨e0.mod,S.kind,rfl,rfl,Nat.le_refl _,fun y z c h1 h2=>?_,fun y hy=>?_,fun y c _ h=>?_,fun _=>hd,Around.frames_deeper e0.frames,.inr ⟨rfl,rfl⟩,fun b z=>absurd z (noA b),e0.bs,e0.bsz,fun b _ _=>noA b,fun b z=>absurd z (noA b),e0.funs,e0.frf⟩,
  rfl,e0.bare,Un.kept hk,⟨_,x.toInCall.ns,fun i y v h1 h2 h3=>?_⟩,fun y c h=>⟨_,x.cell y c h⟩,e0.hok.fresh (Nat.le_refl _),fun y c h=>?_,fun p hp=>absurd (show p∈([]:List (Addr×Obj)) from hp) (by simp),e0.hok.kept hk,?_⟩
 ·exact name_of_addr x.apart (PySem.mem_of_lookup h1) (PySem.mem_of_lookup h2)
 ·have hy:scope.names.lookup y=some .cell∨scope.names.lookup y=some .free:=hy
  rcases hy with hy | hy
  ·exact cell_has hy
  ·exact absurd rfl (S.nofree _ (PySem.mem_of_lookup hy))
 ·exact Nat.le_of_lt (x.above y c (PySem.mem_of_lookup h))
 ·have hi:i < vs.length:=by
   unfold start at h2
   by_cases hi:i < vs.length
   ·exact hi
   ·rw [List.getElem?_append_right (by simpa using hi)] at h2
    rw [List.getElem?_replicate] at h2
    split at h2 <;> cases h2
  have ha:vs[i]?=some v:=by
   unfold start at h2
   rw [List.getElem?_append_left (by simpa using hi),List.getElem?_map] at h2
   cases e:vs[i]? with
   | none=>rw [e] at h2;cases h2
   | some a=>rw [e] at h2;cases h2;rfl
  obtain ⟨u,hu,rv⟩:=r.get ha
  have hp:ps[i]?=some y:=by
   rw [← S.pre,List.getElem?_take_of_lt (by omega)];exact h1
  have ndP:ps.Nodup:=by rw [← S.pre];exact S.nd.sublist (List.take_sublist _ _)
  refine ⟨u,rv,?_⟩
  rcases S.par y (List.mem_of_getElem? hp) with k | k
  ·exact .inl ⟨k,bindL_get ndP hp hu k⟩
  ·obtain ⟨c,e⟩:=cell_has (n:=s.heap.objs.size + 1) k
   refine .inr ⟨.inl k,c,e,?_⟩
   have q:=x.cell y c e
   rw [bindC_get ndP hp hu (by show scope.names.lookup y≠_;rw [k];decide)] at q
   exact q
 ·exact e0.hok.fresh (Nat.le_of_lt (x.above y c (PySem.mem_of_lookup h)))
 ·unfold start
  show _=N.length
  rw [List.length_append,List.length_map,List.length_replicate]
  omega
theorem fn_of {CX:CXT} {P:Program} {w:World} {K:W.Frag} {mg:Str→Option Value} {base:Heap} {k:Nat} {f:Addr} {name qual:Str} {params:Arguments} {body:List Stmt} {scope:Scope} {dV kV doc pm cdv ct oc:Value} {an od:Option Addr}
  {osl:Array (Option Value)} {N ps:List Str} {sp:Sp} (lk:K.lookup f=some ⟨oc,od,.func (W.fnOf name qual params body scope dV kV doc pm an cdv ct),osl⟩) (hcd:W.codeIn K cdv qual=true) (S:FnScope N ps scope)
  (len:∀vs H Q E,sp vs H Q E→vs.length=ps.length)
  (hbody:∀(A:Around) (outer:List Env) (s:Shared) (H:Hp) (vs:List V) (Q:VK) (E:XK),Room k (A.deeper (envOfC qual scope s.heap.objs.size f cdv))→sp vs H Q E →
   ∃t,PSs (cxOf CX P w K mg base N qual scope f cdv A outer s H E) body t∧t { nx:=fun _ H'=>Q .non H',rt:=Q } (start N vs) H) :
  FnOk P w K mg base CX (k + 1) f (W.fnOf name qual params body scope dV kV doc pm an cdv ct) ps sp:=by
 refine ⟨len,fun A outer s H args us vs Q E hr e0 hb r hsp=>?_⟩
 have hl:=len _ _ _ _ hsp
 have KX:K.In s.heap:=e0.mod.kin.keeps fun b o e=>(e0.bs b o e).1
 have lim:s.heap.NoLimit:=e0.mod.nolimit.keeps fun b o e=>(e0.bs b o e).1
 have hkind:∀y∈ps.zip us,scope.names.lookup y.1=some .local∨(scope.names.lookup y.1=some .cell∧((cellsFrom (s.heap.objs.size + 1) scope.names []).lookup y.1).isSome=true):=fun ⟨n,v⟩ hy=>by
  rcases S.par n (List.of_mem_zip hy).1 with q | q
  ·exact .inl q
  ·exact .inr ⟨q,W.cellsFrom_some _ _ _ (.inl q)⟩
 refine codeAny_call_function hr.depth (KX _ _ lk) rfl S.co S.gen rfl (W.codeRec_of KX hcd) (hb _ _ _ _ ?_)
 refine wpAny_newFunctionEnv_cells S.kind hkind fun env he s1 x=>?_
 subst he
 refine ⟨lim.keeps x.toInCall.keep,codeAny_func ?_⟩
 obtain ⟨t,ht,hq⟩:=hbody A outer s H vs Q E (hr.deeper _) hsp
 have I:Inv (cxOf CX P w K mg base N qual scope f cdv A outer s H E) [] (start N vs) H s1:=inv_start S hr.hd e0 hl r x
 refine wpAny_mono (ht [] s1 (start N vs) H _ I hq) (fun fl s' hs=>?_) fun e s' hs=>hs
 have fin:∀{σ':St} {H':Hp} {v:V} {u:Value},Inv (cxOf CX P w K mg base N qual scope f cdv A outer s H E) [] σ' H' s'→RelV v u→Q v H'→CE outer P w H s Q u s' :=
  fun {σ' H' v u} J rv q=>⟨v,H',J.os,J.bare,J.base,J.hok,rv,q⟩
 cases fl with
 | ret u =>
  obtain ⟨v,σ',H',J,rv,q⟩:=hs
  exact fin J rv q
 | next =>
  obtain ⟨σ',H',J,q⟩:=hs
  exact fin (v:=V.non) (u:=Value.none) J rfl q
 | brk =>
  obtain ⟨_,_,_,q⟩:=hs
  exact False.elim q
 | cont =>
  obtain ⟨_,_,_,q⟩:=hs
  exact False.elim q
section
variable {X:Cx} {x:Str} {p pos:Pos} {e:Expr} {es:List Expr} {t:TA} {id T:String} {r:List V→Hp→VK→Prop}
def tCB (r:List V→Hp→VK→Prop) (t:TA):TE:=fun σ H Q=>t σ H fun vs H1=>r vs H1 Q
theorem pe_callB (hc:CallR X (.builtin id) r) (hg:Gl X x) (hm:X.mg x=none) (hv:bootBuiltins x=some (.builtin id)) (ha:PA X (e::es) t) (hn:x ≠ "__name__" := by decide) (hdb:(x == ("__debug__" : Str))=false:=by decide)
  (he:starEach (e::es) X.env=(false,eval e X.env)::starEach es X.env:=by rfl) (hpl:(backTo pos (starEach es X.env)).any (·.1)=false:=by rfl):PE X (.Call (.Name x p) (e::es) [] pos) (tCB r t):=by
 intro pins s σ H Q I h
 refine wpAny_Call_Name_kw (ld_blt I hg hm hv ?_ hn hdb)
 exact PyProof.Rows.callWith_builtin1 (thn (ha pos pins s σ H _ I h) fun us s1 ⟨vs,H1,I1,r1,q1⟩=>hc pins s1 σ H1 vs us Q I1 r1 q1) he hpl
theorem pe_callTy (hc:CallR X (.type T) r) (hg:Gl X x) (hm:X.mg x=none) (hv:bootBuiltins x=some (.type T)) (ha:PA X (e::es) t) (hn:x ≠ "__name__" := by decide) (hdb:(x == ("__debug__" : Str))=false:=by decide)
  (he:starEach (e::es) X.env=(false,eval e X.env)::starEach es X.env:=by rfl) (hpl:(backTo pos (starEach es X.env)).any (·.1)=false:=by rfl):PE X (.Call (.Name x p) (e::es) [] pos) (tCB r t):=by
 intro pins s σ H Q I h
 refine wpAny_Call_Name_kw (ld_blt I hg hm hv ?_ hn hdb)
 exact PyProof.Rows.callWith_type1 (thn (ha pos pins s σ H _ I h) fun us s1 ⟨vs,H1,I1,r1,q1⟩=>hc pins s1 σ H1 vs us Q I1 r1 q1) he hpl
end
end L2
namespace HT
open PySem PyProof.Rows
section
open PySem.SeqAt
open PySem.AutoSeq1 (wpAny_loadPart')
open PySem.MeetsSeq PySem.MeetsSeq2 PySem.MeetsSeq3
end
section
variable {prog:Program} {w:World} {A:Around} {E:Value→Shared→Prop} {s:Shared}
def sIx (n d:Nat):Option Int→Nat
 | none=>d
 | some v=>if v < 0 then (v + (n:Int)).toNat else min v.toNat n
theorem sIx_nat (n d k:Nat):sIx n d (some (k:Int))=min k n:=by
 show (if (k:Int) < 0 then ((k:Int) + (n:Int)).toNat else min (k:Int).toNat n)=min k n
 rw [if_neg (by omega),Int.toNat_natCast]
end
end HT
namespace L2
open PySem PySem.Spec PyProof.Rows
abbrev TO:=St→Hp→(Option Int→Hp→Prop)→Prop
def PO (X:Cx) (e:Option Expr) (t:TO):Prop :=
 ∀(pins:List (Addr×Obj)) (s:Shared) (σ:St) (H:Hp) (Q:Option Int→Hp→Prop),Inv X pins σ H s→t σ H Q →
  wpAny (model X.prog X.w) X.A (evalPart e X.env) (fun u s'=>∃o H',Inv X pins σ H' s'∧IsPart u o∧Q o H') X.xe s
def tNoPart:TO:=fun _ H Q=>Q none H
def tPart (t:TE):TO:=fun σ H Q=>t σ H fun x H1=>∃i,x=.int i∧Q (some i) H1
section
variable {X:Cx} {e:Expr} {te:TE} {lo hi:Option Expr} {tl th:TO} {pos p2:Pos}
theorem po_none:PO X none tNoPart:=by
 intro pins s σ H Q I h
 rw [evalPart_none]
 exact wpAny_pure ⟨none,H,I,.none,h⟩
theorem po_some (h:PE X e te):PO X (some e) (tPart te):=by
 intro pins s σ H Q I hw
 rw [evalPart_some]
 refine thn (h pins s σ H _ I hw) fun u s1 ⟨x,H1,I1,r1,q1⟩=>?_
 obtain ⟨i,rfl,q⟩:=q1
 obtain ⟨t,rfl⟩:=r1
 exact ⟨some i,H1,I1,.int i t,q⟩
def SlR (X:Cx) (r:V→Option Int→Option Int→Hp→VK→Prop):Prop :=
 ∀(pins:List (Addr×Obj)) (s:Shared) (σ:St) (H:Hp) (x:V) (v vl vu:Value) (lo hi:Option Int) (sl:Addr) (Q:VK),Inv X pins σ H s→RelV x v→s.heap.IsSliceOf sl vl vu .none→IsPart vl lo→IsPart vu hi→r x lo hi H Q →
  ∃T id,typeLookup (.type T) "__getitem__" = pure (some (.builtin id))∧s.TypeIs v T∧wpAny (model X.prog X.w) X.A (getItem v (.ref sl)) (EP X pins σ Q) X.xe s
theorem SlR.or {r r':V→Option Int→Option Int→Hp→VK→Prop} (h:SlR X r) (h':SlR X r'):SlR X (fun x lo hi H Q=>r x lo hi H Q∨r' x lo hi H Q):=by
 intro pins s σ H x v vl vu lo hi sl Q I rx hs pl pu q
 rcases q with q | q
 ·exact h pins s σ H x v vl vu lo hi sl Q I rx hs pl pu q
 ·exact h' pins s σ H x v vl vu lo hi sl Q I rx hs pl pu q
def tSl (r:V→Option Int→Option Int→Hp→VK→Prop) (te:TE) (tl th:TO):TE:=fun σ H Q=>te σ H fun x H1=>tl σ H1 fun l H2=>th σ H2 fun u H3=>r x l u H3 Q
theorem pe_slice {r:V→Option Int→Option Int→Hp→VK→Prop} (hr:SlR X r) (he:PE X e te) (hl:PO X lo tl) (hu:PO X hi th):PE X (.Subscript e (.Slice lo hi none p2) pos) (tSl r te tl th):=by
 intro pins s σ H Q I h
 refine Subscript_ (thn (he pins s σ H _ I h) fun v s1 ⟨x,H1,I1,r1,q1⟩=>?_)
 refine wpAny_Slice (thn (hl pins s1 σ H1 _ I1 q1) fun vl s2 ⟨l,H2,I2,pl,q2⟩=>thn (hu pins s2 σ H2 _ I2 q2) fun vu s3 ⟨u,H3,I3,pu,q3⟩=>?_)
 rw [evalPart_none]
 refine wpAny_pure ?_
 have I4:Inv X pins σ H3 { s3 with heap:=s3.heap.push { cls:=.type "slice", data:=.fields #[vl,vu,.none] } }:=I3.kept (t':=s3.toks) fun b ob q=>Heap.get?_push_of_some _ q
 obtain ⟨T,id,hT,ht,hg⟩:=hr pins { s3 with heap:=s3.heap.push { cls:=.type "slice", data:=.fields #[vl,vu,.none] } } σ H3 x v vl vu l u s3.heap.objs.size Q I4 r1 (Heap.IsSliceOf.new ..) pl pu q3
 show wpAny (model X.prog X.w) X.A (subscriptTail e (.Slice lo hi none p2) v (.ref s3.heap.objs.size)) (EP X pins σ Q) X.xe { s3 with heap:=s3.heap.push { cls:=.type "slice", data:=.fields #[vl,vu,.none] } }
 exact tail_any (ops:=[.ref s3.heap.objs.size,v]) ht hT hg (by with_unfolding_all rfl)
def cutV (xs:List V) (lo hi:Option Int):List V:=(xs.drop (HT.sIx xs.length 0 lo)).take (HT.sIx xs.length xs.length hi - HT.sIx xs.length 0 lo)
theorem cutV_length (xs:List V) (lo hi:Option Int):(cutV xs lo hi).length≤xs.length:=by
 unfold cutV
 rw [List.length_take,List.length_drop]
 omega
end
def ixN (n:Nat) (i:Int):Option Nat:=if 0≤i then (if i < n then some i.toNat else none) else if -(n:Int)≤i then some (i + n).toNat else none
def atI {α:Type} (xs:List α) (i:Int):Option α:=(ixN xs.length i).bind fun j=>xs[j]?
theorem ixN_seq {n:Nat} {i:Int} {j:Nat} (h:ixN n i=some j):seqIndex? i n=some j∧j < n∧-(n:Int)≤i∧i < n:=by
 unfold ixN at h
 by_cases h0:0≤i
 ·rw [if_pos h0] at h
  by_cases h1:i < n
  ·rw [if_pos h1] at h
   have e:i.toNat=j:=Option.some.inj h
   exact ⟨by rw [seqIndex_of h0 h1,e],by omega,by omega,h1⟩
  ·rw [if_neg h1] at h;cases h
 ·rw [if_neg h0] at h
  by_cases h1:-(n:Int)≤i
  ·rw [if_pos h1] at h
   have e:(i + n).toNat=j:=Option.some.inj h
   exact ⟨by rw [seqIndex_neg (by omega) h1,e],by omega,h1,by omega⟩
  ·rw [if_neg h1] at h;cases h
theorem atI_get {α:Type} {xs:List α} {i:Int} {v:α} (h:atI xs i=some v):∃j,seqIndex? i xs.length=some j∧xs[j]?=some v∧j < xs.length∧-(xs.length:Int)≤i∧i < xs.length:=by
 unfold atI at h
 cases e:ixN xs.length i with
 | none=>rw [e] at h;cases h
 | some j =>
  rw [e] at h
  obtain ⟨h1,h2,h3,h4⟩:=ixN_seq e
  exact ⟨j,h1,h,h2,h3,h4⟩
theorem atI_nat {α:Type} {xs:List α} {j:Nat} {v:α} (h:xs[j]?=some v):atI xs (j:Int)=some v:=by
 have hj:j < xs.length:=(List.getElem?_eq_some_iff.mp h).1
 have e:ixN xs.length (j:Int)=some j:=by
  unfold ixN
  rw [if_pos (by omega),if_pos (by omega)];simp
 unfold atI;rw [e];exact h
def PlainIx (b:Expr):Prop:=∀o i,subscripted b false o i=operate [o,i] (getItem o i)
def IxR (X:Cx) (r:R2):Prop :=
 ∀(value slice:Expr) (pins:List (Addr×Obj)) (s:Shared) (σ:St) (H:Hp) (x y:V) (v u:Value) (Q:VK),Inv X pins σ H s→RelV x v→RelV y u→r x y H Q →
  subscripted slice false v u=operate [v,u] (getItem v u)→wpAny (model X.prog X.w) X.A (subscriptTail value slice v u) (EP X pins σ Q) X.xe s
def MtR (X:Cx) (id:String) (r:V→List V→Hp→VK→Prop):Prop :=
 ∀(pins:List (Addr×Obj)) (s:Shared) (σ:St) (H:Hp) (x:V) (xs:List V) (v:Value) (us:List Value) (Q:VK),Inv X pins σ H s→RelV x v→Vals xs us→r x xs H Q →
  wpAny (model X.prog X.w) X.A (call (.builtin id) (v::us)) (EP X pins σ Q) X.xe s
section
variable {X:Cx} {a b:Expr} {ta tb:TE} {pos:Pos}
theorem IxR.or {r r':R2} (h:IxR X r) (h':IxR X r'):IxR X (fun x y H Q=>r x y H Q∨r' x y H Q):=by
 intro value slice pins s σ H x y v u Q I rx ry q hs
 rcases q with q | q
 ·exact h value slice pins s σ H x y v u Q I rx ry q hs
 ·exact h' value slice pins s σ H x y v u Q I rx ry q hs
theorem MtR.or {id:String} {r r':V→List V→Hp→VK→Prop} (h:MtR X id r) (h':MtR X id r'):MtR X id (fun x xs H Q=>r x xs H Q∨r' x xs H Q):=by
 intro pins s σ H x xs v us Q I rx rs q
 rcases q with q | q
 ·exact h pins s σ H x xs v us Q I rx rs q
 ·exact h' pins s σ H x xs v us Q I rx rs q
theorem pe_ix {r:R2} (hr:IxR X r) (ha:PE X a ta) (hb:PE X b tb) (hs:PlainIx b):PE X (.Subscript a b pos) (tOp r ta tb):=by
 intro pins s σ H Q I h
 exact Subscript_ (binT ha hb I h fun v u s2 x y H2 I2 rx ry q=>hr a b pins s2 σ H2 x y v u Q I2 rx ry q (hs _ _))
def rIxL (K:W.Frag):R2:=fun x y H Q=>∃p xs i v,x=.ref p∧y=.int i∧SqL K H p xs∧atI xs i=some v∧Q v H
def rIxT (K:W.Frag):R2:=fun x y H Q=>∃p xs i v,x=.ref p∧y=.int i∧SqT K H p xs∧atI xs i=some v∧Q v H
def rIxS:R2:=fun x y H Q=>∃z i c,x=.str z∧y=.int i∧z.length≤sizeLine∧atI z.cps.toList i=some c∧Q (.str ⟨#[c]⟩) H
theorem ix_list:IxR X (rIxL X.K):=by
 intro value slice pins s σ H x y v u Q I rx ry h hs
 obtain ⟨p,xs,i,z,rfl,rfl,hq,he,q⟩:=h
 cases rx
 obtain ⟨t,rfl⟩:=ry
 obtain ⟨its,r,pl,hz⟩:=I.list hq
 obtain ⟨j,h1,h2,h3,h4,h5⟩:=atI_get he
 obtain ⟨w,ew,rw'⟩:=r.get h2
 have hl:=r.length
 have hn:=line63
 have fin:EP X pins σ Q w s:=⟨z,H,I,rw',q⟩
 by_cases h0:0≤i
 ·have hj:i.toNat=j:=by
   rw [seqIndex_of h0 h5] at h1
   exact Option.some.inj h1
  exact item_listR pl.isList h0 (by omega) (by rw [hj];simpa using ew) fin hs
 ·have hj:(i + (its.toArray.size:Int)).toNat=j:=by
   rw [seqIndex_neg (by omega) h4] at h1
   rw [List.size_toArray,← hl]
   exact Option.some.inj h1
  exact subscriptTail_builtinR (x:=w) pl.isList.typeIs slot_list_getitem.lookup
   (wpAny_getItem_list_neg (Q:=fun r s'=>r=w∧EP X pins σ Q r s') pl.isList (by omega) (by rw [List.size_toArray] <;> omega) (by omega) (by rw [hj];simpa using ew) ⟨rfl,fin⟩) hs
theorem ix_tup:IxR X (rIxT X.K):=by
 intro value slice pins s σ H x y v u Q I rx ry h hs
 obtain ⟨p,xs,i,z,rfl,rfl,hq,he,q⟩:=h
 cases rx
 obtain ⟨t,rfl⟩:=ry
 obtain ⟨its,r,pl,hz⟩:=I.tuple hq
 obtain ⟨j,h1,h2,h3,h4,h5⟩:=atI_get he
 obtain ⟨w,ew,rw'⟩:=r.get h2
 have hl:=r.length
 have hn:=line63
 have fin:EP X pins σ Q w s:=⟨z,H,I,rw',q⟩
 exact subscriptTail_builtinR (x:=w) pl.typeIs slot_tuple_getitem.lookup
  (getItem_tuple (j:=j) (Q:=fun r s'=>r=w∧EP X pins σ Q r s') pl (by omega) (by omega) (by rw [List.size_toArray,← hl];exact h1) (by simpa using ew) ⟨rfl,fin⟩) hs
theorem ix_str:IxR X rIxS:=by
 intro value slice pins s σ H x y v u Q I rx ry h hs
 obtain ⟨z,i,c,rfl,rfl,hz,he,q⟩:=h
 obtain ⟨t,rfl⟩:=rx
 obtain ⟨t',rfl⟩:=ry
 obtain ⟨j,h1,h2,h3,h4,h5⟩:=atI_get he
 have hl:z.cps.toList.length=z.length:=by simp [Str.length]
 rw [hl] at h1 h4 h5
 have hn:=line63
 exact tail_any (typeIs_str s z t) slot_str_getitem.lookup (getItem_str (c:=c) (by
  have e1:decide (i < -(2 ^ 63:Int))=false:=decide_eq_false (by omega)
  have e2:decide (i ≥ 2 ^ 63)=false:=decide_eq_false (by omega)
  rw [e1,e2,Bool.or_false]) (by rw [h1];simpa using h2) ⟨.str ⟨#[c]⟩,H,I.tok _,⟨_,rfl⟩,q⟩) hs
theorem mapSeq_set (its:List Value) (n j:Nat) (u:Value):Obj.mapSeq (·.setIfInBounds j u) { cls:=.type "list", data:=.seq its.toArray n }={ cls:=.type "list", data:=.seq (its.set j u).toArray n }:=by
 simp [Obj.mapSeq]
theorem Inv.lst {pins:List (Addr×Obj)} {σ:St} {H:Hp} {s:Shared} {p:Addr} {xs:List V} (I:Inv X pins σ H s) (h:H p=some (.lst xs)) :
  ∃(its:List Value) (n:Nat),Vals xs its∧s.heap.get? p=some { cls:=.type "list", data:=.seq its.toArray n }∧xs.length≤sizeLine:=by
 obtain ⟨z,its,n,r,e⟩:=I.hok p _ h
 exact ⟨its,n,r,e,z⟩
theorem Inv.lstUpd {pins:List (Addr×Obj)} {σ:St} {H:Hp} {s:Shared} {p:Addr} {xs ys:List V} {its its':List Value} {n n':Nat} {f:Obj→Obj} (I:Inv X pins σ H s) (h:H p=some (.lst xs))
  (ho:s.heap.get? p=some { cls:=.type "list", data:=.seq its.toArray n }) (hf:f { cls:=.type "list", data:=.seq its.toArray n }={ cls:=.type "list", data:=.seq its'.toArray n' }) (r:Vals ys its') (hz:ys.length≤sizeLine) (t:Nat) :
  Inv X pins σ (upd H p (.lst ys)) { s with heap:=s.heap.update p f,toks:=t }:=by
 have e:(s.heap.update p f).get? p=some { cls:=.type "list", data:=.seq its'.toArray n' }:=by
  rw [Heap.get?_update_self f ho (by rw [hf] <;> rfl),hf]
 refine I.write (x:=p) (e:=p) (by rw [h];trivial) (.inl rfl) (fun b u hb q=>(Heap.get?_update_other _ _ (Ne.symm hb)).trans q) ⟨_,e⟩ ?_
 exact ⟨hz,its',n',r,e⟩
def rSetL:V→V→V→Hp→(Hp→Prop)→Prop:=fun o i v H Q=>∃p xs k j,o=.ref p∧i=.int k∧H p=some (.lst xs)∧ixN xs.length k=some j∧Q (upd H p (.lst (xs.set j v)))
theorem set_list:PSet X rSetL:=by
 intro pins s σ H o i v ov iv u Q I ro ri rv h
 obtain ⟨p,xs,k,j,rfl,rfl,hp,hj,q⟩:=h
 cases ro
 obtain ⟨t,rfl⟩:=ri
 obtain ⟨its,n,r,ho,hz⟩:=I.lst hp
 obtain ⟨h1,h2,h3,h4⟩:=ixN_seq hj
 have hl:=r.length
 have hn:=line63
 have I':Inv X pins σ (upd H p (.lst (xs.set j v))) { s with heap:=s.heap.update p (Obj.mapSeq (·.setIfInBounds j u)) } :=
  I.lstUpd hp ho (mapSeq_set its n j u) (r.set rv j) (by rw [List.length_set];exact hz) s.toks
 by_cases h0:0≤k
 ·have hk:k.toNat=j:=by
   rw [seqIndex_of h0 h4] at h1
   exact Option.some.inj h1
  exact W.ki_setAt ho h0 (by omega) (by rw [List.size_toArray,← hl];exact h4) (by rw [hk];exact ⟨_,I',q⟩)
 ·have hk:(k + (its.toArray.size:Int)).toNat=j:=by
   rw [seqIndex_neg (by omega) h3] at h1
   rw [List.size_toArray,← hl]
   exact Option.some.inj h1
  exact W.ki_setBack ho (by omega) (by rw [List.size_toArray,← hl];exact h3) (by omega) (by rw [hk];exact ⟨_,I',q⟩)
theorem slice_bounds (lo hi:Option Int) (n:Nat):(sliceBounds lo hi none n).1=((HT.sIx n 0 lo:Nat):Int)∧(sliceBounds lo hi none n).2.1=((HT.sIx n n hi:Nat):Int)∧(sliceBounds lo hi none n).2.2=1:=by
 refine ⟨?_,?_,rfl⟩
 ·cases lo with
  | none=>simp [sliceBounds,HT.sIx]
  | some i =>
   simp only [sliceBounds,HT.sIx,Option.getD_none,show (1:Int) > 0 by decide,if_true]
   by_cases h:i < 0
   ·simp only [h,if_true] <;> omega
   ·simp only [h,if_false] <;> omega
 ·cases hi with
  | none=>simp [sliceBounds,HT.sIx]
  | some i =>
   simp only [sliceBounds,HT.sIx,Option.getD_none,show (1:Int) > 0 by decide,if_true]
   by_cases h:i < 0
   ·simp only [h,if_true] <;> omega
   ·simp only [h,if_false] <;> omega
theorem slicePick_cut (its:List Value) (lo hi:Option Int):slicePick its.toArray lo hi none=((its.drop (HT.sIx its.length 0 lo)).take (HT.sIx its.length its.length hi - HT.sIx its.length 0 lo)).toArray:=by
 obtain ⟨h1,h2,h3⟩:=slice_bounds lo hi its.toArray.size
 unfold slicePick
 rw [h1,h2,h3]
 simp only [sliceRange_one,pick_run,List.size_toArray] <;> rfl
def rSlL (K:W.Frag):V→Option Int→Option Int→Hp→VK→Prop:=fun x lo hi H Q=>∃a xs,x=.ref a∧SqL K H a xs∧∀p,H p=none→Q (.ref p) (upd H p (.lst (cutV xs lo hi)))
theorem sl_list:SlR X (rSlL X.K):=by
 intro pins s σ H x v vl vu lo hi sl Q I rx hs pl pu h
 obtain ⟨a,xs,rfl,hx,q⟩:=h
 cases rx
 obtain ⟨its,r,ht,hz⟩:=I.list hx
 have hlen:=r.length
 refine ⟨"list", _,slot_list_getitem.lookup,ht.isList.typeIs,?_⟩
 refine wpAny_getItem_list_slice ht.isList hs pl pu .none (by simp) ?_ (by rw [List.size_toArray] <;> omega)
 rw [slicePick_cut,← hlen]
 refine ⟨.ref s.heap.objs.size,_,I.laid (t':=s.toks) (o:=.lst (cutV xs lo hi)) (fun b ob q=>Heap.get?_push_of_some _ q) (Nat.le_refl _) ?_,rfl,q _ (I.hok.fresh (Nat.le_refl _))⟩
 exact ⟨Nat.le_trans (cutV_length xs lo hi) hz,_,0,(r.drop (HT.sIx xs.length 0 lo)).take (HT.sIx xs.length xs.length hi - HT.sIx xs.length 0 lo),Heap.get?_push_size _ rfl⟩
theorem CallR.or {f:Value} {r r':List V→Hp→VK→Prop} (h:CallR X f r) (h':CallR X f r'):CallR X f (fun xs H Q=>r xs H Q∨r' xs H Q):=by
 intro pins s σ H xs us Q I rs q
 rcases q with q | q
 ·exact h pins s σ H xs us Q I rs q
 ·exact h' pins s σ H xs us Q I rs q
theorem call_list_of:CallR X (.type "list") (fun xs H Q=>∃p ys,xs=[.ref p]∧(SqL X.K H p ys∨SqT X.K H p ys)∧∀l,H l=none→Q (.ref l) (upd H l (.lst ys))):=by
 intro pins s σ H xs us Q I r h
 obtain ⟨p,ys,rfl,hq,q⟩:=h
 obtain ⟨u,rfl,rx⟩:=vals1 r
 cases rx
 have fin:∀(its:List Value),Vals ys its→ys.length≤sizeLine→∀(h':Heap) (c':Nat),(∀b o',s.heap.get? b=some o'→h'.get? b=some o') →
   h'.get? s.heap.objs.size=some { cls:=.type "list", dict:=none,data:=.seq its.toArray c',slots:=#[] }→EP X pins σ Q (.ref s.heap.objs.size) { s with heap:=h' }:=fun its r' hz h' c' kp e =>
  ⟨.ref s.heap.objs.size,_,I.laid (t':=s.toks) kp (Nat.le_refl _) (show ObjOk X.prog X.w _ h' _ (.lst ys) from ⟨hz,its,c',r',e⟩),rfl,q _ (I.hok.fresh (Nat.le_refl _))⟩
 rcases hq with hq | hq
 ·obtain ⟨its,r',pl,hz⟩:=I.list hq
  have hlen:=r'.length
  obtain ⟨o,ho,hc,n,hd⟩:=pl.isList
  exact call_list_seq p (.inl rfl) ho hc hd (fun h' c' kp e=>fin its r' hz h' c' kp e) (by simp only [List.size_toArray] <;> omega)
 ·obtain ⟨its,r',pl,hz⟩:=I.tuple hq
  have hlen:=r'.length
  obtain ⟨o,ho,hc,n,hd⟩:=pl
  exact call_list_seq p (.inr rfl) ho hc hd (fun h' c' kp e=>fin its r' hz h' c' kp e) (by simp only [List.size_toArray] <;> omega)
theorem call_tuple_of:CallR X (.type "tuple") (fun xs H Q=>∃p ys,xs=[.ref p]∧((SqL X.K H p ys∧∀l,H l=none→Q (.ref l) (upd H l (.tup ys)))∨(SqT X.K H p ys∧Q (.ref p) H))):=by
 intro pins s σ H xs us Q I r h
 obtain ⟨p,ys,rfl,h⟩:=h
 obtain ⟨u,rfl,rx⟩:=vals1 r
 cases rx
 rcases h with ⟨hq,q⟩ | ⟨hq,q⟩
 ·obtain ⟨its,r',pl,hz⟩:=I.list hq
  have hlen:=r'.length
  refine call_tuple_list pl.isList (fun h' kp=>?_) (by simp only [List.size_toArray] <;> omega)
  have I1:Inv X pins σ H { s with heap:=h' }:=I.kept (t':=s.toks) kp
  have I2:Inv X pins σ (upd H h'.objs.size (.tup ys)) { s with heap:=h'.push { cls:=.type "tuple", data:=.seq its.toArray } } :=
   I1.laid (t':=s.toks) (fun b o e=>Heap.get?_push_of_some _ e) (Nat.le_refl _) (show ObjOk X.prog X.w _ _ _ (.tup ys) from ⟨hz,its,r',IsTup.new _ _⟩)
  exact ⟨.ref h'.objs.size,_,I2,rfl,q _ (I1.hok.fresh (Nat.le_refl _))⟩
 ·obtain ⟨its,r',pl,hz⟩:=I.tuple hq
  exact call_tuple_same pl ⟨.ref p,H,I,rfl,q⟩
def tyV (K:W.Frag) (T:String) (x:V) (H:Hp):Prop:=match x with
 | .str _=>T = "str"
 | .int _=>T = "int"
 | .ref p=>(T = "list" ∧ ∃xs,SqL K H p xs)∨(T = "tuple" ∧ ∃o,K.lookup p=some o∧o.cls=.type "tuple" ∧ o.dict=none) ∨
   (T = "dict" ∧ ((∃kvs,H p=some (.dK kvs))∨∃kvs,H p=some (.dT kvs)))∨(T = "set" ∧ ∃S n,H p=some (.set S n))
 | _=>False
theorem tyV_is {pins:List (Addr×Obj)} {σ:St} {H:Hp} {s:Shared} {T:String} {x:V} {v:Value} (I:Inv X pins σ H s) (r:RelV x v) (ty:tyV X.K T x H) :
  s.TypeIs v T∧∀a,v=.ref a→∃ob,s.heap.get? a=some ob∧ob.dict=none:=by
 cases x with
 | str z =>
  obtain ⟨t,rfl⟩:=r
  cases (show T = "str" from ty)
  exact ⟨typeIs_str s z t,fun _ e=>nomatch e⟩
 | int i =>
  obtain ⟨t,rfl⟩:=r
  cases (show T = "int" from ty)
  exact ⟨typeIs_int s i t,fun _ e=>nomatch e⟩
 | ref p =>
  cases r
  rcases ty with ⟨rfl,xs,hq⟩ | ⟨rfl,o,hk,hc,hd⟩ | ⟨rfl,hk⟩ | ⟨rfl,S,n,hk⟩
  ·obtain ⟨its,_,pl,_⟩:=I.list hq
   refine ⟨pl.isList.typeIs,fun a e=>?_⟩
   cases e
   obtain ⟨o,n,e,c,hd,_⟩:=pl
   exact ⟨o,e,hd⟩
  ·refine ⟨⟨o,I.kIn p o hk,hc⟩,fun a e=>?_⟩
   cases e
   exact ⟨o,I.kIn _ o hk,hd⟩
  ·have z:∃o,s.heap.get? p=some o∧o.ExactDict:=by
    rcases hk with ⟨kvs,hk⟩ | ⟨kvs,hk⟩
    ·obtain ⟨_,_,_,_,o,_,_,e,ex,_⟩:=I.hok p _ hk
     exact ⟨o,e,ex⟩
    ·obtain ⟨_,_,_,_,o,_,_,e,ex,_⟩:=I.hok p _ hk
     exact ⟨o,e,ex⟩
   obtain ⟨o,e,ex⟩:=z
   refine ⟨⟨o,e,ex.1⟩,fun a e2=>?_⟩
   cases e2
   exact ⟨o,e,ex.2.1⟩
  ·obtain ⟨o,_,_,_,e,ex,_⟩:=I.hok p _ hk
   refine ⟨⟨o,e,ex.1⟩,fun a e2=>?_⟩
   cases e2
   exact ⟨o,e,ex.2.1⟩
 | _=>exact False.elim ty
def tBM (K:W.Frag) (T:String) (r:V→List V→Hp→VK→Prop) (to:TE) (t:TA):TE:=fun σ H Q=>to σ H fun x H1=>tyV K T x H1∧t σ H1 fun xs H2=>r x xs H2 Q
variable {o e:Expr} {es:List Expr} {to:TE} {t:TA} {name:Str} {apos cpos:Pos} {T id:String} {r:V→List V→Hp→VK→Prop}
theorem pe_bm (pa:PlainAttrs T) (slot:Slot T name id) (hty:typeOf (.builtin id)=pure (.type "method_descriptor")) (hm:MtR X id r) (ho:PE X o to) (ha:PA X (e::es) t)
  (hbase:attributeBase o name X.env (eval o X.env)=eval o X.env:=by rfl)
  (hfew:((backTo cpos (starEach (e::es) X.env)).all (fun x=>!x.1) && (backToKw cpos (keywordEach [] X.env)).all (fun x=>x.1.isSome)
   && decide ((e::es).length + ([]:List Keyword).length + (if ([]:List Keyword).isEmpty then 0 else 1) < 30))=true:=by rfl)
  (hline:(apos.endLine == cpos.line)=true:=by rfl) (hs:starEach (e::es) X.env=(false,eval e X.env)::starEach es X.env:=by rfl) (hplain:(backTo cpos (starEach es X.env)).any (·.1)=false:=by rfl) :
  PE X (.Call (.Attribute o name apos) (e::es) [] cpos) (tBM X.K T r to t):=by
 intro pins s σ H Q I h
 refine wpAny_Call_method_late hbase hfew hline rfl (thn (ho pins s σ H _ I h) fun v s1 ⟨x,H1,I1,r1,ty,q1⟩=>?_)
 obtain ⟨h1,h2⟩:=tyV_is I1 r1 ty
 refine ⟨T,id,pa,slot,hty,h1,h2,?_⟩
 have hA:=ha cpos pins s1 σ H1 _ I1 q1
 rw [hs] at hA ⊢
 refine Calls.callWith_builtin (by show (false || (backTo cpos (starEach es X.env)).any (·.1))=false;rw [hplain] <;> rfl) (Calls.evalArgs_plain ?_)
 exact thn hA fun us s2 ⟨vs,H2,I2,r2,q2⟩=>hm pins s2 σ H2 x vs v us Q I2 r1 r2 q2
end
def MtM (X:Cx) (id:String) (r:V→List V→Hp→VK→Prop):Prop :=
 ∀(pins:List (Addr×Obj)) (s:Shared) (σ:St) (H:Hp) (x:V) (xs:List V) (v:Value) (us:List Value) (Q:VK),Inv X pins σ H s→RelV x v→Vals xs us→r x xs H Q →
  wpAny (model X.prog X.w) X.A (call (.builtin id) (v::us)) (EP X pins σ Q) X.xe s
theorem Vals.one:∀{x:V} {us:List Value},Vals [x] us→∃u,us=[u]∧RelV x u
 | _,_,.cons r .nil=>⟨_,rfl,r⟩
theorem Vals.two:∀{x y:V} {us:List Value},Vals [x,y] us→∃u v,us=[u,v]∧RelV x u∧RelV y v
 | _,_,_,.cons r (.cons q .nil)=>⟨_,_,rfl,r,q⟩
theorem Vals.eraseIdx:∀{xs:List V} {us:List Value} (i:Nat),Vals xs us→Vals (xs.eraseIdx i) (us.eraseIdx i)
 | _,_,_,.nil=>.nil
 | _,_,0,.cons _ t=>t
 | _,_,i + 1,.cons r t=>.cons r (Vals.eraseIdx i t)
theorem Vals.reverse {xs:List V} {us:List Value} (h:Vals xs us):Vals xs.reverse us.reverse:=by
 induction h with
 | nil=>exact .nil
 | cons r t ih=>rw [List.reverse_cons,List.reverse_cons];exact Vals.append ih (.cons r .nil)
theorem Vals.rep {xs:List V} {us:List Value} (h:Vals xs us):∀k:Nat,Vals (List.replicate k xs).flatten (List.replicate k us).flatten
 | 0=>.nil
 | k + 1=>by
  rw [List.replicate_succ,List.replicate_succ,List.flatten_cons,List.flatten_cons]
  exact Vals.append h (Vals.rep h k)
theorem len_erase {α:Type}:∀(l:List α) (i:Nat),(l.eraseIdx i).length≤l.length
 | [],_=>Nat.le_refl _
 | _::_,0=>Nat.le_succ _
 | _::r,i + 1=>Nat.succ_le_succ (len_erase r i)
theorem foldl_rep (its:List Value):∀(k:Nat) (acc:List Value),
  List.foldl (fun x1 x2=>x1++x2) acc.toArray (List.replicate k its.toArray)=(acc++(List.replicate k its).flatten).toArray
 | 0,acc=>by simp
 | k + 1,acc=>by
  have e:acc.toArray++its.toArray=(acc++its).toArray:=by simp
  have e2:(acc++its)++(List.replicate k its).flatten=acc++(List.replicate (k + 1) its).flatten:=by
   rw [List.replicate_succ,List.flatten_cons,List.append_assoc]
  rw [← e2,← foldl_rep its k (acc++its),← e,List.replicate_succ,List.foldl_cons]
section
variable {X:Cx} {pins:List (Addr×Obj)} {σ:St} {H:Hp} {s:Shared} {l b:Addr} {xs ys zs:List V}
theorem Inv.lset {its its':List Value} {n:Nat} {f:Array Value→Array Value} {t':Nat} (I:Inv X pins σ H s) (hH:H l=some (.lst xs))
  (e:s.heap.get? l=some { cls:=.type "list", data:=.seq its.toArray n }) (hf:f its.toArray=its'.toArray) (hv:Vals ys its') (hz:ys.length≤sizeLine) :
  Inv X pins σ (upd H l (.lst ys)) { s with heap:=s.heap.update l (Obj.mapSeq f),toks:=t' }:=by
 have q:=PySem.IsL.update e f
 rw [hf] at q
 refine I.write (x:=l) (e:=l) (by rw [hH];exact trivial) (.inl rfl) (fun b' u hb hu=>(Heap.get?_update_other s.heap (Obj.mapSeq f) (Ne.symm hb)).trans hu) ⟨_,q⟩ ?_
 exact ⟨hz,its',_,hv,q⟩
theorem Inv.lnew {its:List Value} {t':Nat} (I:Inv X pins σ H s) (hv:Vals ys its) (hz:ys.length≤sizeLine) :
  Inv X pins σ (upd H s.heap.objs.size (.lst ys)) { s with heap:=s.heap.push { cls:=.type "list", data:=.seq its.toArray },toks:=t' } :=
 I.laid (fun _ _ q=>Heap.get?_push_of_some _ q) (Nat.le_refl _) ⟨hz,its,0,hv,Heap.get?_push_size _ rfl⟩
theorem Inv.fresh (I:Inv X pins σ H s):H s.heap.objs.size=none:=I.hok.fresh (Nat.le_refl _)
theorem Inv.lstM (I:Inv X pins σ H s) (hH:H l=some (.lst xs)):xs.length≤sizeLine∧∃(its:List Value) (n:Nat),Vals xs its∧xs.length=its.length∧s.heap.get? l=some { cls:=.type "list", data:=.seq its.toArray n }:=by
 obtain ⟨z,its,n,r,e⟩:=I.hok l _ hH
 exact ⟨z,its,n,r,r.length,e⟩
theorem notLongL {n:Nat} (h:n≤sizeLine):Builtin.List.listTooLong n=false:=by
 unfold Builtin.List.listTooLong
 exact decide_eq_false (by omega)
end
section
variable {X:Cx}
def rAppend:V→List V→Hp→VK→Prop:=fun x vs H Q=>∃l xs y,x=.ref l∧vs=[y]∧H l=some (.lst xs)∧xs.length < sizeLine∧Q .non (upd H l (.lst (xs++[y])))
theorem mt_append:MtM X "list.append" rAppend:=by
 intro pins s σ H x vs v us Q I rx rv h
 obtain ⟨l,xs,y,rfl,rfl,hH,hz,q⟩:=h
 cases rx
 obtain ⟨u,rfl,ru⟩:=rv.one
 obtain ⟨z,its,n,r,hl,e⟩:=I.lstM hH
 refine call_meets F.slot_list_append ⟨_,e,rfl⟩ F.entry_list_append (F.args_list_append_2 _ _) (PySem.list_append l its.toArray n u (by rw [List.size_toArray];omega)) ⟨e,?_⟩
 refine ⟨.non,_,I.lset (its':=its++[u]) hH e (by simp) (r.append (.cons ru .nil)) ?_,rfl,q⟩
 rw [List.length_append,List.length_singleton]
 omega
def rPopAt:V→List V→Hp→VK→Prop:=fun x vs H Q=>∃l xs i k y,x=.ref l∧vs=[.int i]∧H l=some (.lst xs)∧-(2 ^ 63)≤i∧i < 2 ^ 63∧seqIndex? i xs.length=some k∧xs[k]?=some y∧Q y (upd H l (.lst (xs.eraseIdx k)))
theorem mt_popAt:MtM X "list.pop" rPopAt:=by
 intro pins s σ H x vs v us Q I rx rv h
 obtain ⟨l,xs,i,k,y,rfl,rfl,hH,h1,h2,hk,hy,q⟩:=h
 cases rx
 obtain ⟨u,rfl,ru⟩:=rv.one
 obtain ⟨t,rfl⟩:=ru
 obtain ⟨z,its,n,r,hl,e⟩:=I.lstM hH
 obtain ⟨w,hw,rw'⟩:=r.get hy
 refine call_meets F.slot_list_pop ⟨_,e,rfl⟩ F.entry_list_pop (F.args_list_pop_2 _ _)
  (MeetsSeq.list_pop_at l its.toArray n i t k w (fitsIndex_both h1 h2) (by rw [List.size_toArray,← hl];exact hk) (by rw [← Array.getElem?_toList];exact hw) (by rw [List.size_toArray];omega)) ⟨e,?_⟩
 refine ⟨y,_,I.lset (its':=its.eraseIdx k) hH e ?_ (r.eraseIdx k) ?_,rw',q⟩
 ·show its.toArray.eraseIdxIfInBounds k=(its.eraseIdx k).toArray
  rw [List.eraseIdxIfInBounds_toArray]
 ·have:=len_erase xs k
  omega
def rCat:R2:=fun x y H Q=>∃l b xs zs,x=.ref l∧y=.ref b∧H l=some (.lst xs)∧H b=some (.lst zs)∧xs.length + zs.length≤sizeLine∧∀p,H p=none→Q (.ref p) (upd H p (.lst (xs++zs)))
theorem op_cat:OpR X (binaryOp .Add) rCat:=by
 intro pins s σ H x y v u Q I rx ry h
 obtain ⟨l,b,xs,zs,rfl,rfl,hH,hB,hz,q⟩:=h
 cases rx
 cases ry
 obtain ⟨z,its,n,r,hl,e⟩:=I.lstM hH
 obtain ⟨z2,its2,n2,r2,hl2,e2⟩:=I.lstM hB
 refine PySem.P.add_list e e2 ?_ (by rw [List.size_toArray,List.size_toArray];omega)
 have ea:its.toArray++its2.toArray=(its++its2).toArray:=by simp
 rw [ea]
 exact ⟨.ref _,_,I.lnew (t':=s.toks) (r.append r2) (by rw [List.length_append];omega),rfl,q _ I.fresh⟩
def rRep:R2:=fun x y H Q=>∃l k xs,x=.ref l∧y=.int k∧H l=some (.lst xs)∧-(2 ^ 63)≤k∧k < 2 ^ 63∧xs.length * k.toNat≤sizeLine ∧
 ∀p,H p=none→Q (.ref p) (upd H p (.lst (List.replicate k.toNat xs).flatten))
theorem len_rep {α:Type} (xs:List α) (k:Nat):(List.replicate k xs).flatten.length=k * xs.length:=by
 induction k with
 | zero=>simp
 | succ k ih=>rw [List.replicate_succ,List.flatten_cons,List.length_append,ih,Nat.succ_mul,Nat.add_comm]
theorem op_rep:OpR X (binaryOp .Mult) rRep:=by
 intro pins s σ H x y v u Q I rx ry h
 obtain ⟨l,k,xs,rfl,rfl,hH,h1,h2,hz,q⟩:=h
 cases rx
 obtain ⟨t,rfl⟩:=ry
 obtain ⟨z,its,n,r,hl,e⟩:=I.lstM hH
 have hlen:its.toArray.size * k.toNat≤sizeLine:=by rw [List.size_toArray,← hl];exact hz
 have hcap:¬ its.toArray.size * k.toNat > (2 ^ 63 - 1) / 8:=by
  have:(sizeLine:Nat)≤(2 ^ 63 - 1) / 8:=by decide
  omega
 have hfit:¬ (!Builtin.List.listFitsIndex k)=true:=by
  rw [fitsIndex_both h1 h2]
  exact Bool.false_ne_true
 have hlong:¬ Builtin.List.listTooLong (its.toArray.size * k.toNat)=true:=by
  rw [notLongL hlen]
  exact Bool.false_ne_true
 have hnew:List.foldl (fun x1 x2=>x1++x2) #[] (List.replicate (if its.toArray.isEmpty=true then 0 else k.toNat) its.toArray)=(List.replicate k.toNat its).flatten.toArray:=by
  have f0:∀m:Nat,List.foldl (fun x1 x2=>x1++x2) #[] (List.replicate m its.toArray)=(List.replicate m its).flatten.toArray:=fun m=>by
   have:=foldl_rep its m []
   rw [List.nil_append] at this
   exact this
  rw [f0]
  cases its with
  | nil=>simp
  | cons a r'=>rw [if_neg (by simp)]
 refine wpAny_binaryOp_repeat_ref (T := "list") (U := "int") (by decide) ⟨_,e,rfl⟩ (fun s'=>typeIs_int s' k t) noFill_list_mul F.fills_int_mul F.slot_int_rmul repeat_list F.slot_int_index.lookup
  (call_meets F.slot_int_rmul (typeIs_int s k t) F.entry_int_rmul (F.args_int_rmul_2 _ _) (int___rmul___int_list k t l its.toArray n)
   ⟨e,rfl,⟨_,e,rfl⟩,call_meets F.slot_list_mul ⟨_,e,rfl⟩ F.entry_list_mul (F.args_list_mul_2 _ _) (AutoListH.list___mul___list_int_3 l its.toArray n k t hfit hcap hlong) ⟨e,?_⟩⟩)
 rw [hnew]
 exact ⟨.ref _,_,I.lnew (t':=s.toks) (r.rep k.toNat) (by rw [len_rep,Nat.mul_comm];exact hz),rfl,q _ I.fresh⟩
end
end L2
namespace Att
open PySem PySem.W PySem.Calls PyProof.Rows
theorem ints_of_wellAll {P:Params} {h:Heap}:∀(ns:List Int) (vs:List Value),WellAll P h vs (ns.map WData.int)→IntsAre vs ns:=by
 intro ns
 induction ns with
 | nil =>
  intro vs w
  rw [List.map_nil] at w
  cases w
  exact .nil
 | cons n ns ih =>
  intro vs w
  rw [List.map_cons] at w
  cases w with
  | cons a b =>
   cases a
   exact .cons _ _ (ih _ b)
theorem script_of {l:OpenLaw} {n:Nat} (hn:l.most=some n) {P:Params} {h:Heap} {args:List WData} {vals:List Value}
  (hpre:l.row.toRowW.claim.pre args=true) (hwl:WellAll P h vals args) :
  ∃a vs ns,vals=[Value.ref a]∧args=[WData.list (ns.map WData.int)]∧h.get? a=some { cls:=.type "list", data:=.seq vs.toArray }∧IntsAre vs ns∧ns.length≤n:=by
 have hsh:WShape.hasAll [] args [.list .int]=true:=(pre_splitW hpre).1
 have hc:l.pre.holds [] { args:=args }=true:=(pre_splitW hpre).2
 obtain ⟨d,r,rfl,h1,h2⟩:=hasAllW_cons hsh
 obtain rfl:=hasAllW_nil h2
 obtain ⟨xs,rfl,h3⟩:=hasW_list h1
 obtain ⟨ns,rfl⟩:=items_int h3
 have hlen:ns.length≤n:=by
  unfold OpenLaw.pre at hc
  have h4:(WTm.not (.lt (.lit (.int (n:Int))) (.len (.arg 0)))).holds [] { args:=[.list (ns.map .int)] }=true:=by
   have h4:=(holds_andW hc).1
   rw [hn] at h4
   exact h4
  have h5:=condW_of h4 (w_not (w_lt w_lit (w_len_list (w_arg rfl))))
  rw [List.length_map] at h5
  refine Nat.le_of_not_lt fun q=>?_
  have q':(n:Int) < ((ns.length:Nat):Int):=by omega
  first
   | (rw [decide_eq_true q'] at h5;exact absurd h5 (by decide))
   | (simp at h5;omega)
 cases hwl with
 | cons w1 w2 =>
  cases w2
  cases w1 with
  | list ho hall=>exact ⟨_,_,ns,rfl,rfl,ho,ints_of_wellAll ns _ hall,hlen⟩
theorem post_true (l:OpenLaw) (args:List WData):l.row.toRowW.claim.post args (.bool true) args=true :=
 postW_of (r:=l.row.toRowW) (X:=(true == true))
  (show WShape.has [] (.bool true) .bool=true by first | rfl | decide | simp [WShape.has,WShape.arms,WShape.armsAll])
  (show (WTm.eq .res (.lit (.bool true))).value [] { args:=args,res:=some (.bool true),after:=args }=some (.bool (true == true)) from w_eq_bool (w_res rfl) w_lit) rfl
theorem attach_call {l:OpenLaw} {n:Nat} {q:Program} {loose:List Str} {XP:(Str→Option Value)→Heap→Prop} {YP:World→Heap→Prop} {d:DefRec}
  (hn:l.most=some n) (hdf:d.params.defaults=[])
  (call:∀(w:World) (s₀ s₁:Shared) (mg mb:Str→Option Value) (fa:Addr) (o:Obj) (pm cd doc:Value) (a:Addr) (vs:List Value) (ns:List Int),
   Ground q loose [] XP w s₀ mg mb s₁.heap→YP w s₁.heap →
   s₁.heap.get? fa=some o→o.data=.func (docDef d.name d.params d.body d.scope pm cd doc)→s₁.heap.CodeRec cd d.name→mg d.name=some (.ref fa) →
   s₁.heap.get? a=some { cls:=.type "list", data:=.seq vs.toArray }→IntsAre vs ns→ns.length≤n→s₁.gens=#[] →
   codeAny (model l.prog w) callerA (.call (.ref fa) ⟨[.ref a],[]⟩) (fun r s'=>r=.ok (.ret (.bool true))∧OldK s₁.heap s'.heap∧s'.os=s₁.os∧AllBare s'.gens) s₁) :
  WalkO q loose XP YP l.row.toRowW d [] (fun f vs=>PySem.call f vs):=by
 intro w s₀ s₁ mg mb G Y fa o pm cd doc dV kV ho hd hcd hD hmg hg args vals as hpre hlay hrd hwl hlo
 obtain rfl:dV=.none:=Dflts.none hD hdf
 obtain rfl:kV=.none:=Dflts.noKw hD
 obtain ⟨a,vs,ns,rfl,rfl,hobj,hints,hlen⟩:=script_of hn hpre hwl
 refine enter_call (codeAny_mono (call w s₀ s₁ mg mb fa o pm cd doc a vs ns G Y ho (fd_plain hd) hcd hmg hobj hints hlen hg) fun r s' hq=>?_)
 obtain ⟨rfl,h2,h3,h4⟩:=hq
 exact ⟨.inl ⟨.bool true,.bool true,[],rfl,fun _=>rfl,.bool true,post_true l _,fun _=>⟨List.Pairwise.nil,fun _ hm=>(nomatch hm)⟩⟩,h2,h3,h4⟩
end Att
namespace L2
open PySem PySem.Spec PyProof.Rows
theorem vals_ints:∀{vs:List Value} {ns:List Int},IntsAre vs ns→Vals (ns.map V.int) vs
 | _,_,.nil=>.nil
 | _,_,.cons n t h=>.cons ⟨t,rfl⟩ (vals_ints h)
def inClass (s:Stmt) (j:Nat):Stmt:=match s with
 | .ClassDef _ _ _ body _ _ _ _ _ _ _=>body.getD j (.Pass ⟨0,0,0,0⟩)
 | _=>.Pass ⟨0,0,0,0⟩
def defArgs (s:Stmt):Arguments:=match s with
 | .FunctionDef _ a _ _ _ _ _ _ _ _=>a
 | _=>{ posonlyargs:=[],args:=[],vararg:=none,kwonlyargs:=[],kw_defaults:=[],kwarg:=none,defaults:=[] }
def defBody (s:Stmt):List Stmt:=match s with
 | .FunctionDef _ _ b _ _ _ _ _ _ _=>b
 | _=>[]
def defScope (s:Stmt):Scope:=match s with
 | .FunctionDef _ _ _ _ _ _ sc _ _ _=>sc
 | _=>{ kind:=.function,names:=[],isGenerator:=false,isCoroutine:=false }
abbrev CX0:CXT:=fun _ _ _ _ _ _=>False
abbrev E0:XK:=fun _ _ _=>False
theorem pass0 {X:Cx}:Passes CX0 X E0:=fun _ _ _ _ _ _ _ h=>h.elim
structure Fun (K:W.Frag) (x qual:Str) (st:Stmt) (f:Addr) (fd:FuncData):Prop where
 ex:∃(oc:Value) (od:Option Addr) (kV doc pm:Value) (an:Option Addr) (cdv ct:Value) (osl:Array (Option Value)),
  fd=W.fnOf x qual (defArgs st) (defBody st) (defScope st) .none kV doc pm an cdv ct∧K.lookup f=some ⟨oc,od,.func fd,osl⟩∧W.codeIn K cdv qual=true
 kp:W.keepIn K (.ref f)=true
section
variable {P:Program} {w:World} {K:W.Frag} {mg:Str→Option Value} {base:Heap}
theorem Fun.ok {x qual:Str} {st:Stmt} {f:Addr} {fd:FuncData} {N ps:List Str} {k:Nat} {sp:Sp} (F:Fun K x qual st f fd) (S:FnScope N ps (defScope st)) (len:∀vs H Q E,sp vs H Q E→vs.length=ps.length)
  (hbody:∀(cdv:Value) (A:Around) (outer:List Env) (s:Shared) (H:Hp) (vs:List V) (Q:VK) (E:XK),Room k (A.deeper (envOfC qual (defScope st) s.heap.objs.size f cdv))→sp vs H Q E →
   ∃t,PSs (cxOf CX0 P w K mg base N qual (defScope st) f cdv A outer s H E).nox (defBody st) t∧t { nx:=fun _ H'=>Q .non H',rt:=Q } (start N vs) H):FnOk P w K mg base CX0 (k + 1) f fd ps sp:=by
 obtain ⟨oc,od,kV,doc,pm,an,cdv,ct,osl,rfl,lk,hcd⟩:=F.ex
 refine fn_of lk hcd S len fun A outer s H vs Q E hr hsp=>?_
 obtain ⟨t,h,q⟩:=hbody cdv A outer s H vs Q E hr hsp
 exact ⟨t,h.nox,q⟩
theorem Fun.binds {x qual:Str} {st:Stmt} {f:Addr} {fd:FuncData} {ps:List Str} (F:Fun K x qual st f fd)
  (h:∀(kV doc pm:Value) (an:Option Addr) (cdv ct:Value) (us:List Value),us.length=ps.length→bindArgs (W.fnOf x qual (defArgs st) (defBody st) (defScope st) .none kV doc pm an cdv ct) ⟨us,[]⟩=pure (ps.zip us)):Binds K fd ps []:=by
 obtain ⟨oc,od,kV,doc,pm,an,cdv,ct,osl,rfl,lk,hcd⟩:=F.ex
 exact .all (h kV doc pm an cdv ct)
theorem fun_mk {x qual:Str} {st:Stmt} {f:Addr} {oc:Value} {od an:Option Addr} {osl:Array (Option Value)} {kV doc pm cdv ct:Value} (l:K.lookup f=some ⟨oc,od,.func (W.fnOf x qual (defArgs st) (defBody st) (defScope st) .none kV doc pm an cdv ct),osl⟩)
  (c:W.codeIn K cdv qual=true) (k:W.keepIn K (.ref f)=true):Fun K x qual st f (W.fnOf x qual (defArgs st) (defBody st) (defScope st) .none kV doc pm an cdv ct):=⟨⟨oc,od,kV,doc,pm,an,cdv,ct,osl,rfl,l,c⟩,k⟩
end
section
variable {X:Cx}
theorem pv (i:Nat) {x:Str} {pos:Pos} (hN:X.N[i]?=some x:=by rfl) (hv:Vis X.env.scope x:=by first | exact Or.inl rfl | exact Or.inr (Or.inl rfl) | exact Or.inr (Or.inr rfl)) (hd:(x == ("__debug__" : Str))=false:=by decide)
  (hcd:(x == ("__classdict__" : Str))=false:=by decide):PE X (.Name x pos) (tVar i):=pe_var hN hv hd hcd
end
theorem iteF {A B:Prop} (h:B):if false=true then A else B:=by
 rw [if_neg Bool.false_ne_true]
 exact h
theorem iteT {A B:Prop} (h:A):if true=true then A else B:=by
 rw [if_pos rfl]
 exact h
def Same (H H':Hp):Prop:=∀b o,H b=some o→H' b=some o
theorem Same.refl (H:Hp):Same H H:=fun _ _ h=>h
theorem Same.trans {H H1 H2:Hp} (a:Same H H1) (b:Same H1 H2):Same H H2:=fun c o h=>b c o (a c o h)
theorem Same.free {H H':Hp} (e:Same H H') {l:Addr} (h:H' l=Option.none):H l=Option.none:=by
 cases q:H l with
 | none=>rfl
 | some o =>
  rw [e l o q] at h
  cases h
theorem Same.seq {K:W.Frag} {H H':Hp} {a:Addr} {xs:List V} (e:Same H H') (h:SqL K H a xs):SqL K H' a xs:=by
 rcases h with (h | ⟨o,h⟩) | h
 ·exact .inl (.inl (e _ _ h))
 ·exact .inl (.inr ⟨o,e _ _ h⟩)
 ·exact .inr h
section
variable {κ:Type} [DecidableEq κ]
def valV (kvs:List (κ×V)) (k:κ):Option V:=(kvs.find? fun kv=>decide (kv.1=k)).map (·.2)
def putK (kvs:List (κ×V)) (k:κ) (v:V):List (κ×V) :=
 if (kvs.any fun kv=>decide (kv.1=k))=true then kvs.map (fun kv=>if kv.1=k then (kv.1,v) else kv) else kvs++[(k,v)]
theorem RelO.getD {o:Option V} {u:Option Value} {d:V} {d':Value} (r:RelO o u) (rd:RelV d d'):RelV (o.getD d) (u.getD d'):=by
 cases o with
 | none=>cases u with
  | none=>exact rd
  | some _=>exact (show False from r).elim
 | some _=>cases u with
  | none=>exact (show False from r).elim
  | some _=>exact r
theorem KV.any {kvs:List (κ×V)} {vs:List (κ×Value)} (r:KV kvs vs) (k:κ):(kvs.any fun kv=>decide (kv.1=k))=vs.any fun kv=>decide (kv.1=k):=by
 unfold KV at r
 induction r with
 | nil=>rfl
 | cons h t ih=>rw [List.any_cons,List.any_cons,ih,h.1]
theorem KV.keys {kvs:List (κ×V)} {vs:List (κ×Value)} (r:KV kvs vs):kvs.map (·.1)=vs.map (·.1):=by
 unfold KV at r
 induction r with
 | nil=>rfl
 | cons h t ih=>rw [List.map_cons,List.map_cons,ih,h.1]
theorem KV.length {kvs:List (κ×V)} {vs:List (κ×Value)} (r:KV kvs vs):kvs.length=vs.length:=Paired.length r
end
section
variable {P:Program} {w:World} {H:Hp} {h:Heap} {a:Addr}
theorem rd_of {u:HO} (ok:HOk P w H h) (e:Rd H a u):ObjOk P w H h a u:=e.ok ok
theorem dk_rd {kvs:List (Key×V)} (ok:HOk P w H h) (e:Rd H a (.dK kvs)):kvs.length≤sizeLine∧(a == sysModules)=false∧∃vs,KV kvs vs∧h.DictOf (mixKind P w) a vs :=
 show ObjOk P w H h a (.dK kvs) from rd_of ok e
theorem dk_of {kvs:List (Key×V)} (ok:HOk P w H h) (e:H a=some (.dK kvs)):kvs.length≤sizeLine∧(a == sysModules)=false∧∃vs,KV kvs vs∧h.DictOf (mixKind P w) a vs:=dk_rd ok (.inl e)
end
def DGet (H:Hp) (a:Addr) (y:V) (r:Option V):Prop :=
 (∃kvs k,Rd H a (.dK kvs)∧y=kV k∧r=valV kvs k)∨∃kvs k b,Rd H a (.dT kvs)∧y=.ref b∧H b=some (.tup (k.map kV))∧r=valV kvs k
def DPut (H:Hp) (a:Addr) (y v:V) (H':Hp):Prop :=
 (∃kvs k,H a=some (.dK kvs)∧y=kV k∧kvs.length < sizeLine∧H'=upd H a (.dK (putK kvs k v))) ∨
 ∃kvs k b,H a=some (.dT kvs)∧y=.ref b∧H b=some (.tup (k.map kV))∧kvs.length < sizeLine∧H'=upd H a (.dT (putK kvs k v))
theorem DGet.k {H:Hp} {a:Addr} {kvs:List (Key×V)} {k:Key} (e:H a=some (.dK kvs)):DGet H a (kV k) (valV kvs k):=.inl ⟨kvs,k,.inl e,rfl,rfl⟩
theorem DGet.t {H:Hp} {a b:Addr} {kvs:List (List Key×V)} {k:List Key} (e:H a=some (.dT kvs)) (eb:H b=some (.tup (k.map kV))):DGet H a (.ref b) (valV kvs k):=.inr ⟨kvs,k,b,.inl e,rfl,eb,rfl⟩
theorem DPut.k {H:Hp} {a:Addr} {kvs:List (Key×V)} {k:Key} {v:V} (e:H a=some (.dK kvs)) (hl:kvs.length < sizeLine):DPut H a (kV k) v (upd H a (.dK (putK kvs k v))):=.inl ⟨kvs,k,e,rfl,hl,rfl⟩
theorem DPut.t {H:Hp} {a b:Addr} {kvs:List (List Key×V)} {k:List Key} {v:V} (e:H a=some (.dT kvs)) (eb:H b=some (.tup (k.map kV))) (hl:kvs.length < sizeLine) :
  DPut H a (.ref b) v (upd H a (.dT (putK kvs k v))):=.inr ⟨kvs,k,b,e,rfl,eb,hl,rfl⟩
section
variable {X:Cx} {pins:List (Addr×Obj)} {σ:St} {H:Hp} {s:Shared} {a:Addr} {y v:V} {u r:Value} {o:Option V} {A:Around} {E:Value→Shared→Prop}
theorem Inv.big (I:Inv X pins σ H s):sysModules < s.heap.objs.size:=by
 have h:mainGlobals < s.heap.objs.size:=(I.mod.glob.keeps I.bk).lt
 exact Nat.lt_trans (by decide) h
end
theorem dk_empty {P:Program} {w:World} {H:Hp} (h:Heap) (hb:sysModules < h.objs.size):ObjOk P w H (h.push { cls:=.type "dict", data:=.dict #[] }) h.objs.size (.dK []) :=
 ⟨Nat.zero_le _,beq_eq_false_iff_ne.mpr (Ne.symm (Nat.ne_of_lt hb)),[],.nil,Heap.DictOf.new h⟩
def tDNewK:TE:=fun _ H Q=>∀p,H p=none→Q (.ref p) (upd H p (.dK []))
section
variable {X:Cx} {pos:Pos}
theorem pe_dnewK:PE X (.Dict [] [] pos) tDNewK:=fun pins s σ H Q I h =>
 wpAny_Dict_empty ⟨.ref s.heap.objs.size,_,I.laid (a:=s.heap.objs.size) (o:=.dK []) (t':=s.toks) (fun _ _ q=>Heap.get?_push_of_some _ q) (Nat.le_refl _) (dk_empty s.heap I.big),rfl,h _ (I.hok.fresh (Nat.le_refl _))⟩
end
end L2
set_option maxHeartbeats 4000000
namespace L2
open PySem PySem.Spec PyProof.Rows
section
variable {P:Program} {w:World} {K:W.Frag} {mg:Str→Option Value} {base:Heap} {CX:CXT} {x:Str} {ps:List Str} {sp:Sp} {j k:Nat}
structure Def (P:Program) (w:World) (K:W.Frag) (mg:Str→Option Value) (base:Heap) (CX:CXT) (k:Nat) (x:Str) (ps:List Str) (sp:Sp):Prop where
 ex:∃(f:Addr) (fd:FuncData),FnOk P w K mg base CX k f fd ps sp∧mg x=some (.ref f)∧W.keepIn K (.ref f)=true∧Binds K fd ps []
def HasDef (K:W.Frag) (mg:Str→Option Value) (x:Str) (st:Stmt):Prop:=∃(f:Addr) (fd:FuncData),Fun K x x st f fd∧mg x=some (.ref f)
theorem HasDef.mk {st:Stmt} {f:Addr} {oc:Value} {od an:Option Addr} {osl:Array (Option Value)} {kV doc pm cdv ct:Value} (m:mg x=some (.ref f))
  (l:K.lookup f=some ⟨oc,od,.func (W.fnOf x x (defArgs st) (defBody st) (defScope st) .none kV doc pm an cdv ct),osl⟩)
  (c:W.codeIn K cdv x=true) (k:W.keepIn K (.ref f)=true):HasDef K mg x st:=⟨f,_,fun_mk l c k,m⟩
theorem def_of {st:Stmt} {N:List Str} (h:HasDef K mg x st) (S:FnScope N ps (defScope st)) (len:∀vs H Q E,sp vs H Q E→vs.length=ps.length)
  (hb:∀(kV doc pm:Value) (an:Option Addr) (cdv ct:Value) (us:List Value),us.length=ps.length→bindArgs (W.fnOf x x (defArgs st) (defBody st) (defScope st) .none kV doc pm an cdv ct) ⟨us,[]⟩=pure (ps.zip us))
  (hbody:∀(f:Addr) (cdv:Value) (A:Around) (outer:List Env) (s:Shared) (H:Hp) (vs:List V) (Q:VK) (E:XK),Room k (A.deeper (envOfC x (defScope st) s.heap.objs.size f cdv))→sp vs H Q E →
   ∃t,PSs (cxOf CX P w K mg base N x (defScope st) f cdv A outer s H E).nox (defBody st) t∧t { nx:=fun _ H'=>Q .non H',rt:=Q } (start N vs) H):Def P w K mg base CX (k + 1) x ps sp:=by
 obtain ⟨f,fd,F,m⟩:=h
 refine ⟨f,fd,?_,m,F.kp,F.binds hb⟩
 obtain ⟨oc,od,kV,doc,pm,an,cdv,ct,osl,rfl,lk,hcd⟩:=F.ex
 refine fn_of lk hcd S len fun A outer s H vs Q E hr hsp=>?_
 obtain ⟨t,h,q⟩:=hbody f cdv A outer s H vs Q E hr hsp
 exact ⟨t,h.nox,q⟩
end
section
variable {X:Cx} {CX:CXT} {k m:Nat} {x:Str} {ps:List Str} {sp:Sp} {E:XK} {p pos:Pos} {e:Expr} {es:List Expr} {t:TA}
theorem pe_def (D:Def X.prog X.w X.K X.mg X.base CX k x ps sp) (hr:Room m X.A) (ha:PA X (e::es) t) (hk:k≤m:=by decide) (hx:Passes CX X E:=by exact pass0) (hg:Gl X x:=by rfl)
  (hdb:(x == ("__debug__" : Str))=false:=by decide) (he:starEach (e::es) X.env=(false,eval e X.env)::starEach es X.env:=by rfl) (hpl:(backTo pos (starEach es X.env)).any (·.1)=false:=by rfl) :
  PE X (.Call (.Name x p) (e::es) [] pos) (tCall sp [] E t):=by
 obtain ⟨f,fd,F,hm,kp,b⟩:=D.ex
 exact pe_call F (hr.mono hk) hg hm kp b .nil hx ha hdb he hpl
end
def GlobIs (mg:Str→Option Value) (x:Str) (v:V):Prop:=∃u,mg x=some u∧RelV v u
theorem pe_gl {X:Cx} {x:Str} {v:V} {pos:Pos} (h:GlobIs X.mg x v) (hg:Gl X x:=by rfl) (hd:(x == ("__debug__" : Str))=false:=by decide):PE X (.Name x pos) (tC v) :=
 let ⟨_,e,r⟩:=h
 pe_glob hg e r hd
section
variable {X:Cx} {T:String} {pos:Pos}
theorem pe_ty {x:Str} (hg:Gl X x) (hm:X.mg x=none) (hv:bootBuiltins x=some (.type T)) (hn:x ≠ "__name__" := by decide) (hd:(x == ("__debug__" : Str))=false:=by decide):PE X (.Name x pos) (tC (.ty T)) :=
 pe_bltn hg hm hv rfl hn hd
def clsIs (K:W.Frag) (t:Value):V→Option Bool
 | .ty T=>W.kitOne K t (.type T)
 | .ref C=>W.kitOne K t (.ref C)
 | _=>none
theorem call_isinstance:CallR X (.builtin "isinstance") (fun xs H Q=>∃x c t b,xs=[x,c]∧TyOf X.K H x t∧clsIs X.K t c=some b∧Q (.bl b) H):=by
 intro pins s σ H xs us Q I r h
 obtain ⟨x,c,t,b,rfl,ty,e,q⟩:=h
 obtain ⟨u,v,rfl,ru,rv⟩:=vals2 r
 cases c with
 | ty T =>
  obtain rfl:v=Value.type T:=rv
  exact isinst_ok I ru ty e fun tk=>⟨.bl b,H,I.tok _,rfl,q⟩
 | ref C =>
  obtain rfl:v=Value.ref C:=rv
  exact isinst_ok I ru ty e fun tk=>⟨.bl b,H,I.tok _,rfl,q⟩
 | _=>cases e
end
section
variable {X:Cx}
theorem vals_bools:∀{bs:List Bool} {us:List Value},Vals (bs.map V.bl) us→LSm.BoolsAre us bs
 | [],_,.nil=>.nil
 | b::bs,_,.cons r t=>by
  cases (show _=Value.bool b from r)
  exact .cons b (vals_bools t)
theorem call_all (hc:X.calm=true):CallR X (.builtin "all") (fun xs H Q=>∃(p:Addr) (bs:List Bool),xs=[.ref p]∧SqL X.K H p (bs.map V.bl)∧Q (.bl (bs.all id)) H):=by
 intro pins s σ H xs us Q I r h
 obtain ⟨p,bs,rfl,hq,q⟩:=h
 obtain ⟨u,rfl,rx⟩:=vals1 r
 cases rx
 obtain ⟨its,rv,pl,hz⟩:=I.list hq
 have hb:=vals_bools rv
 have hl:=pl.isList
 have hlt:p < s.heap.objs.size:=by obtain ⟨_,e,_⟩:=hl;exact Heap.lt_size e
 refine call_all_walk (wpAny_pyIter_list hl ?_)
 refine ⟨s.heap.objs.size,[s.heap.objs.size,p],[s.heap.objs.size],its.toArray.size,_,_,fun i=>(bs[i]?).getD true,rfl,Walks.list (A:=X.A.in1) (I.ok.hd hc) _ p (Nat.ne_of_lt hlt) its.toArray,
  ⟨⟨_,Heap.get?_push_size _ rfl,rfl,rfl⟩,hl.push _⟩,fun i v s' Q' E' hP hQ=>?_,fun h' tk hk=>?_⟩
 ·obtain ⟨b,e,rfl⟩:=hb.get i v (by simpa using hP)
  simp only [e,Option.getD_some] at hQ
  exact wpAny_truthy_bool hQ
 ·have e:((List.range its.toArray.size).all fun i=>(bs[i]?).getD true)=bs.all id:=by
   rw [List.size_toArray,hb.length];exact LSm.range_all bs
  rw [e]
  exact ⟨.bl _,H,I.kept (LSm.kept_iter hk),rfl,q⟩
theorem call_any (hc:X.calm=true):CallR X (.builtin "any") (fun xs H Q=>∃(p:Addr) (bs:List Bool),xs=[.ref p]∧SqL X.K H p (bs.map V.bl)∧Q (.bl (bs.any id)) H):=by
 intro pins s σ H xs us Q I r h
 obtain ⟨p,bs,rfl,hq,q⟩:=h
 obtain ⟨u,rfl,rx⟩:=vals1 r
 cases rx
 obtain ⟨its,rv,pl,hz⟩:=I.list hq
 have hb:=vals_bools rv
 have hl:=pl.isList
 have hlt:p < s.heap.objs.size:=by obtain ⟨_,e,_⟩:=hl;exact Heap.lt_size e
 refine call_any_walk (wpAny_pyIter_list hl ?_)
 refine ⟨s.heap.objs.size,[s.heap.objs.size,p],[s.heap.objs.size],its.toArray.size,_,_,fun i=>(bs[i]?).getD false,rfl,Walks.list (A:=X.A.in1) (I.ok.hd hc) _ p (Nat.ne_of_lt hlt) its.toArray,
  ⟨⟨_,Heap.get?_push_size _ rfl,rfl,rfl⟩,hl.push _⟩,fun i v s' Q' E' hP hQ=>?_,fun h' tk hk=>?_⟩
 ·obtain ⟨b,e,rfl⟩:=hb.get i v (by simpa using hP)
  simp only [e,Option.getD_some] at hQ
  exact wpAny_truthy_bool hQ
 ·have e:((List.range its.toArray.size).any fun i=>(bs[i]?).getD false)=bs.any id:=by
   rw [List.size_toArray,hb.length];exact LSm.range_any bs
  rw [e]
  exact ⟨.bl _,H,I.kept (LSm.kept_iter hk),rfl,q⟩
end
section
variable {X:Cx}
theorem op_in_str1:OpR X (compareOp .In) (fun x y H Q=>∃c j,x=.str ⟨#[c]⟩∧y=.str j∧Q (.bl (decide (c∈j.cps.toList))) H):=by
 intro pins s σ H x y v u Q I rx ry h
 obtain ⟨c,j,rfl,rfl,q⟩:=h
 obtain ⟨t,rfl⟩:=rx
 obtain ⟨t',rfl⟩:=ry
 exact in_str (fin_bl I q (PySem.StrLaws.found_one j c).symm)
def Its (z:Str):It:=⟨fun i _=>i < z.cps.size,fun i H x H'=>H'=H∧∃c,z.cps[i]?=some c∧x=.str ⟨#[c]⟩,fun i _=>z.cps.size≤i⟩
section
variable {P:Program} {w:World} {K:W.Frag} {tg:Expr}
theorem turn_strA (it:Addr) (z:Str) (t:Tok):Turn P w K tg (Its z) [it] it (fun i h=>h.IsStrIter it "str_ascii_iterator" z t i) where
 mem:=by simp
 obj:=fun i h st b hb=>by
  have e:b=it:=by simpa using hb
  subst e
  obtain ⟨o,e,c,d⟩:=st
  exact ⟨o,e,fun v z=>by rw [d] at z;cases z⟩
 keep:=fun i h h' st k=>let ⟨o,e,r⟩:=st;⟨o,k it (by simp) o e,r⟩
 item:=by
  intro X hP hw hK hc i pins s σ H E I hf st hg
  subst hP hw hK
  obtain ⟨f0,f1,f2,f3,f4,f5⟩:=hf it (by simp)
  have hi:i < z.cps.size:=hg
  refine wpAny_pyNext_ascii_item st (c:=z.cps[i]) (by simp [hi]) fun h' st' sb=>?_
  have I1:Inv X pins σ H { s with heap:=h',toks:=s.toks + 1 }:=I.turned (fun b o hb e=>sb.extBut b o hb e) f0 f1 f3 f4 f5
  obtain ⟨o,e,c,d⟩:=id st'
  exact ⟨_,rfl,go_of (s:={ s with heap:=h',toks:=s.toks + 1 }) e c d (by decide) ⟨.str ⟨#[z.cps[i]]⟩,H,I1,⟨_,rfl⟩,⟨rfl,z.cps[i],by simp [hi],rfl⟩,st',fun b hb=>(hf b hb).1⟩⟩
 done:=by
  intro X hP hw hK hc i pins s σ H E I hf st hg
  subst hP hw hK
  obtain ⟨f0,f1,f2,f3,f4,f5⟩:=hf it (by simp)
  have hi:z.cps.size≤i:=hg
  exact wpAny_pyNext_ascii_end (I.ok.hd hc) st (by simp [hi]) fun h' eb=>⟨rfl,I.turned (t':=s.toks) (fun b o hb e=>eb b o hb e) f0 f1 f3 f4 f5⟩
 self:=fun _ _ _ _ _ st h=>wpAny_pyIter_striter_ascii st h
theorem turn_strW (it:Addr) (z:Str) (t:Tok):Turn P w K tg (Its z) [it] it (fun i h=>h.IsStrIter it "str_iterator" z t i) where
 mem:=by simp
 obj:=fun i h st b hb=>by
  have e:b=it:=by simpa using hb
  subst e
  obtain ⟨o,e,c,d⟩:=st
  exact ⟨o,e,fun v z=>by rw [d] at z;cases z⟩
 keep:=fun i h h' st k=>let ⟨o,e,r⟩:=st;⟨o,k it (by simp) o e,r⟩
 item:=by
  intro X hP hw hK hc i pins s σ H E I hf st hg
  subst hP hw hK
  obtain ⟨f0,f1,f2,f3,f4,f5⟩:=hf it (by simp)
  have hi:i < z.cps.size:=hg
  refine wpAny_pyNext_wide_item st (c:=z.cps[i]) (by simp [hi]) fun h' st' sb=>?_
  have I1:Inv X pins σ H { s with heap:=h',toks:=s.toks + 1 }:=I.turned (fun b o hb e=>sb.extBut b o hb e) f0 f1 f3 f4 f5
  obtain ⟨o,e,c,d⟩:=id st'
  exact ⟨_,rfl,go_of (s:={ s with heap:=h',toks:=s.toks + 1 }) e c d (by decide) ⟨.str ⟨#[z.cps[i]]⟩,H,I1,⟨_,rfl⟩,⟨rfl,z.cps[i],by simp [hi],rfl⟩,st',fun b hb=>(hf b hb).1⟩⟩
 done:=by
  intro X hP hw hK hc i pins s σ H E I hf st hg
  subst hP hw hK
  obtain ⟨f0,f1,f2,f3,f4,f5⟩:=hf it (by simp)
  have hi:z.cps.size≤i:=hg
  exact wpAny_pyNext_wide_end (I.ok.hd hc) st (by simp [hi]) fun h' eb=>⟨rfl,I.turned (t':=s.toks) (fun b o hb e=>eb b o hb e) f0 f1 f3 f4 f5⟩
 self:=fun _ _ _ _ _ st h=>wpAny_pyIter_striter_wide st h
end
def iStr (tl:TE):TI:=fun σ H R=>tl σ H fun x H1=>∃z,x=.str z∧R (Its z) H1
theorem pi_str {tg l:Expr} {tl:TE} (hl:PE X l tl):PI X tg l (iStr tl):=by
 intro pins s σ H R I h
 refine thn (hl pins s σ H _ I h) fun v s1 ⟨x,H1,I1,r1,q1⟩=>?_
 obtain ⟨z,e,q⟩:=q1
 subst e
 obtain ⟨t,rfl⟩:=r1
 have fp:∀(b:Addr),b∈[s1.heap.objs.size]→FpOk X pins H1 b:=fun b hb=>by
  have e:b=s1.heap.objs.size:=by simpa using hb
  subst e
  exact I1.fpOk (Nat.le_refl _) (I1.hok.fresh (Nat.le_refl _))
 cases ha:z.cps.all (· < 128)
 ·exact wpAny_pyIter_wide ha ⟨s1.heap.objs.size,[s1.heap.objs.size],_,_,H1,rfl,I1.kept (t':=s1.toks) fun b o e=>Heap.get?_push_of_some _ e,turn_strW _ z t,⟨_,Heap.get?_push_size _ rfl,rfl,rfl⟩,fp,q⟩
 ·exact wpAny_pyIter_ascii ha ⟨s1.heap.objs.size,[s1.heap.objs.size],_,_,H1,rfl,I1.kept (t':=s1.toks) fun b o e=>Heap.get?_push_of_some _ e,turn_strA _ z t,⟨_,Heap.get?_push_size _ rfl,rfl,rfl⟩,fp,q⟩
end
def closOf (env:Env):List (Str×NameKind)→Option (List (Str×Addr))
 | []=>some []
 | (n,k)::r=>if k=.free then (env.cells.lookup n).bind fun c=>(closOf env r).map fun cl=>cl++[(n,c)] else closOf env r
theorem closOf_lookup {env:Env}:∀{names:List (Str×NameKind)} {cl:List (Str×Addr)},closOf env names=some cl→∀x c,cl.lookup x=some c→env.cells.lookup x=some c
 | [],cl,h,x,c,e=>by
  cases (Option.some.inj h)
  cases e
 | (n,k)::r,cl,h,x,c,e=>by
  unfold closOf at h
  by_cases hk:k=.free
  ·rw [if_pos hk] at h
   cases hc:env.cells.lookup n with
   | none=>rw [hc] at h;cases h
   | some c' =>
    rw [hc] at h
    have h:(closOf env r).map (fun cl=>cl++[(n,c')])=some cl:=h
    cases hr:closOf env r with
    | none=>rw [hr] at h;cases h
    | some cl' =>
     rw [hr] at h
     have h:cl'++[(n,c')]=cl:=Option.some.inj h
     subst h
     rw [List.lookup_append] at e
     cases h2:cl'.lookup x with
     | some c2 =>
      rw [h2] at e
      have e:c2=c:=by simpa using e
      subst e
      exact closOf_lookup hr x c2 h2
     | none =>
      rw [h2] at e
      have e:List.lookup x [(n,c')]=some c:=by simpa using e
      by_cases hx:x=n
      ·subst hx
       have:c'=c:=by simpa using e
       subst this
       exact hc
      ·have hb:(x == n)=false:=by simpa using hx
       simp [List.lookup_cons,hb] at e
  ·rw [if_neg hk] at h
   exact closOf_lookup h x c e
theorem closureFor_go {env:Env}:∀(names:List (Str×NameKind)) (acc cl:List (Str×Addr)),closOf env names=some cl →
  (forIn (m:=Sem) names acc fun x c=>if x.2 == NameKind.free then (do let a ← cellOf env x.1;pure (ForInStep.yield ((x.1,a)::c))) else pure (ForInStep.yield c))=pure (cl++acc)
 | [],acc,cl,h=>by
  cases (Option.some.inj h)
  rfl
 | (n,k)::r,acc,cl,h=>by
  unfold closOf at h
  rw [List.forIn_cons]
  by_cases hk:k=.free
  ·rw [if_pos hk] at h
   cases hc:env.cells.lookup n with
   | none=>rw [hc] at h;cases h
   | some c' =>
    rw [hc] at h
    have h:(closOf env r).map (fun cl=>cl++[(n,c')])=some cl:=h
    cases hr:closOf env r with
    | none=>rw [hr] at h;cases h
    | some cl' =>
     rw [hr] at h
     have h:cl'++[(n,c')]=cl:=Option.some.inj h
     subst h
     have hb:(k == NameKind.free)=true:=by simpa using hk
     have:=closureFor_go r ((n,c')::acc) cl' hr
     have ec:cellOf env n=pure c':=by unfold cellOf;rw [hc]
     simp only [hb,if_true,ec,pure_bind,bind_assoc]
     rw [this]
     simp
  ·rw [if_neg hk] at h
   have hb:(k == NameKind.free)=false:=by simpa using hk
   have:=closureFor_go r acc cl h
   simp only [hb,Bool.false_eq_true,if_false,pure_bind]
   exact this
theorem closureFor_of {env:Env} {scope:Scope} {cl:List (Str×Addr)} (h:closOf env scope.names=some cl):closureFor scope env=pure cl:=by
 have:=closureFor_go scope.names [] cl h
 rw [List.append_nil] at this
 have key:closureFor scope env=(forIn (m:=Sem) scope.names ([]:List (Str×Addr)) fun x c=>if x.2 == NameKind.free then (do let a ← cellOf env x.1;pure (ForInStep.yield ((x.1,a)::c))) else pure (ForInStep.yield c)) >>= fun cs=>pure cs:=by
  unfold closureFor
  rfl
 rw [key,this]
 rfl
theorem comp_loop {prog:Program} {w:World} {A:Around} {R:Result→Shared→Prop} {s:Shared} {elt target iter:Expr} {ifs:List Expr} {scope:Scope} {pos:Pos} {it acc:Value} {env:Env} (I:Nat→Shared→Prop)
  (turn:∀n s,I n s→wpAny (model prog w) A (pyNext it) (fun r s₁=>match r with
   | none=>R (.ok .next) s₁
   | some v=>wpAny (model prog w) A (letOwnedTupleGo target it v) (fun _ s₀=>wpAny (model prog w) A (assign target env v) (fun _ s₂ =>
     wpAny (model prog w) A (forIn ifs true fun c r=>if r=true then do let ok ← isTrue c env (eval c env);pure (ForInStep.yield ok) else pure (ForInStep.yield r)) (fun ok s₃ =>
      if ok=true then wpAny (model prog w) A (eval elt env) (fun x s₄ =>
       wpAny (model prog w) A (call (.builtin "list.append") [acc,x]) (fun _ s₅=>∃m,m < n∧I m s₅) (fun _ _=>False) s₄) (fun _ _=>False) s₃
      else ∃m,m < n∧I m s₃) (fun _ _=>False) s₂) (fun _ _=>False) s₀) (fun _ _=>False) s₁) (fun _ _=>False) s)
  (n:Nat) (h:I n s) :
  codeAny (model prog w) A (.compLoop (.ListComp elt [⟨target,iter,ifs,0⟩] scope pos) 0 it acc env) R s:=by
 refine codeAny_loop rfl I (fun n s hI=>?_) n h
 show wpAny _ A ((compTurn (.ListComp elt [⟨target,iter,ifs,0⟩] scope pos) 0 it acc env).onRaise (fun x=>do noteFrame x env;theTreesLotGoes x)) _ _ s
 refine wpAny_noted ?_
 rw [compTurn_list]
 refine wpAny_bind (wpAny_standAt (wpAny_bind (wpAny_mono (turn n s hI) (fun r s₁ h₁=>?_) fun _ _ h'=>h'.elim)))
 cases r with
 | none=>exact wpAny_pure h₁
 | some v =>
  refine wpAny_bind (wpAny_mono h₁ (fun _ s₀ h₀=>?_) fun _ _ h'=>h'.elim)
  refine wpAny_bind (wpAny_mono h₀ (fun _ s₂ h₂=>wpAny_bind (wpAny_mono h₂ (fun ok s₃ h₃=>?_) fun _ _ h'=>h'.elim)) fun _ _ h'=>h'.elim)
  cases ok with
  | false=>exact wpAny_pure ⟨rfl,h₃⟩
  | true =>
   exact wpAny_bind (wpAny_bind (wpAny_mono h₃ (fun x s₄ h₄=>wpAny_bind (wpAny_mono h₄ (fun _ s₅ h₅=>wpAny_pure (wpAny_pure ⟨rfl,h₅⟩)) fun _ _ h'=>h'.elim)) fun _ _ h'=>h'.elim))
def cxComp (X:Cx) (N:List Str) (scope:Scope) (cl:List (Str×Addr)) (pins:List (Addr×Obj)) (s:Shared) (H:Hp) (fp:List Addr):Cx where
 prog:=X.prog
 w:=X.w
 K:=X.K
 mg:=X.mg
 base:=X.base
 A:=X.A
 N:=N
 s₀:=s
 H₀:=H
 env:=compEnvC scope cl s.heap.objs.size X.env
 outer:=X.stack
 stack:=X.stack
 ex:=fp
 fn:=fun _=>false
 calm:=X.calm
 pn:=X.pn++pins
 xe:=fun _ _=>False
def compStart0 (nt:Nat) (fr:List Nat) (σ:St):St:=List.replicate nt none++fr.map fun i=>(σ[i]?).getD none
structure CompNames (X:Cx) (N:List Str) (nt:Nat) (fr:List Nat) (scope:Scope) (cl:List (Str×Addr)):Prop where
 len:N.length=nt + fr.length
 free:∀(j:Nat) (i:Nat) (x:Str),fr[j]?=some i→N[nt + j]?=some x→X.N[i]?=some x∧(∃c,cl.lookup x=some c)∧(X.env.kindOf x=some .cell∨X.env.kindOf x=some .free) ∧
  ((relabel scope X.env).names.lookup x=some .cell∨(relabel scope X.env).names.lookup x=some .free)
 cells:∀x c,cl.lookup x=some c→X.env.cells.lookup x=some c
 has:∀x,((relabel scope X.env).names.lookup x=some .cell∨(relabel scope X.env).names.lookup x=some .free)→∃c,cl.lookup x=some c
 kind:scope.kind=.function
theorem Vis_of_cell {X:Cx} {x:Str} (h:X.env.kindOf x=some .cell∨X.env.kindOf x=some .free):Vis X.env.scope x:=by
 rcases h with h | h
 ·exact .inr (.inl h)
 ·exact .inr (.inr h)
section
variable {X:Cx} {N:List Str} {nt:Nat} {fr:List Nat} {scope:Scope} {cl:List (Str×Addr)} {pins:List (Addr×Obj)} {σ:St} {H:Hp} {s:Shared} {fp:List Addr}
theorem comp_ok (I:Inv X pins σ H s) (cn:CompNames X N nt fr scope cl) (hf:∀b∈fp,FpOk X pins H b) (ho:∀b∈fp,b < s.heap.objs.size):(cxComp X N scope cl pins s H fp).Ok where
 mod:=I.mod
 kind:=cn.kind
 glob:=I.ok.glob
 blt:=I.ok.blt
 above:=Nat.le_refl _
 inj:=fun x y c h1 h2=>I.ok.inj x y c (cn.cells x c h1) (cn.cells y c h2)
 has:=fun x hx=>cn.has x hx
 cab:=fun x c h _=>by cases (show false=true from h)
 hd:=I.ok.hd
 frames:=I.ok.frames
 stk:=.inl rfl
 exf:=fun b hb=>⟨Nat.ne_of_lt (ho b hb),fun x c e=>(hf b hb).2.2.2.2.1 x c (cn.cells x c e)⟩
 bs:=I.bs
 bsz:=Nat.le_trans I.ok.bsz I.sz
 noex:=fun b o e hb=>by
  rcases (hf b hb).2.2.2.1 with z | z
  ·exact I.ok.noex b o e z
  ·exact absurd (Nat.lt_of_lt_of_le (Heap.lt_size e) (Nat.le_trans I.ok.bsz z)) (Nat.lt_irrefl _)
 exfs:=fun b hb z=>(List.mem_cons.mp (I.stkSub b z)).elim (fun e=>(hf b hb).2.1 e) fun e=>(hf b hb).2.2.1 e
 funs:=I.stack
 frf:=I.stkFree
theorem comp_inv {h4:Heap} {t':Nat} (I:Inv X pins σ H s) (cn:CompNames X N nt fr scope cl) (hf:∀b∈fp,FpOk X pins H b) (ho:∀b∈fp,b < s.heap.objs.size)
  (k:∀b o,s.heap.get? b=some o→h4.get? b=some o) (hns:∃m,h4.Ns s.heap.objs.size m):Inv (cxComp X N scope cl pins s H fp) [] (compStart0 nt fr σ) H { s with heap:=h4,toks:=t' }:=by
 have ck:∀{c:Addr} {v:Option Value},s.heap.IsCell c v→h4.IsCell c v:=fun ⟨o,e,d⟩=>⟨o,k _ o e,d⟩
 refine ⟨comp_ok I cn hf ho,rfl,I.bare,Un.kept k,?_,fun x c e=>?_,?_,fun x c e=>?_,fun p hp=>?_,I.hok.kept k,?_⟩
 ·obtain ⟨m,hm⟩:=hns
  refine ⟨m,hm,fun i x v e1 e2 _=>?_⟩
  have e2:(compStart0 nt fr σ)[i]?=some (some v):=e2
  have e1:N[i]?=some x:=e1
  unfold compStart0 at e2
  by_cases hi:i < nt
  ·rw [List.getElem?_append_left (by simpa using hi),List.getElem?_replicate,if_pos hi] at e2
   cases e2
  ·obtain ⟨j,rfl⟩:∃j,i=nt + j:=⟨i - nt,by omega⟩
   rw [List.getElem?_append_right (by simp),List.length_replicate,Nat.add_sub_cancel_left,List.getElem?_map] at e2
   cases hj:fr[j]? with
   | none=>rw [hj] at e2;cases e2
   | some i' =>
    rw [hj] at e2
    have e2:(σ[i']?).getD none=some v:=Option.some.inj e2
    have e3:σ[i']?=some (some v):=by
     cases q:σ[i']? with
     | none=>rw [q] at e2;cases e2
     | some o=>rw [q] at e2;rw [show o=some v from e2]
    obtain ⟨hN,⟨c,hc⟩,hk,hk'⟩:=cn.free j i' x hj e1
    obtain ⟨m0,_,hl⟩:=I.loc
    obtain ⟨u,r,l⟩:=hl i' x v hN e3 (Vis_of_cell hk)
    refine ⟨u,r,.inr ⟨hk',c,hc,?_⟩⟩
    rcases l with ⟨hl',_⟩ | ⟨_,c',hc',hcell⟩
    ·rcases hk with z | z <;> (rw [hl'] at z;cases z)
    ·have hcc:=cn.cells x c hc
     rw [hc'] at hcc;cases hcc
     exact ck hcell
 ·obtain ⟨v,hv⟩:=I.cell x c (cn.cells x c e)
  exact ⟨v,ck hv⟩
 ·exact I.hok.fresh (Nat.le_refl _)
 ·exact I.freeC x c (cn.cells x c e)
 ·have hp:p∈(X.pn++pins)++[]:=hp
  rw [List.append_nil] at hp
  obtain ⟨e,n,ne,nf,d⟩:=I.pin p hp
  exact ⟨k p.1 p.2 e,n,Nat.ne_of_lt (Heap.lt_size e),fun z=>(List.mem_cons.mp (I.stkSub p.1 z)).elim ne nf,d⟩
 ·show (compStart0 nt fr σ).length=N.length
  unfold compStart0
  rw [cn.len,List.length_append,List.length_replicate,List.length_map]
theorem comp_back {H':Hp} {s1 s':Shared} {h':Heap} {σ':St} (I:Inv X pins σ H s) (hsz:s.heap.objs.size≤s1.heap.objs.size) (hos:s1.os=s.os) {H1:Hp} (hH:Un (frs X.stack) fp H H1 s.heap s1.heap)
  (hf:∀b∈fp,FpOk X pins H b)
  (J:Inv (cxComp X N scope cl pins s1 H1 fp) [] σ' H' s') (sb:Heap.SameBut s1.heap.objs.size s'.heap h'):Inv X pins σ H' { s' with heap:=h' }:=by
 have u:Un (frs X.stack) fp H H' s.heap s'.heap:=hH.trans J.base
 have lt:∀b o,s.heap.get? b=some o→b≠s1.heap.objs.size:=fun b o e=>Nat.ne_of_lt (Nat.lt_of_lt_of_le (Heap.lt_size e) hsz)
 have kk:∀b o,b≠s1.heap.objs.size→s'.heap.get? b=some o→h'.get? b=some o:=fun b o hb e=>sb.extBut b o hb e
 have u':Un (frs X.stack) fp H H' s.heap h':=⟨fun b o e n hb hx=>kk b o (lt b o e) (u.keep b o e n hb hx),fun b o e n hb hx=>let ⟨sl,z⟩:=u.slot b o e n hb hx;⟨sl,kk b _ (lt b o e) z⟩,u.free,
  fun b o e hx=>let ⟨o',z⟩:=u.there b o e hx;⟨o',kk b o' (lt b o e) z⟩,u.tups,u.frzs,u.tbls⟩
 have nC:H' s1.heap.objs.size=none:=J.free
 refine I.call' (s':={ s' with heap:=h' }) (ch:=fp) (J.os.trans hos) u' (fun a o e=>?_) J.bare fun b hb=>⟨(hf b hb).2.2.2.1,(hf b hb).2.1,(hf b hb).2.2.2.2.1,(hf b hb).2.2.2.2.2⟩
 refine (J.hok a o e).stay (fun b v hb q=>kk b v ?_ q) (fun _ q=>q) fun _ _ q=>q
 rcases hb with z | z
 ·rintro rfl
  rw [← z,nC] at e;cases e
 ·rintro rfl
  rw [nC] at z;cases z
end
def freeB (X:Cx) (N:List Str) (nt:Nat) (scope:Scope):List Nat→Nat→Bool
 | [],_=>true
 | i::r,j=>(match N[nt + j]? with
  | some x=>decide (X.N[i]?=some x) && decide (scope.names.lookup x=some .free) && (decide (X.env.kindOf x=some .cell) || decide (X.env.kindOf x=some .free))
  | none=>false) && freeB X N nt scope r (j + 1)
theorem freeB_at {X:Cx} {N:List Str} {nt:Nat} {scope:Scope}:∀{fr:List Nat} {k:Nat},freeB X N nt scope fr k=true→∀(j i:Nat) (x:Str),fr[j]?=some i→N[nt + (k + j)]?=some x →
  X.N[i]?=some x∧scope.names.lookup x=some .free∧(X.env.kindOf x=some .cell∨X.env.kindOf x=some .free)
 | [],_,_,j,i,x,e,_=>by simp at e
 | i0::r,k,h,j,i,x,e1,e2=>by
  unfold freeB at h
  rw [Bool.and_eq_true] at h
  obtain ⟨h1,h2⟩:=h
  cases j with
  | zero =>
   have e1:i0=i:=by simpa using e1
   subst e1
   rw [Nat.add_zero] at e2
   rw [e2] at h1
   simp only [Bool.and_eq_true,Bool.or_eq_true,decide_eq_true_eq] at h1
   exact ⟨h1.1.1,h1.1.2,h1.2⟩
  | succ j =>
   exact freeB_at h2 j i x (by simpa using e1) (by rw [show nt + (k + 1 + j)=nt + (k + (j + 1)) by omega];exact e2)
theorem lookup_relabel {env:Env}:∀{names:List (Str×NameKind)} {x:Str} {k':NameKind},
  (names.map fun (n,k)=>if (k == NameKind.free && env.scope.kind == .function && env.kindOf n == some .cell) then (n,NameKind.cell) else (n,k)).lookup x=some k' →
  ∃k,names.lookup x=some k∧(k=k'∨(k=.free∧k'=.cell))
 | [],_,_,h=>by simp at h
 | (n,k)::r,x,k',h=>by
  have h:List.lookup x ((if (k == NameKind.free && env.scope.kind == .function && env.kindOf n == some .cell)=true then (n,NameKind.cell) else (n,k))::r.map _)=some k':=h
  cases hx:x == n with
  | true =>
   by_cases hc:(k == NameKind.free && env.scope.kind == .function && env.kindOf n == some .cell)=true
   ·rw [if_pos hc] at h
    simp only [List.lookup_cons,hx] at h
    have hk:k=.free:=by
     simp only [Bool.and_eq_true,beq_iff_eq] at hc
     exact hc.1.1
    exact ⟨k,by simp [List.lookup_cons,hx],.inr ⟨hk,(Option.some.inj h).symm⟩⟩
   ·rw [if_neg hc] at h
    simp only [List.lookup_cons,hx] at h
    exact ⟨k,by simp [List.lookup_cons,hx],.inl (Option.some.inj h)⟩
  | false =>
   have h2:List.lookup x (r.map fun (n,k)=>if (k == NameKind.free && env.scope.kind == .function && env.kindOf n == some .cell) then (n,NameKind.cell) else (n,k))=some k':=by
    by_cases hc:(k == NameKind.free && env.scope.kind == .function && env.kindOf n == some .cell)=true
    ·rw [if_pos hc] at h;simpa only [List.lookup_cons,hx] using h
    ·rw [if_neg hc] at h;simpa only [List.lookup_cons,hx] using h
   obtain ⟨k2,e2,o2⟩:=lookup_relabel h2
   exact ⟨k2,by simp only [List.lookup_cons,hx];exact e2,o2⟩
theorem relabel_free {env:Env}:∀{names:List (Str×NameKind)} {x:Str},names.lookup x=some .free →
  (names.map fun (n,k)=>if (k == NameKind.free && env.scope.kind == .function && env.kindOf n == some .cell) then (n,NameKind.cell) else (n,k)).lookup x=some .cell ∨
  (names.map fun (n,k)=>if (k == NameKind.free && env.scope.kind == .function && env.kindOf n == some .cell) then (n,NameKind.cell) else (n,k)).lookup x=some .free
 | [],_,h=>by simp at h
 | (n,k)::r,x,h=>by
  show List.lookup x ((if (k == NameKind.free && env.scope.kind == .function && env.kindOf n == some .cell)=true then (n,NameKind.cell) else (n,k))::r.map _)=some .cell∨List.lookup x ((if (k == NameKind.free && env.scope.kind == .function && env.kindOf n == some .cell)=true then (n,NameKind.cell) else (n,k))::r.map _)=some .free
  cases hx:x == n with
  | true =>
   simp only [List.lookup_cons,hx] at h
   cases h
   by_cases hc:(NameKind.free == NameKind.free && env.scope.kind == .function && env.kindOf n == some .cell)=true
   ·rw [if_pos hc];left;simp [List.lookup_cons,hx]
   ·rw [if_neg hc];right;simp [List.lookup_cons,hx]
  | false =>
   simp only [List.lookup_cons,hx] at h
   have ih:=relabel_free (env:=env) h
   by_cases hc:(k == NameKind.free && env.scope.kind == .function && env.kindOf n == some .cell)=true
   ·rw [if_pos hc];simpa only [List.lookup_cons,hx] using ih
   ·rw [if_neg hc];simpa only [List.lookup_cons,hx] using ih
theorem closOf_has {env:Env}:∀{names:List (Str×NameKind)} {cl:List (Str×Addr)},closOf env names=some cl→∀x,names.lookup x=some .free→∃c,cl.lookup x=some c
 | [],_,_,x,e=>by simp at e
 | (n,k)::r,cl,h,x,e=>by
  unfold closOf at h
  by_cases hk:k=.free
  ·rw [if_pos hk] at h
   cases hc:env.cells.lookup n with
   | none=>rw [hc] at h;cases h
   | some c' =>
    rw [hc] at h
    have h:(closOf env r).map (fun cl=>cl++[(n,c')])=some cl:=h
    cases hr:closOf env r with
    | none=>rw [hr] at h;cases h
    | some cl' =>
     rw [hr] at h
     have h:cl'++[(n,c')]=cl:=Option.some.inj h
     subst h
     rw [List.lookup_append]
     cases h2:cl'.lookup x with
     | some c2=>exact ⟨c2,by simp⟩
     | none =>
      cases hx:x == n with
      | true=>exact ⟨c',by simp [List.lookup_cons,hx]⟩
      | false =>
       simp only [List.lookup_cons,hx] at e
       obtain ⟨c3,e3⟩:=closOf_has hr x e
       rw [h2] at e3;cases e3
  ·rw [if_neg hk] at h
   cases hx:x == n with
   | true =>
    simp only [List.lookup_cons,hx] at e
    exact absurd (Option.some.inj e) hk
   | false =>
    simp only [List.lookup_cons,hx] at e
    exact closOf_has h x e
theorem CompNames.of {X:Cx} {N:List Str} {nt:Nat} {fr:List Nat} {scope:Scope} {cl:List (Str×Addr)} (hcl:closOf X.env scope.names=some cl) (hlen:N.length=nt + fr.length) (hB:freeB X N nt scope fr 0=true)
  (hcell:∀y∈scope.names,y.2≠.cell) (hkind:scope.kind=.function):CompNames X N nt fr scope cl where
 len:=hlen
 free:=fun j i x e1 e2=>by
  obtain ⟨h1,h2,h3⟩:=freeB_at hB j i x e1 (by rw [Nat.zero_add];exact e2)
  exact ⟨h1,closOf_has hcl x h2,h3,relabel_free h2⟩
 cells:=closOf_lookup hcl
 has:=fun x hx=>by
  have:scope.names.lookup x=some .free:=by
   rcases hx with hx | hx
   ·obtain ⟨k,e,o⟩:=lookup_relabel (names:=scope.names) (env:=X.env) hx
    rcases o with rfl | ⟨rfl,_⟩
    ·exact absurd rfl (hcell _ (PySem.mem_of_lookup e))
    ·exact e
   ·obtain ⟨k,e,o⟩:=lookup_relabel (names:=scope.names) (env:=X.env) hx
    rcases o with rfl | ⟨rfl,_⟩
    ·exact e
    ·exact e
  exact closOf_has hcl x this
 kind:=hkind
def PIf (X:Cx) (ifs:List Expr) (t:TT):Prop :=
 ∀(pins:List (Addr×Obj)) (s:Shared) (σ:St) (H:Hp) (Q:Bool→Hp→Prop),Inv X pins σ H s→t σ H Q →
  wpAny (model X.prog X.w) X.A (forIn ifs true fun c r=>if r=true then do let ok ← isTrue c X.env (eval c X.env);pure (ForInStep.yield ok) else pure (ForInStep.yield r)) (TP X pins σ Q) X.xe s
def tTrue:TT:=fun _ H Q=>Q true H
theorem pif_nil {X:Cx}:PIf X [] tTrue:=fun _ _ _ H _ I h=>wpAny_pure ⟨H,I,h⟩
def CompGoal (J:It) (nt:Nat) (fr:List Nat) (g:TG) (c:TT) (te:TE) (σ:St) (H1:Hp) (Q:VK) (acc:Addr):Prop :=
 ∃W:Nat→Nat→St→List V→Hp→Prop,(∃m,W 0 m (compStart0 nt fr σ) [] (upd H1 acc (.lst [])))∧∀i m σ' ys H',W i m σ' ys H'→H' acc=some (.lst ys) ∧
  ((J.stop i H'∧Q (.ref acc) H')∨(J.go i H'∧∀x H2,J.yld i H' x H2→g x σ' H2 fun σ2 H3=>c σ2 H3 fun b H4=>if b=true then
   te σ2 H4 fun y H5=>ys.length < sizeLine∧H5 acc=some (.lst ys)∧∃m',m' < m∧W (i + 1) m' σ2 (ys++[y]) (upd H5 acc (.lst (ys++[y])))
   else ∃m',m' < m∧W (i + 1) m' σ2 ys H4))
def tComp (wi:TI) (nt:Nat) (fr:List Nat) (g:TG) (c:TT) (te:TE):TE:=fun σ H Q=>wi σ H fun J H1=>∀acc,H1 acc=none→CompGoal J nt fr g c te σ H1 Q acc
section
variable {X:Cx} {target iter elt:Expr} {ifs:List Expr} {scope:Scope} {pos:Pos} {N:List Str} {nt:Nat} {fr:List Nat} {cl:List (Str×Addr)} {wi:TI} {g:TG} {c:TT} {te:TE}
theorem comp_fp {pins:List (Addr×Obj)} {σ:St} {H H1:Hp} {s:Shared} {fp:List Addr} (I:Inv X pins σ H s) (cn:CompNames X N nt fr scope cl) (hf:∀b∈fp,FpOk X pins H b) (ho:∀b∈fp,b < s.heap.objs.size) {H':Hp} (hn:∀b∈fp,H' b=none) :
  ∀b∈fp,FpOk (cxComp X N scope cl pins s H1 fp) [] H' b:=fun b hb =>
 ⟨hn b hb,Nat.ne_of_lt (ho b hb),fun z=>(List.mem_cons.mp (I.stkSub b z)).elim (hf b hb).2.1 (hf b hb).2.2.1,.inl hb,fun x c e=>(hf b hb).2.2.2.2.1 x c (cn.cells x c e),fun p hp=>(hf b hb).2.2.2.2.2 p (by
  have hp:p∈(X.pn++pins)++[]:=hp
  rw [List.append_nil] at hp
  exact hp)⟩
theorem comp_block {pins:List (Addr×Obj)} {σ:St} {s:Shared} {Q:VK} {itv:Value} {RR:Value→Addr→Result→Shared→Prop} {E:Value→Shared→Prop}
  (hc:X.calm=true) (cn:CompNames X N nt fr scope cl) (hcell:∀y∈scope.names,y.2≠.cell)
  (hg:∀pins s H fp,PG (cxComp X N scope cl pins s H fp) target g) (hif:∀pins s H fp,PIf (cxComp X N scope cl pins s H fp) ifs c) (he:∀pins s H fp,PE (cxComp X N scope cl pins s H fp) elt te)
  (h:PIE X pins σ target (fun J H1=>∀acc,H1 acc=none→CompGoal J nt fr g c te σ H1 Q acc) itv s)
  (hRR:∀(acc C:Addr) (s':Shared) (H':Hp),(∃m,s'.heap.Ns C m)→Inv X pins σ H' s'→FpOk X pins H' C→Q (.ref acc) H'→RR (.ref acc) C (.ok .next) s') :
  wpAny (model X.prog X.w) X.A (newList []) (fun acc s₃=>wpAny (model X.prog X.w) X.A (newFunctionEnv scope X.env.globals cl [] X.env.qual none .none (some X.env)) (fun cenv s₄ =>
   codeAny (model X.prog X.w) X.A (.compStart (.ListComp elt [⟨target,iter,ifs,0⟩] scope pos) 0 itv acc { cenv with scope:=relabel scope X.env }) (RR acc cenv.locals) s₄) E s₃) E s:=by
 obtain ⟨it,fp,tn,J,H2,e,I2,T,st2,f2,R⟩:=h
 subst e
 have fo:∀b∈fp,b < s.heap.objs.size:=fun b hb=>let ⟨o,e,_⟩:=T.obj 0 _ st2 b hb;Heap.lt_size e
 refine wpAny_newObj_type (wpAny_newFunctionEnv hcell (by intro y hy;simp at hy) (fun h₁ hns₁ hsb₁=>?_) cn.kind)
 dsimp only at hns₁ hsb₁ ⊢
 have ha:H2 s.heap.objs.size=none:=I2.hok.fresh (Nat.le_refl _)
 have I3:Inv X pins σ (upd H2 s.heap.objs.size (.lst [])) { s with heap:=s.heap.push { cls:=.type "list", data:=.seq ([]:List Value).toArray } } :=
  I2.laid (t':=s.toks) (fun b u e=>Heap.get?_push_of_some _ e) (Nat.le_refl _) ⟨Nat.zero_le _,[],0,.nil,Heap.get?_push_size _ rfl⟩
 generalize hs3:({ s with heap:=s.heap.push { cls:=.type "list", data:=.seq ([]:List Value).toArray } }:Shared)=s3 at I3
 have hh3:s3.heap=s.heap.push { cls:=.type "list", data:=.seq ([]:List Value).toArray }:=by rw [← hs3]
 have hsz:s3.heap.objs.size=s.heap.objs.size + 1:=by rw [hh3,Heap.size_push]
 have fne:∀b∈fp,b≠s.heap.objs.size:=fun b hb=>Nat.ne_of_lt (fo b hb)
 have f3:∀b∈fp,FpOk X pins (upd H2 s.heap.objs.size (.lst [])) b:=fun b hb=>⟨by rw [upd_ne (fne b hb)];exact (f2 b hb).1,(f2 b hb).2⟩
 have fo3:∀b∈fp,b < s3.heap.objs.size:=fun b hb=>by rw [hsz];exact Nat.lt_succ_of_lt (fo b hb)
 have k3:∀b o,s3.heap.get? b=some o→h₁.get? b=some o:=fun b o e=>hsb₁.extBut b o (by rw [← hh3];exact Nat.ne_of_lt (Heap.lt_size e)) (by rw [← hh3];exact Heap.get?_push_of_some _ e)
 have hns:∃m,h₁.Ns s3.heap.objs.size m:=⟨_,by rw [hh3];exact hns₁⟩
 have I4:Inv (cxComp X N scope cl pins s3 (upd H2 s.heap.objs.size (.lst [])) fp) [] (compStart0 nt fr σ) (upd H2 s.heap.objs.size (.lst [])) { s3 with heap:=h₁,toks:=s3.toks + ([]:List (Str×Value)).length }:=comp_inv I3 cn f3 fo3 k3 hns
 have st4:tn 0 h₁:=T.keep 0 _ _ st2 fun b hb o e=>k3 b o (by rw [hh3];exact Heap.get?_push_of_some _ e)
 obtain ⟨W,⟨m0,w0⟩,turn⟩:=R s.heap.objs.size ha
 have stat:∀{H':Hp},(∀b∈fp,H' b=none)→∀b∈fp,FpOk (cxComp X N scope cl pins s3 (upd H2 s.heap.objs.size (.lst [])) fp) [] H' b:=fun hn=>comp_fp I3 cn f3 fo3 hn
 have hH:Un (frs X.stack) fp H2 (upd H2 s.heap.objs.size (.lst [])) s.heap s3.heap:=by
  rw [hh3]
  exact Un.laid (fun b u e=>Heap.get?_push_of_some _ e) (Nat.le_refl _) ha
 have back:∀{σ':St} {H':Hp} {s':Shared} {h':Heap},Inv (cxComp X N scope cl pins s3 (upd H2 s.heap.objs.size (.lst [])) fp) [] σ' H' s'→Heap.SameBut s3.heap.objs.size s'.heap h'→Inv X pins σ H' { s' with heap:=h' }:=fun J' sb =>
  comp_back I2 (by rw [hsz];exact Nat.le_succ _) (by rw [← hs3]) hH f2 J' sb
 have loop:codeAny (model X.prog X.w) X.A (.compLoop (.ListComp elt [⟨target,iter,ifs,0⟩] scope pos) 0 (.ref it) (.ref s.heap.objs.size) (compEnvC scope cl s3.heap.objs.size X.env)) (RR (.ref s.heap.objs.size) s3.heap.objs.size)
   { s3 with heap:=h₁,toks:=s3.toks + ([]:List (Str×Value)).length }:=by
  refine comp_loop (fun n s'=>∃i σ' ys H',Inv (cxComp X N scope cl pins s3 (upd H2 s.heap.objs.size (.lst [])) fp) [] σ' H' s'∧tn i s'.heap∧(∀b∈fp,H' b=none)∧W i n σ' ys H') ?_ m0
   ⟨0,_,[],_,I4,st4,fun b hb=>(f3 b hb).1,w0⟩
  rintro n s5 ⟨i,σ5,ys,H5,I5,st5,fr5,w5⟩
  obtain ⟨hacc,step⟩:=turn i n σ5 ys H5 w5
  rcases step with ⟨stop,q⟩ | ⟨go,step⟩
  ·refine thn (T.done (cxComp X N scope cl pins s3 (upd H2 s.heap.objs.size (.lst [])) fp) rfl rfl rfl hc i [] s5 σ5 H5 (fun _ _=>False) I5 (stat fr5) st5 stop) fun r s6 ⟨hr,I6⟩=>?_
   subst hr
   obtain ⟨m,hm,_⟩:=I6.loc
   exact hRR _ _ s6 H5 ⟨m,hm⟩ (back I6 (Heap.SameBut.refl _ _)) (I2.fpOk (by rw [hsz];exact Nat.le_succ _) I6.free) q
  ·refine thn (T.item (cxComp X N scope cl pins s3 (upd H2 s.heap.objs.size (.lst [])) fp) rfl rfl rfl hc i [] s5 σ5 H5 (fun _ _=>False) I5 (stat fr5) st5 go) fun r s6 ⟨u,hr,h6⟩=>?_
   subst hr
   refine thn h6 fun _ s7 ⟨x,H7,I7,r7,y7,st7,fr7⟩=>?_
   have I7':=I7.pinned (stat fr7) (T.obj _ _ st7)
   refine thn (hg pins s3 _ fp _ s7 σ5 H7 x u _ I7' r7 (step x H7 y7)) fun _ s8 ⟨σ8,H8,I8,q8⟩=>?_
   have keepT:∀{σ':St} {H':Hp} {s':Shared},Inv (cxComp X N scope cl pins s3 (upd H2 s.heap.objs.size (.lst [])) fp) ([]++pinsAt fp s7.heap) σ' H' s'→tn (i + 1) s'.heap∧∀b∈fp,H' b=none:=fun {σ' H' s'} I' =>
    ⟨T.keep _ _ _ st7 fun b hb o e=>(I'.pin (b,o) (List.mem_append_right _ (List.mem_append_right _ (mem_pinsAt hb e)))).1,fun b hb=>by
     obtain ⟨o,e,d⟩:=T.obj _ _ st7 b hb
     exact (I'.pin (b,o) (List.mem_append_right _ (List.mem_append_right _ (mem_pinsAt hb e)))).2.1⟩
   refine thn (hif pins s3 _ fp _ s8 σ8 H8 _ I8 q8) fun ok s9 ⟨H9,I9,q9⟩=>?_
   cases ok with
   | false =>
    have q9:∃m',m' < n∧W (i + 1) m' σ8 ys H9:=q9
    obtain ⟨m',hm,w9⟩:=q9
    exact ⟨m',hm,i + 1,σ8,ys,H9,I9.unpinned,(keepT I9).1,(keepT I9).2,w9⟩
   | true =>
    rw [if_pos rfl]
    refine thn (he pins s3 _ fp _ s9 σ8 H9 _ I9 q9) fun z s10 ⟨y,H10,I10,r10,hz,ha10,m',hm,w10⟩=>?_
    refine thn (mt_append _ s10 σ8 H10 (.ref s.heap.objs.size) [y] (.ref s.heap.objs.size) [z] (fun v H'=>v=.non∧H'=upd H10 s.heap.objs.size (.lst (ys++[y]))) I10 rfl (.cons r10 .nil) ⟨_,ys,y,rfl,rfl,ha10,hz,rfl,rfl⟩) fun v s11 ⟨_,H11,I11,_,_,e11⟩=>?_
    subst e11
    exact ⟨m',hm,i + 1,σ8,ys++[y],_,I11.unpinned,(keepT I11).1,(keepT I11).2,w10⟩
 have fin:codeAny (model X.prog X.w) X.A (.compStart (.ListComp elt [⟨target,iter,ifs,0⟩] scope pos) 0 (.ref it) (.ref s.heap.objs.size) (compEnvC scope cl s3.heap.objs.size X.env)) (RR (.ref s.heap.objs.size) s3.heap.objs.size)
   { s3 with heap:=h₁,toks:=s3.toks + ([]:List (Str×Value)).length } :=
  codeAny_compStart_list loop (T.self _ 0 _ _ _ st4 loop)
 rw [← hs3] at fin
 exact fin
theorem pe_comp (hi:PI X target iter wi) (hg:∀pins s H fp,PG (cxComp X N scope cl pins s H fp) target g) (hif:∀pins s H fp,PIf (cxComp X N scope cl pins s H fp) ifs c) (he:∀pins s H fp,PE (cxComp X N scope cl pins s H fp) elt te)
  (hc:X.calm=true:=by rfl) (hcl:closOf X.env scope.names=some cl:=by rfl) (hlen:N.length=nt + fr.length:=by rfl) (hB:freeB X N nt scope fr 0=true:=by rfl)
  (hcell:∀y∈scope.names,y.2≠.cell:=by decide +kernel) (hkind:scope.kind=.function:=by rfl) (hnames:∀y∈scope.names,y.2=.local→scope.names.lookup y.1=some .local:=by decide +kernel)
  (hs:∀x,foldedSetIterable iter X.env x=pure x:=by intro _;rfl):PE X (.ListComp elt [⟨target,iter,ifs,0⟩] scope pos) (tComp wi nt fr g c te):=by
 intro pins s σ H Q I h
 rw [eval_ListComp]
 refine wpAny_comprehension_free (use:=none) rfl hs (closureFor_of hcl) hkind hnames (thn (hi pins s σ H _ I h) fun xv s1 h1=>thn h1 fun itv s2 h2=>?_)
 exact comp_block hc (CompNames.of hcl hlen hB hcell hkind) hcell hg hif he h2 fun acc C s' H' ⟨m,hm⟩ hI hF hq=>⟨m,hm,fun h' sb=>⟨.ref acc,H',hI.turned (t':=s'.toks) (fun b o hb e=>sb.extBut b o hb e) hF.1 hF.2.1 hF.2.2.2.1 hF.2.2.2.2.1 hF.2.2.2.2.2,rfl,hq⟩⟩
end
structure ItemsOf (J:It) (xs:List V) (L:Hp→Prop):Prop where
 go:∀i H,L H→i < xs.length→J.go i H
 yld:∀i H x H',L H→i < xs.length→J.yld i H x H'→H'=H∧xs[i]?=some x
 stop:∀H,L H→J.stop xs.length H
theorem items_list {K:W.Frag} {a:Addr} {xs:List V}:ItemsOf (Itl K a) xs (fun H=>SqL K H a xs) :=
 ⟨fun i H h hi=>⟨xs,xs[i],h,by simp [hi]⟩,fun i H x H' h hi y=>⟨y.1,y.2 xs h⟩,fun H h=>⟨xs,h,Nat.le_refl _⟩⟩
theorem items_tup {K:W.Frag} {a:Addr} {xs:List V}:ItemsOf (Itt K a) xs (fun H=>SqT K H a xs) :=
 ⟨fun i H h hi=>⟨xs,xs[i],h,by simp [hi]⟩,fun i H x H' h hi y=>⟨y.1,y.2 xs h⟩,fun H h=>⟨xs,h,Nat.le_refl _⟩⟩
def rangeV (lo:Int) (n:Nat):List V:=(List.range n).map fun i:Nat=>V.int (lo + (i:Int))
theorem items_range {lo:Int} {n:Nat}:ItemsOf (Itr lo n) (rangeV lo n) (fun _=>True) :=
 ⟨fun i H _ hi=>by show i < n;simpa [rangeV] using hi,fun i H x H' _ hi y=>⟨y.1,by
  have hi:i < n:=by simpa [rangeV] using hi
  rw [y.2];simp [rangeV,hi]⟩,fun H _=>by show n≤_;simp [rangeV]⟩
def signsV (z:Str):List V:=z.cps.toList.map fun c=>V.str ⟨#[c]⟩
theorem items_str {z:Str}:ItemsOf (Its z) (signsV z) (fun _=>True) :=
 ⟨fun i H _ hi=>by show i < z.cps.size;simpa [signsV] using hi,fun i H x H' _ hi y=>⟨y.1,by
  obtain ⟨_,c,e,rfl⟩:=y
  have hi:i < z.cps.size:=by simpa [signsV] using hi
  have e:z.cps[i]=c:=by simpa [hi] using e
  simp [signsV,hi,e]⟩,fun H _=>by show z.cps.size≤_;simp [signsV]⟩
def CompW (xs:List V) (nt:Nat) (fvs:St) (Pv:Nat→List V→Hp→Prop):Nat→Nat→St→List V→Hp→Prop:=fun i m σ' ys H' =>
 m=xs.length - i∧i≤xs.length∧Pv i ys H'∧∃tv:List (Option V),tv.length=nt∧σ'=tv++fvs
theorem CompW.next {xs:List V} {nt:Nat} {fvs:St} {Pv:Nat→List V→Hp→Prop} {i:Nat} {tv:List (Option V)} {ys:List V} {H:Hp} (hi:i < xs.length) (p:Pv (i + 1) ys H) (ht:tv.length=nt) :
  ∃m',m' < xs.length - i∧CompW xs nt fvs Pv (i + 1) m' (tv++fvs) ys H:=⟨xs.length - (i + 1),by omega,rfl,hi,p,tv,ht,rfl⟩
theorem comp_by {J:It} {xs:List V} {L:Hp→Prop} {σ:St} {H1:Hp} {nt:Nat} {fr:List Nat} {g:TG} {c:TT} {te:TE} {Q:VK} {acc:Addr} (it:ItemsOf J xs L) (Pv:Nat→List V→Hp→Prop)
  (h0:Pv 0 [] (upd H1 acc (.lst []))) (hL:∀i ys H',i≤xs.length→Pv i ys H'→L H'∧H' acc=some (.lst ys))
  (turn:∀i x tv ys H',xs[i]?=some x→i < xs.length→Pv i ys H'→tv.length=nt→g x (tv++fr.map fun i=>(σ[i]?).getD none) H' fun σ2 H3 =>
   c σ2 H3 fun b H4=>if b=true then te σ2 H4 fun y H5=>ys.length < sizeLine∧H5 acc=some (.lst ys)∧∃m',m' < xs.length - i∧CompW xs nt (fr.map fun i=>(σ[i]?).getD none) Pv (i + 1) m' σ2 (ys++[y]) (upd H5 acc (.lst (ys++[y])))
    else ∃m',m' < xs.length - i∧CompW xs nt (fr.map fun i=>(σ[i]?).getD none) Pv (i + 1) m' σ2 ys H4)
  (hd:∀ys H',Pv xs.length ys H'→Q (.ref acc) H'):CompGoal J nt fr g c te σ H1 Q acc:=by
 refine ⟨CompW xs nt (fr.map fun i=>(σ[i]?).getD none) Pv,⟨xs.length,by simp,Nat.zero_le _,h0,List.replicate nt none,by simp,rfl⟩,?_⟩
 rintro i m σ' ys H' ⟨rfl,hi,p,tv,htv,rfl⟩
 obtain ⟨l,ha⟩:=hL i ys H' hi p
 refine ⟨ha,?_⟩
 by_cases hlt:i < xs.length
 ·refine .inr ⟨it.go i H' l hlt,fun x H2 y=>?_⟩
  obtain ⟨rfl,hx⟩:=it.yld i H' x H2 l hlt y
  exact turn i x tv ys H2 hx hlt p htv
 ·have e:i=xs.length:=by omega
  subst e
  exact .inl ⟨it.stop H' l,hd ys H' p⟩
end L2
namespace L2
open PySem PySem.Spec PyProof.Rows PySem.SeqAt
inductive Dt where
 | non | bl (b:Bool) | int (i:Int) | str (x:Str) | lst (xs:List Dt) | tup (xs:List Dt)
mutual
def Rep (K:W.Frag) (H:Hp):Dt→V→Prop
 | .non,v=>v=.non
 | .bl b,v=>v=.bl b
 | .int i,v=>v=.int i
 | .str x,v=>v=.str x
 | .lst ds,v=>∃p xs,v=.ref p∧SqL K H p xs∧Reps K H ds xs
 | .tup ds,v=>∃p xs,v=.ref p∧SqT K H p xs∧Reps K H ds xs
def Reps (K:W.Frag) (H:Hp):List Dt→List V→Prop
 | [],xs=>xs=[]
 | d::ds,xs=>∃x r,xs=x::r∧Rep K H d x∧Reps K H ds r
end
mutual
def eqDt:Dt→Dt→Bool
 | .non,.non=>true
 | .bl a,.bl b=>a == b
 | .bl a,.int b=>(if a then 1 else 0) == b
 | .int a,.bl b=>a == (if b then 1 else 0)
 | .int a,.int b=>a == b
 | .str a,.str b=>a == b
 | .lst xs,.lst ys=>eqDts xs ys
 | .tup xs,.tup ys=>eqDts xs ys
 | _,_=>false
def eqDts:List Dt→List Dt→Bool
 | [],[]=>true
 | x::xs,y::ys=>eqDt x y && eqDts xs ys
 | _,_=>false
end
mutual
def depD:Dt→Nat
 | .lst xs=>depDs xs + 1
 | .tup xs=>depDs xs + 1
 | _=>0
def depDs:List Dt→Nat
 | []=>0
 | x::xs=>max (depD x) (depDs xs)
end
theorem Reps.length {K:W.Frag} {H:Hp}:∀{ds:List Dt} {xs:List V},Reps K H ds xs→ds.length=xs.length
 | [],xs,h=>by rw [show xs=[] from by simpa [Reps] using h];rfl
 | d::ds,xs,h=>by
  obtain ⟨x,r,rfl,_,h2⟩:∃x r,xs=x::r∧Rep K H d x∧Reps K H ds r:=by simpa [Reps] using h
  simp [Reps.length h2]
theorem Reps.get {K:W.Frag} {H:Hp}:∀{ds:List Dt} {xs:List V} {j:Nat} {d:Dt},Reps K H ds xs→ds[j]?=some d→∃x,xs[j]?=some x∧Rep K H d x
 | [],_,_,_,_,e=>by simp at e
 | d0::ds,xs,j,d,h,e=>by
  obtain ⟨x,r,rfl,h1,h2⟩:∃x r,xs=x::r∧Rep K H d0 x∧Reps K H ds r:=by simpa [Reps] using h
  cases j with
  | zero =>
   have e:d0=d:=by simpa using e
   subst e
   exact ⟨x,rfl,h1⟩
  | succ j =>
   obtain ⟨y,e1,e2⟩:=Reps.get (j:=j) h2 (by simpa using e)
   exact ⟨y,by simpa using e1,e2⟩
theorem depDs_get:∀{ds:List Dt} {j:Nat} {d:Dt},ds[j]?=some d→depD d≤depDs ds
 | [],_,_,e=>by simp at e
 | d0::ds,j,d,e=>by
  cases j with
  | zero =>
   have e:d0=d:=by simpa using e
   subst e
   simp only [depDs];omega
  | succ j =>
   have:=depDs_get (ds:=ds) (j:=j) (d:=d) (by simpa using e)
   simp only [depDs];omega
theorem eqDts_all:∀(ds es:List Dt),ds.length=es.length→((List.range ds.length).all fun j=>eqDt (ds.getD j .non) (es.getD j .non))=eqDts ds es
 | [],[],_=>rfl
 | [],_::_,h=>by simp at h
 | _::_,[],h=>by simp at h
 | d::ds,e::es,h=>by
  have h:ds.length=es.length:=by simpa using h
  rw [List.length_cons,List.range_succ_eq_map,List.all_cons,List.all_map]
  have:=eqDts_all ds es h
  simp only [eqDts]
  rw [← this]
  rfl
theorem eqDts_length:∀(ds es:List Dt),ds.length≠es.length→eqDts ds es=false
 | [],[],h=>by simp at h
 | [],_::_,_=>rfl
 | _::_,[],_=>rfl
 | d::ds,e::es,h=>by
  have h:ds.length≠es.length:=fun z=>h (by simp [z])
  simp only [eqDts,eqDts_length ds es h,Bool.and_false]
mutual
theorem eqDt_refl:∀d:Dt,eqDt d d=true
 | .non=>rfl
 | .bl b=>by simp [eqDt]
 | .int i=>by simp [eqDt]
 | .str x=>by simp [eqDt]
 | .lst xs=>by simp only [eqDt];exact eqDts_refl xs
 | .tup xs=>by simp only [eqDt];exact eqDts_refl xs
theorem eqDts_refl:∀ds:List Dt,eqDts ds ds=true
 | []=>rfl
 | d::ds=>by simp only [eqDts,eqDt_refl d,eqDts_refl ds,Bool.and_true]
end
section
variable {X:Cx} {pins:List (Addr×Obj)} {σ:St} {H:Hp} {s:Shared}
theorem lst_not_tup {a:Addr} {xs ys:List V} (I:Inv X pins σ H s) (h:SqL X.K H a xs) (h':SqT X.K H a ys):False:=by
 obtain ⟨its,_,pl,_⟩:=I.list h
 obtain ⟨its',_,pt,_⟩:=I.tuple h'
 obtain ⟨o,n,e,c,_,_⟩:=pl
 obtain ⟨o',e',c',_⟩:=pt
 rw [e] at e';cases e'
 rw [c] at c'
 exact absurd c' (by decide)
mutual
theorem rep_inj (I:Inv X pins σ H s):∀(d d':Dt) (v:V),Rep X.K H d v→Rep X.K H d' v→d=d'
 | .non,d',v,h,h'=>by
  have h:v=.non:=by simpa [Rep] using h
  subst h
  cases d' <;> simp [Rep] at h' <;> rfl
 | .bl b,d',v,h,h'=>by
  have h:v=.bl b:=by simpa [Rep] using h
  subst h
  cases d' <;> simp [Rep] at h'
  rw [h']
 | .int b,d',v,h,h'=>by
  have h:v=.int b:=by simpa [Rep] using h
  subst h
  cases d' <;> simp [Rep] at h'
  rw [h']
 | .str b,d',v,h,h'=>by
  have h:v=.str b:=by simpa [Rep] using h
  subst h
  cases d' <;> simp [Rep] at h'
  rw [h']
 | .lst ds,d',v,h,h'=>by
  obtain ⟨p,xs,rfl,hq,hr⟩:∃p xs,v=.ref p∧SqL X.K H p xs∧Reps X.K H ds xs:=by simpa only [Rep] using h
  cases d' with
  | lst es =>
   obtain ⟨p',ys,e,hq',hr'⟩:∃p' ys,V.ref p=.ref p'∧SqL X.K H p' ys∧Reps X.K H es ys:=by simpa only [Rep] using h'
   cases e
   rw [I.list_inj hq' hq] at hr'
   rw [reps_inj I ds es xs hr hr']
  | tup es =>
   obtain ⟨p',ys,e,hq',hr'⟩:∃p' ys,V.ref p=.ref p'∧SqT X.K H p' ys∧Reps X.K H es ys:=by simpa only [Rep] using h'
   cases e
   exact (lst_not_tup I hq hq').elim
  | _=>simp [Rep] at h'
 | .tup ds,d',v,h,h'=>by
  obtain ⟨p,xs,rfl,hq,hr⟩:∃p xs,v=.ref p∧SqT X.K H p xs∧Reps X.K H ds xs:=by simpa only [Rep] using h
  cases d' with
  | tup es =>
   obtain ⟨p',ys,e,hq',hr'⟩:∃p' ys,V.ref p=.ref p'∧SqT X.K H p' ys∧Reps X.K H es ys:=by simpa only [Rep] using h'
   cases e
   rw [I.tuple_inj hq' hq] at hr'
   rw [reps_inj I ds es xs hr hr']
  | lst es =>
   obtain ⟨p',ys,e,hq',hr'⟩:∃p' ys,V.ref p=.ref p'∧SqL X.K H p' ys∧Reps X.K H es ys:=by simpa only [Rep] using h'
   cases e
   exact (lst_not_tup I hq' hq).elim
  | _=>simp [Rep] at h'
theorem reps_inj (I:Inv X pins σ H s):∀(ds es:List Dt) (xs:List V),Reps X.K H ds xs→Reps X.K H es xs→ds=es
 | [],es,xs,h,h'=>by
  have h:xs=[]:=by simpa [Reps] using h
  subst h
  cases es with
  | nil=>rfl
  | cons e es=>simp [Reps] at h'
 | d::ds,es,xs,h,h'=>by
  obtain ⟨x,r,rfl,h1,h2⟩:∃x r,xs=x::r∧Rep X.K H d x∧Reps X.K H ds r:=by simpa only [Reps] using h
  cases es with
  | nil=>simp [Reps] at h'
  | cons e es =>
   obtain ⟨x',r',e',h1',h2'⟩:∃x' r',x::r=x'::r'∧Rep X.K H e x'∧Reps X.K H es r':=by simpa only [Reps] using h'
   cases e'
   rw [rep_inj I d e x h1 h1',reps_inj I ds es r h2 h2']
end
structure Eq3 (A:Around) (s:Shared) (u v:Value) (b:Bool):Prop where
 eq:EqAt A s u v b
 rc:RcAt A s u v b
 ne:RcNeAt A s u v (!b)
theorem items_eq (I:Inv X pins σ H s) {n:Nat} {A:Around} (ih:∀(d d':Dt) (x y:V) (u v:Value),depD d≤n→Rep X.K H d x→Rep X.K H d' y→RelV x u→RelV y v→Eq3 A.in1 s u v (eqDt d d'))
  {ds es:List Dt} {xs ys:List V} {us vs:List Value} (hd:depDs ds≤n) (hx:Reps X.K H ds xs) (hy:Reps X.K H es ys) (ru:Vals xs us) (rv:Vals ys vs) :
  ∀j (h1:j < us.toArray.size) (h2:j < vs.toArray.size),EqAt A.in1 s us.toArray[j] vs.toArray[j] (eqDt (ds.getD j .non) (es.getD j .non)):=by
 intro j h1 h2
 have l1:j < ds.length:=by rw [hx.length,ru.length];simpa using h1
 have l2:j < es.length:=by rw [hy.length,rv.length];simpa using h2
 have e1:ds[j]?=some ds[j]:=by simp [l1]
 have e2:es[j]?=some es[j]:=by simp [l2]
 obtain ⟨x,ex,rx⟩:=hx.get e1
 obtain ⟨y,ey,ry⟩:=hy.get e2
 obtain ⟨u,eu,qu⟩:=ru.get ex
 obtain ⟨v,ev,qv⟩:=rv.get ey
 have h1':j < us.length:=by simpa using h1
 have h2':j < vs.length:=by simpa using h2
 have z1:us.toArray[j]=u:=by
  have:us[j]?=some us[j]:=by simp [h1']
  rw [this] at eu
  simpa using eu
 have z2:vs.toArray[j]=v:=by
  have:vs[j]?=some vs[j]:=by simp [h2']
  rw [this] at ev
  simpa using ev
 rw [z1,z2]
 have g1:ds.getD j .non=ds[j]:=by simp [List.getD,l1]
 have g2:es.getD j .non=es[j]:=by simp [List.getD,l2]
 rw [g1,g2]
 exact (ih _ _ x y u v (Nat.le_trans (depDs_get e1) hd) rx ry qu qv).eq
theorem eq3_lists (I:Inv X pins σ H s) {n:Nat} {A:Around} (hu:A.units < cLine) (ih:∀(d d':Dt) (x y:V) (u v:Value),depD d≤n→Rep X.K H d x→Rep X.K H d' y→RelV x u→RelV y v→Eq3 A.in1 s u v (eqDt d d'))
  {ds es:List Dt} {p q:Addr} (hd:depDs ds≤n) (hp:Rep X.K H (.lst ds) (.ref p)) (hq:Rep X.K H (.lst es) (.ref q)):Eq3 A s (.ref p) (.ref q) (eqDts ds es):=by
 obtain ⟨p',xs,e,lx,hx⟩:∃p' xs,V.ref p=.ref p'∧SqL X.K H p' xs∧Reps X.K H ds xs:=by simpa only [Rep] using hp
 cases e
 obtain ⟨q',ys,e,ly,hy⟩:∃q' ys,V.ref q=.ref q'∧SqL X.K H q' ys∧Reps X.K H es ys:=by simpa only [Rep] using hq
 cases e
 obtain ⟨us,ru,pu,_⟩:=I.list lx
 obtain ⟨vs,rv,pv',_⟩:=I.list ly
 have both:RcAt A s (.ref p) (.ref q) (eqDts ds es)∧RcNeAt A s (.ref p) (.ref q) (!eqDts ds es):=by
  by_cases hl:ds.length=es.length
  ·have hsz:us.toArray.size=vs.toArray.size:=by simp [← ru.length,← rv.length,← hx.length,← hy.length,hl]
   have hz:us.toArray.size=ds.length:=by simp [← ru.length,← hx.length]
   have a:=RcAt.lists pu.isList pv'.isList hsz hu (items_eq I ih hd hx hy ru rv)
   have b:=RcNeAt.lists pu.isList pv'.isList hsz hu (items_eq I ih hd hx hy ru rv)
   rw [hz,eqDts_all ds es hl] at a b
   exact ⟨a,b⟩
  ·have hsz:(us.toArray.size != vs.toArray.size)=true:=by simp [← ru.length,← rv.length,← hx.length,← hy.length,hl]
   rw [eqDts_length ds es hl]
   exact ⟨RcAt.lists_lengths pu.isList pv'.isList hsz hu,RcNeAt.lists_lengths pu.isList pv'.isList hsz hu⟩
 refine ⟨?_,both.1,both.2⟩
 by_cases hpq:p=q
 ·subst hpq
  have:ds=es:=by
   rw [I.list_inj ly lx] at hy
   exact reps_inj I ds es xs hx hy
  subst this
  rw [eqDts_refl]
  exact EqAt.same _
 ·exact EqAt.of_refs hpq both.1
theorem eq3_tups (I:Inv X pins σ H s) {n:Nat} {A:Around} (hu:A.units < cLine) (ih:∀(d d':Dt) (x y:V) (u v:Value),depD d≤n→Rep X.K H d x→Rep X.K H d' y→RelV x u→RelV y v→Eq3 A.in1 s u v (eqDt d d'))
  {ds es:List Dt} {p q:Addr} (hd:depDs ds≤n) (hp:Rep X.K H (.tup ds) (.ref p)) (hq:Rep X.K H (.tup es) (.ref q)):Eq3 A s (.ref p) (.ref q) (eqDts ds es):=by
 obtain ⟨p',xs,e,lx,hx⟩:∃p' xs,V.ref p=.ref p'∧SqT X.K H p' xs∧Reps X.K H ds xs:=by simpa only [Rep] using hp
 cases e
 obtain ⟨q',ys,e,ly,hy⟩:∃q' ys,V.ref q=.ref q'∧SqT X.K H q' ys∧Reps X.K H es ys:=by simpa only [Rep] using hq
 cases e
 obtain ⟨us,ru,pu,_⟩:=I.tuple lx
 obtain ⟨vs,rv,pv',_⟩:=I.tuple ly
 have hz:us.toArray.size=ds.length:=by simp [← ru.length,← hx.length]
 have hz':vs.toArray.size=es.length:=by simp [← rv.length,← hy.length]
 have key:((List.range (min us.toArray.size vs.toArray.size)).all (fun j=>eqDt (ds.getD j .non) (es.getD j .non)) && us.toArray.size == vs.toArray.size)=eqDts ds es:=by
  rw [hz,hz']
  by_cases hl:ds.length=es.length
  ·rw [← hl,Nat.min_self,eqDts_all ds es hl];simp
  ·rw [eqDts_length ds es hl];simp [hl]
 have a:=RcAt.tuples pu pv' hu (items_eq I ih hd hx hy ru rv)
 have b:=RcNeAt.tuples pu pv' hu (items_eq I ih hd hx hy ru rv)
 rw [key] at a b
 refine ⟨?_,a,b⟩
 by_cases hpq:p=q
 ·subst hpq
  have:ds=es:=by
   rw [I.tuple_inj ly lx] at hy
   exact reps_inj I ds es xs hx hy
  subst this
  rw [eqDts_refl]
  exact EqAt.same _
 ·exact EqAt.of_refs hpq a
end
section
variable {X:Cx} {pins:List (Addr×Obj)} {σ:St} {H:Hp} {s:Shared}
theorem rep_ref_l {ds:List Dt} {x:V} (h:Rep X.K H (.lst ds) x):∃p xs,x=.ref p∧SqL X.K H p xs:=by
 obtain ⟨p,xs,e,l,_⟩:∃p xs,x=.ref p∧SqL X.K H p xs∧Reps X.K H ds xs:=by simpa only [Rep] using h
 exact ⟨p,xs,e,l⟩
theorem rep_ref_t {ds:List Dt} {x:V} (h:Rep X.K H (.tup ds) x):∃p xs,x=.ref p∧SqT X.K H p xs:=by
 obtain ⟨p,xs,e,l,_⟩:∃p xs,x=.ref p∧SqT X.K H p xs∧Reps X.K H ds xs:=by simpa only [Rep] using h
 exact ⟨p,xs,e,l⟩
theorem eq3_step (I:Inv X pins σ H s) {n:Nat} {A:Around} (ih:∀(d d':Dt) (x y:V) (u v:Value),depD d < n→Rep X.K H d x→Rep X.K H d' y→RelV x u→RelV y v→Eq3 A.in1 s u v (eqDt d d'))
  {d d':Dt} {x y:V} {u v:Value} (hu:A.units + n < cLine) (hd:depD d≤n) (hx:Rep X.K H d x) (hy:Rep X.K H d' y) (rx:RelV x u) (ry:RelV y v):Eq3 A s u v (eqDt d d'):=by
 have hu0:A.units < cLine:=by omega
 cases d with
 | non =>
  have e:x=V.non:=by simpa [Rep] using hx
  subst e
  cases rx
  cases d' with
  | non =>
   have e:y=V.non:=by simpa [Rep] using hy
   subst e
   cases ry
   exact ⟨(EqAt.same _),RcAt.none_none , RcNeAt.none_none ⟩
  | bl b =>
   have e:y=V.bl b:=by simpa [Rep] using hy
   subst e
   cases ry
   exact ⟨(EqAt.none_bool b),RcAt.none_bool b,RcNeAt.none_bool b⟩
  | int b =>
   have e:y=V.int b:=by simpa [Rep] using hy
   subst e
   obtain ⟨u,rfl⟩:=ry
   exact ⟨(EqAt.none_int b u),RcAt.none_int b u,RcNeAt.none_int b u⟩
  | str b =>
   have e:y=V.str b:=by simpa [Rep] using hy
   subst e
   obtain ⟨u,rfl⟩:=ry
   exact ⟨(EqAt.none_str b u),RcAt.none_str b u,RcNeAt.none_str b u⟩
  | lst b =>
   obtain ⟨pW,xsW,rfl,lW⟩:=rep_ref_l hy
   cases ry
   obtain ⟨itW,_,plW,_⟩:=I.list lW
   exact ⟨EqAt.none_list  plW.isList hu0,RcAt.none_list  plW.isList hu0,RcNeAt.none_list  plW.isList hu0⟩
  | tup b =>
   obtain ⟨pW,xsW,rfl,lW⟩:=rep_ref_t hy
   cases ry
   obtain ⟨itW,_,plW,_⟩:=I.tuple lW
   exact ⟨EqAt.none_tuple  plW hu0,RcAt.none_tuple  plW hu0,RcNeAt.none_tuple  plW hu0⟩
 | bl a =>
  have e:x=V.bl a:=by simpa [Rep] using hx
  subst e
  cases rx
  cases d' with
  | non =>
   have e:y=V.non:=by simpa [Rep] using hy
   subst e
   cases ry
   exact ⟨(EqAt.bool_none a),RcAt.bool_none a,RcNeAt.bool_none a⟩
  | bl b =>
   have e:y=V.bl b:=by simpa [Rep] using hy
   subst e
   cases ry
   exact ⟨(EqAt.bool_bool a b),RcAt.bool_bool a b,RcNeAt.bool_bool a b⟩
  | int b =>
   have e:y=V.int b:=by simpa [Rep] using hy
   subst e
   obtain ⟨u,rfl⟩:=ry
   exact ⟨(EqAt.bool_int a b u),RcAt.bool_int a b u,RcNeAt.bool_int a b u⟩
  | str b =>
   have e:y=V.str b:=by simpa [Rep] using hy
   subst e
   obtain ⟨u,rfl⟩:=ry
   exact ⟨(EqAt.bool_str a b u),RcAt.bool_str a b u,RcNeAt.bool_str a b u⟩
  | lst b =>
   obtain ⟨pW,xsW,rfl,lW⟩:=rep_ref_l hy
   cases ry
   obtain ⟨itW,_,plW,_⟩:=I.list lW
   exact ⟨EqAt.bool_list a plW.isList hu0,RcAt.bool_list a plW.isList hu0,RcNeAt.bool_list a plW.isList hu0⟩
  | tup b =>
   obtain ⟨pW,xsW,rfl,lW⟩:=rep_ref_t hy
   cases ry
   obtain ⟨itW,_,plW,_⟩:=I.tuple lW
   exact ⟨EqAt.bool_tuple a plW hu0,RcAt.bool_tuple a plW hu0,RcNeAt.bool_tuple a plW hu0⟩
 | int a =>
  have e:x=V.int a:=by simpa [Rep] using hx
  subst e
  obtain ⟨t,rfl⟩:=rx
  cases d' with
  | non =>
   have e:y=V.non:=by simpa [Rep] using hy
   subst e
   cases ry
   exact ⟨(EqAt.int_none a t),RcAt.int_none a t,RcNeAt.int_none a t⟩
  | bl b =>
   have e:y=V.bl b:=by simpa [Rep] using hy
   subst e
   cases ry
   exact ⟨(EqAt.int_bool a t b),RcAt.int_bool a t b,RcNeAt.int_bool a t b⟩
  | int b =>
   have e:y=V.int b:=by simpa [Rep] using hy
   subst e
   obtain ⟨u,rfl⟩:=ry
   exact ⟨(EqAt.int_int a t b u),RcAt.int_int a t b u,RcNeAt.int_int a t b u⟩
  | str b =>
   have e:y=V.str b:=by simpa [Rep] using hy
   subst e
   obtain ⟨u,rfl⟩:=ry
   exact ⟨(EqAt.int_str a t b u),RcAt.int_str a t b u,RcNeAt.int_str a t b u⟩
  | lst b =>
   obtain ⟨pW,xsW,rfl,lW⟩:=rep_ref_l hy
   cases ry
   obtain ⟨itW,_,plW,_⟩:=I.list lW
   exact ⟨EqAt.int_list a t plW.isList hu0,RcAt.int_list a t plW.isList hu0,RcNeAt.int_list a t plW.isList hu0⟩
  | tup b =>
   obtain ⟨pW,xsW,rfl,lW⟩:=rep_ref_t hy
   cases ry
   obtain ⟨itW,_,plW,_⟩:=I.tuple lW
   exact ⟨EqAt.int_tuple a t plW hu0,RcAt.int_tuple a t plW hu0,RcNeAt.int_tuple a t plW hu0⟩
 | str a =>
  have e:x=V.str a:=by simpa [Rep] using hx
  subst e
  obtain ⟨t,rfl⟩:=rx
  cases d' with
  | non =>
   have e:y=V.non:=by simpa [Rep] using hy
   subst e
   cases ry
   exact ⟨(EqAt.str_none a t),RcAt.str_none a t,RcNeAt.str_none a t⟩
  | bl b =>
   have e:y=V.bl b:=by simpa [Rep] using hy
   subst e
   cases ry
   exact ⟨(EqAt.str_bool a t b),RcAt.str_bool a t b,RcNeAt.str_bool a t b⟩
  | int b =>
   have e:y=V.int b:=by simpa [Rep] using hy
   subst e
   obtain ⟨u,rfl⟩:=ry
   exact ⟨(EqAt.str_int a t b u),RcAt.str_int a t b u,RcNeAt.str_int a t b u⟩
  | str b =>
   have e:y=V.str b:=by simpa [Rep] using hy
   subst e
   obtain ⟨u,rfl⟩:=ry
   exact ⟨(EqAt.str_str a t b u),RcAt.str_str a t b u,RcNeAt.str_str a t b u⟩
  | lst b =>
   obtain ⟨pW,xsW,rfl,lW⟩:=rep_ref_l hy
   cases ry
   obtain ⟨itW,_,plW,_⟩:=I.list lW
   exact ⟨EqAt.str_list a t plW.isList hu0,RcAt.str_list a t plW.isList hu0,RcNeAt.str_list a t plW.isList hu0⟩
  | tup b =>
   obtain ⟨pW,xsW,rfl,lW⟩:=rep_ref_t hy
   cases ry
   obtain ⟨itW,_,plW,_⟩:=I.tuple lW
   exact ⟨EqAt.str_tuple a t plW hu0,RcAt.str_tuple a t plW hu0,RcNeAt.str_tuple a t plW hu0⟩
 | lst a =>
  obtain ⟨pU,xsU,rfl,lU⟩:=rep_ref_l hx
  cases rx
  obtain ⟨itU,_,plU,_⟩:=I.list lU
  cases d' with
  | non =>
   have e:y=V.non:=by simpa [Rep] using hy
   subst e
   cases ry
   exact ⟨EqAt.list_none  plU.isList hu0,RcAt.list_none  plU.isList hu0,RcNeAt.list_none  plU.isList hu0⟩
  | bl b =>
   have e:y=V.bl b:=by simpa [Rep] using hy
   subst e
   cases ry
   exact ⟨EqAt.list_bool b plU.isList hu0,RcAt.list_bool b plU.isList hu0,RcNeAt.list_bool b plU.isList hu0⟩
  | int b =>
   have e:y=V.int b:=by simpa [Rep] using hy
   subst e
   obtain ⟨u,rfl⟩:=ry
   exact ⟨EqAt.list_int b u plU.isList hu0,RcAt.list_int b u plU.isList hu0,RcNeAt.list_int b u plU.isList hu0⟩
  | str b =>
   have e:y=V.str b:=by simpa [Rep] using hy
   subst e
   obtain ⟨u,rfl⟩:=ry
   exact ⟨EqAt.list_str b u plU.isList hu0,RcAt.list_str b u plU.isList hu0,RcNeAt.list_str b u plU.isList hu0⟩
  | lst b =>
   obtain ⟨pW,xsW,rfl,lW⟩:=rep_ref_l hy
   cases ry
   obtain ⟨itW,_,plW,_⟩:=I.list lW
   have hd:depDs a + 1≤n:=by simpa only [depD] using hd
   exact eq3_lists I (n:=n - 1) hu0 (fun d d' x y u v h=>ih d d' x y u v (by omega)) (by omega) hx hy
  | tup b =>
   obtain ⟨pW,xsW,rfl,lW⟩:=rep_ref_t hy
   cases ry
   obtain ⟨itW,_,plW,_⟩:=I.tuple lW
   exact ⟨EqAt.list_tuple plU.isList plW hu0,RcAt.list_tuple plU.isList plW hu0,RcNeAt.list_tuple plU.isList plW hu0⟩
 | tup a =>
  obtain ⟨pU,xsU,rfl,lU⟩:=rep_ref_t hx
  cases rx
  obtain ⟨itU,_,plU,_⟩:=I.tuple lU
  cases d' with
  | non =>
   have e:y=V.non:=by simpa [Rep] using hy
   subst e
   cases ry
   exact ⟨EqAt.tuple_none  plU hu0,RcAt.tuple_none  plU hu0,RcNeAt.tuple_none  plU hu0⟩
  | bl b =>
   have e:y=V.bl b:=by simpa [Rep] using hy
   subst e
   cases ry
   exact ⟨EqAt.tuple_bool b plU hu0,RcAt.tuple_bool b plU hu0,RcNeAt.tuple_bool b plU hu0⟩
  | int b =>
   have e:y=V.int b:=by simpa [Rep] using hy
   subst e
   obtain ⟨u,rfl⟩:=ry
   exact ⟨EqAt.tuple_int b u plU hu0,RcAt.tuple_int b u plU hu0,RcNeAt.tuple_int b u plU hu0⟩
  | str b =>
   have e:y=V.str b:=by simpa [Rep] using hy
   subst e
   obtain ⟨u,rfl⟩:=ry
   exact ⟨EqAt.tuple_str b u plU hu0,RcAt.tuple_str b u plU hu0,RcNeAt.tuple_str b u plU hu0⟩
  | lst b =>
   obtain ⟨pW,xsW,rfl,lW⟩:=rep_ref_l hy
   cases ry
   obtain ⟨itW,_,plW,_⟩:=I.list lW
   exact ⟨EqAt.tuple_list plU plW.isList hu0,RcAt.tuple_list plU plW.isList hu0,RcNeAt.tuple_list plU plW.isList hu0⟩
  | tup b =>
   obtain ⟨pW,xsW,rfl,lW⟩:=rep_ref_t hy
   cases ry
   obtain ⟨itW,_,plW,_⟩:=I.tuple lW
   have hd:depDs a + 1≤n:=by simpa only [depD] using hd
   exact eq3_tups I (n:=n - 1) hu0 (fun d d' x y u v h=>ih d d' x y u v (by omega)) (by omega) hx hy
end
section
variable {X:Cx} {pins:List (Addr×Obj)} {σ:St} {H:Hp} {s:Shared}
theorem eq3 (I:Inv X pins σ H s):∀(n:Nat) (A:Around) (d d':Dt) (x y:V) (u v:Value),A.units + n < cLine→depD d≤n→Rep X.K H d x→Rep X.K H d' y→RelV x u→RelV y v→Eq3 A s u v (eqDt d d'):=by
 intro n
 induction n with
 | zero=>exact fun A d d' x y u v hu hd hx hy rx ry=>eq3_step I (n:=0) (fun _ _ _ _ _ _ h=>absurd h (Nat.not_lt_zero _)) hu hd hx hy rx ry
 | succ n ih=>exact fun A d d' x y u v hu hd hx hy rx ry=>eq3_step I (n:=n + 1) (fun d d' x y u v h hx hy rx ry=>ih A.in1 d d' x y u v (by show A.units + 1 + n < cLine;omega) (Nat.le_of_lt_succ h) hx hy rx ry) hu hd hx hy rx ry
end
section
variable {X:Cx}
theorem op_eq_d {k:Nat} (hr:Room k X.A):OpR X (compareOp .Eq) (fun x y H Q=>∃d d',Rep X.K H d x∧Rep X.K H d' y∧depD d≤100∧Q (.bl (eqDt d d')) H):=by
 intro pins s σ H x y v u Q I rx ry h
 obtain ⟨d,d',h1,h2,hd,q⟩:=h
 exact (eq3 I 100 X.A d d' x y v u (by have:=hr.un;omega) hd h1 h2 rx ry).rc X.prog X.w X.xe _ ⟨.bl _,H,I,rfl,q⟩
end
end L2
namespace L2
open PySem PySem.Spec PyProof.Rows
def isW:V→Bool
 | .int _=>true
 | _=>false
def isIB:V→Bool
 | .int _=>true
 | .bl _=>true
 | _=>false
def isB:V→Bool
 | .bl _=>true
 | _=>false
def isS:V→Bool
 | .str _=>true
 | _=>false
theorem isW_eq (x:V):isW x=(isIB x && !isB x):=by cases x <;> rfl
section
variable {K:W.Frag} {H H':Hp} {x:V} {n:String}
theorem bt_int (h:TyOf K H x (.type n)):clsIs K (.type n) (.ty "int")=some (isIB x):=by cases h <;> rfl
theorem bt_bool (h:TyOf K H x (.type n)):clsIs K (.type n) (.ty "bool")=some (isB x):=by cases h <;> rfl
theorem bt_str (h:TyOf K H x (.type n)):clsIs K (.type n) (.ty "str")=some (isS x):=by cases h <;> rfl
theorem bt_list (h:TyOf K H x (.type n)):clsIs K (.type n) (.ty "list")=some (n == "list"):=by cases h <;> rfl
theorem bt_tuple (h:TyOf K H x (.type n)):clsIs K (.type n) (.ty "tuple")=some (n == "tuple"):=by cases h <;> rfl
theorem TyOf.same {t:Value} (e:Same H H') (h:TyOf K H x t):TyOf K H' x t:=by
 cases h with
 | non=>exact .non
 | bl b=>exact .bl b
 | int i=>exact .int i
 | str y=>exact .str y
 | flt y=>exact .flt y
 | lst q=>exact .lst (e _ _ q)
 | frz q=>exact .frz (e _ _ q)
 | tup q=>exact .tup (e _ _ q)
 | dK q=>exact .dK (e _ _ q)
 | dT q=>exact .dT (e _ _ q)
 | ins q c a b d m=>exact .ins (e _ _ q) c a b d m
end
theorem atI_0 {α:Type} {c:α} {cs:List α}:atI (c::cs) (0:Int)=some c:=atI_nat (j:=0) rfl
theorem atI_lt {α:Type} {xs:List α} {i:Int} (h0:0≤i) (h1:i < xs.length):∃v,atI xs i=some v∧v∈xs:=by
 obtain ⟨j,rfl⟩:∃j:Nat,i=(j:Int):=⟨i.toNat,by omega⟩
 have hj:j < xs.length:=by omega
 exact ⟨xs[j],atI_nat (by simp [hj]),List.getElem_mem hj⟩
theorem Same.new {H:Hp} {p:Addr} {o:HO} (h:H p=none):Same H (upd H p o):=fun b u e=>by
 rw [upd_ne (ne_of_none e h)]
 exact e
theorem Same.tup {K:W.Frag} {H H':Hp} {a:Addr} {xs:List V} (e:Same H H') (h:SqT K H a xs):SqT K H' a xs:=by
 rcases h with (h | ⟨o,h⟩) | h
 ·exact .inl (.inl (e _ _ h))
 ·exact .inl (.inr ⟨o,e _ _ h⟩)
 ·exact .inr h
def Off (p:Addr) (H H':Hp):Prop:=∀b,b≠p→H' b=H b
theorem Off.trans {p:Addr} {H H1 H2:Hp} (a:Off p H H1) (b:Off p H1 H2):Off p H H2:=fun c h=>(b c h).trans (a c h)
theorem Off.upd {p:Addr} {H:Hp} {o:HO}:Off p H (upd H p o):=fun _ h=>upd_ne h
theorem small_line {n:Nat} (h:n≤1000000):n≤sizeLine:=Nat.le_trans h (by decide)
theorem fnok_of {P:Program} {w:World} {K:W.Frag} {mg:Str→Option Value} {base:Heap} {CX:CXT} {x:Str} {ps:List Str} {sp:Sp} {k:Nat} {st:Stmt} {N:List Str} {f:Addr} {fd:FuncData}
  (F:Fun K x x st f fd) (S:FnScope N ps (defScope st)) (len:∀vs H Q E,sp vs H Q E→vs.length=ps.length)
  (hbody:∀(cdv:Value) (A:Around) (outer:List Env) (s:Shared) (H:Hp) (vs:List V) (Q:VK) (E:XK),Room k (A.deeper (envOfC x (defScope st) s.heap.objs.size f cdv))→sp vs H Q E →
   ∃t,PSs (cxOf CX P w K mg base N x (defScope st) f cdv A outer s H E).nox (defBody st) t∧t { nx:=fun _ H'=>Q .non H',rt:=Q } (start N vs) H):FnOk P w K mg base CX (k + 1) f fd ps sp:=by
 obtain ⟨oc,od,kV,doc,pm,an,cdv,ct,osl,rfl,lk,hcd⟩:=F.ex
 refine fn_of lk hcd S len fun A outer s H vs Q E hr hsp=>?_
 obtain ⟨t,h,q⟩:=hbody cdv A outer s H vs Q E hr hsp
 exact ⟨t,h.nox,q⟩
structure ExcF (B newId initId:String) (bm:List Value):Prop where
 call:ExcCallFacts B newId initId
 split:splitId newId=some (B, "__new__")
 kind:builtinKind newId=some .builtinFn
 row:Manifest.signature? newId=some ⟨.any,B,B,.cls,[⟨"args", .varPos,false⟩,⟨"kwargs", .varKw,false⟩]⟩
 hasB:bm.contains (.type B)=true
 hasE:bm.contains (.type "BaseException")=true
 noA:bm.contains (.type "AttributeError")=false
 noN:bm.contains (.type "NameError")=false
 canon:Manifest.canonical newId=Manifest.canonical "BaseException.__new__"
theorem ExcF.under {B newId initId:String} {bm:List Value} (F:ExcF B newId initId bm) (R:Addr):ExcF B newId initId (.ref R::bm) :=
 ⟨F.call,F.split,F.kind,F.row,by rw [List.contains_cons,F.hasB,Bool.or_true],by rw [List.contains_cons,F.hasE,Bool.or_true],by rw [List.contains_cons,F.noA];rfl,by rw [List.contains_cons,F.noN];rfl,F.canon⟩
section
variable {prog:Program} {w:World} {M:Model} {A:Around} {E:Value→Shared→Prop} {R:Result→Shared→Prop} {h:Heap} {g:Array GenState} {d:Drawn} {t:Nat} {os:OsState}
variable {nm q:Str} {C N:Addr} {bs bm:List Value} {hdct:Bool} {sn:List Str} {sub:List Value} {ab:Bool} {col:Option Bool} {dd:Option Addr} {k0 k1 k2 k3 k5:Option Value} {B newId initId:String}
theorem ExcF.has (F:ExcF B newId initId bm):(Value.ref C::bm).contains (.type B)=true:=by rw [List.contains_cons,F.hasB,Bool.or_true]
end
def excO (e C:Addr) (dx:Option Addr):HO:=.ext fun h=>∃t sl,h.get? e=some { cls:=.ref C,dict:=dx,data:=.fields #[.ref t,.none,.none,.none,.bool false,.none],slots:=sl }
def dctO (dx:Addr) (fs:List (Str×V)):HO:=.ext fun h=>∃mA,h.Ns1 dx mA∧(∀f,RelO (fs.lookup f) (mA f))∧PySem.Within mA (fs.map (·.1))∧fs.length≤100
section
variable {X:Cx} {CX:CXT} {k m:Nat} {f C:Addr} {fd:FuncData} {ps:List Str} {sp:Sp} {E:XK} {x:Str} {p pos:Pos} {e:Expr} {es:List Expr} {t:TA} {bm:List Value}
structure ExcG (K:W.Frag) (C:Addr):Prop where
 ga:W.findIn K (.ref C) "__getattribute__" = some (some (.builtin "BaseException.__getattribute__"))
 gb:W.findIn K (.ref C) "__getattr__" = some none
 mb:W.mroIn K C (.type "BaseException")=some true
 hd:W.hasDictIn K C=true
end
mutual
def pyD:Dt→PyData
 | .non=>.none
 | .bl b=>.bool b
 | .int i=>.int i
 | .str x=>.str x
 | .lst xs=>.list (pyDs xs)
 | .tup xs=>.tuple (pyDs xs)
def pyDs:List Dt→List PyData
 | []=>[]
 | x::xs=>pyD x::pyDs xs
end
structure ExcI (K:W.Frag) (C R:Addr):Prop where
 g:ExcG K C
 mro:(W.clsIn K C).map (·.mro)=some [.ref C,.ref R,.type "ValueError", .type "Exception", .type "BaseException", .type "object"]
 ty:W.typeIn K (.ref C)=some (.type "type")
 ha:W.findIn K (.ref C) "__class__" = some (some (.builtin "object.__class__"))
 hn:W.specialIn K (.builtin "object.__class__") "__get__" = some (some (.builtin "getset_descriptor.__get__"))
 tk:W.takesIn K (.builtin "object.__class__")=some true
section
variable {prog:Program} {w:World} {A:Around} {E:Value→Shared→Prop} {s:Shared} {K:W.Frag} {e C R D:Addr} {oe:Obj} {odo:Option Obj}
theorem ExcI.in (G:ExcI K C R) (b:Value):W.mroIn K C b=some ([Value.ref C,.ref R,.type "ValueError", .type "Exception", .type "BaseException", .type "object"].contains b):=by
 obtain ⟨cd,hc,hm⟩:=Option.map_eq_some_iff.mp G.mro
 unfold W.mroIn
 rw [hc,Option.bind_some,hm]
 rfl
end
def ExcAt (H:Hp) (x C:Addr) (fs:List (Str×V)):Prop:=(fs=[]∧H x=some (excO x C none))∨∃dx,H x=some (excO x C (some dx))∧H dx=some (dctO dx fs)∧dx≠x
theorem ExcAt.same {H H':Hp} {x C:Addr} {fs:List (Str×V)} (e:Same H H') (h:ExcAt H x C fs):ExcAt H' x C fs:=by
 rcases h with ⟨a,b⟩ | ⟨dx,a,b,c⟩
 ·exact .inl ⟨a,e _ _ b⟩
 ·exact .inr ⟨dx,e _ _ a,e _ _ b,c⟩
section
variable {X:Cx}
theorem op_mul_str:OpR X (binaryOp .Mult) (fun x y H Q=>∃z n,x=.str z∧y=.int n∧MulOk z n∧Q (.str (Txt.mul z n)) H):=by
 intro pins s σ H x y v u Q I rx ry h
 obtain ⟨z,n,rfl,rfl,ok,q⟩:=h
 obtain ⟨t,rfl⟩:=rx
 obtain ⟨t',rfl⟩:=ry
 exact SB.mul ok fun t'' k=>⟨.str _,H,I.tok _,⟨_,rfl⟩,q⟩
end
structure Shm (m d:Nat) (x:PyData):Prop where
 sh:x.showable=true
 ln:x.shown.length≤m
 dp:x.depth≤d
structure New (H H':Hp) (p:Addr) (o:HO):Prop where
 s:Same H H'
 e:H' p=some o
 n:∀a u,H a=some u→a≠p
theorem New.mk' {H:Hp} {p:Addr} {o:HO} (h:H p=none):New H (upd H p o) p o:=⟨Same.new h,upd_same,fun a u q=>ne_of_none q h⟩
section
variable {X:Cx} {es:List Expr} {t:TA} {pos:Pos}
def tTupA (t:TA):TE:=fun σ H Q=>t σ H fun xs H1=>xs.length≤sizeLine∧∀p H',New H1 H' p (.tup xs)→Q (.ref p) H'
def tLstA (t:TA):TE:=fun σ H Q=>t σ H fun xs H1=>xs.length≤sizeLine∧∀p H',New H1 H' p (.lst xs)→Q (.ref p) H'
theorem pe_tupA {x1} (h:PA X es t):PE X (.Tuple es x1 pos) (tTupA t):=by
 intro pins s σ H Q I hq
 refine wpAny_Tuple_spliced (thn (h pos pins s σ H _ I hq) fun us s1 ⟨xs,H1,I1,r,z,q⟩=>⟨by rw [← r.length];exact z,?_⟩)
 have hf:H1 s1.heap.objs.size=none:=I1.hok.fresh (Nat.le_refl _)
 refine ⟨.ref s1.heap.objs.size,upd H1 s1.heap.objs.size (.tup xs),I1.laid (t':=s1.toks) (fun b u e=>Heap.get?_push_of_some _ e) (Nat.le_refl _) ?_,rfl,q _ _ (.mk' hf)⟩
 exact ⟨z,us,r,⟨_,Heap.get?_push_size _ rfl,rfl,_,rfl⟩⟩
theorem pe_lstA (h:PA X es t):PE X (.List es pos) (tLstA t):=by
 intro pins s σ H Q I hq
 refine wpAny_List_spliced (thn (h pos pins s σ H _ I hq) fun us s1 ⟨xs,H1,I1,r,z,q⟩=>⟨by rw [← r.length];exact z,?_⟩)
 have hf:H1 s1.heap.objs.size=none:=I1.hok.fresh (Nat.le_refl _)
 refine ⟨.ref s1.heap.objs.size,upd H1 s1.heap.objs.size (.lst xs),I1.laid (t':=s1.toks) (fun b u e=>Heap.get?_push_of_some _ e) (Nat.le_refl _) ?_,rfl,q _ _ (.mk' hf)⟩
 exact ⟨z,us,0,r,Heap.get?_push_size _ rfl⟩
def rCatA:R2:=fun x y H Q=>∃l b xs zs,x=.ref l∧y=.ref b∧H l=some (.lst xs)∧H b=some (.lst zs)∧xs.length + zs.length≤sizeLine∧∀p H',New H H' p (.lst (xs++zs))→Q (.ref p) H'
theorem op_catA:OpR X (binaryOp .Add) rCatA:=by
 intro pins s σ H x y v u Q I rx ry h
 obtain ⟨l,b,xs,zs,e1,e2,hH,hB,hz,q⟩:=h
 exact op_cat pins s σ H x y v u Q I rx ry ⟨l,b,xs,zs,e1,e2,hH,hB,hz,fun p hp=>q p _ (.mk' hp)⟩
def rRepA:R2:=fun x y H Q=>∃l k xs,x=.ref l∧y=.int k∧H l=some (.lst xs)∧-(2 ^ 63)≤k∧k < 2 ^ 63∧xs.length * k.toNat≤sizeLine∧∀p H',New H H' p (.lst (List.replicate k.toNat xs).flatten)→Q (.ref p) H'
theorem op_repA:OpR X (binaryOp .Mult) rRepA:=by
 intro pins s σ H x y v u Q I rx ry h
 obtain ⟨l,k,xs,e1,e2,hH,h1,h2,hz,q⟩:=h
 exact op_rep pins s σ H x y v u Q I rx ry ⟨l,k,xs,e1,e2,hH,h1,h2,hz,fun p hp=>q p _ (.mk' hp)⟩
def rAppA:V→List V→Hp→VK→Prop:=fun x vs H Q=>∃l xs y,x=.ref l∧vs=[y]∧H l=some (.lst xs)∧xs.length < sizeLine∧∀H',Off l H H'→H' l=some (.lst (xs++[y]))→Q .non H'
theorem mt_appendA:MtM X "list.append" rAppA:=by
 intro pins s σ H x vs v us Q I rx rv h
 obtain ⟨l,xs,y,e1,e2,hH,hz,q⟩:=h
 exact mt_append pins s σ H x vs v us Q I rx rv ⟨l,xs,y,e1,e2,hH,hz,q _ Off.upd upd_same⟩
theorem pe_appendA {o e:Expr} {to te:TE} {apos cpos:Pos} (ho:PE X o to) (he:PE X e te) (hbase:attributeBase o "append" X.env (eval o X.env)=eval o X.env:=by rfl)
  (hfew:((backTo cpos (starEach [e] X.env)).all (fun x=>!x.1) && (backToKw cpos (keywordEach [] X.env)).all (fun x=>x.1.isSome)
   && decide (([e]:List Expr).length + ([]:List Keyword).length + (if ([]:List Keyword).isEmpty then 0 else 1) < 30))=true:=by rfl)
  (hline:(apos.endLine == cpos.line)=true:=by rfl) (hs:starEach [e] X.env=(false,eval e X.env)::starEach [] X.env:=by rfl) :
  PE X (.Call (.Attribute o "append" apos) [e] [] cpos) (tBM X.K "list" rAppA to (tCons te tNil)) :=
 pe_bm PySem.F.plainAttrs_list PySem.F.slot_list_append PySem.F.type_list_append mt_appendA ho (pa_cons he pa_nil hs) hbase hfew hline hs (by rfl)
end
def Tel (t:TE) (σ:St) (H:Hp) (v:V):Prop:=∀Q:VK,Q v H→t σ H Q
def TelA (t:TA) (σ:St) (H:Hp) (vs:List V):Prop:=∀Q:List V→Hp→Prop,Q vs H→t σ H Q
section
variable {σ σ':St} {H:Hp} {v x y:V} {vs:List V} {t ta tb:TE} {tr:TA} {i j:Nat} {a C:Addr} {f g:Str} {fs:List (Str×V)} {Q:VK} {D:Ends} {s u:TS} {K:W.Frag} {tg:TG} {c:TT}
theorem rd_var (h:σ[i]?=some (some v)):Tel (tVar i) σ H v:=fun Q q=>⟨v,h,q⟩
theorem rd_c:Tel (tC v) σ H v:=fun Q q=>q
theorem rda_nil:TelA tNil σ H []:=fun Q q=>q
theorem rda_cons (h:Tel t σ H v) (k:TelA tr σ H vs):TelA (tCons t tr) σ H (v::vs):=fun Q q=>h _ (k _ q)
theorem go_cons {Q:List V→Hp→Prop} (h:t σ H fun x H1=>tr σ H1 fun xs H2=>Q (x::xs) H2):tCons t tr σ H Q:=h
theorem go_nil {Q:List V→Hp→Prop} (h:Q [] H):tNil σ H Q:=h
theorem go_seq (h:s { D with nx:=u D } σ H):tSeq s u D σ H:=h
theorem go_nx {nx bk ct:St→Hp→Prop} {rt:VK} (h:nx σ H):(Ends.mk nx rt bk ct).nx σ H:=h
theorem go_next (h:D.nx σ H):tNext D σ H:=h
theorem go_asg (h:t σ H fun x H1=>tg x σ H1 D.nx):tAsg t tg D σ H:=h
theorem go_tupA (h:tr σ H fun xs H1=>xs.length≤sizeLine∧∀p H',New H1 H' p (.tup xs)→Q (.ref p) H'):tTupA tr σ H Q:=h
theorem go_lstA (h:tr σ H fun xs H1=>xs.length≤sizeLine∧∀p H',New H1 H' p (.lst xs)→Q (.ref p) H'):tLstA tr σ H Q:=h
theorem go_op {r:R2} (h:ta σ H fun x H1=>tb σ H1 fun y H2=>r x y H2 Q):tOp r ta tb σ H Q:=h
theorem go_ret (h:t σ H D.rt):tRet t D σ H:=h
theorem go_drop (h:t σ H fun _ H1=>D.nx σ H1):tDrop t D σ H:=h
theorem go_if (h:c σ H fun b H1=>if b=true then s D σ H1 else u D σ H1):tIfS c s u D σ H:=h
theorem go_test {Q:Bool→Hp→Prop} (h:t σ H fun x H'=>∃k,x=.bl k∧Q k H'):tTest t σ H Q:=h
theorem go_b {Q:Bool→Hp→Prop} (h:t σ H fun x H'=>∃k,x=.bl k∧Q k H'):tB t σ H Q:=h
theorem go_cb {r:List V→Hp→VK→Prop} (h:tr σ H fun vs H1=>r vs H1 Q):tCB r tr σ H Q:=h
end
section
variable {σ:St} {H:Hp} {te:TE} {tr:TA} {Q:VK} {c:TT} {fr:List Nat} {fvs:St} {n:Nat}
theorem rangeV_get {i:Nat} {x:V} (h:(rangeV 0 n)[i]?=some x) (hi:i < n):x=.int i:=by
 have:(rangeV 0 n)[i]?=some (V.int (0 + (i:Int))):=by simp [rangeV,hi]
 rw [this] at h
 have:=Option.some.inj h
 rw [← this,Int.zero_add]
theorem go_map_range {F:Nat→V} (hr:TelA tr σ H [.int (n:Int)]) (hn:n < 2 ^ 62) (hz:n≤1000000) (hf:(fr.map fun i=>(σ[i]?).getD none)=fvs)
  (turn:∀i H',i < n→Same H H'→Tel te (some (.int i)::fvs) H' (F i)) (k:∀p H',New H H' p (.lst ((List.range n).map F))→Q (.ref p) H'):tComp (iRng1 tr) 1 fr (gName 0) tTrue te σ H Q:=by
 refine hr _ ⟨n,rfl,by omega,by omega,fun acc hacc=>?_⟩
 subst hf
 rw [Int.toNat_natCast]
 refine comp_by items_range (fun i ys H'=>H'=upd H acc (.lst ys)∧ys=(List.range i).map F) ⟨rfl,rfl⟩ (fun i ys H' _ h=>⟨trivial,by rw [h.1];exact upd_same⟩) ?_ ?_
 ·rintro i x tv ys H' hx hi ⟨rfl,rfl⟩ htv
  obtain ⟨tv0,rfl⟩:∃a,tv=[a]:=List.length_eq_one_iff.mp htv
  have hi':i < n:=by simpa [rangeV] using hi
  obtain rfl:=rangeV_get hx hi'
  unfold gName tTrue
  dsimp only
  rw [if_pos rfl]
  refine turn i _ hi' (Same.new hacc) _ ⟨?_,upd_same,?_⟩
  ·rw [List.length_map,List.length_range]
   exact Nat.lt_of_lt_of_le hi' (small_line hz)
  ·exact CompW.next (tv:=[some (V.int i)]) hi ⟨upd_upd,by rw [List.range_succ,List.map_append];rfl⟩ rfl
 ·rintro ys H' ⟨rfl,rfl⟩
  rw [show (rangeV 0 n).length=n by simp [rangeV]]
  exact k acc _ (.mk' hacc)
end
def excT (a C:Addr) (dx:Option Addr):HO:=.ext fun h=>∃oe vs,h.get? a=some oe∧oe.cls=.ref C∧oe.dict=dx∧oe.data=.fields vs
def ExcT (H:Hp) (x C:Addr) (fs:List (Str×V)):Prop:=(fs=[]∧H x=some (excT x C none))∨∃dx,H x=some (excT x C (some dx))∧H dx=some (dctO dx fs)∧dx≠x
theorem ExcT.same {H H':Hp} {x C:Addr} {fs:List (Str×V)} (e:Same H H') (h:ExcT H x C fs):ExcT H' x C fs:=by
 rcases h with ⟨a,b⟩ | ⟨dx,a,b,c⟩
 ·exact .inl ⟨a,e _ _ b⟩
 ·exact .inr ⟨dx,e _ _ a,e _ _ b,c⟩
structure Caught (X:Cx) (pins:List (Addr×Obj)) (σ:St) (H:Hp) (s:Shared) (a C:Addr) (dx:Option Addr):Prop where
 I:Inv X pins σ H s
 ha:H a=some (excT a C dx)
 tb:∃T oe vs oT ts,s.heap.get? a=some oe∧oe.data=.fields vs∧vs[1]?=some (.ref T)∧s.heap.get? T=some oT∧oT.data=.fields ts∧3 < ts.size∧H T=none∧T≠X.env.locals∧(T∈X.ex∨X.s₀.heap.objs.size≤T)∧(∀x c,X.env.cells.lookup x=some c→c≠T)∧∀p∈X.pn++pins,p.1≠T
section
variable {X:Cx} {x n:Str} {d:Addr} {i:Nat} {b₀:Stmt} {suite:List Stmt} {rest:List ExceptHandler} {th:Addr→TS} {tr:THd} {p pos:Pos}
theorem Caught.type {pins:List (Addr×Obj)} {σ:St} {H:Hp} {s:Shared} {a C:Addr} {dx:Option Addr} (c:Caught X pins σ H s a C dx):W.Looks (model X.prog X.w) s.heap (typeOf (.ref a)) (.ref C):=by
 obtain ⟨⟨oe,vs,ge,gc,gd,gf⟩,_,_⟩:ObjOk X.prog X.w H s.heap a (excT a C dx):=c.I.hok a _ c.ha
 exact gc▸(W.Looks.ld ge).andThen .now
end
def rIsT (K:W.Frag):List V→Hp→VK→Prop:=fun xs H Q=>∃x d t b,xs=[x,d]∧TyOf K H x t∧clsIs K t d=some b∧Q (.bl b) H
theorem call_isT {X:Cx}:CallR X (.builtin "isinstance") (rIsT X.K):=call_isinstance
theorem vals_by:∀{xs:List V} {us:List Value},xs.length=us.length→(∀(j:Nat) (x:V) (u:Value),xs[j]?=some x→us[j]?=some u→RelV x u)→Vals xs us
 | [],[],_,_=>.nil
 | [],_::_,h,_=>nomatch h
 | _::_,[],h,_=>nomatch h
 | x::xs,u::us,h,f=>.cons (f 0 x u rfl rfl) (vals_by (Nat.succ.inj h) fun j y z e1 e2=>f (j + 1) y z (by simpa using e1) (by simpa using e2))
section
variable {X:Cx} {pins:List (Addr×Obj)} {σ:St} {H:Hp} {s:Shared} {h':Heap} {t':Nat} {ch:List Addr}
theorem Inv.turnedN (I:Inv X pins σ H s) (hf:∀b∈ch,FpOk X pins H b) (k:∀b o,b ∉ ch→s.heap.get? b=some o→h'.get? b=some o):Inv X pins σ H { s with heap:=h',toks:=t' }:=by
 have off:∀b u,H b=some u→b ∉ ch:=fun b u e z=>by
  rw [(hf b z).1] at e
  cases e
 refine I.step (g':=s.gens) (d':=s.drawn) (ch:=ch) (fun b hb=>?_) (fun b o _ _ hc e _=>k b o hc e) (fun b o _ _ hc e _=>⟨o.slots,k b o hc e⟩) (fun _ _ _ _ n=>n)
  (fun b o hc e=>⟨o,k b o hc e⟩) (fun _ _ e=>e) (fun _ _ _ e=>e) (fun b ps e=>⟨#[],by rw [e];simp⟩) (fun m hm=>?_) (fun b u e=>?_) I.bare
 ·obtain ⟨_,f1,_,f3,f4,f5⟩:=hf b hb
  exact ⟨f3,f1,f4,f5⟩
 ·obtain ⟨o,es,ep,ho,r⟩:=hm
  exact ⟨o,es,ep,k _ o (fun z=>(hf _ z).2.1 rfl) ho,r⟩
 ·refine (I.hok b u e).stay (fun c v hc q=>k c v ?_ q) (fun _ q=>q) fun _ _ q=>q
  rcases hc with z | z
  ·rw [z];exact off b u e
  ·exact off c _ z
theorem Inv.turnedLaid {a:Addr} {o:HO} (I:Inv X pins σ H s) (hf:∀b∈ch,FpOk X pins H b) (k:∀b o,b ∉ ch→s.heap.get? b=some o→h'.get? b=some o) (ha:s.heap.objs.size≤a)
  (new:ObjOk X.prog X.w (upd H a o) h' a o):Inv X pins σ (upd H a o) { s with heap:=h',toks:=t' }:=by
 have I1:Inv X pins σ H { s with heap:=h',toks:=t' }:=I.turnedN hf k
 have hn:H a=none:=I.hok.fresh ha
 refine I.step (g':=s.gens) (d':=s.drawn) (ch:=ch) (fun b hb=>?_) (fun b u _ _ hc e _=>k b u hc e) (fun b u _ _ hc e _=>⟨u.slots,k b u hc e⟩)
  (fun b u _ e n=>by rw [upd_ne (Nat.ne_of_lt (Nat.lt_of_lt_of_le (Heap.lt_size e) ha))];exact n)
  (fun b u hc e=>⟨u,k b u hc e⟩) (fun b xs e=>by rw [upd_ne (ne_of_none e hn)];exact e) (fun b u x e=>by rw [upd_ne (ne_of_none e hn)];exact e)
  (fun b ps e=>⟨#[],by rw [upd_ne (ne_of_none e hn),e];simp⟩) (fun m hm=>?_) (fun b u e=>?_) I.bare
 ·obtain ⟨_,f1,_,f3,f4,f5⟩:=hf b hb
  exact ⟨f3,f1,f4,f5⟩
 ·obtain ⟨u,es,ep,ho,r⟩:=hm
  exact ⟨u,es,ep,k _ u (fun z=>(hf _ z).2.1 rfl) ho,r⟩
 ·by_cases hb:b=a
  ·subst hb
   rw [upd_same] at e
   cases e
   exact new
  ·rw [upd_ne hb] at e
   exact (I1.hok b u e).stay (fun _ _ _ q=>q) (fun c q=>by rw [upd_ne (ne_of_none q hn)];exact q) fun c xs q=>by rw [upd_ne (ne_of_none q hn)];exact q
end
def Ite (K:W.Frag) (a:Addr) (xs:List V):It :=
 ⟨fun i H=>SqL K H a xs∧i < xs.length,fun i H x H'=>∃T v,x=.ref T∧xs[i]?=some v∧New H H' T (.tup [.int i,v]),fun i H=>SqL K H a xs∧xs.length≤i⟩
theorem turn_enum {P:Program} {w:World} {K:W.Frag} {elts:List Expr} {x1} {pos:Pos} (a e it:Addr) (xs:List V) (hei:e≠it) :
  Turn P w K (.Tuple elts x1 pos) (Ite K a xs) [e,it] e (fun i h=>(∃old,IsEnum h e it i old)∧h.IsListIter it a i) where
 mem:=by simp
 obj:=fun i h st b hb=>by
  obtain ⟨⟨old,he⟩,o,hi,hc,hd⟩:=st
  rcases List.mem_cons.mp hb with rfl | hb
  ·exact ⟨_,he,fun v z=>by
    have z':Data.fields _=Data.cell v:=z
    cases z'⟩
  ·rw [List.mem_singleton.mp hb]
   exact ⟨o,hi,fun v z=>by rw [hd] at z;cases z⟩
 keep:=fun i h h' st k=>by
  obtain ⟨⟨old,he⟩,hi⟩:=st
  exact ⟨⟨old,k e (by simp) _ he⟩,hi.at fun o q=>k it (by simp) o q⟩
 item:=by
  intro X hP hw hK hc i pins s σ H E I hf st hg
  subst hP hw hK
  obtain ⟨⟨old,he⟩,hi⟩:=st
  obtain ⟨hq,hlt⟩:=hg
  obtain ⟨its,rv,p,hz⟩:=I.list hq
  have hx:xs[i]?=some xs[i]:=by simp [hlt]
  generalize xs[i]=x at hx
  obtain ⟨u,hu,ru⟩:=rv.get hx
  refine wpAny_pyNext_enum_item he hi p.isList (x:=u) (by simpa using hu) hei fun h1 ho hi1 hT hsz hk=>?_
  refine ⟨_,rfl,wpAny_letOwnedTupleGo_enum ho fun h2 he2 hs2=>?_⟩
  have neT:s.heap.objs.size≠e:=Nat.ne_of_gt (Heap.lt_size he)
  have hT2:=(hs2.2 _ neT).trans hT
  have k2:∀b o,b ∉ [e,it]→s.heap.get? b=some o→h2.get? b=some o:=fun b o hb q=>by
   simp only [List.mem_cons,List.not_mem_nil,or_false,not_or] at hb
   exact (hs2.2 b hb.1).trans (hk b o hb.1 hb.2 q)
  have new:ObjOk X.prog X.w (upd H s.heap.objs.size (.tup [.int i,x])) h2 s.heap.objs.size (.tup [.int i,x]) :=
   ⟨by show 2≤sizeLine;decide,[.int i s.toks,u],.cons ⟨_,rfl⟩ (.cons ru .nil),⟨_,hT2,rfl,_,rfl⟩⟩
  refine ⟨.ref s.heap.objs.size,_,I.turnedLaid (t':=s.toks + 1) hf k2 (Nat.le_refl _) new,rfl,⟨_,x,rfl,hx,.mk' (I.hok.fresh (Nat.le_refl _))⟩,⟨⟨u,by simpa using he2⟩,hi1.at fun o q=>(hs2.2 it hei.symm).trans q⟩,fun b hb=>?_⟩
  have hbn:=(hf b hb).1
  have hb':b < s.heap.objs.size:=by
   rcases List.mem_cons.mp hb with rfl | hb
   ·exact Heap.lt_size he
   ·rw [List.mem_singleton.mp hb]
    obtain ⟨o,q,_⟩:=hi
    exact Heap.lt_size q
  rw [upd_ne (Nat.ne_of_lt hb')]
  exact hbn
 done:=by
  intro X hP hw hK hc i pins s σ H E I hf st hg
  subst hP hw hK
  obtain ⟨⟨old,he⟩,hi⟩:=st
  obtain ⟨hq,hle⟩:=hg
  obtain ⟨its,rv,p,hz⟩:=I.list hq
  have hl:=rv.length
  refine wpAny_pyNext_enum_end (I.ok.hd hc) he hi p.isList (by simp;omega) fun h' eb=>⟨rfl,I.turnedN (t':=s.toks) (ch:=[e,it]) hf fun b o hb q=>eb b o (fun z=>hb (by simp [z])) q⟩
 self:=fun _ _ _ _ _ st h=>by
  obtain ⟨⟨old,he⟩,_⟩:=st
  exact wpAny_pyIter_enum he h
theorem boot_enum:bootBuiltins "enumerate" = some (.type "enumerate"):=by decide +kernel
def iEnum (K:W.Frag) (ta:TA):TI:=fun σ H R=>ta σ H fun vs H1=>∃a xs,vs=[.ref a]∧SqL K H1 a xs∧R (Ite K a xs) H1
theorem pi_enum {X:Cx} {elts:List Expr} {x1} {tpos:Pos} {a:Expr} {ta:TA} {p pos:Pos} (hg:Gl X "enumerate") (hm:X.mg "enumerate" = none) (ha:PA X [a] ta) (hs:starEach [a] X.env=[(false,eval a X.env)]:=by rfl) :
  PI X (.Tuple elts x1 tpos) (.Call (.Name "enumerate" p) [a] [] pos) (iEnum X.K ta):=by
 intro pins s σ H R I h
 refine Call_ (ld_blt I hg hm boot_enum (PyProof.Rows.callWith_type1 (thn (ha pos pins s σ H _ I h) fun us s1 ⟨vs,H1,I1,r1,q1⟩=>?_) hs rfl))
 obtain ⟨l,xs,e,hq,q⟩:=q1
 subst e
 obtain ⟨u,rfl,r⟩:=vals1 r1
 cases r
 obtain ⟨its,rv,pl,hz⟩:=I1.list hq
 refine call_enumerate_list pl.isList fun h' he hi hsz hk=>?_
 have I2:Inv X pins σ H1 { s1 with heap:=h' }:=I1.kept (t':=s1.toks) hk
 refine wpAny_pyIter_enum he ?_
 refine ⟨s1.heap.objs.size + 1,[s1.heap.objs.size + 1,s1.heap.objs.size],_,Ite X.K l xs,H1,rfl,I2,turn_enum l _ _ xs (Nat.succ_ne_self _),⟨⟨.none,he⟩,hi⟩,fun b hb=>?_,q⟩
 have hb':s1.heap.objs.size≤b:=by
  rcases List.mem_cons.mp hb with rfl | hb
  ·exact Nat.le_succ _
  ·rw [List.mem_singleton.mp hb]
   exact Nat.le_refl _
 exact I1.fpOk hb' (I1.hok.fresh hb')
theorem for_enum {K:PySem.W.Frag} {a:Addr} {xs:List V} {g:TG} {tb:TS} {D:Ends} {σ:St} {H:Hp} (Pv:Nat→St→Hp→Prop) (h0:Pv 0 σ H) (hl:∀i σ H,i≤xs.length→Pv i σ H→SqL K H a xs)
  (hs:∀i x T σ H H',xs[i]?=some x→Pv i σ H→New H H' T (.tup [.int i,x])→g (.ref T) σ H' fun σ2 H2=>tb { D with nx:=Pv (i + 1),ct:=Pv (i + 1),bk:=D.nx } σ2 H2) (hd:∀σ H,Pv xs.length σ H→D.nx σ H) :
  ∃W:Nat→Nat→St→Hp→Prop,(∃m,W 0 m σ H)∧∀i m σ H,W i m σ H →
   ((Ite K a xs).stop i H∧D.nx σ H)∨((Ite K a xs).go i H∧∃N:St→Hp→Prop,(∀σ' H',N σ' H'→∃m',m' < m∧W (i + 1) m' σ' H')∧∀x H',(Ite K a xs).yld i H x H'→g x σ H' fun σ2 H2=>tb { D with nx:=N,ct:=N,bk:=D.nx } σ2 H2):=by
 refine ⟨fun i m σ H=>m=xs.length - i∧i≤xs.length∧Pv i σ H,⟨xs.length,by simp,Nat.zero_le _,h0⟩,?_⟩
 rintro i m σ H ⟨rfl,hi,p⟩
 have q:=hl i σ H hi p
 by_cases hlt:i < xs.length
 ·refine .inr ⟨⟨q,hlt⟩,Pv (i + 1),fun σ' H' p'=>⟨xs.length - (i + 1),by omega,rfl,hlt,p'⟩,fun x H' y=>?_⟩
  obtain ⟨T,v,rfl,hv,n⟩:=y
  exact hs i v T σ H H' hv p n
 ·have e:i=xs.length:=by omega
  subst e
  exact .inl ⟨⟨q,Nat.le_refl _⟩,hd σ H p⟩
theorem boot_reversed:bootBuiltins "reversed" = some (.type "reversed"):=by decide +kernel
theorem lri_no_len:typeLookup (.type "list_reverseiterator") (Str.ofString "__len__")=pure none:=by rw [typeLookup_type,builtinLookup_eq_fast];kernel_rfl
theorem lri_hint:typeLookup (.type "list_reverseiterator") (Str.ofString "__length_hint__")=pure (some (.builtin "list_reverseiterator.__length_hint__")):=by rw [typeLookup_type,builtinLookup_eq_fast];kernel_rfl
theorem hint_rev {prog:Program} {w:World} {A:Around} {E:Value→Shared→Prop} {s:Shared} {r:Addr} {Q:Bool→Shared→Prop} (hT:s.TypeIs (.ref r) "list_reverseiterator") (h:Q false s) :
  wpAny (model prog w) A (Builtin.List.listLengthHint (.ref r)) Q E s:=by
 unfold Builtin.List.listLengthHint
 refine wpAny_bind (wpAny_specialOf hT lri_no_len ?_)
 show wpAny _ _ (specialOf (Value.ref r) (Str.ofString "__length_hint__") >>= _) _ _ _
 refine wpAny_bind (wpAny_specialOf hT lri_hint ?_)
 generalize hid:("list_reverseiterator.__length_hint__" : String)=id0
 wp_delta
 rw [show splitId id0=some ("list_reverseiterator", "__length_hint__") from by subst hid;decide +kernel]
 subst hid
 refine wpAny_bind (wpAny_isInstance (T := "list_reverseiterator") (b:=true) hT (by rw [isSubtype_type];kernel_rfl) ?_)
 refine wpAny_ite_split (fun hab=>absurd hab (by decide)) (fun _=>?_)
 refine wpAny_ite_split (fun _=>?_) (fun hab=>absurd (by decide +kernel) hab)
 refine wpAny_ite_split (fun hab=>absurd hab (by decide +kernel)) (fun _=>?_)
 exact wpAny_pure h
section
variable {prog:Program} {w:World} {A:Around} {E:Value→Shared→Prop} {s:Shared} {I l S:Addr} {items:Array Value}
theorem extend_rev {R:Result→Shared→Prop} {c₀:Nat} {res:Value} (hh:A.handled=none) (hI:s.heap.IsRevIter I l ((items.size:Int) - 1)) (hl:s.heap.IsList l items) (hne:l≠I) (hSI:S≠I) (hSl:S≠l)
  (hS:s.heap.get? S=some { cls:=.type "list", data:=.seq #[] c₀ }) (hn:items.size≤sizeLine)
  (hR:∀h' tk acc' c',(∀b o,b≠S→b≠I→s.heap.get? b=some o→h'.get? b=some o)→h'.get? S=some { cls:=.type "list", dict:=none,data:=.seq acc' c',slots:=#[] }→PySem.ItemsOf (fun i v=>items[items.size - 1 - i]?=some v) acc' items.size →
   R (.ok (.ret res)) { s with heap:=h',toks:=tk }) :
  wpAny (model prog w) A.in1 (Builtin.List.listExtendWith (.ref S) (.ref I) res)
   (fun fin s'=>match fin with | .done f=>R (.ok f) s' | .again c'=>c'.quiet=true∧codeAny (model prog w) A c' R s') (fun e s'=>R (.error e) s') s:=by
 have W:=Walks.listRev (prog:=prog) (w:=w) (A:=A.in1) hh I l hne items
 have hSf:S ∉ [I,l]:=by simp [hSI,hSl]
 have st:(0:Nat)≤items.size∧s.heap.IsRevIter I l ((items.size:Int) - 1 - ((0:Nat):Int))∧s.heap.IsList l items:=⟨Nat.zero_le _,by simpa using hI,hl⟩
 have fin:codeAny (model prog w) A (.builtin "list.extend.loop" ⟨[.ref S,.ref I,res],[]⟩) R s:=by
  refine codeAny_extend_loopS W.toS hn S hSf res items.size 0 _ #[] c₀ rfl (Nat.zero_le _) st hS (PySem.ItemsOf.nil _) fun s' acc' c' hm hS' hacc=>?_
  rw [Moved.eq_with hm]
  exact hR s'.heap s'.toks acc' c' (fun b o h1 h2 q=>hm.heap b o (by simp [h1,h2]) q) hS' hacc
 unfold Builtin.List.listExtendWith
 refine wpAny_bind (wpAny_typeOf (T := "list_reverseiterator") hI.typeIs ?_)
 have h1:Builtin.List.listSameRef (.ref S) (.ref I)=false:=by simp [Builtin.List.listSameRef,hSI]
 have h2:(Value.type "list_reverseiterator" == Value.type "list")=false:=by decide
 have h3:(Value.type "list_reverseiterator" == Value.type "tuple")=false:=by decide
 simp only [h1,h2,h3,Bool.or_false,Bool.false_eq_true,if_false]
 refine wpAny_bind (wpAny_pyIter_revIter hI ?_)
 refine wpAny_bind (wpAny_holding (hint_rev hI.typeIs ?_))
 refine wpAny_ite_split (fun hab=>absurd hab (by first | decide | decide +kernel)) (fun _=>?_)
 exact wpAny_pure ⟨plainId_quiet PySem.F.plain_extend_loop _,fin⟩
theorem init_rev {R:Result→Shared→Prop} (hh:A.handled=none) (hI:s.heap.IsRevIter I l ((items.size:Int) - 1)) (hl:s.heap.IsList l items) (hne:l≠I) (hSI:S≠I) (hSl:S≠l)
  (hS:s.heap.get? S=some { cls:=.type "list", data:=.seq #[] }) (hn:items.size≤sizeLine)
  (hR:∀h' tk acc' c',(∀b o,b≠S→b≠I→s.heap.get? b=some o→h'.get? b=some o)→h'.get? S=some { cls:=.type "list", dict:=none,data:=.seq acc' c',slots:=#[] }→PySem.ItemsOf (fun i v=>items[items.size - 1 - i]?=some v) acc' items.size →
   R (.ok (.ret .none)) { s with heap:=h',toks:=tk }) :
  wpAny (model prog w) A.in1 (Builtin.«list.__init__» ⟨[.ref S,.ref I],[]⟩)
   (fun fin s'=>match fin with | .done f=>R (.ok f) s' | .again c'=>c'.quiet=true∧codeAny (model prog w) A c' R s') (fun e s'=>R (.error e) s') s:=by
 show wpAny _ _ (Builtin.List.listItems (.ref S) >>= fun old=>Builtin.List.listUpdate (.ref S) (fun _=>#[]) >>= fun _=>letGo old.toList.reverse >>= fun _=>Builtin.List.listExtendWith (.ref S) (.ref I) .none) _ _ s
 refine wpAny_bind ?_
 unfold Builtin.List.listItems
 refine wpAny_bind (wpAny_seqItems hS rfl (wpAny_pure (wpAny_bind ?_)))
 show wpAny _ _ (updateSeq S (fun _=>#[])) _ _ _
 refine wpAny_updateSeq hS rfl (wpAny_bind (wpAny_letGo ?_))
 have hS2:=Heap.get?_update_self (Obj.mapSeq (fun _=>(#[]:Array Value))) hS rfl
 have oth:∀b o,b≠S→s.heap.get? b=some o→(s.heap.update S (Obj.mapSeq (fun _=>(#[]:Array Value)))).get? b=some o:=fun b o hb q=>by
  rw [Heap.get?_update_other _ _ (Ne.symm hb)]
  exact q
 exact extend_rev (c₀:=_) hh (hI.at fun o q=>oth I o (Ne.symm hSI) q) (hl.at fun o q=>oth l o (Ne.symm hSl) q) hne hSI hSl hS2 hn fun h' tk acc' c' hk hS' hacc=>hR h' tk acc' c' (fun b o h1 h2 q=>hk b o h1 h2 (oth b o h1 q)) hS' hacc
theorem list_rev {Q:Value→Shared→Prop} (hh:A.handled=none) (hI:s.heap.IsRevIter I l ((items.size:Int) - 1)) (hl:s.heap.IsList l items) (hne:l≠I) (hn:items.size≤sizeLine)
  (hQ:∀h' tk acc' c',(∀b o,b≠I→s.heap.get? b=some o→h'.get? b=some o)→h'.get? s.heap.objs.size=some { cls:=.type "list", dict:=none,data:=.seq acc' c',slots:=#[] } →
   PySem.ItemsOf (fun i v=>items[items.size - 1 - i]?=some v) acc' items.size→Q (.ref s.heap.objs.size) { s with heap:=h',toks:=tk }) :
  wpAny (model prog w) A (call (.type "list") [.ref I]) Q E s:=by
 have hS:(s.heap.push { cls:=.type "list", data:=.seq #[] }).get? s.heap.objs.size=some { cls:=.type "list", data:=.seq #[] }:=Heap.get?_push_size _ rfl
 have up:∀b o,s.heap.get? b=some o→(s.heap.push { cls:=.type "list", data:=.seq #[] }).get? b=some o:=fun b o q=>Heap.get?_push_of_some _ q
 have hIlt:I < s.heap.objs.size:=by
  obtain ⟨o,q,_⟩:=hI
  exact Heap.lt_size q
 have hllt:l < s.heap.objs.size:=by
  obtain ⟨o,q,_⟩:=hl
  exact Heap.lt_size q
 refine callType_codes PySem.F.called_list (PySem.F.typeCall_list_1 _) PySem.F.entry_list_init
  (Q₁:=fun v z=>v=.ref s.heap.objs.size∧z={ s with heap:=s.heap.push { cls:=.type "list", data:=.seq #[] } }) (code_list_new _ ⟨rfl,rfl⟩) ?_
 rintro _ _ ⟨rfl,rfl⟩
 refine ⟨⟨_,hS,rfl⟩,PySem.F.args_list_init_2 _ _,?_⟩
 refine init_rev (A:=A.in1) (s:={ s with heap:=s.heap.push { cls:=.type "list", data:=.seq #[] } }) hh (hI.at fun o q=>up I o q) (hl.at fun o q=>up l o q) hne (Nat.ne_of_gt hIlt) (Nat.ne_of_gt hllt) hS hn fun h' tk acc' c' hk hS' hacc=>?_
 exact ⟨rfl,hQ h' tk acc' c' (fun b o hb q=>hk b o (Nat.ne_of_lt (Heap.lt_size q)) hb (up b o q)) hS' hacc⟩
end
def tLRev (K:W.Frag) (ta:TA):TE:=fun σ H Q=>ta σ H fun vs H1=>∃a xs,vs=[.ref a]∧SqL K H1 a xs∧∀l H',New H1 H' l (.lst xs.reverse)→Q (.ref l) H'
theorem pe_listRev {X:Cx} {e:Expr} {ta:TA} {p1 p2 pos1 pos2:Pos} (hc:X.calm=true) (gl:Gl X "list") (ml:X.mg "list" = none) (gr:Gl X "reversed") (mr:X.mg "reversed" = none) (ha:PA X [e] ta)
  (h1:starEach [.Call (.Name "reversed" p2) [e] [] pos2] X.env=[(false,eval (.Call (.Name "reversed" p2) [e] [] pos2) X.env)]:=by rfl) (h2:starEach [e] X.env=[(false,eval e X.env)]:=by rfl) :
  PE X (.Call (.Name "list" p1) [.Call (.Name "reversed" p2) [e] [] pos2] [] pos1) (tLRev X.K ta):=by
 intro pins s σ H Q I h
 refine wpAny_Call_Name_kw (ld_blt I gl ml boot_list (PyProof.Rows.callWith_type1 ?_ h1 rfl))
 rw [h1]
 refine Calls.spliced_cons ?_
 refine Call_ (ld_blt I gr mr boot_reversed (PyProof.Rows.callWith_type1 (thn (ha pos2 pins s σ H _ I h) fun us s1 ⟨vs,H1,I1,r1,q1⟩=>?_) h2 rfl))
 obtain ⟨a,xs,rfl,hq,q⟩:=q1
 obtain ⟨u,rfl,rx⟩:=vals1 r1
 cases rx
 obtain ⟨its,rv,pl,hz⟩:=I1.list hq
 have hlen:=rv.length
 refine call_reversed_list pl.isList (Calls.spliced_nil ?_)
 have hlt:a < s1.heap.objs.size:=by
  obtain ⟨o,q,_⟩:=pl.isList
  exact Heap.lt_size q
 have hrev:(s1.heap.push (revObj a ((its.toArray.size:Int) - 1))).IsRevIter s1.heap.objs.size a ((its.toArray.size:Int) - 1):=⟨_,Heap.get?_push_size _ rfl,rfl,rfl⟩
 refine list_rev (s:={ s1 with heap:=s1.heap.push (revObj a ((its.toArray.size:Int) - 1)) }) (I1.ok.hd hc) hrev (pl.isList.at fun o z=>Heap.get?_push_of_some _ z) (Nat.ne_of_lt hlt) (by rw [List.size_toArray,← hlen];exact hz) fun h' tk acc c hk hD hI=>?_
 have hk':∀b o,s1.heap.get? b=some o→h'.get? b=some o:=fun b o z=>hk b o (Nat.ne_of_lt (Heap.lt_size z)) (Heap.get?_push_of_some _ z)
 have hsz:(s1.heap.push (revObj a ((its.toArray.size:Int) - 1))).objs.size=s1.heap.objs.size + 1:=Heap.size_push ..
 have hge:s1.heap.objs.size≤(s1.heap.push (revObj a ((its.toArray.size:Int) - 1))).objs.size:=by rw [hsz];exact Nat.le_succ _
 refine ⟨.ref (s1.heap.push (revObj a ((its.toArray.size:Int) - 1))).objs.size,_,I1.laid (t':=tk) (o:=.lst xs.reverse) hk' hge ?_,rfl,q _ _ (.mk' (I1.hok.fresh hge))⟩
 refine ⟨by rw [List.length_reverse];exact hz,acc.toList,c,vals_by (by
  have e:=hI.1
  have e2:acc.toList.length=acc.size:=Array.length_toList
  have e3:its.toArray.size=its.length:=List.size_toArray ..
  have e4:xs.reverse.length=xs.length:=List.length_reverse
  omega) fun j x u e1 e2=>?_,by simpa using hD⟩
 have e3:=hI.2 j u (by rw [← Array.getElem?_toList];exact e2)
 have hj:j < xs.length:=by
  have:=(List.getElem?_eq_some_iff.mp e1).1
  rwa [List.length_reverse] at this
 rw [List.getElem?_reverse hj] at e1
 obtain ⟨u',e4,r4⟩:=rv.get e1
 have e5:its[xs.length - 1 - j]?=some u:=by
  rw [List.size_toArray,← hlen] at e3
  simpa using e3
 rw [e5] at e4
 cases e4
 exact r4
section
variable {X:Cx}
def rSetA:V→V→V→Hp→(Hp→Prop)→Prop:=fun o i v H Q=>∃p xs k j,o=.ref p∧i=.int k∧H p=some (.lst xs)∧ixN xs.length k=some j∧∀H',Off p H H'→H' p=some (.lst (xs.set j v))→Q H'
theorem set_listA:PSet X rSetA:=by
 intro pins s σ H o i v ov iv u Q I ro ri rv h
 obtain ⟨p,xs,k,j,e1,e2,hp,hj,q⟩:=h
 exact set_list pins s σ H o i v ov iv u Q I ro ri rv ⟨p,xs,k,j,e1,e2,hp,hj,q _ Off.upd upd_same⟩
def rSlA (K:W.Frag):V→Option Int→Option Int→Hp→VK→Prop:=fun x lo hi H Q=>∃a xs,x=.ref a∧SqL K H a xs∧∀p H',New H H' p (.lst (cutV xs lo hi))→Q (.ref p) H'
theorem sl_listA:SlR X (rSlA X.K):=by
 intro pins s σ H x v vl vu lo hi sl Q I rx hs pl pu h
 obtain ⟨a,xs,e,hx,q⟩:=h
 exact sl_list pins s σ H x v vl vu lo hi sl Q I rx hs pl pu ⟨a,xs,e,hx,fun p hp=>q p _ (.mk' hp)⟩
def rLOfA (K:W.Frag):List V→Hp→VK→Prop:=fun xs H Q=>∃p ys,xs=[.ref p]∧(SqL K H p ys∨SqT K H p ys)∧∀l H',New H H' l (.lst ys)→Q (.ref l) H'
theorem call_list_ofA:CallR X (.type "list") (rLOfA X.K):=by
 intro pins s σ H xs us Q I r h
 obtain ⟨p,ys,e,hq,q⟩:=h
 exact call_list_of pins s σ H xs us Q I r ⟨p,ys,e,hq,fun l hl=>q l _ (.mk' hl)⟩
end
section
variable {σ:St} {H:Hp} {Q:VK} {v x y:V} {i j:Int} {K:W.Frag} {t ta tb tc:TE} {tr:TA} {s u:TS} {D:Ends} {c d:TT}
theorem wv0 {r:St} (h:Q v H):tVar 0 (some v::r) H Q:=⟨v,rfl,h⟩
theorem wv1 {o0:Option V} {r:St} (h:Q v H):tVar 1 (o0::some v::r) H Q:=⟨v,rfl,h⟩
theorem wn1 {o0:Option V} {o:Option V} {r:St} {R:St→Hp→Prop} (h:R (o0::some v::r) H):gName 1 v (o0::o::r) H R:=h
theorem wv2 {o0 o1:Option V} {r:St} (h:Q v H):tVar 2 (o0::o1::some v::r) H Q:=⟨v,rfl,h⟩
theorem wn2 {o0 o1:Option V} {o:Option V} {r:St} {R:St→Hp→Prop} (h:R (o0::o1::some v::r) H):gName 2 v (o0::o1::o::r) H R:=h
theorem wv3 {o0 o1 o2:Option V} {r:St} (h:Q v H):tVar 3 (o0::o1::o2::some v::r) H Q:=⟨v,rfl,h⟩
theorem wn3 {o0 o1 o2:Option V} {o:Option V} {r:St} {R:St→Hp→Prop} (h:R (o0::o1::o2::some v::r) H):gName 3 v (o0::o1::o2::o::r) H R:=h
theorem wv4 {o0 o1 o2 o3:Option V} {r:St} (h:Q v H):tVar 4 (o0::o1::o2::o3::some v::r) H Q:=⟨v,rfl,h⟩
theorem wn4 {o0 o1 o2 o3:Option V} {o:Option V} {r:St} {R:St→Hp→Prop} (h:R (o0::o1::o2::o3::some v::r) H):gName 4 v (o0::o1::o2::o3::o::r) H R:=h
theorem wv5 {o0 o1 o2 o3 o4:Option V} {r:St} (h:Q v H):tVar 5 (o0::o1::o2::o3::o4::some v::r) H Q:=⟨v,rfl,h⟩
theorem wn5 {o0 o1 o2 o3 o4:Option V} {o:Option V} {r:St} {R:St→Hp→Prop} (h:R (o0::o1::o2::o3::o4::some v::r) H):gName 5 v (o0::o1::o2::o3::o4::o::r) H R:=h
theorem wv6 {o0 o1 o2 o3 o4 o5:Option V} {r:St} (h:Q v H):tVar 6 (o0::o1::o2::o3::o4::o5::some v::r) H Q:=⟨v,rfl,h⟩
theorem wn6 {o0 o1 o2 o3 o4 o5:Option V} {o:Option V} {r:St} {R:St→Hp→Prop} (h:R (o0::o1::o2::o3::o4::o5::some v::r) H):gName 6 v (o0::o1::o2::o3::o4::o5::o::r) H R:=h
theorem wv7 {o0 o1 o2 o3 o4 o5 o6:Option V} {r:St} (h:Q v H):tVar 7 (o0::o1::o2::o3::o4::o5::o6::some v::r) H Q:=⟨v,rfl,h⟩
theorem wn7 {o0 o1 o2 o3 o4 o5 o6:Option V} {o:Option V} {r:St} {R:St→Hp→Prop} (h:R (o0::o1::o2::o3::o4::o5::o6::some v::r) H):gName 7 v (o0::o1::o2::o3::o4::o5::o6::o::r) H R:=h
theorem wv8 {o0 o1 o2 o3 o4 o5 o6 o7:Option V} {r:St} (h:Q v H):tVar 8 (o0::o1::o2::o3::o4::o5::o6::o7::some v::r) H Q:=⟨v,rfl,h⟩
theorem wn8 {o0 o1 o2 o3 o4 o5 o6 o7:Option V} {o:Option V} {r:St} {R:St→Hp→Prop} (h:R (o0::o1::o2::o3::o4::o5::o6::o7::some v::r) H):gName 8 v (o0::o1::o2::o3::o4::o5::o6::o7::o::r) H R:=h
theorem wv9 {o0 o1 o2 o3 o4 o5 o6 o7 o8:Option V} {r:St} (h:Q v H):tVar 9 (o0::o1::o2::o3::o4::o5::o6::o7::o8::some v::r) H Q:=⟨v,rfl,h⟩
theorem wn9 {o0 o1 o2 o3 o4 o5 o6 o7 o8:Option V} {o:Option V} {r:St} {R:St→Hp→Prop} (h:R (o0::o1::o2::o3::o4::o5::o6::o7::o8::some v::r) H):gName 9 v (o0::o1::o2::o3::o4::o5::o6::o7::o8::o::r) H R:=h
theorem wv10 {o0 o1 o2 o3 o4 o5 o6 o7 o8 o9:Option V} {r:St} (h:Q v H):tVar 10 (o0::o1::o2::o3::o4::o5::o6::o7::o8::o9::some v::r) H Q:=⟨v,rfl,h⟩
theorem wn10 {o0 o1 o2 o3 o4 o5 o6 o7 o8 o9:Option V} {o:Option V} {r:St} {R:St→Hp→Prop} (h:R (o0::o1::o2::o3::o4::o5::o6::o7::o8::o9::some v::r) H):gName 10 v (o0::o1::o2::o3::o4::o5::o6::o7::o8::o9::o::r) H R:=h
theorem wv11 {o0 o1 o2 o3 o4 o5 o6 o7 o8 o9 o10:Option V} {r:St} (h:Q v H):tVar 11 (o0::o1::o2::o3::o4::o5::o6::o7::o8::o9::o10::some v::r) H Q:=⟨v,rfl,h⟩
theorem wn11 {o0 o1 o2 o3 o4 o5 o6 o7 o8 o9 o10:Option V} {o:Option V} {r:St} {R:St→Hp→Prop} (h:R (o0::o1::o2::o3::o4::o5::o6::o7::o8::o9::o10::some v::r) H):gName 11 v (o0::o1::o2::o3::o4::o5::o6::o7::o8::o9::o10::o::r) H R:=h
theorem wv12 {o0 o1 o2 o3 o4 o5 o6 o7 o8 o9 o10 o11:Option V} {r:St} (h:Q v H):tVar 12 (o0::o1::o2::o3::o4::o5::o6::o7::o8::o9::o10::o11::some v::r) H Q:=⟨v,rfl,h⟩
theorem wn12 {o0 o1 o2 o3 o4 o5 o6 o7 o8 o9 o10 o11:Option V} {o:Option V} {r:St} {R:St→Hp→Prop} (h:R (o0::o1::o2::o3::o4::o5::o6::o7::o8::o9::o10::o11::some v::r) H):gName 12 v (o0::o1::o2::o3::o4::o5::o6::o7::o8::o9::o10::o11::o::r) H R:=h
theorem wv13 {o0 o1 o2 o3 o4 o5 o6 o7 o8 o9 o10 o11 o12:Option V} {r:St} (h:Q v H):tVar 13 (o0::o1::o2::o3::o4::o5::o6::o7::o8::o9::o10::o11::o12::some v::r) H Q:=⟨v,rfl,h⟩
theorem wn13 {o0 o1 o2 o3 o4 o5 o6 o7 o8 o9 o10 o11 o12:Option V} {o:Option V} {r:St} {R:St→Hp→Prop} (h:R (o0::o1::o2::o3::o4::o5::o6::o7::o8::o9::o10::o11::o12::some v::r) H):gName 13 v (o0::o1::o2::o3::o4::o5::o6::o7::o8::o9::o10::o11::o12::o::r) H R:=h
theorem w_c (h:Q v H):tC v σ H Q:=h
theorem w_i0 {f:Int→Int→V} (h:Q (f i j) H):rI0 f (.int i) (.int j) H Q:=⟨i,j,rfl,rfl,h⟩
theorem w_mod {f:Int→Int→V} (hj:0 < j) (h:Q (f i j) H):rI (fun _ j=>0 < j) f (.int i) (.int j) H Q:=⟨i,j,rfl,rfl,hj,h⟩
theorem w_div {f:Int→Int→V} (h0:0 < j) (h1:j < 1073741824) (h:Q (f i j) H):rI CDiv f (.int i) (.int j) H Q:=⟨i,j,rfl,rfl,⟨h0,h1⟩,h⟩
theorem w_pow {f:Int→Int→V} (h0:0≤j) (h1:j≤1000000) (h2:i.natAbs < 2 ^ 64) (h:Q (f i j) H):rI CPow f (.int i) (.int j) H Q:=⟨i,j,rfl,rfl,⟨h0,h1,h2⟩,h⟩
theorem w_mulL {f:Int→Int→V} (h0:-(2 ^ 64) < i) (h1:i < 2 ^ 64) (h:Q (f i j) H):rI CMul f (.int i) (.int j) H Q:=⟨i,j,rfl,rfl,.inl ⟨h0,h1⟩,h⟩
theorem w_mulR {f:Int→Int→V} (h0:-(2 ^ 64) < j) (h1:j < 2 ^ 64) (h:Q (f i j) H):rI CMul f (.int i) (.int j) H Q:=⟨i,j,rfl,rfl,.inr ⟨h0,h1⟩,h⟩
theorem w_u {g:Int→V} (h:Q (g i) H):rU g (.int i) H Q:=⟨i,rfl,h⟩
theorem w_un {r:V→Hp→VK→Prop} (h:ta σ H fun x H1=>r x H1 Q):tUn r ta σ H Q:=h
theorem w_eqi (h:Q (.bl (decide (i=j))) H):rEq (.int i) (.int j) H Q:=⟨rfl,by rw [show decide (V.int i=V.int j)=decide (i=j) from decide_eq_decide.mpr ⟨fun e=>by cases e;rfl,fun e=>by rw [e]⟩];exact h⟩
theorem w_nei (h:Q (.bl (!decide (i=j))) H):rNe (.int i) (.int j) H Q:=⟨rfl,by rw [show decide (V.int i=V.int j)=decide (i=j) from decide_eq_decide.mpr ⟨fun e=>by cases e;rfl,fun e=>by rw [e]⟩];exact h⟩
theorem w_eqs {a b:Str} (h:Q (.bl (decide (a=b))) H):rEq (.str a) (.str b) H Q:=⟨rfl,by rw [show decide (V.str a=V.str b)=decide (a=b) from decide_eq_decide.mpr ⟨fun e=>by cases e;rfl,fun e=>by rw [e]⟩];exact h⟩
theorem w_eqb {a b:Bool} (h:Q (.bl (decide (a=b))) H):rEq (.bl a) (.bl b) H Q:=⟨rfl,by rw [show decide (V.bl a=V.bl b)=decide (a=b) from decide_eq_decide.mpr ⟨fun e=>by cases e;rfl,fun e=>by rw [e]⟩];exact h⟩
theorem w_neb {a b:Bool} (h:Q (.bl (!decide (a=b))) H):rNe (.bl a) (.bl b) H Q:=⟨rfl,by rw [show decide (V.bl a=V.bl b)=decide (a=b) from decide_eq_decide.mpr ⟨fun e=>by cases e;rfl,fun e=>by rw [e]⟩];exact h⟩
theorem w_bl {k:Bool} {R:Bool→Prop} (h:R k):∃c,V.bl k=.bl c∧R c:=⟨k,rfl,h⟩
theorem w_not {R:Bool→Hp→Prop} (h:c σ H fun b H1=>R (!b) H1):tNot c σ H R:=h
theorem w_or {R:Bool→Hp→Prop} (h:c σ H fun b H1=>if b=true then R true H1 else d σ H1 R):tOr c d σ H R:=h
theorem w_notV (h:ta σ H fun x H1=>∃c,x=.bl c∧Q (.bl (!c)) H1):tNotV ta σ H Q:=h
theorem w_andV (h:ta σ H fun x H1=>∃c,x=.bl c∧if c=true then tb σ H1 Q else Q (.bl false) H1):tAndV ta tb σ H Q:=h
theorem w_chain {r r':R2} (h:ta σ H fun x H1=>tb σ H1 fun y H2=>r x y H2 fun z H3=>∃k,z=.bl k∧if k=true then tc σ H3 fun w H4=>r' y w H4 Q else Q (.bl false) H3):tChain r r' ta tb tc σ H Q:=h
theorem w_rt {nx bk ct:St→Hp→Prop} {rt:VK} (h:rt v H):(Ends.mk nx rt bk ct).rt v H:=h
theorem w_call {sp:Sp} {E:XK} (h:tr σ H fun vs H1=>sp vs H1 Q E):tCall sp [] E tr σ H Q:=by
 have e:(fun vs H1=>sp (vs++[]) H1 Q E)=fun vs H1=>sp vs H1 Q E:=by
  funext vs H1
  rw [List.append_nil]
 show tr σ H fun vs H1=>sp (vs++[]) H1 Q E
 rw [e]
 exact h
theorem w_bm {T:String} {r:V→List V→Hp→VK→Prop} {to:TE} (h:to σ H fun x H1=>tyV K T x H1∧tr σ H1 fun xs H2=>r x xs H2 Q):tBM K T r to tr σ H Q:=h
theorem w_sub {to ti:TE} {ts:TSet} {R:St→Hp→Prop} (h:to σ H fun o H1=>ti σ H1 fun i H2=>ts o i v H2 fun H3=>R σ H3):gSub to ti ts v σ H R:=h
theorem w_slice {r:V→Option Int→Option Int→Hp→VK→Prop} {tl th:TO} (h:t σ H fun x H1=>tl σ H1 fun l H2=>th σ H2 fun u H3=>r x l u H3 Q):tSl r t tl th σ H Q:=h
theorem w_noPart {R:Option Int→Hp→Prop} (h:R none H):tNoPart σ H R:=h
theorem w_part {R:Option Int→Hp→Prop} (h:t σ H fun x H1=>∃i,x=.int i∧R (some i) H1):tPart t σ H R:=h
theorem w_int {R:Int→Prop} (h:R i):∃k,V.int i=.int k∧R k:=⟨i,rfl,h⟩
theorem w_ixL {p:Addr} {xs:List V} (h:SqL K H p xs) (e:atI xs i=some v) (k:Q v H):rIxL K (.ref p) (.int i) H Q:=⟨p,xs,i,v,rfl,rfl,h,e,k⟩
theorem w_ixT {p:Addr} {xs:List V} (h:SqT K H p xs) (e:atI xs i=some v) (k:Q v H):rIxT K (.ref p) (.int i) H Q:=⟨p,xs,i,v,rfl,rfl,h,e,k⟩
def rLen (K:W.Frag):List V→Hp→VK→Prop:=fun xs H Q=>∃x n,xs=[x]∧LenV K x H n∧Q (.int n) H
theorem w_lenL {p:Addr} {xs:List V} (h:SqL K H p xs) (k:Q (.int xs.length) H):rLen K [.ref p] H Q:=⟨_,xs.length,rfl,.inl ⟨xs,h,rfl⟩,k⟩
theorem w_lenT {p:Addr} {xs:List V} (h:SqT K H p xs) (k:Q (.int xs.length) H):rLen K [.ref p] H Q:=⟨_,xs.length,rfl,.inr ⟨xs,h,rfl⟩,k⟩
theorem w_lenS {z:Str} (h:z.length≤sizeLine) (k:Q (.int z.length) H):rLen K [.str z] H Q:=⟨_,z.length,rfl,⟨h,rfl⟩,k⟩
def rMax2:List V→Hp→VK→Prop:=fun xs H Q=>∃i j,xs=[.int i,.int j]∧Q (.int (if j > i then j else i)) H
def rMin2:List V→Hp→VK→Prop:=fun xs H Q=>∃i j,xs=[.int i,.int j]∧Q (.int (if j < i then j else i)) H
theorem w_max (h:Q (.int (max i j)) H):rMax2 [.int i,.int j] H Q:=⟨i,j,rfl,by
 rw [show (if j > i then j else i)=max i j by rw [Int.max_def];split <;> split <;> omega]
 exact h⟩
theorem w_min (h:Q (.int (min i j)) H):rMin2 [.int i,.int j] H Q:=⟨i,j,rfl,by
 rw [show (if j < i then j else i)=min i j by rw [Int.min_def];split <;> split <;> omega]
 exact h⟩
def rInt1:List V→Hp→VK→Prop:=fun xs H Q=>(∃i,xs=[.int i]∧Q (.int i) H)∨∃k,xs=[.bl k]∧Q (.int (if k then 1 else 0)) H
theorem w_intB {k:Bool} (h:Q (.int (if k then 1 else 0)) H):rInt1 [.bl k] H Q:=.inr ⟨k,rfl,h⟩
theorem w_is {x d:V} {tv:Value} {b:Bool} (ty:TyOf K H x tv) (e:clsIs K tv d=some b) (h:Q (.bl b) H):rIsT K [x,d] H Q:=⟨x,d,tv,b,rfl,ty,e,h⟩
def rNotN:R2:=fun x y H Q=>y=.non∧Q (.bl (!decide (x=.non))) H
end
section
variable {X:Cx}
theorem call_lenN:CallR X (.builtin "len") (rLen X.K):=call_len
theorem call_maxN (hc:X.calm=true):CallR X (.builtin "max") rMax2:=call_max2 hc
theorem call_minN (hc:X.calm=true):CallR X (.builtin "min") rMin2:=call_min2 hc
theorem call_intN:CallR X (.type "int") rInt1:=call_int1
theorem op_notNN:OpR X (compareOp .IsNot) rNotN:=op_notN
end
section
variable {A B p:Prop} [Decidable p] {b:Bool}
theorem i_dec (h1:p→A) (h2:¬ p→B):if decide p=true then A else B:=by
 by_cases h:p
 ·rw [if_pos (decide_eq_true h)];exact h1 h
 ·rw [if_neg (by simpa using h)];exact h2 h
theorem i_b (h1:b=true→A) (h2:b=false→B):if b=true then A else B:=by
 cases b with
 | true=>exact iteT (h1 rfl)
 | false=>exact iteF (h2 rfl)
theorem i_T (h:b=true) (k:A):if b=true then A else B:=by rw [if_pos h];exact k
theorem i_F (h:b=false) (k:B):if b=true then A else B:=by rw [if_neg (by rw [h];exact Bool.false_ne_true)];exact k
theorem i_pos (h:p) (k:A):if decide p=true then A else B:=by rw [if_pos (decide_eq_true h)];exact k
theorem i_neg (h:¬ p) (k:B):if decide p=true then A else B:=by rw [if_neg (by simpa using h)];exact k
theorem i_npos (h:p) (k:B):if (!decide p)=true then A else B:=by rw [if_neg (by simpa using h)];exact k
theorem i_nneg (h:¬ p) (k:A):if (!decide p)=true then A else B:=by rw [if_pos (by simpa using h)];exact k
end
section
variable {H H0 H1 H2 H':Hp} {p q a:Addr} {o u:HO} {xs ys:List V}
theorem New.trans (n1:New H H1 p o) (n2:New H1 H2 q u):New H H2 q u:=⟨n1.s.trans n2.s,n2.e,fun a v e=>n2.n a v (n1.s a v e)⟩
def TupsAt (H:Hp) (ys:List V) (rows:List (List V)):Prop:=ys.length=rows.length∧∀(j:Nat) (r:List V),rows[j]?=some r→∃q,ys[j]?=some (.ref q)∧H q=some (.tup r)
theorem TupsAt.same {rows:List (List V)} (s:Same H H') (h:TupsAt H ys rows):TupsAt H' ys rows:=⟨h.1,fun j r e=>let ⟨q,a,b⟩:=h.2 j r e;⟨q,a,s _ _ b⟩⟩
theorem TupsAt.nil:TupsAt H [] []:=⟨rfl,fun j r e=>by simp at e⟩
theorem TupsAt.reverse {rows:List (List V)} (h:TupsAt H ys rows):TupsAt H ys.reverse rows.reverse:=by
 refine ⟨by rw [List.length_reverse,List.length_reverse,h.1],fun j r e=>?_⟩
 have hj:j < rows.length:=by
  have:=(List.getElem?_eq_some_iff.mp e).1
  rwa [List.length_reverse] at this
 rw [List.getElem?_reverse hj] at e
 obtain ⟨q,a,b⟩:=h.2 _ r e
 exact ⟨q,by rw [List.getElem?_reverse (by rw [h.1];exact hj),h.1];exact a,b⟩
end
section
variable {σ:St} {H:Hp} {Q:VK} {K:W.Frag} {tr:TA} {D:Ends} {i j:Int} {g:TG} {tb:TS} {a b:V} {p:Addr}
theorem w_tup2 {i0 i1:Nat} {R:St→Hp→Prop} (hp:SqT K H p [a,b]) (h:gName i0 a σ H fun σ1 H1=>gName i1 b σ1 H1 R):gTup K 2 (gCons (gName i0) (gCons (gName i1) gNil)) (.ref p) σ H R :=
 ⟨p,_,rfl,hp,rfl,_,_,rfl,_,_,rfl,rfl,h⟩
end
def rEqD (K:W.Frag):R2:=fun x y H Q=>∃d d',Rep K H d x∧Rep K H d' y∧depD d≤100∧Q (.bl (eqDt d d')) H
theorem op_eq_dN {X:Cx} {k:Nat} (hr:Room k X.A):OpR X (compareOp .Eq) (rEqD X.K):=op_eq_d hr
theorem map_set {α:Type} {N j:Nat} {F:Nat→α} {v:α} (hj:j < N):((List.range N).map F).set j v=(List.range N).map (fun k=>if k=j then v else F k):=by
 apply List.ext_getElem?
 intro k
 rw [List.getElem?_set]
 by_cases hk:k < N
 ·by_cases e:j=k
  ·subst e
   simp [hj]
  ·have e':¬ k=j:=fun z=>e z.symm
   simp [hk,e,e']
 ·have e:¬ j=k:=by omega
  have h1:((List.range N).map F)[k]?=none:=by simp;omega
  have h2:((List.range N).map (fun k=>if k=j then v else F k))[k]?=none:=by simp;omega
  rw [if_neg e,h1,h2]
end L2
namespace L2
open PySem PySem.Spec PyProof.Rows PySem.SeqAt
section
variable {X:Cx} {a:Expr} {ta:TE} {pos:Pos}
def idV:V→Bool
 | .non=>true
 | .bl _=>true
 | .int _=>true
 | .str _=>true
 | .ref _=>true
 | _=>false
theorem same_eqAt {A:Around} {s:Shared} {x:V} {u v:Value} (f:idV x=true) (ru:RelV x u) (rv:RelV x v):EqAt A s u v true:=by
 cases x with
 | non=>cases ru;cases rv;exact EqAt.same _
 | bl b=>cases ru;cases rv;exact EqAt.same _
 | ref b=>cases ru;cases rv;exact EqAt.same _
 | int i =>
  obtain ⟨t,rfl⟩:=ru
  obtain ⟨t',rfl⟩:=rv
  have:=EqAt.int_int (A:=A) (s:=s) i t i t'
  rwa [beq_self_eq_true] at this
 | str z =>
  obtain ⟨t,rfl⟩:=ru
  obtain ⟨t',rfl⟩:=rv
  have:=EqAt.str_str (A:=A) (s:=s) z t z t'
  rwa [beq_self_eq_true] at this
 | _=>exact absurd (show false=true from f) Bool.false_ne_true
end
section
variable {σ:St} {H:Hp} {Q:VK} {D:Ends} {td ty tv:TE} {p:Addr} {kvs:List (Key×V)} {i:Int} {v:V}
theorem w_dnew (h:∀p H',New H H' p (.dK [])→Q (.ref p) H'):tDNewK σ H Q:=fun p hp=>h p _ (.mk' hp)
end
def tRevSl (K:W.Frag) (te ts:TE):TE:=fun σ H Q=>te σ H fun x H1=>ts σ H1 fun y H2=>∃a xs,x=.ref a∧y=.int (-1)∧SqL K H2 a xs∧∀p H',New H2 H' p (.lst xs.reverse)→Q (.ref p) H'
theorem pe_revSl {X:Cx} {e st:Expr} {te ts:TE} {pos p2:Pos} (he:PE X e te) (hst:PE X st ts):PE X (.Subscript e (.Slice none none (some st) p2) pos) (tRevSl X.K te ts):=by
 intro pins s σ H Q I h
 refine Subscript_ (thn (he pins s σ H _ I h) fun v s1 ⟨x,H1,I1,r1,q1⟩=>?_)
 refine wpAny_Slice (wpAny_evalPart_none (wpAny_evalPart_none (wpAny_evalPart_some (thn (hst pins s1 σ H1 _ I1 q1) fun z s2 ⟨y,H2,I2,r2,q2⟩=>?_))))
 obtain ⟨a,xs,rfl,rfl,hx,q⟩:=q2
 cases r1
 obtain ⟨t,rfl⟩:=r2
 have I3:Inv X pins σ H2 { s2 with heap:=s2.heap.push { cls:=.type "slice", data:=.fields #[.none,.none,.int (-1) t] } }:=I2.kept (t':=s2.toks) fun b ob z=>Heap.get?_push_of_some _ z
 obtain ⟨its,r,ht,hz⟩:=I3.list hx
 have hlen:=r.length
 show wpAny (model X.prog X.w) X.A (subscriptTail e (.Slice none none (some st) p2) (.ref a) (.ref s2.heap.objs.size)) (EP X pins σ Q) X.xe { s2 with heap:=s2.heap.push { cls:=.type "slice", data:=.fields #[.none,.none,.int (-1) t] } }
 refine tail_any (ops:=[.ref a,.ref s2.heap.objs.size]) ht.isList.typeIs slot_list_getitem.lookup ?_ (by with_unfolding_all rfl)
 refine wpAny_getItem_list_slice (lo:=none) (hi:=none) (st:=some (-1)) ht.isList (Heap.IsSliceOf.new ..) .none .none (.int (-1) t) (by decide) ?_ (by rw [List.size_toArray] <;> omega)
 rw [W.krv_pick]
 refine ⟨.ref (s2.heap.push { cls:=.type "slice", data:=.fields #[.none,.none,.int (-1) t] }).objs.size,_,I3.laid (t':=s2.toks) (o:=.lst xs.reverse) (fun b ob z=>Heap.get?_push_of_some _ z) (Nat.le_refl _) ?_,rfl,q _ _ (.mk' (I3.hok.fresh (Nat.le_refl _)))⟩
 exact ⟨by rw [List.length_reverse];exact hz,its.reverse,0,r.reverse,Heap.get?_push_size _ rfl⟩
theorem w_revSl {σ:St} {H:Hp} {Q:VK} {K:W.Frag} {te ts:TE} (h:te σ H fun x H1=>ts σ H1 fun y H2=>∃a xs,x=.ref a∧y=.int (-1)∧SqL K H2 a xs∧∀p H',New H2 H' p (.lst xs.reverse)→Q (.ref p) H'):tRevSl K te ts σ H Q:=h
def Kp (b:Addr) (H H':Hp):Prop:=∀x u,x≠b→H x=some u→H' x=some u
section
variable {b p:Addr} {H H1 H2:Hp} {o:HO}
theorem Kp.trans (a:Kp b H H1) (c:Kp b H1 H2):Kp b H H2:=fun x u n h=>c x u n (a x u n h)
theorem Off.kp (f:Off b H H1):Kp b H H1:=fun x u n h=>by rw [f x n];exact h
theorem Kp.same {H0:Hp} (s:Same H0 H) (k:Kp b H H1) (n:∀x u,H0 x=some u→x≠b):Same H0 H1:=fun x u e=>k x u (n x u e) (s x u e)
end
def rTOfA (K:W.Frag):List V→Hp→VK→Prop:=fun xs H Q=>∃p ys,xs=[.ref p]∧((SqL K H p ys∧∀l H',New H H' l (.tup ys)→Q (.ref l) H')∨(SqT K H p ys∧Q (.ref p) H))
theorem call_tuple_ofA {X:Cx}:CallR X (.type "tuple") (rTOfA X.K):=by
 intro pins s σ H xs us Q I r h
 obtain ⟨p,ys,e,h⟩:=h
 refine call_tuple_of pins s σ H xs us Q I r ⟨p,ys,e,?_⟩
 rcases h with ⟨hq,q⟩ | h
 ·exact .inl ⟨hq,fun l hl=>q l _ (.mk' hl)⟩
 ·exact .inr h
def ForL (K:PySem.W.Frag) (a:Addr) (g:TG) (tb:TS) (D:Ends) (σ:St) (H:Hp):Prop:=∃W:Nat→Nat→St→Hp→Prop,(∃m,W 0 m σ H)∧∀i m σ H,W i m σ H →
 ((Itl K a).stop i H∧D.nx σ H)∨((Itl K a).go i H∧∃N:St→Hp→Prop,(∀σ' H',N σ' H'→∃m',m' < m∧W (i + 1) m' σ' H')∧∀x H',(Itl K a).yld i H x H'→g x σ H' fun σ2 H2=>tb { D with nx:=N,ct:=N,bk:=D.nx } σ2 H2)
theorem w_forL {K:W.Frag} {te:TE} {g:TG} {tb:TS} {D:Ends} {σ:St} {H:Hp} (h:te σ H fun x H1=>∃a,x=.ref a∧(∃xs,SqL K H1 a xs)∧ForL K a g tb D σ H1):tFor (iList K te) g tb D σ H:=h
theorem forL_by {K:W.Frag} {a:Addr} {xs:List V} {g:TG} {tb:TS} {D:Ends} {σ:St} {H:Hp} (Pv:Nat→St→Hp→Prop) (h0:Pv 0 σ H) (hl:∀i σ H,i≤xs.length→Pv i σ H→SqL K H a xs)
  (hs:∀i x σ H,xs[i]?=some x→Pv i σ H→g x σ H fun σ2 H2=>tb { D with nx:=Pv (i + 1),ct:=Pv (i + 1),bk:=D.nx } σ2 H2) (hd:∀σ H,Pv xs.length σ H→D.nx σ H):ForL K a g tb D σ H:=for_list Pv h0 hl hs hd
def CompAll (J:It) (nt:Nat) (fr:List Nat) (g:TG) (c:TT) (te:TE) (σ:St) (H1:Hp) (Q:VK):Prop:=∀acc,H1 acc=none→CompGoal J nt fr g c te σ H1 Q acc
theorem w_compL {K:W.Frag} {t0 te:TE} {nt:Nat} {fr:List Nat} {g:TG} {c:TT} {σ:St} {H:Hp} {Q:VK} (h:t0 σ H fun x H1=>∃a,x=.ref a∧(∃xs,SqL K H1 a xs)∧CompAll (Itl K a) nt fr g c te σ H1 Q):tComp (iList K t0) nt fr g c te σ H Q:=h
theorem comp_map {J:It} {xs:List V} {Lk:Hp→Prop} {te:TE} {σ:St} {H:Hp} {Q:VK} {fr:List Nat} {fvs:St} {P:Nat→V→Prop} (it:L2.ItemsOf J xs Lk) (hz:xs.length≤1000000) (hf:(fr.map fun i=>(σ[i]?).getD none)=fvs) (hL:∀H',Same H H'→Lk H')
  (turn:∀(i:Nat) (v:V) (H':Hp) (R:VK),xs[i]?=some v→Same H H'→(∀y H2,Same H' H2→P i y→R y H2)→te (some v::fvs) H' R)
  (k:∀l H' ys,New H H' l (.lst ys)→ys.length=xs.length→(∀(i:Nat) (y:V),ys[i]?=some y→P i y)→Q (.ref l) H'):CompAll J 1 fr (gName 0) tTrue te σ H Q:=by
 intro acc hacc
 subst hf
 have nacc:∀b u,H b=some u→b≠acc:=fun b u e=>ne_of_none e hacc
 refine comp_by it (fun i ys H'=>H' acc=some (.lst ys)∧Same H H'∧ys.length=i∧∀(j:Nat) (y:V),ys[j]?=some y→P j y) ⟨upd_same,Same.new hacc,rfl,fun j y e=>by simp at e⟩ (fun i ys H' _ h=>⟨hL H' h.2.1,h.1⟩) ?_ ?_
 ·rintro i x tv ys H' hx hi ⟨ha,hs,hl,hp⟩ htv
  obtain ⟨tv0,rfl⟩:∃a,tv=[a]:=List.length_eq_one_iff.mp htv
  unfold gName tTrue
  dsimp only
  rw [if_pos rfl]
  refine turn i x H' _ hx hs fun y H2 s2 py=>⟨?_,s2 _ _ ha,CompW.next (tv:=[some x]) hi ⟨upd_same,fun b u e=>?_,by rw [List.length_append,hl];rfl,fun j z e=>?_⟩ rfl⟩
  ·rw [hl]
   exact Nat.lt_of_lt_of_le hi (small_line hz)
  ·rw [upd_ne (nacc b u e)]
   exact s2 _ _ (hs _ _ e)
  ·by_cases hj:j < ys.length
   ·rw [List.getElem?_append_left hj] at e
    exact hp j z e
   ·rw [List.getElem?_append_right (by omega)] at e
    have hj2:j - ys.length=0:=by
     by_cases h0:j - ys.length=0
     ·exact h0
     ·rw [List.getElem?_eq_none (by simp;omega)] at e
      cases e
    rw [hj2] at e
    cases e
    have:j=i:=by omega
    rw [this]
    exact py
 ·rintro ys H' ⟨ha,hs,hl,hp⟩
  exact k acc H' ys ⟨hs,ha,nacc⟩ hl hp
section
variable {P:Program} {w:World} {K:W.Frag} {mg:Str→Option Value} {base:Heap} {CX:CXT} {k:Nat} {x nm qual:Str} {ps:List Str} {sp:Sp} {C:Addr}
structure Met (P:Program) (w:World) (K:W.Frag) (mg:Str→Option Value) (base:Heap) (CX:CXT) (k:Nat) (C:Addr) (nm:Str) (ps:List Str) (sp:Sp):Prop where
 ex:∃(f:Addr) (fd:FuncData),FnOk P w K mg base CX k f fd ps sp∧Meth K C nm f∧Binds K fd ps []
structure Mak (P:Program) (w:World) (K:W.Frag) (mg:Str→Option Value) (base:Heap) (CX:CXT) (k:Nat) (x:Str) (C:Addr) (ps:List Str) (sp:Sp):Prop where
 ex:∃(f:Addr) (fd:FuncData),FnOk P w K mg base CX k f fd ps sp∧Mk K C f∧mg x=some (.ref C)∧Binds K fd ps []
def FnAt (K:W.Frag) (nm qual:Str) (st:Stmt) (f:Addr):Prop:=∃fd:FuncData,Fun K nm qual st f fd
structure FnTells (P:Program) (w:World) (K:W.Frag) (mg:Str→Option Value) (base:Heap) (CX:CXT) (k:Nat) (f:Addr) (ps:List Str) (sp:Sp):Prop where
 ex:∃fd:FuncData,FnOk P w K mg base CX k f fd ps sp∧Binds K fd ps []
theorem FnTells.met {f:Addr} (t:FnTells P w K mg base CX k f ps sp) (m:Meth K C nm f):Met P w K mg base CX k C nm ps sp:=let ⟨fd,F,b⟩:=t.ex;⟨f,fd,F,m,b⟩
theorem FnTells.mak {f:Addr} (t:FnTells P w K mg base CX k f ps sp) (m:Mk K C f) (g:mg x=some (.ref C)):Mak P w K mg base CX k x C ps sp:=let ⟨fd,F,b⟩:=t.ex;⟨f,fd,F,m,g,b⟩
variable {st:Stmt} {N:List Str} {f:Addr}
theorem fn_tells (h:FnAt K nm qual st f) (S:FnScope N ps (defScope st)) (len:∀vs H Q E,sp vs H Q E→vs.length=ps.length)
  (hb:∀(kV doc pm:Value) (an:Option Addr) (cdv ct:Value) (us:List Value),us.length=ps.length→bindArgs (W.fnOf nm qual (defArgs st) (defBody st) (defScope st) .none kV doc pm an cdv ct) ⟨us,[]⟩=pure (ps.zip us))
  (hbody:∀(f:Addr) (cdv:Value) (A:Around) (outer:List Env) (s:Shared) (H:Hp) (vs:List V) (Q:VK) (E:XK),Room k (A.deeper (envOfC qual (defScope st) s.heap.objs.size f cdv))→sp vs H Q E →
   ∃t,PSs (cxOf CX P w K mg base N qual (defScope st) f cdv A outer s H E).nox (defBody st) t∧t { nx:=fun _ H'=>Q .non H',rt:=Q } (start N vs) H):FnTells P w K mg base CX (k + 1) f ps sp:=by
 obtain ⟨fd,F⟩:=h
 refine ⟨fd,?_,F.binds hb⟩
 obtain ⟨oc,od,kV,doc,pm,an,cdv,ct,osl,rfl,lk,hcd⟩:=F.ex
 refine fn_of lk hcd S len fun A outer s H vs Q E hr hsp=>?_
 obtain ⟨t,h,q⟩:=hbody f cdv A outer s H vs Q E hr hsp
 exact ⟨t,h.nox,q⟩
end
section
variable {X:Cx} {CX:CXT} {k m:Nat} {x nm:Str} {ps:List Str} {sp:Sp} {E:XK} {p pos apos:Pos} {e o:Expr} {es:List Expr} {t:TA} {ta:TE} {C:Addr} {pins:List (Addr×Obj)} {EX:St→XK}
theorem pe_met0 {pl:Sem Bool} (he:PE X o ta) (c:Cls X.K C) (D:Met X.prog X.w X.K X.mg X.base CX k C nm ps sp) (hr:Room m X.A) (hk:k≤m:=by decide) (hx:Passes CX X E:=by exact pass0)
  (ht:eval (.Call (.Attribute o nm apos) [] [] pos) X.env=(do
   let ov ← eval o X.env
   standAt apos.atName
   let (f,first) ← holding [ov] (getMethod ov nm pl)
   callWith pos f first (backTo pos (starEach [] X.env)) (backToKw pos (keywordEach [] X.env))):=by rfl) :
  PE X (.Call (.Attribute o nm apos) [] [] pos) (tMeth C nm sp [] E ta tNil):=by
 obtain ⟨f,fd,F,mt,b⟩:=D.ex
 exact pe_meth0 (pl:=pl) he c mt F (hr.mono hk) b .nil hx ht
end
end L2
namespace L2
open PySem PySem.Spec PyProof.Rows
def Bd (k:Nat) (x:Int):Prop:=0≤x∧x < 2 ^ k
theorem p2_pos (k:Nat):(0:Int) < 2 ^ k:=by
 have:(0:Nat) < 2 ^ k:=Nat.pow_pos (by decide)
 exact_mod_cast this
theorem Bd.mul {a b:Nat} {x y:Int} (hx:Bd a x) (hy:Bd b y):Bd (a + b) (x * y):=by
 refine ⟨Int.mul_nonneg hx.1 hy.1,?_⟩
 rw [Int.pow_add]
 exact Int.lt_of_le_of_lt (Int.mul_le_mul_of_nonneg_left (Int.le_of_lt hy.2) hx.1) (Int.mul_lt_mul_of_pos_right hx.2 (p2_pos b))
theorem go_compR {σ:St} {H:Hp} {te:TE} {tr:TA} {Q:VK} {fr:List Nat} {fvs:St} {n:Nat} (Iv:Addr→Nat→List V→Hp→Prop) (hr:TelA tr σ H [.int (n:Int)]) (hz:n≤1000000) (hf:(fr.map fun i=>(σ[i]?).getD none)=fvs)
  (h0:∀acc H',New H H' acc (.lst [])→Iv acc 0 [] H') (ha:∀acc i ys H',Iv acc i ys H'→H' acc=some (.lst ys)∧ys.length=i)
  (turn:∀acc i ys H' (R:VK),i < n→Iv acc i ys H'→(∀y H2,H2 acc=some (.lst ys)→(∀H3,Off acc H2 H3→H3 acc=some (.lst (ys++[y]))→Iv acc (i + 1) (ys++[y]) H3)→R y H2)→te (some (.int i)::fvs) H' R)
  (k:∀acc ys H',Iv acc n ys H'→Q (.ref acc) H'):tComp (iRng1 tr) 1 fr (gName 0) tTrue te σ H Q:=by
 refine hr _ ⟨n,rfl,by omega,by omega,fun acc hacc=>?_⟩
 subst hf
 rw [Int.toNat_natCast]
 refine comp_by items_range (fun i ys H'=>Iv acc i ys H') (h0 acc _ (.mk' hacc)) (fun i ys H' _ h=>⟨trivial,(ha acc i ys H' h).1⟩) ?_ ?_
 ·rintro i x tv ys H' hx hi h htv
  obtain ⟨tv0,rfl⟩:∃a,tv=[a]:=List.length_eq_one_iff.mp htv
  have hi':i < n:=by simpa [rangeV] using hi
  obtain rfl:=rangeV_get hx hi'
  unfold gName tTrue
  dsimp only
  rw [if_pos rfl]
  refine turn acc i ys H' _ hi' h fun y H2 h1 h2=>⟨?_,h1,CompW.next (tv:=[some (V.int i)]) hi (h2 _ Off.upd upd_same) rfl⟩
  rw [(ha acc i ys H' h).2]
  exact Nat.lt_of_lt_of_le hi' (small_line hz)
 ·rintro ys H' h
  rw [show (rangeV 0 n).length=n by simp [rangeV]] at h
  exact k acc ys H' h
def rAddS:R2:=fun x y H Q=>∃i j,x=.str i∧y=.str j∧i.length + j.length≤sizeLine∧Q (.str (i++j)) H
def rJoin (K:W.Frag):V→List V→Hp→VK→Prop:=fun x xs H Q=>∃sep p ts,x=.str sep∧xs=[.ref p]∧SqL K H p (ts.map V.str)∧sep.length≤16∧(ts.map (fun t=>t.length)).sum + ts.length≤1048576∧Q (.str (sep.join ts)) H
theorem strsAre_of:∀{ts:List Str} {us:List Value},Vals (ts.map V.str) us→StrsAre us ts
 | [],_,.nil=>.nil
 | t::ts,_,.cons r h=>by
  obtain ⟨k,rfl⟩:=r
  exact .cons t k (strsAre_of h)
section
variable {X:Cx} {pos:Pos}
theorem op_addS:OpR X (binaryOp .Add) rAddS:=op_add_str
theorem mt_join:MtR X "str.join" (rJoin X.K):=by
 intro pins s σ H x xs v us Q I rx rs h
 obtain ⟨sep,p,ts,rfl,rfl,hq,h1,h2,q⟩:=h
 obtain ⟨t,rfl⟩:=rx
 obtain ⟨u,rfl,r1⟩:=vals1 rs
 cases r1
 obtain ⟨its,r,pl,hz⟩:=I.list hq
 refine join_listW (items:=its.toArray) (ys:=ts) pl.isList (strsAre_of r) h1 h2 fun t' k=>⟨.str (sep.join ts),H,I.tok _,⟨t',?_⟩,q⟩
 show Value.str (Builtin.Str.glued sep ts) t'=_
 rw [StrLaws.glued_eq_join]
theorem pe_join {o e:Expr} {to te:TE} {apos cpos:Pos} (ho:PE X o to) (he:PE X e te) (hbase:attributeBase o "join" X.env (eval o X.env)=eval o X.env:=by rfl)
  (hfew:((backTo cpos (starEach [e] X.env)).all (fun x=>!x.1) && (backToKw cpos (keywordEach [] X.env)).all (fun x=>x.1.isSome)
   && decide (([e]:List Expr).length + ([]:List Keyword).length + (if ([]:List Keyword).isEmpty then 0 else 1) < 30))=true:=by rfl)
  (hline:(apos.endLine == cpos.line)=true:=by rfl) (hs:starEach [e] X.env=(false,eval e X.env)::starEach [] X.env:=by rfl) :
  PE X (.Call (.Attribute o "join" apos) [e] [] cpos) (tBM X.K "str" (rJoin X.K) to (tCons te tNil)) :=
 pe_bm PySem.F.plainAttrs_str PySem.F.slot_str_join PySem.F.type_str_join mt_join ho (pa_cons he pa_nil hs) hbase hfew hline hs (by rfl)
end
theorem pg_tupK {X:Cx} {K:W.Frag} {pos:Pos} {es:List Expr} {k:Nat} {t:TGs} {n:Nat} (hK:X.K=K) (hc:X.calm=true) (h:PGs X es t)
  (hn:(assignEach es X.env).length=n:=by rfl) (hst:(assignEach es X.env).findIdx? (·.1)=none:=by rfl):PG X (.Tuple es k pos) (gTup K n t):=by
 subst hK
 exact pg_tup hc h hn hst
def flatDt:V→Dt
 | .int i=>.int i
 | .str x=>.str x
 | .bl b=>.bl b
 | _=>.non
def isFlat:V→Bool
 | .int _=>true
 | .str _=>true
 | .bl _=>true
 | .non=>true
 | _=>false
section
variable {K:W.Frag} {H:Hp}
theorem rep_flat {v:V} (h:isFlat v=true):Rep K H (flatDt v) v:=by
 cases v <;> simp_all [isFlat,flatDt,Rep]
theorem reps_flat:∀{vs:List V},(∀v∈vs,isFlat v=true)→Reps K H (vs.map flatDt) vs
 | [],_=>by simp [Reps]
 | v::vs,h=>by
  simp only [List.map_cons,Reps]
  exact ⟨_,_,rfl,rep_flat (h v (List.mem_cons_self ..)),reps_flat fun x hx=>h x (List.mem_cons_of_mem _ hx)⟩
end
section
variable {K:W.Frag} {σ:St} {H:Hp} {Q:VK} {ta tv:TE} {t:TA} {f m:Str} {C:Addr} {sp:Sp} {dvs:List V} {E:XK} {D:Ends}
theorem go_fld (h:ta σ H fun x H1=>∃a C dx fs v,x=.ref a∧H1 a=some (.ins C dx fs)∧Cls K C∧NoAttr K C f∧fs.lookup f=some v∧Q v H1):tFld K ta f σ H Q:=h
theorem w_fld {a dx:Addr} {fs:List (Str×V)} {v:V} {R:V→Prop} (ho:H a=some (.ins C dx fs)) (c:Cls K C) (n:NoAttr K C f) (l:fs.lookup f=some v) (k:R v) :
  ∃a' C' dx' fs' v',V.ref a=.ref a'∧H a'=some (.ins C' dx' fs')∧Cls K C'∧NoAttr K C' f∧fs'.lookup f=some v'∧R v':=⟨a,C,dx,fs,v,rfl,ho,c,n,l,k⟩
end
theorem made_same {H:Hp} {x dx C:Addr} (hx:H x=none) (hd:H dx=none):Same H (upd (upd H dx (.own x)) x (.ins C dx [])):=fun b u e=>by
 rw [upd_ne (ne_of_none e hx),upd_ne (ne_of_none e hd)]
 exact e
end L2
namespace L2
open PySem PySem.Spec PyProof.Rows PySem.SeqAt
section
variable {H H':Hp} {p a l:Addr} {o u:HO}
theorem New.at (n:New H H' p o) (h:H a=some u):H' a=some u:=n.s a u h
theorem Same.at (s:Same H H') (h:H a=some u):H' a=some u:=s a u h
theorem Off.at (f:Off l H H') (ne:a≠l) (h:H a=some u):H' a=some u:=by rw [f a ne];exact h
theorem Kp.at (k:Kp l H H') (ne:a≠l) (h:H a=some u):H' a=some u:=k a u ne h
def RowsAt (H:Hp) (p:Addr) (rows:List (List V)):Prop:=∃ys,H p=some (.lst ys)∧TupsAt H ys rows
theorem RowsAt.same {rows:List (List V)} (s:Same H H') (h:RowsAt H p rows):RowsAt H' p rows:=let ⟨ys,a,b⟩:=h;⟨ys,s _ _ a,b.same s⟩
end
section
variable {X:Cx} {id:String} {x nm:Str} {e v:Expr} {es:List Expr} {t:TA} {tv:TE} {p kp pos:Pos}
def CallK (X:Cx) (id:String) (nm:Str) (r:List V→V→Hp→VK→Prop):Prop:=∀(pins:List (Addr×Obj)) (s:Shared) (σ:St) (H:Hp) (xs:List V) (us:List Value) (y:V) (u:Value) (Q:VK),Inv X pins σ H s→Vals xs us→RelV y u→r xs y H Q →
 wpAny (model X.prog X.w) X.A (call (.builtin id) us [(nm,u)]) (EP X pins σ Q) X.xe s
def tCK (r:List V→V→Hp→VK→Prop) (t:TA) (tv:TE):TE:=fun σ H Q=>t σ H fun xs H1=>tv σ H1 fun y H2=>r xs y H2 Q
theorem go_ck {r:List V→V→Hp→VK→Prop} {σ:St} {H:Hp} {Q:VK} (h:t σ H fun xs H1=>tv σ H1 fun y H2=>r xs y H2 Q):tCK r t tv σ H Q:=h
theorem pe_ckw {r:List V→V→Hp→VK→Prop} (hc:CallK X id nm r) (hg:Gl X x) (hm:X.mg x=none) (hv:bootBuiltins x=some (.builtin id)) (ha:PA X (e::es) t) (hw:PE X v tv) (hn:x ≠ "__name__" := by decide) (hdb:(x == ("__debug__" : Str))=false:=by decide)
  (he:backTo pos (starEach (e::es) X.env)=(false,eval e X.env)::backTo pos (starEach es X.env):=by rfl) (hpl:(backTo pos (starEach (e::es) X.env)).any (·.1)=false:=by rfl):PE X (.Call (.Name x p) (e::es) [⟨some nm,v,kp⟩] pos) (tCK r t tv):=by
 intro pins s σ H Q I h
 refine wpAny_Call_Name_kw (ld_blt I hg hm hv ?_ hn hdb)
 refine callWith_kw (thn (ha pos pins s σ H _ I h) fun us s1 ⟨vs,H1,I1,r1,q1⟩=>?_) he hpl
 refine kws_cons (thn (hw pins s1 σ H1 _ I1 q1) fun z s2 ⟨y,H2,I2,r2,q2⟩=>kws_nil ?_)
 have hv2:Vals vs us:=r1
 exact hc pins s2 σ H2 vs us y z Q I2 hv2 r2 q2
end
theorem cx_K {CX:CXT} {P:Program} {w:World} {K:W.Frag} {mg:Str→Option Value} {base:Heap} {N:List Str} {q:Str} {sc:Scope} {f:Addr} {cdv:Value} {A:Around} {outer:List Env} {s:Shared} {H:Hp} {E:XK}:(cxOf CX P w K mg base N q sc f cdv A outer s H E).nox.K=K:=rfl
theorem cx_K2 {CX:CXT} {P:Program} {w:World} {K:W.Frag} {mg:Str→Option Value} {base:Heap} {N:List Str} {q:Str} {sc:Scope} {f:Addr} {cdv:Value} {A:Around} {outer:List Env} {s:Shared} {H:Hp} {E:XK}:(cxOf CX P w K mg base N q sc f cdv A outer s H E).K=K:=rfl
def Hs (H:Hp) (a:Addr):Prop:=∃u,H a=some u
section
variable {H H':Hp} {a p l:Addr} {o u:HO}
theorem Hs.of (h:H a=some u):Hs H a:=⟨u,h⟩
theorem New.hs (n:New H H' p o):Hs H' p:=⟨o,n.e⟩
end
section
variable {H:Hp} {Q:VK} {K:W.Frag} {l b:Addr} {xs ys:List V} {y:V} {σ:St} {D:Ends}
theorem w_tyL {R:Prop} (h:SqL K H l xs) (k:R):tyV K "list" (.ref l) H∧R:=⟨.inl ⟨rfl,_,h⟩,k⟩
theorem w_app (h:H l=some (.lst xs)) (z:xs.length < sizeLine) (k:∀H',Off l H H'→H' l=some (.lst (xs++[y]))→Q .non H'):rAppA (.ref l) [y] H Q:=⟨l,xs,y,rfl,rfl,h,z,k⟩
theorem w_setA {i:Int} {j:Nat} {v:V} {R:Hp→Prop} (h:H l=some (.lst xs)) (e:ixN xs.length i=some j) (k:∀H',Off l H H'→H' l=some (.lst (xs.set j v))→R H'):rSetA (.ref l) (.int i) v H R:=⟨l,xs,i,j,rfl,rfl,h,e,k⟩
theorem w_slA {lo hi:Option Int} (h:SqL K H l xs) (k:∀p H',New H H' p (.lst (cutV xs lo hi))→Q (.ref p) H'):rSlA K (.ref l) lo hi H Q:=⟨l,xs,rfl,h,k⟩
theorem w_catA (h:H l=some (.lst xs)) (e:H b=some (.lst ys)) (z:xs.length + ys.length≤sizeLine) (k:∀p H',New H H' p (.lst (xs++ys))→Q (.ref p) H'):rCatA (.ref l) (.ref b) H Q:=⟨l,b,xs,ys,rfl,rfl,h,e,z,k⟩
theorem w_rep1 {n:Nat} (h:H l=some (.lst [y])) (z:n≤1000000) (k:∀p H',New H H' p (.lst (List.replicate n y))→Q (.ref p) H'):rRepA (.ref l) (.int (n:Int)) H Q :=
 ⟨l,n,[y],rfl,rfl,h,by omega,by omega,by simp only [List.length_singleton,Int.toNat_natCast,Nat.one_mul];exact small_line z,fun p H' q=>k p H' (by
  have e:(List.replicate ((n:Int).toNat) [y]).flatten=List.replicate n y:=by
   rw [Int.toNat_natCast]
   clear z q k h
   induction n with
   | zero=>rfl
   | succ n ih=>rw [List.replicate_succ,List.flatten_cons,ih];rfl
  rw [← e];exact q)⟩
theorem w_lofL (h:SqL K H l xs) (k:∀p H',New H H' p (.lst xs)→Q (.ref p) H'):rLOfA K [.ref l] H Q:=⟨l,xs,rfl,.inl h,k⟩
theorem w_meth {C dx:Addr} {fs:List (Str×V)} {m:Str} {R:Prop} (h:H l=some (.ins C dx fs)) (e:fs.lookup m=none) (k:R):∃a' dx' fs',V.ref l=.ref a'∧H a'=some (.ins C dx' fs')∧fs'.lookup m=none∧R:=⟨l,dx,fs,rfl,h,e,k⟩
theorem i_idx {n:Nat} {i:Int} (h0:0≤i) (h1:i < n):ixN n i=some i.toNat:=by unfold ixN;rw [if_pos h0,if_pos h1]
theorem atL1 {x y:V} {r:List V}:atI (x::y::r) 1=some y:=atI_nat (j:=1) rfl
theorem atL2 {x y z:V} {r:List V}:atI (x::y::z::r) 2=some z:=atI_nat (j:=2) rfl
theorem atL3 {x y z w:V} {r:List V}:atI (x::y::z::w::r) 3=some w:=atI_nat (j:=3) rfl
theorem i_tt {A B:Prop} (k:A):if (true:Bool)=true then A else B:=by rw [if_pos rfl];exact k
theorem i_ff {A B:Prop} (k:B):if (false:Bool)=true then A else B:=by rw [if_neg (by decide)];exact k
theorem i_ntt {A B:Prop} (k:B):if (!true:Bool)=true then A else B:=by rw [if_neg (by decide)];exact k
theorem w_isTT (h:H l=some (.tup xs)) (k:Q (.bl true) H):rIsT K [.ref l,.ty "tuple"] H Q:=w_is (.tup h) (bt_tuple (.tup h)) k
theorem w_isLL (h:H l=some (.lst xs)) (k:Q (.bl true) H):rIsT K [.ref l,.ty "list"] H Q:=w_is (.lst h) (bt_list (.lst h)) k
theorem w_isTL (h:H l=some (.tup xs)) (k:Q (.bl false) H):rIsT K [.ref l,.ty "list"] H Q:=w_is (.tup h) (bt_list (.tup h)) k
theorem w_isLT (h:H l=some (.lst xs)) (k:Q (.bl false) H):rIsT K [.ref l,.ty "tuple"] H Q:=w_is (.lst h) (bt_tuple (.lst h)) k
theorem w_isIB {i:Int} (k:Q (.bl false) H):rIsT K [.int i,.ty "bool"] H Q:=w_is (TyOf.int (K:=K) (H:=H) i) (bt_bool (TyOf.int (K:=K) (H:=H) i)) k
theorem w_isBB {b:Bool} (k:Q (.bl true) H):rIsT K [.bl b,.ty "bool"] H Q:=w_is (TyOf.bl (K:=K) (H:=H) b) (bt_bool (TyOf.bl (K:=K) (H:=H) b)) k
theorem small_lt {n:Nat} (h:n < 1000000):n < sizeLine:=Nat.lt_of_lt_of_le h (small_line (Nat.le_refl _))
theorem w_tupB {n i0 i1:Nat} {a b:V} {R:St→Hp→Prop} (hn:n=2) (hp:SqT K H l [a,b]) (h:gName i0 a σ H fun σ1 H1=>gName i1 b σ1 H1 R):gTup K n (gCons (gName i0) (gCons (gName i1) gNil)) (.ref l) σ H R:=by
 subst hn
 exact w_tup2 hp h
theorem w_ixM {i:Int} (h:SqL K H l xs) (h0:0≤i) (h1:i < xs.length) (k:∀v∈xs,Q v H):rIxL K (.ref l) (.int i) H Q:=let ⟨v,e,m⟩:=atI_lt h0 h1;w_ixL h e (k v m)
theorem tups_at {rows:List (List V)} {i:Nat} {v:V} (h:TupsAt H xs rows) (e:xs[i]?=some v):∃r q,rows[i]?=some r∧v=.ref q∧H q=some (.tup r):=by
 have hi:i < rows.length:=by rw [← h.1];exact (List.getElem?_eq_some_iff.mp e).1
 obtain ⟨q,e1,e2⟩:=h.2 i rows[i] (by simp)
 rw [e] at e1
 exact ⟨rows[i],q,by simp,Option.some.inj e1,e2⟩
end
section
variable {K:W.Frag} {g:TG} {tb:TS} {D:Ends} {σ:St} {H:Hp} {tr:TA}
def ForR (lo:Int) (n:Nat) (g:TG) (tb:TS) (D:Ends) (σ:St) (H:Hp):Prop:=∃W:Nat→Nat→St→Hp→Prop,(∃m,W 0 m σ H)∧∀i m σ H,W i m σ H →
 ((Itr lo n).stop i H∧D.nx σ H)∨((Itr lo n).go i H∧∃N:St→Hp→Prop,(∀σ' H',N σ' H'→∃m',m' < m∧W (i + 1) m' σ' H')∧∀x H',(Itr lo n).yld i H x H'→g x σ H' fun σ2 H2=>tb { D with nx:=N,ct:=N,bk:=D.nx } σ2 H2)
theorem forR_by {lo:Int} {n:Nat} (Pv:Nat→St→Hp→Prop) (h0:Pv 0 σ H) (hs:∀i σ H,i < n→Pv i σ H→g (.int (lo + i)) σ H fun σ2 H2=>tb { D with nx:=Pv (i + 1),ct:=Pv (i + 1),bk:=D.nx } σ2 H2) (hd:∀σ H,Pv n σ H→D.nx σ H):ForR lo n g tb D σ H:=for_range Pv h0 hs hd
theorem w_forR1 (h:tr σ H fun vs H1=>∃j:Int,vs=[.int j]∧-(2 ^ 62)≤j∧j < 2 ^ 62∧ForR 0 j.toNat g tb D σ H1):tFor (iRng1 tr) g tb D σ H:=h
theorem w_forR2 (h:tr σ H fun vs H1=>∃i j:Int,vs=[.int i,.int j]∧(-(2 ^ 62)≤i∧i < 2 ^ 62∧-(2 ^ 62)≤j∧j < 2 ^ 62)∧ForR i (j - i).toNat g tb D σ H1):tFor (iRng2 tr) g tb D σ H:=h
def ForE (K:PySem.W.Frag) (a:Addr) (xs:List V) (g:TG) (tb:TS) (D:Ends) (σ:St) (H:Hp):Prop:=∃W:Nat→Nat→St→Hp→Prop,(∃m,W 0 m σ H)∧∀i m σ H,W i m σ H →
      ((Ite K a xs).stop i H∧D.nx σ H)∨((Ite K a xs).go i H∧∃N:St→Hp→Prop,(∀σ' H',N σ' H'→∃m',m' < m∧W (i + 1) m' σ' H')∧∀x H',(Ite K a xs).yld i H x H'→g x σ H' fun σ2 H2=>tb { D with nx:=N,ct:=N,bk:=D.nx } σ2 H2)
theorem w_forE (h:tr σ H fun vs H1=>∃a xs,vs=[.ref a]∧SqL K H1 a xs∧ForE K a xs g tb D σ H1):tFor (iEnum K tr) g tb D σ H:=h
theorem e_by {a:Addr} {xs:List V} (h:SqL K H a xs) (k:ForE K a xs g tb D σ H):∃a' xs',[V.ref a]=[.ref a']∧SqL K H a' xs'∧ForE K a' xs' g tb D σ H:=⟨a,xs,rfl,h,k⟩
theorem forE_by {a:Addr} {xs:List V} (Pv:Nat→St→Hp→Prop) (h0:Pv 0 σ H) (hl:∀i σ H,i≤xs.length→Pv i σ H→SqL K H a xs)
  (hs:∀i x T σ H H',xs[i]?=some x→Pv i σ H→New H H' T (.tup [.int i,x])→g (.ref T) σ H' fun σ2 H2=>tb { D with nx:=Pv (i + 1),ct:=Pv (i + 1),bk:=D.nx } σ2 H2) (hd:∀σ H,Pv xs.length σ H→D.nx σ H):ForE K a xs g tb D σ H:=for_enum Pv h0 hl hs hd
theorem l_by {a:Addr} {xs:List V} (h:SqL K H a xs) (k:ForL K a g tb D σ H):∃a',V.ref a=.ref a'∧(∃xs,SqL K H a' xs)∧ForL K a' g tb D σ H:=⟨a,rfl,⟨xs,h⟩,k⟩
theorem c_by {a:Addr} {xs:List V} {nt:Nat} {fr:List Nat} {c:TT} {te:TE} {Q:VK} (h:SqL K H a xs) (k:CompAll (Itl K a) nt fr g c te σ H Q):∃a',V.ref a=.ref a'∧(∃xs,SqL K H a' xs)∧CompAll (Itl K a') nt fr g c te σ H Q:=⟨a,rfl,⟨xs,h⟩,k⟩
end
section
variable {K:W.Frag} {σ:St} {H:Hp} {Q:VK} {ta tv:TE} {t:TA} {f m:Str} {C:Addr} {sp:Sp} {E:XK} {D:Ends}
def SetF (K:W.Frag) (f:Str) (y x:V) (H:Hp) (R:Hp→Prop):Prop:=∃a C dx fs,x=.ref a∧H a=some (.ins C dx fs)∧Cls K C∧NoAttr K C f∧fs.length < 1000∧R (upd H a (.ins C dx (putF f y fs)))
theorem go_sfldB (h:tv σ H fun y H1=>ta σ H1 fun x H2=>SetF K f y x H2 fun H3=>D.nx σ H3):sFld K ta tv f D σ H:=h
theorem w_setF {l dx:Addr} {fs:List (Str×V)} {y:V} {R:Hp→Prop} (ho:H l=some (.ins C dx fs)) (c:Cls K C) (n:NoAttr K C f) (z:fs.length < 1000) (k:∀H',Off l H H'→H' l=some (.ins C dx (putF f y fs))→R H'):SetF K f y (.ref l) H R :=
 ⟨l,C,dx,fs,rfl,ho,c,n,z,k _ Off.upd upd_same⟩
def tMakeB (C:Addr) (sp:Sp) (E:XK) (t:TA):TE:=fun σ H Q=>t σ H fun vs H1=>∀x dx H2,New H1 H2 x (.ins C dx [])→sp (.ref x::vs) H2 (fun v H3=>v=.non∧Q (.ref x) H3) E
theorem go_makeB (h:t σ H fun vs H1=>∀x dx H2,New H1 H2 x (.ins C dx [])→sp (.ref x::vs) H2 (fun v H3=>v=.non∧Q (.ref x) H3) E):tMakeB C sp E t σ H Q:=h
theorem go_methB (h:ta σ H fun x H1=>∃a dx fs,x=.ref a∧H1 a=some (.ins C dx fs)∧fs.lookup m=none∧t σ H1 fun vs H2=>sp (x::vs) H2 Q E):tMeth C m sp [] E ta t σ H Q:=by
 have e:(fun (x:V) (H1:Hp)=>∃a dx fs,x=.ref a∧H1 a=some (.ins C dx fs)∧fs.lookup m=none∧t σ H1 fun vs H2=>sp (x::(vs++[])) H2 Q E)=fun x H1=>∃a dx fs,x=.ref a∧H1 a=some (.ins C dx fs)∧fs.lookup m=none∧t σ H1 fun vs H2=>sp (x::vs) H2 Q E:=by
  simp only [List.append_nil]
 show ta σ H fun x H1=>∃a dx fs,x=.ref a∧H1 a=some (.ins C dx fs)∧fs.lookup m=none∧t σ H1 fun vs H2=>sp (x::(vs++[])) H2 Q E
 rw [e]
 exact h
end
section
variable {X:Cx} {CX:CXT} {k m:Nat} {x:Str} {ps:List Str} {sp:Sp} {E:XK} {p pos:Pos} {e:Expr} {es:List Expr} {t:TA} {C:Addr}
theorem pe_makB (D:Mak X.prog X.w X.K X.mg X.base CX k x C ps sp) (hr:Room m X.A) (ha:PA X (e::es) t) (hk:k + 1≤m:=by decide) (hx:Passes CX X E:=by exact pass0) (hg:Gl X x:=by rfl)
  (hdb:(x == ("__debug__" : Str))=false:=by decide) (he:starEach (e::es) X.env=(false,eval e X.env)::starEach es X.env:=by rfl) (hpl:(backTo pos (starEach es X.env)).any (·.1)=false:=by rfl) :
  PE X (.Call (.Name x p) (e::es) [] pos) (tMakeB C sp E t):=by
 obtain ⟨f,fd,F,M,g,b⟩:=D.ex
 intro pins s σ H Q I h
 refine wpAny_Call_Name_kw (ld_glob I hg g ?_ hdb)
 refine W.callWith_K (h₀:=X.base) I.ok.mod.kin M.kp (thn (ha pos pins s σ H _ I h) fun us s1 ⟨vs,H1,I1,r,q⟩=>⟨I1.kIn,?_⟩) he hpl
 refine run_make M F (hr.mono hk) b .nil hx I1 r fun y dy h1 h2 h3=>?_
 rw [List.append_nil]
 exact q y dy _ ⟨made_same h1 h2,upd_same,fun a u z=>ne_of_none z h1⟩
end
def isFr:V→Int→Bool
 | .int i,lo=>decide (lo≤i)
 | _,_=>false
def inB:V→Int→Int→Bool
 | .int i,lo,hi=>decide (lo≤i) && decide (i≤hi)
 | _,_,_=>false
section
variable {K:W.Frag} {H:Hp} {Q:VK} {E:XK} {x:V} {n:String} {p q:Addr} {a b c lo hi:Int}
def sp_whole (K:W.Frag):Sp:=fun vs H Q _=>∃x n,vs=[x]∧TyOf K H x (.type n)∧Q (.bl (isW x)) H
theorem u_whole (ty:TyOf K H x (.type n)) (k:Q (.bl (isW x)) H):sp_whole K [x] H Q E:=⟨x,n,rfl,ty,k⟩
def sp_is_from (K:W.Frag):Sp:=fun vs H Q _=>∃x n lo,vs=[x,.int lo]∧TyOf K H x (.type n)∧Q (.bl (isFr x lo)) H
theorem u_fromI (k:Q (.bl (decide (lo≤a))) H):sp_is_from K [.int a,.int lo] H Q E:=⟨_,_,lo,rfl,.int _,k⟩
def sp_is_within (K:W.Frag):Sp:=fun vs H Q _=>∃x n lo hi,vs=[x,.int lo,.int hi]∧TyOf K H x (.type n)∧Q (.bl (inB x lo hi)) H
theorem u_within (ty:TyOf K H x (.type n)) (k:Q (.bl (inB x lo hi)) H):sp_is_within K [x,.int lo,.int hi] H Q E:=⟨x,n,lo,hi,rfl,ty,k⟩
def sp_is_many (K:W.Frag):Sp:=fun vs H Q _=>∃x n,vs=[x]∧TyOf K H x (.type n)∧Q (.bl (inB x 16 240)) H
def sp_end_of:Sp:=fun vs H Q _=>∃(q:Addr) (a b:Int),vs=[.ref q]∧H q=some (.tup [.int a,.int b])∧Q (.int (a + b)) H
theorem u_end (h:H q=some (.tup [.int a,.int b])) (k:Q (.int (a + b)) H):sp_end_of [.ref q] H Q E:=⟨q,a,b,rfl,h,k⟩
def rowsN (ws:List (Nat×Nat)):List (List V):=ws.map fun w=>[V.int (w.1:Nat),V.int (w.2:Nat)]
theorem rowsN_len (ws:List (Nat×Nat)):(rowsN ws).length=ws.length:=List.length_map ..
def sp_cellA (K:W.Frag):Sp:=fun vs H Q _=>∃(a:Addr) (ns:List Int) (k:Int),vs=[.ref a,.int k]∧SqL K H a (ns.map V.int)∧0≤k∧∀c:Int,Q (.int c) H
theorem u_cellA {ns:List Int} {m:Int} (h:SqL K H p (ns.map V.int)) (h0:0≤m) (k:∀c:Int,Q (.int c) H):sp_cellA K [.ref p,.int m] H Q E:=⟨p,ns,m,rfl,h,h0,k⟩
def sp_boxA:Sp:=fun vs H Q _=>∃c:Int,vs=[.int c]∧∀(p:Addr) (a b:Int) (H':Hp),New H H' p (.lst [.int a,.int b,.int 0])→Q (.ref p) H'
theorem u_boxA (k:∀(p:Addr) (x y:Int) (H':Hp),New H H' p (.lst [.int x,.int y,.int 0])→Q (.ref p) H'):sp_boxA [.int a] H Q E:=⟨a,rfl,k⟩
end
section
variable {K:W.Frag} {g:TG} {tb:TS} {D:Ends} {σ:St} {H H':Hp} {Q:VK} {l p q:Addr} {xs ys:List V} {rows:List (List V)}
theorem forR0_by {n:Nat} (Pv:Nat→St→Hp→Prop) (h0:Pv 0 σ H) (hs:∀i σ H,i < n→Pv i σ H→g (.int i) σ H fun σ2 H2=>tb { D with nx:=Pv (i + 1),ct:=Pv (i + 1),bk:=D.nx } σ2 H2) (hd:∀σ H,Pv n σ H→D.nx σ H):ForR 0 n g tb D σ H :=
 for_range Pv h0 (fun i σ H hi h=>by rw [Int.zero_add];exact hs i σ H hi h) hd
theorem TupsAt.snoc {r:List V} (h:TupsAt H ys rows) (hq:H q=some (.tup r)):TupsAt H (ys++[.ref q]) (rows++[r]):=by
 refine ⟨by rw [List.length_append,List.length_append,h.1];rfl,fun j s z=>?_⟩
 by_cases hj:j < rows.length
 ·rw [List.getElem?_append_left hj] at z
  obtain ⟨x,e1,e2⟩:=h.2 j s z
  exact ⟨x,by rw [List.getElem?_append_left (by rw [h.1];exact hj)];exact e1,e2⟩
 ·have hj2:j=rows.length:=by
   have:=(List.getElem?_eq_some_iff.mp z).1
   rw [List.length_append,List.length_singleton] at this
   omega
  subst hj2
  rw [List.getElem?_append_right (Nat.le_refl _),Nat.sub_self] at z
  cases z
  exact ⟨q,by rw [← h.1,List.getElem?_append_right (Nat.le_refl _),Nat.sub_self];rfl,hq⟩
def IsPair (H:Hp) (v:V):Option (Nat×Nat)→Prop
 | none=>v=.non
 | some w=>∃q,v=.ref q∧H q=some (.tup [.int (w.1:Nat),.int (w.2:Nat)])
theorem IsPair.same {v:V} {o:Option (Nat×Nat)} (s:Same H H') (h:IsPair H v o):IsPair H' v o:=by
 cases o with
 | none=>exact h
 | some w=>obtain ⟨q,e1,e2⟩:=h;exact ⟨q,e1,s _ _ e2⟩
end
def isTup:HO→Bool
 | .tup _=>true
 | .frz _ _=>true
 | _=>false
def Tst (H H':Hp):Prop:=∀q u,isTup u=true→H q=some u→H' q=some u
inductive Im where
 | tup (q:Addr) (r:List V)
 | tps (ys:List V) (rs:List (List V))
 | fct (φ:Hp→Prop) (st:∀H H',Tst H H'→φ H→φ H')
def Im.holds (H:Hp):Im→Prop
 | .tup q r=>H q=some (.tup r)
 | .tps ys rs=>TupsAt H ys rs
 | .fct φ _=>φ H
theorem Im.stay {H H':Hp} (t:Tst H H'):∀{f:Im},f.holds H→f.holds H'
 | .tup q r,h=>t q _ rfl h
 | .tps ys rs,h=>⟨h.1,fun j r e=>let ⟨q,a,b⟩:=h.2 j r e;⟨q,a,t q _ rfl b⟩⟩
 | .fct φ st,h=>st H H' t h
class SH (H0:outParam Hp) (M:outParam (List Addr)) (H:Hp) (L:outParam (List (Addr×HO))) (I:outParam (List Im)):Prop where
 fr:∀b u,b ∉ M→H0 b=some u→H b=some u
 im:∀f∈I,f.holds H
 at':∀c∈L,H c.1=some c.2
 nd:(L.map (·.1)).Nodup
 mu:∀c∈L,isTup c.2=false
 ch:∀c∈L,c.1∈M∨∀b u,H0 b=some u→b≠c.1
inductive Up (l:Addr) (o':HO):List (Addr×HO)→List (Addr×HO)→Prop
 | head {o:HO} {L:List (Addr×HO)}:Up l o' ((l,o)::L) ((l,o')::L)
 | tail {c:Addr×HO} {L L':List (Addr×HO)} (h:Up l o' L L'):Up l o' (c::L) (c::L')
theorem Up.keys {l:Addr} {o':HO} {L L':List (Addr×HO)} (h:Up l o' L L'):L'.map (·.1)=L.map (·.1):=by
 induction h with
 | head=>rfl
 | tail h ih=>rw [List.map_cons,List.map_cons,ih]
theorem Up.mem {l:Addr} {o':HO} {L L':List (Addr×HO)} (h:Up l o' L L'):l∈L.map (·.1):=by
 induction h with
 | head=>exact List.mem_cons_self
 | tail h ih=>exact List.mem_cons_of_mem _ ih
theorem Up.each {l:Addr} {o':HO} {L L':List (Addr×HO)} (h:Up l o' L L') (nd:(L.map (·.1)).Nodup):∀c∈L',c=(l,o')∨(c∈L∧c.1≠l):=by
 induction h with
 | @head o L =>
  intro c hc
  rcases List.mem_cons.mp hc with rfl | hc
  ·exact .inl rfl
  ·refine .inr ⟨List.mem_cons_of_mem _ hc,fun z=>?_⟩
   rw [List.map_cons] at nd
   exact (List.nodup_cons.mp nd).1 (by show l∈_;rw [← z];exact List.mem_map_of_mem (f:=(·.1)) hc)
 | @tail d L L' h ih =>
  intro c hc
  rw [List.map_cons] at nd
  have nd':=List.nodup_cons.mp nd
  rcases List.mem_cons.mp hc with rfl | hc
  ·exact .inr ⟨List.mem_cons_self,fun z=>nd'.1 (z▸h.mem)⟩
  ·rcases ih nd'.2 c hc with e | ⟨e1,e2⟩
   ·exact .inl e
   ·exact .inr ⟨List.mem_cons_of_mem _ e1,e2⟩
theorem Up.src {l:Addr} {o':HO} {L L':List (Addr×HO)} (h:Up l o' L L'):∃o,(l,o)∈L:=by
 induction h with
 | head=>exact ⟨_,List.mem_cons_self⟩
 | tail h ih=>obtain ⟨o,ho⟩:=ih;exact ⟨o,List.mem_cons_of_mem _ ho⟩
inductive Pk (c:Addr×HO):List (Addr×HO)→List (Addr×HO)→Prop
 | head {L:List (Addr×HO)}:Pk c (c::L) L
 | tail {d:Addr×HO} {L R:List (Addr×HO)} (h:Pk c L R):Pk c (d::L) (d::R)
inductive Sb:List (Addr×HO)→List (Addr×HO)→Prop
 | nil {L:List (Addr×HO)}:Sb [] L
 | cons {c:Addr×HO} {L' L R:List (Addr×HO)} (h:Pk c L R) (t:Sb L' R):Sb (c::L') L
theorem Pk.mem {c:Addr×HO} {L R:List (Addr×HO)} (h:Pk c L R):c∈L∧∀d∈R,d∈L:=by
 induction h with
 | head=>exact ⟨List.mem_cons_self,fun d hd=>List.mem_cons_of_mem _ hd⟩
 | tail h ih =>
  refine ⟨List.mem_cons_of_mem _ ih.1,fun d hd=>?_⟩
  rcases List.mem_cons.mp hd with rfl | hd
  ·exact List.mem_cons_self
  ·exact List.mem_cons_of_mem _ (ih.2 d hd)
theorem Pk.nd {c:Addr×HO} {L R:List (Addr×HO)} (h:Pk c L R) (nd:(L.map (·.1)).Nodup):(R.map (·.1)).Nodup∧∀d∈R,d.1≠c.1:=by
 induction h with
 | head =>
  rw [List.map_cons] at nd
  have:=List.nodup_cons.mp nd
  exact ⟨this.2,fun d hd z=>this.1 (z▸List.mem_map_of_mem hd)⟩
 | @tail d L R h ih =>
  rw [List.map_cons] at nd
  have nd':=List.nodup_cons.mp nd
  obtain ⟨i1,i2⟩:=ih nd'.2
  refine ⟨by
   rw [List.map_cons,List.nodup_cons]
   refine ⟨fun z=>?_,i1⟩
   obtain ⟨x,hx,ex⟩:=List.mem_map.mp z
   exact nd'.1 (ex▸List.mem_map_of_mem (h.mem.2 x hx)),fun x hx=>?_⟩
  rcases List.mem_cons.mp hx with rfl | hx
  ·exact fun z=>nd'.1 (z▸List.mem_map_of_mem h.mem.1)
  ·exact i2 x hx
theorem Sb.mem {L' L:List (Addr×HO)} (h:Sb L' L):∀c∈L',c∈L:=by
 induction h with
 | nil=>intro c hc;cases hc
 | cons h t ih =>
  intro c hc
  rcases List.mem_cons.mp hc with rfl | hc
  ·exact h.mem.1
  ·exact h.mem.2 c (ih c hc)
theorem Sb.nd {L' L:List (Addr×HO)} (h:Sb L' L):(L.map (·.1)).Nodup→(L'.map (·.1)).Nodup:=by
 induction h with
 | nil=>intro _;exact List.nodup_nil
 | cons h t ih =>
  intro nd
  obtain ⟨n1,n2⟩:=h.nd nd
  rw [List.map_cons,List.nodup_cons]
  refine ⟨fun z=>?_,ih n1⟩
  obtain ⟨x,hx,ex⟩:=List.mem_map.mp z
  exact n2 x (t.mem x hx) ex
section
variable {H0 H H':Hp} {M:List Addr} {L L':List (Addr×HO)} {I I':List Im} {p q l a:Addr} {o o' u:HO} {xs ys r:List V} {rs:List (List V)} {K:W.Frag}
theorem SH.nil:SH H M H [] []:=⟨fun _ _ _ h=>h,(fun _ h=>by cases h),(fun _ h=>by cases h),List.nodup_nil,(fun _ h=>by cases h),(fun _ h=>by cases h)⟩
theorem SH.addM (F:SH H0 M H0 L I) (hm:p∈M) (h:H0 p=some o) (ht:isTup o=false) (ne:∀c∈L,c.1≠p):SH H0 M H0 ((p,o)::L) I:=by
 refine ⟨F.fr,F.im,?_,?_,?_,?_⟩
 ·intro c hc
  rcases List.mem_cons.mp hc with rfl | hc
  ·exact h
  ·exact F.at' c hc
 ·rw [List.map_cons,List.nodup_cons]
  refine ⟨fun z=>?_,F.nd⟩
  obtain ⟨x,hx,ex⟩:=List.mem_map.mp z
  exact ne x hx ex
 ·intro c hc
  rcases List.mem_cons.mp hc with rfl | hc
  ·exact ht
  ·exact F.mu c hc
 ·intro c hc
  rcases List.mem_cons.mp hc with rfl | hc
  ·exact .inl hm
  ·exact F.ch c hc
theorem SH.addT (F:SH H0 M H L I) (h:H q=some (.tup r)):SH H0 M H L (.tup q r::I):=⟨F.fr,fun f hf=>by
 rcases List.mem_cons.mp hf with rfl | hf
 ·exact h
 ·exact F.im f hf,F.at',F.nd,F.mu,F.ch⟩
theorem SH.addP (F:SH H0 M H L I) (h:TupsAt H ys rs):SH H0 M H L (.tps ys rs::I):=⟨F.fr,fun f hf=>by
 rcases List.mem_cons.mp hf with rfl | hf
 ·exact h
 ·exact F.im f hf,F.at',F.nd,F.mu,F.ch⟩
theorem SH.addF {φ:Hp→Prop} {st:∀H H',Tst H H'→φ H→φ H'} (F:SH H0 M H L I) (h:φ H):SH H0 M H L (.fct φ st::I):=⟨F.fr,fun f hf=>by
 rcases List.mem_cons.mp hf with rfl | hf
 ·exact h
 ·exact F.im f hf,F.at',F.nd,F.mu,F.ch⟩
theorem SH.same (F:SH H0 M H L I) (s:Same H H'):SH H0 M H' L I:=⟨fun b u n e=>s b u (F.fr b u n e),fun f hf=>Im.stay (fun q u _ e=>s q u e) (F.im f hf),fun c hc=>s _ _ (F.at' c hc),F.nd,F.mu,F.ch⟩
theorem SH.newT (F:SH H0 M H L I) (n:New H H' q (.tup r)):SH H0 M H' L (.tup q r::I):=(F.same n.s).addT n.e
theorem SH.newO (F:SH H0 M H L I) (n:New H H' p o) (ht:isTup o=false):SH H0 M H' ((p,o)::L) I:=by
 have F':=F.same n.s
 refine ⟨F'.fr,F'.im,?_,?_,?_,?_⟩
 ·intro c hc
  rcases List.mem_cons.mp hc with rfl | hc
  ·exact n.e
  ·exact F'.at' c hc
 ·rw [List.map_cons,List.nodup_cons]
  refine ⟨fun z=>?_,F.nd⟩
  obtain ⟨x,hx,ex⟩:=List.mem_map.mp z
  exact n.n _ _ (F.at' x hx) ex
 ·intro c hc
  rcases List.mem_cons.mp hc with rfl | hc
  ·exact ht
  ·exact F.mu c hc
 ·intro c hc
  rcases List.mem_cons.mp hc with rfl | hc
  ·by_cases hm:p∈M
   ·exact .inl hm
   ·exact .inr fun b u e z=>by
     by_cases hb:b∈M
     ·exact hm (by have z':b=p:=z;rw [← z'];exact hb)
     ·exact n.n b u (F.fr b u hb e) z
  ·exact F.ch c hc
theorem SH.newL (F:SH H0 M H L I) (n:New H H' p (.lst xs)):SH H0 M H' ((p,.lst xs)::L) I:=F.newO n rfl
theorem SH.newI {C dx:Addr} {fs:List (Str×V)} (F:SH H0 M H L I) (n:New H H' p (.ins C dx fs)):SH H0 M H' ((p,.ins C dx fs)::L) I:=F.newO n rfl
theorem SH.newR (F:SH H0 M H L I) (n:New H H' p (.lst ys)) (t:TupsAt H' ys rs):SH H0 M H' ((p,.lst ys)::L) (.tps ys rs::I):=(F.newL n).addP t
theorem SH.kp (F:SH H0 M H L I) (k:Kp l H H') (e:H' l=some o') (u:Up l o' L L') (ht:isTup o'=false:=by rfl):SH H0 M H' L' I:=by
 obtain ⟨o,ho⟩:=u.src
 have hl:=F.at' _ ho
 have hu:=F.mu _ ho
 refine ⟨fun b w nb e0=>k b w (fun z=>?_) (F.fr b w nb e0),fun f hf=>Im.stay (fun q v hv e1=>k q _ (fun z=>?_) e1) (F.im f hf),fun c hc=>?_,by rw [u.keys];exact F.nd,fun c hc=>?_,fun c hc=>?_⟩
 ·rcases F.ch _ ho with h | h
  ·exact nb (by rw [z];exact h)
  ·exact h b w e0 z
 ·rw [z,hl] at e1
  cases e1
  rw [hu] at hv
  cases hv
 ·rcases u.each F.nd c hc with rfl | ⟨h1,h2⟩
  ·exact e
  ·exact k _ _ h2 (F.at' c h1)
 ·rcases u.each F.nd c hc with rfl | ⟨h1,h2⟩
  ·exact ht
  ·exact F.mu c h1
 ·rcases u.each F.nd c hc with rfl | ⟨h1,h2⟩
  ·exact F.ch (l,o) ho
  ·exact F.ch c h1
theorem SH.offL (F:SH H0 M H L I) (f:Off l H H') (e:H' l=some (.lst xs)) (u:Up l (.lst xs) L L'):SH H0 M H' L' I:=F.kp f.kp e u rfl
theorem SH.kpL (F:SH H0 M H L I) (f:Kp l H H') (e:H' l=some (.lst xs)) (u:Up l (.lst xs) L L'):SH H0 M H' L' I:=F.kp f e u rfl
theorem SH.offI {C dx:Addr} {fs:List (Str×V)} (F:SH H0 M H L I) (f:Off l H H') (e:H' l=some (.ins C dx fs)) (u:Up l (.ins C dx fs) L L'):SH H0 M H' L' I:=F.kp f.kp e u rfl
theorem SH.raw (F:SH H0 M H L I) (m:(a,o)∈L):H a=some o:=F.at' _ m
theorem SH.tup (F:SH H0 M H L I) (m:.tup q r∈I):H q=some (.tup r):=F.im _ m
theorem SH.tps (F:SH H0 M H L I) (m:.tps ys rs∈I):TupsAt H ys rs:=F.im _ m
theorem SH.old (F:SH H0 M H L I) (h:H0 a=some u) (n:a ∉ M):H a=some u:=F.fr a u n h
theorem SH.sq (F:SH H0 M H L I) (h:SqL K H0 a xs) (n:a ∉ M):SqL K H a xs:=by
 rcases h with (h | ⟨o,h⟩) | h
 ·exact .inl (.inl (F.fr a _ n h))
 ·exact .inl (.inr ⟨o,F.fr a _ n h⟩)
 ·exact .inr h
theorem SH.sub (F:SH H0 M H L I) (s:Sb L' L) (t:∀f∈I',f∈I):SH H0 M H L' I':=⟨F.fr,fun f hf=>F.im f (t f hf),fun c hc=>F.at' c (s.mem c hc),s.nd F.nd,fun c hc=>F.mu c (s.mem c hc),fun c hc=>F.ch c (s.mem c hc)⟩
theorem SH.sm (F:SH H0 [] H L I):Same H0 H:=fun b u e=>F.fr b u List.not_mem_nil e
theorem SH.kpo (F:SH H0 [p] H L I):Kp p H0 H:=fun b u n e=>F.fr b u (fun z=>n (List.mem_singleton.mp z)) e
theorem SH.nw (F:SH H0 [] H L I) (m:(q,o)∈L):New H0 H q o:=⟨F.sm,F.at' _ m,fun b u e=>by
 rcases F.ch _ m with h | h
 ·exact absurd h List.not_mem_nil
 ·exact h b u e⟩
theorem SH.fresh (F:SH H0 M H L I) (m:(q,o)∈L) (n:q ∉ M):∀b u,H0 b=some u→b≠q:=fun b u e=>by
 rcases F.ch _ m with h | h
 ·exact absurd h n
 ·exact h b u e
theorem nm0:a ∉ ([]:List Addr):=List.not_mem_nil
theorem nm1 (h:a≠p):a ∉ [p]:=fun z=>h (List.mem_singleton.mp z)
theorem SH.app (F:SH H0 M H L I) (m:.tps ys rs∈I) (m':.tup q r∈I):SH H0 M H L (.tps (ys++[.ref q]) (rs++[r])::I):=F.addP ((F.tps m).snoc (F.tup m'))
end
class Go (G:Prop) (G':outParam Prop):Prop where
 go:G'→G
theorem go1 {G G':Prop} [h:Go G G'] (k:G'):G:=h.go k
class LkL (L:List (Addr×HO)) (a:Addr) (o:outParam HO):Prop where
 m:(a,o)∈L
class LkI (I:List Im) (a:Addr) (r:outParam (List V)):Prop where
 m:.tup a r∈I
class LkP (I:List Im) (ys:List V) (rs:outParam (List (List V))):Prop where
 m:.tps ys rs∈I
class LkU (L:List (Addr×HO)) (l:Addr) (o:HO) (L':outParam (List (Addr×HO))):Prop where
 u:Up l o L L'
class Old (H0:Hp) (M:List Addr) (a:Addr) (o:outParam HO):Prop where
 e:H0 a=some o
 n:a ∉ M
class OldQ (K:W.Frag) (H0:Hp) (M:List Addr) (a:Addr) (xs:outParam (List V)):Prop where
 e:SqL K H0 a xs
 n:a ∉ M
class OldP (H0:Hp) (ys:List V) (rs:outParam (List (List V))):Prop where
 e:TupsAt H0 ys rs
class Hat (H:Hp) (a:Addr) (o:outParam HO):Prop where
 e:H a=some o
class SqA (K:W.Frag) (H:Hp) (a:Addr) (xs:outParam (List V)):Prop where
 e:SqL K H a xs
class SqB (K:W.Frag) (H:Hp) (a:Addr) (xs:outParam (List V)):Prop where
 e:SqT K H a xs
class TpA (H:Hp) (ys:List V) (rs:outParam (List (List V))):Prop where
 e:TupsAt H ys rs
class AtI (xs:List V) (i:Int) (v:outParam V):Prop where
 e:atI xs i=some v
section
variable {H0 H H':Hp} {M:List Addr} {L L':List (Addr×HO)} {I:List Im} {a p l:Addr} {o o':HO} {c:Addr×HO} {f:Im} {r xs ys:List V} {rs:List (List V)} {K:W.Frag} {v v0 v1 v2 v3:V}
instance lkL1 [h:LkL L a o]:LkL (c::L) a o:=⟨List.mem_cons_of_mem _ h.m⟩
instance lkL0:LkL ((a,o)::L) a o:=⟨List.mem_cons_self⟩
instance lkI1 [h:LkI I a r]:LkI (f::I) a r:=⟨List.mem_cons_of_mem _ h.m⟩
instance lkI0:LkI (.tup a r::I) a r:=⟨List.mem_cons_self⟩
instance lkP1 [h:LkP I ys rs]:LkP (f::I) ys rs:=⟨List.mem_cons_of_mem _ h.m⟩
instance lkP0:LkP (.tps ys rs::I) ys rs:=⟨List.mem_cons_self⟩
instance lkU1 [h:LkU L l o L']:LkU (c::L) l o (c::L'):=⟨.tail h.u⟩
instance lkU0:LkU ((l,o')::L) l o ((l,o)::L):=⟨.head⟩
instance hat_old [F:SH H0 M H L I] [h:Old H0 M a o]:Hat H a o:=⟨F.fr a o h.n h.e⟩
instance hat_tup [F:SH H0 M H L I] [h:LkI I a r]:Hat H a (.tup r):=⟨F.tup h.m⟩
instance hat_lst [F:SH H0 M H L I] [h:LkL L a o]:Hat H a o:=⟨F.raw h.m⟩
instance sqA_old [F:SH H0 M H L I] [h:OldQ K H0 M a xs]:SqA K H a xs:=⟨F.sq h.e h.n⟩
instance sqA_hat [h:Hat H a (.lst xs)]:SqA K H a xs:=⟨.of h.e⟩
instance sqB_hat [h:Hat H a (.tup xs)]:SqB K H a xs:=⟨.of h.e⟩
instance tpA_old {H0:Hp} {L:List (Addr×HO)} {I:List Im} [F:SH H0 [] H L I] [h:OldP H0 ys rs]:TpA H ys rs:=⟨h.e.same F.sm⟩
instance tpA_tps [F:SH H0 M H L I] [h:LkP I ys rs]:TpA H ys rs:=⟨F.tps h.m⟩
instance at0:AtI (v::r) 0 v:=⟨atI_0⟩
instance at1:AtI (v0::v::r) 1 v:=⟨atL1⟩
instance at2:AtI (v0::v1::v::r) 2 v:=⟨atL2⟩
instance at3:AtI (v0::v1::v2::v::r) 3 v:=⟨atL3⟩
variable {Z:Addr→Hp→Prop} {R:Hp→Prop} {C dx:Addr} {fs:List (Str×V)}
instance nx_tup [F:SH H0 M H L I]:Go (∀p H',New H H' p (.tup xs)→Z p H') (∀H' p,SH H0 M H' L (.tup p xs::I)→Z p H'):=⟨fun k p H' n=>k H' p (F.newT n)⟩
instance nx_lst [F:SH H0 M H L I]:Go (∀p H',New H H' p (.lst xs)→Z p H') (∀H' p,SH H0 M H' ((p,.lst xs)::L) I→Z p H'):=⟨fun k p H' n=>k H' p (F.newL n)⟩
instance nx_off [F:SH H0 M H L I] [u:LkU L l (.lst xs) L']:Go (∀H',Off l H H'→H' l=some (.lst xs)→R H') (∀H',SH H0 M H' L' I→R H'):=⟨fun k H' f e=>k H' (F.offL f e u.u)⟩
instance nx_offI [F:SH H0 M H L I] [u:LkU L l (.ins C dx fs) L']:Go (∀H',Off l H H'→H' l=some (.ins C dx fs)→R H') (∀H',SH H0 M H' L' I→R H'):=⟨fun k H' f e=>k H' (F.offI f e u.u)⟩
instance nx_kp [F:SH H0 M H L I] [u:LkU L l (.lst xs) L']:Go (∀H',Kp l H H'→H' l=some (.lst xs)→R H') (∀H',SH H0 M H' L' I→R H'):=⟨fun k H' f e=>k H' (F.kpL f e u.u)⟩
instance nx_same [F:SH H0 M H L I]:Go (∀H',Same H H'→R H') (∀H',SH H0 M H' L I→R H'):=⟨fun k H' s=>k H' (F.same s)⟩
def Sd (A B:Prop):Prop:=A∧B
theorem sd {A B:Prop} (a:A) (b:B):Sd A B:=⟨a,b⟩
class FldOk (K:W.Frag) (C:Addr) (f:Str):Prop where
 c:Cls K C
 n:NoAttr K C f
class FLk (fs:List (Str×V)) (f:Str) (v:outParam V):Prop where
 e:fs.lookup f=some v
class FNo (fs:List (Str×V)) (f:Str):Prop where
 e:fs.lookup f=none
theorem SH.nwC {H0:Hp} {L:List (Addr×HO)} {I:List Im} [F:SH H0 [] H L I] [h:LkL L p o]:New H0 H p o:=F.nw h.m
theorem hatC [h:Hat H a o]:H a=some o:=h.e
variable {Q:VK} {E:XK} {R':Prop} {σ:St} {i j:Int} {f m:Str} {y:V} {b:Addr} {lo hi:Option Int}
instance nx_ins [F:SH H0 M H L I] {Z:Addr→Addr→Hp→Prop}:Go (∀x dx H',New H H' x (.ins C dx [])→Z x dx H') (∀H' x dx,SH H0 M H' ((x,.ins C dx [])::L) I→Z x dx H'):=⟨fun k p dx H' n=>k H' p dx (F.newI n)⟩
instance go_made {n:Nat}:Go (n≤sizeLine∧∀p H',New H H' p o→Z p H') (Sd (n≤sizeLine) (∀p H',New H H' p o→Z p H')):=⟨id⟩
instance go_isTT [h:Hat H l (.tup xs)]:Go (rIsT K [.ref l,.ty "tuple"] H Q) (Q (.bl true) H):=⟨w_isTT h.e⟩
instance go_isLL [h:Hat H l (.lst xs)]:Go (rIsT K [.ref l,.ty "list"] H Q) (Q (.bl true) H):=⟨w_isLL h.e⟩
instance go_isTL [h:Hat H l (.tup xs)]:Go (rIsT K [.ref l,.ty "list"] H Q) (Q (.bl false) H):=⟨w_isTL h.e⟩
instance go_isLT [h:Hat H l (.lst xs)]:Go (rIsT K [.ref l,.ty "tuple"] H Q) (Q (.bl false) H):=⟨w_isLT h.e⟩
instance go_lenT [h:SqB K H l xs]:Go (rLen K [.ref l] H Q) (Q (.int xs.length) H):=⟨w_lenT h.e⟩
instance go_lenL [h:SqA K H l xs]:Go (rLen K [.ref l] H Q) (Q (.int xs.length) H):=⟨w_lenL h.e⟩
instance go_ixL [h:SqA K H l xs] [e:AtI xs i v]:Go (rIxL K (.ref l) (.int i) H Q) (Q v H):=⟨w_ixL h.e e.e⟩
instance go_ixT [h:SqB K H l xs] [e:AtI xs i v]:Go (rIxT K (.ref l) (.int i) H Q) (Q v H):=⟨w_ixT h.e e.e⟩
instance go_tyL [h:SqA K H l xs]:Go (tyV K "list" (.ref l) H∧R') R':=⟨w_tyL h.e⟩
instance go_app [h:Hat H l (.lst xs)]:Go (rAppA (.ref l) [y] H Q) (Sd (xs.length < sizeLine) (∀H',Off l H H'→H' l=some (.lst (xs++[y]))→Q .non H')):=⟨fun s=>w_app h.e s.1 s.2⟩
instance go_slA [h:SqA K H l xs]:Go (rSlA K (.ref l) lo hi H Q) (∀p H',New H H' p (.lst (cutV xs lo hi))→Q (.ref p) H'):=⟨w_slA h.e⟩
instance go_catA [h:Hat H l (.lst xs)] [h2:Hat H b (.lst ys)]:Go (rCatA (.ref l) (.ref b) H Q) (Sd (xs.length + ys.length≤sizeLine) (∀p H',New H H' p (.lst (xs++ys))→Q (.ref p) H')):=⟨fun s=>w_catA h.e h2.e s.1 s.2⟩
instance go_lofL [h:SqA K H l xs]:Go (rLOfA K [.ref l] H Q) (∀p H',New H H' p (.lst xs)→Q (.ref p) H'):=⟨w_lofL h.e⟩
instance go_rep1 {n:Nat} [h:Hat H l (.lst [y])]:Go (rRepA (.ref l) (.int (n:Int)) H Q) (Sd (n≤1000000) (∀p H',New H H' p (.lst (List.replicate n y))→Q (.ref p) H')):=⟨fun s=>w_rep1 h.e s.1 s.2⟩
instance go_tup2 {n i0 i1:Nat} {a b:V} {R:St→Hp→Prop} [h:SqB K H l [a,b]]:Go (gTup K n (gCons (gName i0) (gCons (gName i1) gNil)) (.ref l) σ H R) (Sd (n=2) (gName i0 a σ H fun σ1 H1=>gName i1 b σ1 H1 R)):=⟨fun s=>w_tupB s.1 h.e s.2⟩
instance go_mod {f:Int→Int→V}:Go (rI (fun _ j=>0 < j) f (.int i) (.int j) H Q) (Sd (0 < j) (Q (f i j) H)):=⟨fun s=>w_mod s.1 s.2⟩
instance go_div {f:Int→Int→V}:Go (rI CDiv f (.int i) (.int j) H Q) (Sd (0 < j∧j < 1073741824) (Q (f i j) H)):=⟨fun s=>w_div s.1.1 s.1.2 s.2⟩
instance go_pow {f:Int→Int→V}:Go (rI CPow f (.int i) (.int j) H Q) (Sd (0≤j∧j≤1000000∧i.natAbs < 2 ^ 64) (Q (f i j) H)):=⟨fun s=>w_pow s.1.1 s.1.2.1 s.1.2.2 s.2⟩
instance go_mul {f:Int→Int→V}:Go (rI CMul f (.int i) (.int j) H Q) (Sd ((-(2 ^ 64) < i∧i < 2 ^ 64)∨(-(2 ^ 64) < j∧j < 2 ^ 64)) (Q (f i j) H)):=⟨fun s=>s.1.elim (fun h=>w_mulL h.1 h.2 s.2) (fun h=>w_mulR h.1 h.2 s.2)⟩
instance go_w_fld [h:Hat H a (.ins C dx fs)] [k:FldOk K C f] [e:FLk fs f v] {R:V→Prop}:Go (∃a' C' dx' fs' v',V.ref a=.ref a'∧H a'=some (.ins C' dx' fs')∧Cls K C'∧NoAttr K C' f∧fs'.lookup f=some v'∧R v') (R v):=⟨w_fld h.e k.c k.n e.e⟩
instance go_w_meth [h:Hat H l (.ins C dx fs)] [e:FNo fs m]:Go (∃a' dx' fs',V.ref l=.ref a'∧H a'=some (.ins C dx' fs')∧fs'.lookup m=none∧R') R':=⟨w_meth h.e e.e⟩
instance go_setF [h:Hat H l (.ins C dx fs)] [k:FldOk K C f]:Go (SetF K f y (.ref l) H R) (Sd (fs.length < 1000) (∀H',Off l H H'→H' l=some (.ins C dx (putF f y fs))→R H')):=⟨fun s=>w_setF h.e k.c k.n s.1 s.2⟩
end
instance go_go_seq {σ:L2.St} {H:Hp} {D:Ends} {s u:TS}:Go (tSeq s u D σ H) (s (Ends.mk (u D) (Ends.rt D) (Ends.bk D) (Ends.ct D)) σ H):=⟨go_seq⟩
instance go_go_asg {σ:L2.St} {H:Hp} {t:TE} {D:Ends} {tg:TG}:Go (tAsg t tg D σ H) ((t σ H fun (x:V) (H1:Hp) ↦ tg x σ H1 (Ends.nx D))):=⟨go_asg⟩
instance go_go_ret {σ:L2.St} {H:Hp} {t:TE} {D:Ends}:Go (tRet t D σ H) (t σ H (Ends.rt D)):=⟨go_ret⟩
instance go_go_if {σ:L2.St} {H:Hp} {D:Ends} {s u:TS} {c:TT}:Go (tIfS c s u D σ H) ((c σ H fun (b:Bool) (H1:Hp) ↦ if b=true then s D σ H1 else u D σ H1)):=⟨go_if⟩
instance go_go_drop {σ:L2.St} {H:Hp} {t:TE} {D:Ends}:Go (tDrop t D σ H) ((t σ H fun (x:V) (H1:Hp) ↦ Ends.nx D σ H1)):=⟨go_drop⟩
instance go_go_next {σ:L2.St} {H:Hp} {D:Ends}:Go (tNext D σ H) (Ends.nx D σ H):=⟨go_next⟩
instance go_go_nx {σ:L2.St} {H:Hp} {nx bk ct:L2.St→Hp→Prop} {rt:VK}:Go (Ends.nx (Ends.mk nx rt bk ct) σ H) (nx σ H):=⟨go_nx⟩
instance go_w_rt {H:Hp} {v:V} {nx bk ct:L2.St→Hp→Prop} {rt:VK}:Go (Ends.rt (Ends.mk nx rt bk ct) v H) (rt v H):=⟨w_rt⟩
instance go_go_test {σ:L2.St} {H:Hp} {t:TE} {Q:Bool→Hp→Prop}:Go (tTest t σ H Q) ((t σ H fun (x:V) (H':Hp) ↦ ∃(k:Bool),x=V.bl k∧Q k H')):=⟨go_test⟩
instance go_go_b {σ:L2.St} {H:Hp} {t:TE} {Q:Bool→Hp→Prop}:Go (tB t σ H Q) ((t σ H fun (x:V) (H':Hp) ↦ ∃(k:Bool),x=V.bl k∧Q k H')):=⟨go_b⟩
instance go_go_op {σ:L2.St} {H:Hp} {ta tb:TE} {Q:VK} {r:R2}:Go (tOp r ta tb σ H Q) ((ta σ H fun (x:V) (H1:Hp) ↦ tb σ H1 fun (y:V) (H2:Hp) ↦ r x y H2 Q)):=⟨go_op⟩
instance go_go_cb {σ:L2.St} {H:Hp} {tr:TA} {Q:VK} {r:List V→Hp→VK→Prop}:Go (tCB r tr σ H Q) ((tr σ H fun (vs:List V) (H1:Hp) ↦ r vs H1 Q)):=⟨go_cb⟩
instance go_go_cons {σ:L2.St} {H:Hp} {t:TE} {tr:TA} {Q:List V→Hp→Prop}:Go (tCons t tr σ H Q) ((t σ H fun (x:V) (H1:Hp) ↦ tr σ H1 fun (xs:List V) (H2:Hp) ↦ Q (x::xs) H2)):=⟨go_cons⟩
instance go_go_nil {σ:L2.St} {H:Hp} {Q:List V→Hp→Prop}:Go (tNil σ H Q) (Q [] H):=⟨go_nil⟩
instance go_w_call {σ:L2.St} {H:Hp} {Q:VK} {tr:TA} {sp:Sp} {E:XK}:Go (tCall sp [] E tr σ H Q) ((tr σ H fun (vs:List V) (H1:Hp) ↦ sp vs H1 Q E)):=⟨w_call⟩
instance go_w_c {σ:L2.St} {H:Hp} {Q:VK} {v:V}:Go (tC v σ H Q) (Q v H):=⟨w_c⟩
instance go_wv0 {H:Hp} {Q:VK} {v:V} {r:L2.St}:Go (tVar 0 (some v::r) H Q) (Q v H):=⟨wv0⟩
instance go_wv1 {H:Hp} {Q:VK} {v:V} {o0:Option V} {r:L2.St}:Go (tVar 1 (o0::some v::r) H Q) (Q v H):=⟨wv1⟩
instance go_wv2 {H:Hp} {Q:VK} {v:V} {o0 o1:Option V} {r:L2.St}:Go (tVar 2 (o0::o1::some v::r) H Q) (Q v H):=⟨wv2⟩
instance go_wv3 {H:Hp} {Q:VK} {v:V} {o0 o1 o2:Option V} {r:L2.St}:Go (tVar 3 (o0::o1::o2::some v::r) H Q) (Q v H):=⟨wv3⟩
instance go_wv4 {H:Hp} {Q:VK} {v:V} {o0 o1 o2 o3:Option V} {r:L2.St}:Go (tVar 4 (o0::o1::o2::o3::some v::r) H Q) (Q v H):=⟨wv4⟩
instance go_wv5 {H:Hp} {Q:VK} {v:V} {o0 o1 o2 o3 o4:Option V} {r:L2.St}:Go (tVar 5 (o0::o1::o2::o3::o4::some v::r) H Q) (Q v H):=⟨wv5⟩
instance go_wv6 {H:Hp} {Q:VK} {v:V} {o0 o1 o2 o3 o4 o5:Option V} {r:L2.St}:Go (tVar 6 (o0::o1::o2::o3::o4::o5::some v::r) H Q) (Q v H):=⟨wv6⟩
instance go_wv7 {H:Hp} {Q:VK} {v:V} {o0 o1 o2 o3 o4 o5 o6:Option V} {r:L2.St}:Go (tVar 7 (o0::o1::o2::o3::o4::o5::o6::some v::r) H Q) (Q v H):=⟨wv7⟩
instance go_wv8 {H:Hp} {Q:VK} {v:V} {o0 o1 o2 o3 o4 o5 o6 o7:Option V} {r:L2.St}:Go (tVar 8 (o0::o1::o2::o3::o4::o5::o6::o7::some v::r) H Q) (Q v H):=⟨wv8⟩
instance go_wv9 {H:Hp} {Q:VK} {v:V} {o0 o1 o2 o3 o4 o5 o6 o7 o8:Option V} {r:L2.St}:Go (tVar 9 (o0::o1::o2::o3::o4::o5::o6::o7::o8::some v::r) H Q) (Q v H):=⟨wv9⟩
instance go_wv10 {H:Hp} {Q:VK} {v:V} {o0 o1 o2 o3 o4 o5 o6 o7 o8 o9:Option V} {r:L2.St}:Go (tVar 10 (o0::o1::o2::o3::o4::o5::o6::o7::o8::o9::some v::r) H Q) (Q v H):=⟨wv10⟩
instance go_wv11 {H:Hp} {Q:VK} {v:V} {o0 o1 o2 o3 o4 o5 o6 o7 o8 o9 o10:Option V} {r:L2.St}:Go (tVar 11 (o0::o1::o2::o3::o4::o5::o6::o7::o8::o9::o10::some v::r) H Q) (Q v H):=⟨wv11⟩
instance go_wv12 {H:Hp} {Q:VK} {v:V} {o0 o1 o2 o3 o4 o5 o6 o7 o8 o9 o10 o11:Option V} {r:L2.St}:Go (tVar 12 (o0::o1::o2::o3::o4::o5::o6::o7::o8::o9::o10::o11::some v::r) H Q) (Q v H):=⟨wv12⟩
instance go_wv13 {H:Hp} {Q:VK} {v:V} {o0 o1 o2 o3 o4 o5 o6 o7 o8 o9 o10 o11 o12:Option V} {r:L2.St}:Go (tVar 13 (o0::o1::o2::o3::o4::o5::o6::o7::o8::o9::o10::o11::o12::some v::r) H Q) (Q v H):=⟨wv13⟩
instance go_wn1 {H:Hp} {v:V} {o0 o:Option V} {r:L2.St} {R:L2.St→Hp→Prop}:Go (gName 1 v (o0::o::r) H R) (R (o0::some v::r) H):=⟨wn1⟩
instance go_wn2 {H:Hp} {v:V} {o0 o1 o:Option V} {r:L2.St} {R:L2.St→Hp→Prop}:Go (gName 2 v (o0::o1::o::r) H R) (R (o0::o1::some v::r) H):=⟨wn2⟩
instance go_wn3 {H:Hp} {v:V} {o0 o1 o2 o:Option V} {r:L2.St} {R:L2.St→Hp→Prop}:Go (gName 3 v (o0::o1::o2::o::r) H R) (R (o0::o1::o2::some v::r) H):=⟨wn3⟩
instance go_wn4 {H:Hp} {v:V} {o0 o1 o2 o3 o:Option V} {r:L2.St} {R:L2.St→Hp→Prop}:Go (gName 4 v (o0::o1::o2::o3::o::r) H R) (R (o0::o1::o2::o3::some v::r) H):=⟨wn4⟩
instance go_wn5 {H:Hp} {v:V} {o0 o1 o2 o3 o4 o:Option V} {r:L2.St} {R:L2.St→Hp→Prop}:Go (gName 5 v (o0::o1::o2::o3::o4::o::r) H R) (R (o0::o1::o2::o3::o4::some v::r) H):=⟨wn5⟩
instance go_wn6 {H:Hp} {v:V} {o0 o1 o2 o3 o4 o5 o:Option V} {r:L2.St} {R:L2.St→Hp→Prop}:Go (gName 6 v (o0::o1::o2::o3::o4::o5::o::r) H R) (R (o0::o1::o2::o3::o4::o5::some v::r) H):=⟨wn6⟩
instance go_wn7 {H:Hp} {v:V} {o0 o1 o2 o3 o4 o5 o6 o:Option V} {r:L2.St} {R:L2.St→Hp→Prop}:Go (gName 7 v (o0::o1::o2::o3::o4::o5::o6::o::r) H R) (R (o0::o1::o2::o3::o4::o5::o6::some v::r) H):=⟨wn7⟩
instance go_wn8 {H:Hp} {v:V} {o0 o1 o2 o3 o4 o5 o6 o7 o:Option V} {r:L2.St} {R:L2.St→Hp→Prop}:Go (gName 8 v (o0::o1::o2::o3::o4::o5::o6::o7::o::r) H R) (R (o0::o1::o2::o3::o4::o5::o6::o7::some v::r) H):=⟨wn8⟩
instance go_wn9 {H:Hp} {v:V} {o0 o1 o2 o3 o4 o5 o6 o7 o8 o:Option V} {r:L2.St} {R:L2.St→Hp→Prop}:Go (gName 9 v (o0::o1::o2::o3::o4::o5::o6::o7::o8::o::r) H R) (R (o0::o1::o2::o3::o4::o5::o6::o7::o8::some v::r) H):=⟨wn9⟩
instance go_wn10 {H:Hp} {v:V} {o0 o1 o2 o3 o4 o5 o6 o7 o8 o9 o:Option V} {r:L2.St} {R:L2.St→Hp→Prop}:Go (gName 10 v (o0::o1::o2::o3::o4::o5::o6::o7::o8::o9::o::r) H R) (R (o0::o1::o2::o3::o4::o5::o6::o7::o8::o9::some v::r) H):=⟨wn10⟩
instance go_wn11 {H:Hp} {v:V} {o0 o1 o2 o3 o4 o5 o6 o7 o8 o9 o10 o:Option V} {r:L2.St} {R:L2.St→Hp→Prop}:Go (gName 11 v (o0::o1::o2::o3::o4::o5::o6::o7::o8::o9::o10::o::r) H R) (R (o0::o1::o2::o3::o4::o5::o6::o7::o8::o9::o10::some v::r) H):=⟨wn11⟩
instance go_wn12 {H:Hp} {v:V} {o0 o1 o2 o3 o4 o5 o6 o7 o8 o9 o10 o11 o:Option V} {r:L2.St} {R:L2.St→Hp→Prop}:Go (gName 12 v (o0::o1::o2::o3::o4::o5::o6::o7::o8::o9::o10::o11::o::r) H R) (R (o0::o1::o2::o3::o4::o5::o6::o7::o8::o9::o10::o11::some v::r) H):=⟨wn12⟩
instance go_wn13 {H:Hp} {v:V} {o0 o1 o2 o3 o4 o5 o6 o7 o8 o9 o10 o11 o12 o:Option V} {r:L2.St} {R:L2.St→Hp→Prop}:Go (gName 13 v (o0::o1::o2::o3::o4::o5::o6::o7::o8::o9::o10::o11::o12::o::r) H R) (R (o0::o1::o2::o3::o4::o5::o6::o7::o8::o9::o10::o11::o12::some v::r) H):=⟨wn13⟩
instance go_w_i0 {H:Hp} {Q:VK} {i j:Int} {f:Int→Int→V}:Go (rI0 f (V.int i) (V.int j) H Q) (Q (f i j) H):=⟨w_i0⟩
instance go_w_u {H:Hp} {Q:VK} {i:Int} {g:Int→V}:Go (rU g (V.int i) H Q) (Q (g i) H):=⟨w_u⟩
instance go_w_un {σ:L2.St} {H:Hp} {Q:VK} {ta:TE} {r:V→Hp→VK→Prop}:Go (tUn r ta σ H Q) ((ta σ H fun (x:V) (H1:Hp) ↦ r x H1 Q)):=⟨w_un⟩
instance go_w_eqi {H:Hp} {Q:VK} {i j:Int}:Go (rEq (V.int i) (V.int j) H Q) (Q (V.bl (decide (i=j))) H):=⟨w_eqi⟩
instance go_w_nei {H:Hp} {Q:VK} {i j:Int}:Go (rNe (V.int i) (V.int j) H Q) (Q (V.bl !decide (i=j)) H):=⟨w_nei⟩
instance go_w_eqs {H:Hp} {Q:VK} {a b:Str}:Go (rEq (V.str a) (V.str b) H Q) (Q (V.bl (decide (a=b))) H):=⟨w_eqs⟩
instance go_w_eqb {H:Hp} {Q:VK} {a b:Bool}:Go (rEq (V.bl a) (V.bl b) H Q) (Q (V.bl (decide (a=b))) H):=⟨w_eqb⟩
instance go_w_neb {H:Hp} {Q:VK} {a b:Bool}:Go (rNe (V.bl a) (V.bl b) H Q) (Q (V.bl !decide (a=b)) H):=⟨w_neb⟩
instance go_w_bl {k:Bool} {R:Bool→Prop}:Go (∃(c:Bool),V.bl k=V.bl c∧R c) (R k):=⟨w_bl⟩
instance go_w_not {σ:L2.St} {H:Hp} {c:TT} {R:Bool→Hp→Prop}:Go (tNot c σ H R) ((c σ H fun (b:Bool) (H1:Hp) ↦ R (!b) H1)):=⟨w_not⟩
instance go_w_or {σ:L2.St} {H:Hp} {c d:TT} {R:Bool→Hp→Prop}:Go (tOr c d σ H R) ((c σ H fun (b:Bool) (H1:Hp) ↦ if b=true then R true H1 else d σ H1 R)):=⟨w_or⟩
instance go_w_notV {σ:L2.St} {H:Hp} {Q:VK} {ta:TE}:Go (tNotV ta σ H Q) ((ta σ H fun (x:V) (H1:Hp) ↦ ∃(c:Bool),x=V.bl c∧Q (V.bl !c) H1)):=⟨w_notV⟩
instance go_w_andV {σ:L2.St} {H:Hp} {Q:VK} {ta tb:TE}:Go (tAndV ta tb σ H Q) ((ta σ H fun (x:V) (H1:Hp) ↦ ∃(c:Bool),x=V.bl c∧if c=true then tb σ H1 Q else Q (V.bl false) H1)):=⟨w_andV⟩
instance go_w_chain {σ:L2.St} {H:Hp} {Q:VK} {ta tb tc:TE} {r r':R2}:Go (tChain r r' ta tb tc σ H Q) ((ta σ H fun (x:V) (H1:Hp) ↦ tb σ H1 fun (y:V) (H2:Hp) ↦ r x y H2 fun (z:V) (H3:Hp) ↦ ∃(k:Bool),z=V.bl k∧if k=true then tc σ H3 fun (w:V) (H4:Hp) ↦ r' y w H4 Q else Q (V.bl false) H3)):=⟨w_chain⟩
instance go_w_bm {σ:L2.St} {H:Hp} {Q:VK} {K:W.Frag} {tr:TA} {T:String} {r:V→List V→Hp→VK→Prop} {to:TE}:Go (tBM K T r to tr σ H Q) ((to σ H fun (x:V) (H1:Hp) ↦ tyV K T x H1∧tr σ H1 fun (xs:List V) (H2:Hp) ↦ r x xs H2 Q)):=⟨w_bm⟩
instance go_w_sub {σ:L2.St} {H:Hp} {v:V} {to ti:TE} {ts:TSet} {R:L2.St→Hp→Prop}:Go (gSub to ti ts v σ H R) ((to σ H fun (o:V) (H1:Hp) ↦ ti σ H1 fun (i:V) (H2:Hp) ↦ ts o i v H2 fun (H3:Hp) ↦ R σ H3)):=⟨w_sub⟩
instance go_w_slice {σ:L2.St} {H:Hp} {Q:VK} {t:TE} {r:V→Option Int→Option Int→Hp→VK→Prop} {tl th:TO}:Go (tSl r t tl th σ H Q) ((t σ H fun (x:V) (H1:Hp) ↦ tl σ H1 fun (l:Option Int) (H2:Hp) ↦ th σ H2 fun (u:Option Int) (H3:Hp) ↦ r x l u H3 Q)):=⟨w_slice⟩
instance go_w_noPart {σ:L2.St} {H:Hp} {R:Option Int→Hp→Prop}:Go (tNoPart σ H R) (R none H):=⟨w_noPart⟩
instance go_w_part {σ:L2.St} {H:Hp} {t:TE} {R:Option Int→Hp→Prop}:Go (tPart t σ H R) ((t σ H fun (x:V) (H1:Hp) ↦ ∃(i:Int),x=V.int i∧R (some i) H1)):=⟨w_part⟩
instance go_w_int {i:Int} {R:Int→Prop}:Go (∃(k:Int),V.int i=V.int k∧R k) (R i):=⟨w_int⟩
instance go_w_max {H:Hp} {Q:VK} {i j:Int}:Go (rMax2 [V.int i,V.int j] H Q) (Q (V.int (max i j)) H):=⟨w_max⟩
instance go_w_min {H:Hp} {Q:VK} {i j:Int}:Go (rMin2 [V.int i,V.int j] H Q) (Q (V.int (min i j)) H):=⟨w_min⟩
instance go_w_intB {H:Hp} {Q:VK} {k:Bool}:Go (rInt1 [V.bl k] H Q) (Q (V.int (if k=true then 1 else 0)) H):=⟨w_intB⟩
instance go_go_tupA {σ:L2.St} {H:Hp} {tr:TA} {Q:VK}:Go (tTupA tr σ H Q) ((tr σ H fun (xs:List V) (H1:Hp) ↦ List.length xs≤sizeLine∧∀(p:Addr) (H':Hp),New H1 H' p (HO.tup xs)→Q (V.ref p) H')):=⟨go_tupA⟩
instance go_go_lstA {σ:L2.St} {H:Hp} {tr:TA} {Q:VK}:Go (tLstA tr σ H Q) ((tr σ H fun (xs:List V) (H1:Hp) ↦ List.length xs≤sizeLine∧∀(p:Addr) (H':Hp),New H1 H' p (HO.lst xs)→Q (V.ref p) H')):=⟨go_lstA⟩
instance go_w_revSl {σ:L2.St} {H:Hp} {Q:VK} {K:W.Frag} {te ts:TE}:Go (tRevSl K te ts σ H Q) ((te σ H fun (x:V) (H1:Hp) ↦ ts σ H1 fun (y:V) (H2:Hp) ↦ ∃(a:Addr),∃(xs:List V),x=V.ref a∧y=V.int (-1)∧SqL K H2 a xs∧∀(p:Addr) (H':Hp),New H2 H' p (HO.lst (List.reverse xs))→Q (V.ref p) H')):=⟨w_revSl⟩
instance go_go_fld {K:W.Frag} {σ:L2.St} {H:Hp} {Q:VK} {ta:TE} {f:Str}:Go (tFld K ta f σ H Q) ((ta σ H fun (x:V) (H1:Hp) ↦ ∃(a:Addr),∃(C:Addr),∃(dx:Addr),∃(fs:List (Str×V)),∃(v:V),x=V.ref a∧H1 a=some (HO.ins C dx fs)∧Cls K C∧NoAttr K C f∧List.lookup f fs=some v∧Q v H1)):=⟨go_fld⟩
instance go_go_methB {σ:L2.St} {H:Hp} {Q:VK} {ta:TE} {t:TA} {m:Str} {C:Addr} {sp:Sp} {E:XK}:Go (tMeth C m sp [] E ta t σ H Q) ((ta σ H fun (x:V) (H1:Hp) ↦ ∃(a:Addr),∃(dx:Addr),∃(fs:List (Str×V)),x=V.ref a∧H1 a=some (HO.ins C dx fs)∧List.lookup m fs=none∧t σ H1 fun (vs:List V) (H2:Hp) ↦ sp (x::vs) H2 Q E)):=⟨go_methB⟩
instance go_go_makeB {σ:L2.St} {H:Hp} {Q:VK} {t:TA} {C:Addr} {sp:Sp} {E:XK}:Go (tMakeB C sp E t σ H Q) ((t σ H fun (vs:List V) (H1:Hp) ↦ ∀(x dx:Addr) (H2:Hp),New H1 H2 x (HO.ins C dx [])→sp (V.ref x::vs) H2 (fun (v:V) (H3:Hp) ↦ v=V.non∧Q (V.ref x) H3) E)):=⟨go_makeB⟩
instance go_go_sfldB {K:W.Frag} {σ:L2.St} {H:Hp} {ta tv:TE} {f:Str} {D:Ends}:Go (sFld K ta tv f D σ H) ((tv σ H fun (y:V) (H1:Hp) ↦ ta σ H1 fun (x:V) (H2:Hp) ↦ SetF K f y x H2 fun (H3:Hp) ↦ Ends.nx D σ H3)):=⟨go_sfldB⟩
instance go_w_isIB {H:Hp} {Q:VK} {K:W.Frag} {i:Int}:Go (rIsT K [V.int i,V.ty "bool"] H Q) (Q (V.bl false) H):=⟨w_isIB⟩
instance go_w_isBB {H:Hp} {Q:VK} {K:W.Frag} {b:Bool}:Go (rIsT K [V.bl b,V.ty "bool"] H Q) (Q (V.bl true) H):=⟨w_isBB⟩
instance go_i_tt {A B:Prop}:Go (if true=true then A else B) (A):=⟨i_tt⟩
instance go_i_ff {A B:Prop}:Go (if false=true then A else B) (B):=⟨i_ff⟩
instance go_i_ntt {A B:Prop}:Go (if (!true)=true then A else B) (B):=⟨i_ntt⟩
instance go_go_ck {t:TA} {tv:TE} {r:List V→V→Hp→VK→Prop} {σ:L2.St} {H:Hp} {Q:VK}:Go (tCK r t tv σ H Q) ((t σ H fun (xs:List V) (H1:Hp) ↦ tv σ H1 fun (y:V) (H2:Hp) ↦ r xs y H2 Q)):=⟨go_ck⟩
instance go_w_forE {K:W.Frag} {g:TG} {tb:TS} {D:Ends} {σ:L2.St} {H:Hp} {tr:TA}:Go (tFor (iEnum K tr) g tb D σ H) ((tr σ H fun (vs:List V) (H1:Hp) ↦ ∃(a:Addr),∃(xs:List V),vs=[V.ref a]∧SqL K H1 a xs∧ForE K a xs g tb D σ H1)):=⟨w_forE⟩
instance go_w_forR1 {g:TG} {tb:TS} {D:Ends} {σ:L2.St} {H:Hp} {tr:TA}:Go (tFor (iRng1 tr) g tb D σ H) ((tr σ H fun (vs:List V) (H1:Hp) ↦ ∃(j:Int),vs=[V.int j]∧-2 ^ 62≤j∧j < 2 ^ 62∧ForR 0 (Int.toNat j) g tb D σ H1)):=⟨w_forR1⟩
instance go_w_forR2 {g:TG} {tb:TS} {D:Ends} {σ:L2.St} {H:Hp} {tr:TA}:Go (tFor (iRng2 tr) g tb D σ H) ((tr σ H fun (vs:List V) (H1:Hp) ↦ ∃(i:Int),∃(j:Int),vs=[V.int i,V.int j]∧(-2 ^ 62≤i∧i < 2 ^ 62∧-2 ^ 62≤j∧j < 2 ^ 62)∧ForR i (Int.toNat (j - i)) g tb D σ H1)):=⟨w_forR2⟩
instance go_w_forL {K:W.Frag} {te:TE} {g:TG} {tb:TS} {D:Ends} {σ:L2.St} {H:Hp}:Go (tFor (iList K te) g tb D σ H) ((te σ H fun (x:V) (H1:Hp) ↦ ∃(a:Addr),x=V.ref a∧(∃(xs:List V),SqL K H1 a xs)∧ForL K a g tb D σ H1)):=⟨w_forL⟩
instance go_w_compL {K:W.Frag} {t0 te:TE} {nt:Nat} {fr:List Nat} {g:TG} {c:TT} {σ:L2.St} {H:Hp} {Q:VK}:Go (tComp (iList K t0) nt fr g c te σ H Q) ((t0 σ H fun (x:V) (H1:Hp) ↦ ∃(a:Addr),x=V.ref a∧(∃(xs:List V),SqL K H1 a xs)∧CompAll (Itl K a) nt fr g c te σ H1 Q)):=⟨w_compL⟩
section
variable {K:W.Frag} {H:Hp} {Q:VK} {E:XK} {x:V} {n:String} {p q:Addr} {a b c lo hi:Int} {ns:List Int} {m:Int}
instance go_fromI:Go (sp_is_from K [.int a,.int lo] H Q E) (Q (.bl (decide (lo≤a))) H):=⟨u_fromI⟩
instance go_withinT:Go (sp_is_within K [.int a,.int lo,.int hi] H Q E) (Q (.bl (decide (lo≤a) && decide (a≤hi))) H):=⟨fun k=>⟨_,_,lo,hi,rfl,.int _,k⟩⟩
instance go_manyI:Go (sp_is_many K [.int a] H Q E) (Q (.bl (decide (16≤a) && decide (a≤240))) H):=⟨fun k=>⟨_,_,rfl,.int _,k⟩⟩
instance go_endof [h:Hat H q (.tup [.int a,.int b])]:Go (sp_end_of [.ref q] H Q E) (Q (.int (a + b)) H):=⟨u_end h.e⟩
instance go_cellA [h:SqA K H p (ns.map V.int)]:Go (sp_cellA K [.ref p,.int m] H Q E) (Sd (0≤m) (∀c:Int,Q (.int c) H)):=⟨fun s=>u_cellA h.e s.1 s.2⟩
instance go_boxA:Go (sp_boxA [.int a] H Q E) (∀x y:Int,∀(p:Addr) (H':Hp),New H H' p (.lst [.int x,.int y,.int 0])→Q (.ref p) H'):=⟨fun k=>u_boxA fun p x y H' n=>k x y p H' n⟩
end
end L2
namespace L2
open PySem PySem.Spec PyProof.Rows
def Itq (lo st:Int) (n:Nat):It:={ go:=fun i _=>i < n,yld:=fun i H x H'=>H'=H∧x=.int (lo + i * st),stop:=fun i _=>n≤i }
theorem turn_steps {P:Program} {w:World} {K:W.Frag} {tg:Expr} (z:Addr) (lo st:Int) (n:Nat):Turn P w K tg (Itq lo st n) [z] z (fun i h=>IsRangeIter h z (lo + (i:Nat) * st) ((n:Int) - (i:Nat)) st):=by
 refine ⟨List.mem_singleton.mpr rfl,?_,?_,?_,?_,fun _ _ _ _ _ g h=>wpAny_pyIter_rangeiter g h⟩
 ·intro i h g b hb
  rw [List.mem_singleton.mp hb]
  refine ⟨_,g,fun v y=>?_⟩
  have y:Data.fields _=Data.cell v:=y
  cases y
 ·exact fun i h h' g k=>k z (List.mem_singleton.mpr rfl) _ g
 ·intro X e1 e2 e3 hc i pins s σ H E I hf g hg
  subst e1
  subst e2
  subst e3
  have fp:=hf z (List.mem_singleton.mpr rfl)
  refine (Walks.range (prog:=X.prog) (w:=X.w) (I.ok.hd hc) z lo st n).item i s _ _ hg g ?_
  rintro v h' tk ⟨t,rfl⟩ g2 kk
  have I1:Inv X pins σ H { s with heap:=h',toks:=tk }:=by
   refine I.turned (it:=z) (fun b o hb e=>kk b o (fun y=>hb (List.mem_singleton.mp y)) e) ?_ ?_ ?_ ?_ ?_
   ·exact fp.1
   ·exact fp.2.1
   ·exact fp.2.2.2.1
   ·exact fp.2.2.2.2.1
   ·exact fp.2.2.2.2.2
  exact ⟨_,rfl,go_of (s:={ s with heap:=h',toks:=tk }) (n := "range_iterator") g2 rfl rfl (by decide) ⟨.int (lo + i * st),H,I1,⟨t,rfl⟩,⟨rfl,rfl⟩,g2,fun b hb=>(hf b hb).1⟩⟩
 ·intro X e1 e2 e3 hc i pins s σ H E I hf g hg
  subst e1
  subst e2
  subst e3
  have fp:=hf z (List.mem_singleton.mpr rfl)
  have hg:n≤i:=hg
  refine wpAny_pyNext_range_end (I.ok.hd hc) g (by omega) fun h' eb=>⟨rfl,?_⟩
  refine I.turned (it:=z) (t':=s.toks) (fun b o hb e=>eb b o hb e) ?_ ?_ ?_ ?_ ?_
  ·exact fp.1
  ·exact fp.2.1
  ·exact fp.2.2.2.1
  ·exact fp.2.2.2.2.1
  ·exact fp.2.2.2.2.2
section
variable {tr:TA} {g:TG} {tb:TS} {D:Ends} {σ:St} {H:Hp}
def ForS (lo st:Int) (n:Nat) (g:TG) (tb:TS) (D:Ends) (σ:St) (H:Hp):Prop:=∃W:Nat→Nat→St→Hp→Prop,(∃m,W 0 m σ H)∧∀i m σ H,W i m σ H →
      ((Itq lo st n).stop i H∧D.nx σ H)∨((Itq lo st n).go i H∧∃N:St→Hp→Prop,(∀σ' H',N σ' H'→∃m',m' < m∧W (i + 1) m' σ' H')∧∀x H',(Itq lo st n).yld i H x H'→g x σ H' fun σ2 H2=>tb { D with nx:=N,ct:=N,bk:=D.nx } σ2 H2)
theorem forS_by {lo st:Int} {n:Nat} (Pv:Nat→St→Hp→Prop) (h0:Pv 0 σ H) (hs:∀i σ H,i < n→Pv i σ H→g (.int (lo + i * st)) σ H fun σ2 H2=>tb { D with nx:=Pv (i + 1),ct:=Pv (i + 1),bk:=D.nx } σ2 H2) (hd:∀σ H,Pv n σ H→D.nx σ H):ForS lo st n g tb D σ H:=by
 refine ⟨fun i m σ H=>m=n - i∧i≤n∧Pv i σ H,⟨n,by simp,Nat.zero_le _,h0⟩,?_⟩
 rintro i m σ H ⟨rfl,hi,p⟩
 by_cases hl:i < n
 ·refine .inr ⟨hl,Pv (i + 1),fun σ' H' p'=>⟨n - (i + 1),by omega,rfl,hl,p'⟩,?_⟩
  rintro x H' ⟨rfl,rfl⟩
  exact hs i σ H' hl p
 ·have e:i=n:=by omega
  subst e
  exact .inl ⟨Nat.le_refl _,hd σ H p⟩
variable {K:W.Frag} {a:Addr} {xs:List V} {nt:Nat} {fr:List Nat} {c:TT} {te:TE} {Q:VK} {n m:Int}
instance go_cby [h:SqA K H a xs]:Go (∃a',V.ref a=.ref a'∧(∃xs,SqL K H a' xs)∧CompAll (Itl K a') nt fr g c te σ H Q) (CompAll (Itl K a) nt fr g c te σ H Q):=⟨c_by h.e⟩
instance go_lby [h:SqA K H a xs]:Go (∃a',V.ref a=.ref a'∧(∃xs,SqL K H a' xs)∧ForL K a' g tb D σ H) (ForL K a g tb D σ H):=⟨l_by h.e⟩
instance go_eby [h:SqA K H a xs]:Go (∃a' xs',[V.ref a]=[.ref a']∧SqL K H a' xs'∧ForE K a' xs' g tb D σ H) (ForE K a xs g tb D σ H):=⟨e_by h.e⟩
end
class LkNe (L:List (Addr×HO)) (a b:Addr):Prop where
 ne:(L.map (·.1)).Nodup→a≠b
section
variable {L R L':List (Addr×HO)} {a b:Addr} {o:HO} {c:Addr×HO} {H0 H:Hp} {M:List Addr} {I:List Im}
instance lkNe2 [h:LkNe L a b]:LkNe (c::L) a b:=⟨fun nd=>h.ne (by rw [List.map_cons] at nd;exact (List.nodup_cons.mp nd).2)⟩
instance lkNe1 {o':HO} [h:LkL L a o]:LkNe ((b,o')::L) a b:=⟨fun nd z=>by
 rw [List.map_cons] at nd
 exact (List.nodup_cons.mp nd).1 (by show b∈_;rw [← z];exact List.mem_map_of_mem (f:=(·.1)) h.m)⟩
instance lkNe0 {o':HO} [h:LkL L b o]:LkNe ((a,o')::L) a b:=⟨fun nd z=>by
 rw [List.map_cons] at nd
 exact (List.nodup_cons.mp nd).1 (by show a∈_;rw [z];exact List.mem_map_of_mem (f:=(·.1)) h.m)⟩
theorem SH.neC [F:SH H0 M H L I] [h:LkNe L a b]:a≠b:=h.ne F.nd
class PkC (c:Addr×HO) (L:List (Addr×HO)) (R:outParam (List (Addr×HO))):Prop where
 p:Pk c L R
class SbC (L' L:List (Addr×HO)):Prop where
 s:Sb L' L
instance pkC1 {d:Addr×HO} [h:PkC c L R]:PkC c (d::L) (d::R):=⟨.tail h.p⟩
instance pkC0:PkC c (c::L) L:=⟨.head⟩
instance sbC0:SbC [] L:=⟨.nil⟩
instance sbC1 [h:PkC c L R] [t:SbC L' R]:SbC (c::L') L:=⟨.cons h.p t.s⟩
theorem SH.subC (F:SH H0 M H L I) [h:SbC L' L]:SH H0 M H L' []:=F.sub h.s (fun _ h=>by cases h)
end
instance go_wv14 {H:Hp} {Q:VK} {v:V} {o0 o1 o2 o3 o4 o5 o6 o7 o8 o9 o10 o11 o12 o13:Option V} {r:St}:Go (tVar 14 (o0::o1::o2::o3::o4::o5::o6::o7::o8::o9::o10::o11::o12::o13::some v::r) H Q) (Q v H):=⟨fun h=>⟨v,rfl,h⟩⟩
instance go_wn14 {H:Hp} {v:V} {o0 o1 o2 o3 o4 o5 o6 o7 o8 o9 o10 o11 o12 o13 o:Option V} {r:St} {R:St→Hp→Prop}:Go (gName 14 v (o0::o1::o2::o3::o4::o5::o6::o7::o8::o9::o10::o11::o12::o13::o::r) H R) (R (o0::o1::o2::o3::o4::o5::o6::o7::o8::o9::o10::o11::o12::o13::some v::r) H):=⟨fun h=>h⟩
end L2
namespace L2
open PySem PySem.Spec PyProof.Rows PySem.SeqAt
section
variable {K:W.Frag} {H0 H:Hp} {M:List Addr} {L L':List (Addr×HO)} {I:List Im} {l b a p:Addr} {xs ys r:List V} {v v0 v1 y:V} {Q:VK} {R:Hp→Prop} {R':Prop} {te:TE} {fvs σ:St} {fr:List Nat} {i j:Int} {Z:Addr→Hp→Prop}
instance go_nonAnd:Go (V.non=V.non∧R') R':=⟨fun k=>⟨rfl,k⟩⟩
instance go_setA [h:Hat H l (.lst xs)]:Go (rSetA (.ref l) (.int i) v H R) (Sd (0≤i∧i < xs.length) (∀H',Off l H H'→H' l=some (.lst (xs.set i.toNat v))→R H')):=⟨fun s=>w_setA h.e (i_idx s.1.1 s.1.2) s.2⟩
instance go_forR1 {g:TG} {tb:TS} {D:Ends}:Go (∃j:Int,[V.int i]=[.int j]∧-(2 ^ 62)≤j∧j < 2 ^ 62∧ForR 0 j.toNat g tb D σ H) (Sd (-(2 ^ 62)≤i∧i < 2 ^ 62) (ForR 0 i.toNat g tb D σ H)):=⟨fun s=>⟨i,rfl,s.1.1,s.1.2,s.2⟩⟩
instance go_forR2 {g:TG} {tb:TS} {D:Ends}:Go (∃i' j':Int,[V.int i,V.int j]=[.int i',.int j']∧(-(2 ^ 62)≤i'∧i' < 2 ^ 62∧-(2 ^ 62)≤j'∧j' < 2 ^ 62)∧ForR i' (j' - i').toNat g tb D σ H) (Sd (-(2 ^ 62)≤i∧i < 2 ^ 62∧-(2 ^ 62)≤j∧j < 2 ^ 62) (ForR i (j - i).toNat g tb D σ H)):=⟨fun s=>⟨i,j,rfl,s.1,s.2⟩⟩
end
end L2
namespace L2
open PySem PySem.Spec PyProof.Rows
abbrev ixBody (x:Str) (p1 p2 p3:Pos) (j:Nat):Expr:=.Subscript (.Name x p1) (.Constant (.int 1) j p2) p3
structure LamScope (x:Str) (scope:Scope):Prop where
 kind:scope.kind=.function
 co:scope.isCoroutine=false
 gen:scope.isGenerator=false
 loc:scope.names.lookup x=some .local
 nocell:∀y∈scope.names,y.2≠.cell
 nodeb:(x == ("__debug__" : Str))=false
theorem lam_ix {prog:Program} {w:World} {A:Around} {s:Shared} {f q c':Addr} {x qual:Str} {params:Arguments} {scope:Scope} {pm ctv u:Value} {p1 p2 p3:Pos} {j:Nat} {its:List Value} {Q:Value→Shared→Prop} {E:Value→Shared→Prop}
  (hroom:A.depth < recursionLimit) (ho:s.heap.get? f=some (W.kla_obj "<lambda>" qual params (ixBody x p1 p2 p3 j) scope [] pm c' ctv)) (hcd:s.heap.CodeRec (.ref c') qual) (hlim:s.heap.NoLimit) (S:LamScope x scope)
  (hbind:bindArgs (W.kla_fn "<lambda>" qual params (ixBody x p1 p2 p3 j) scope [] pm (.ref c') ctv) ⟨[.ref q],[]⟩=pure [(x,.ref q)])
  (ht:IsTup s.heap q its.toArray) (hi:its[1]?=some u) (h:∀h' tk,(∀b o,s.heap.get? b=some o→h'.get? b=some o)→Q u { s with heap:=h',toks:=tk }):wpAny (model prog w) A (call (.ref f) [.ref q]) Q E s:=by
 refine wpAny_call ?_
 refine W.kla_callFunE hroom ho rfl S.co S.gen rfl hcd ?_
 rw [hbind]
 refine wpAny_pure ?_
 refine wpAny_newFunctionEnv S.nocell (fun y hy=>?_) (fun h1 hns hsb=>?_) S.kind
 ·rw [List.mem_singleton.mp hy]
  exact S.loc
 ·have hk1:∀b o,s.heap.get? b=some o→h1.get? b=some o:=fun b o e=>hsb.extBut b o (Nat.ne_of_lt (Heap.lt_size e)) (Heap.get?_push_of_some _ e)
  refine ⟨hlim.keeps hk1,W.kla_codeExpr ?_⟩
  refine Subscript_ (wpAny_Name (wpAny_loadName_local S.kind S.loc hns (v:=.ref q) (by simp) ?_) S.nodeb)
  refine wpAny_Constant_int ?_
  have ht1:IsTup h1 q its.toArray:=by
   obtain ⟨o,e,r⟩:=ht
   exact ⟨o,hk1 _ _ e,r⟩
  have hlen:1 < its.length:=(List.getElem?_eq_some_iff.mp hi).1
  refine subscriptTail_builtinR (x:=u) (IsTup.typeIs ht1) slot_tuple_getitem.lookup (getItem_tuple (j:=1) ht1 (by decide) (by decide) ?_ (by simpa using hi) ⟨rfl,?_⟩) ?_
  ·rw [List.size_toArray]
   unfold seqIndex?
   simp
   omega
  ·exact h h1 _ hk1
  ·rfl
theorem ObjOk.is {P:Program} {w:World} {H:Hp} {h:Heap} {a:Addr} {o:HO} (x:ObjOk P w H h a o):∃ob,h.get? a=some ob:=by
 cases o with
 | lst xs=>obtain ⟨_,_,_,_,e⟩:=x;exact ⟨_,e⟩
 | tup xs=>obtain ⟨_,_,_,ob,e,_⟩:=x;exact ⟨_,e⟩
 | dK kvs=>obtain ⟨_,_,_,_,ob,_,_,e,_⟩:=x;exact ⟨_,e⟩
 | dT kvs=>obtain ⟨_,_,_,_,ob,_,_,e,_⟩:=x;exact ⟨_,e⟩
 | set S n=>obtain ⟨ob,_,_,_,e,_⟩:=x;exact ⟨_,e⟩
 | ins C dx fs=>obtain ⟨_,_,_,e,_⟩:=x;exact ⟨_,e⟩
 | own y=>exact x
 | xd fs=>obtain ⟨_,⟨ob,_,_,e,_⟩,_⟩:=x;exact ⟨_,e⟩
 | rng lo hi=>obtain ⟨_,_,_,e⟩:=x;exact ⟨_,e⟩
 | frz ob u=>exact ⟨_,x.1⟩
 | tbl ps=>exact ⟨_,x⟩
 | met f y=>exact ⟨_,x⟩
 | ext φ=>exact x.2.1
def allBut (h:Heap) (L:Addr):List (Addr×Obj):=(List.range h.objs.size).filterMap fun b=>if b=L then none else (h.get? b).map fun o=>(b,o)
theorem allBut_mem {h:Heap} {L b:Addr} {o:Obj} (e:h.get? b=some o) (n:b≠L):(b,o)∈allBut h L:=by
 unfold allBut
 refine List.mem_filterMap.mpr ⟨b,List.mem_range.mpr (Heap.lt_size e),?_⟩
 rw [if_neg n,e]
 rfl
theorem of_allBut {h:Heap} {L:Addr} {p:Addr×Obj} (m:p∈allBut h L):h.get? p.1=some p.2∧p.1≠L:=by
 unfold allBut at m
 obtain ⟨b,_,e⟩:=List.mem_filterMap.mp m
 split at e
 ·cases e
 ·rename_i n
  cases q:h.get? b with
  | none=>rw [q] at e;cases e
  | some o =>
   rw [q] at e
   cases e
   exact ⟨q,n⟩
theorem ns_one {h:Heap} {a:Addr} {m m':Str→Option Value} (x:h.Ns a m) (y:h.Ns a m'):m=m':=by
 obtain ⟨o,es,ep,e,d,_,f⟩:=x
 obtain ⟨o',es',ep',e',d',_,f'⟩:=y
 rw [e] at e'
 cases e'
 rw [d] at d'
 cases d'
 funext k
 rw [← f k,← f' k]
theorem Inv.newIn {X:Cx} {pins:List (Addr×Obj)} {σ:St} {H:Hp} {s:Shared} {h':Heap} {t':Nat} {D:Addr} {o:HO} {m:Str→Option Value} (I:Inv X pins σ H s) (k:∀b u,b≠X.env.locals→s.heap.get? b=some u→h'.get? b=some u)
  (hm:s.heap.Ns X.env.locals m) (hm':h'.Ns X.env.locals m) (hn:s.heap.get? D=none) (new:ObjOk X.prog X.w (upd H D o) h' D o):Inv X pins σ (upd H D o) { s with heap:=h',toks:=t' }:=by
 have hD:H D=none:=by
  cases q:H D with
  | none=>rfl
  | some u =>
   obtain ⟨ob,e⟩:=(I.hok D u q).is
   rw [hn] at e
   cases e
 have nL:∀b u,H b=some u→b≠X.env.locals:=fun b u e z=>by rw [z,I.free] at e;cases e
 have nD:∀{b:Addr} {u:HO},H b=some u→upd H D o b=some u:=fun {b u} e=>by rw [upd_ne (fun z=>by rw [z,hD] at e;cases e)];exact e
 refine I.step (g':=s.gens) (d':=s.drawn) (ch:=[]) (fun _ z=>nomatch z) (fun b u n _ _ e _=>k b u n e) (fun b u n _ _ e _=>⟨u.slots,k b u n e⟩) (fun b u _ e q=>?_) (fun b u _ e=>?_) (fun b xs e=>nD e) (fun b u v e=>nD e) (fun b ps e=>⟨#[],by rw [nD e];simp⟩) (fun m2 hm2=>?_) (fun b u e=>?_) I.bare
 ·rw [upd_ne (fun z=>by rw [z,hn] at e;cases e)]
  exact q
 ·by_cases n:b=X.env.locals
  ·obtain ⟨ob,_,_,e2,_⟩:=hm'
   exact ⟨ob,by rw [n];exact e2⟩
  ·exact ⟨u,k b u n e⟩
 ·rw [ns_one hm2 hm]
  exact hm'
 ·by_cases hb:b=D
  ·rw [hb,upd_same] at e
   cases e
   rw [hb]
   exact new
  ·rw [upd_ne hb] at e
   refine (I.hok b u e).stay (fun c v hc q=>k c v ?_ q) (fun c q=>nD q) fun c xs q=>nD q
   rcases hc with z | z
   ·rw [z]
    exact nL b u e
   ·exact nL c _ z
def IsLam (H:Hp) (f:Addr):Prop:=∃(qual x:Str) (params:Arguments) (p1 p2 p3:Pos) (j:Nat) (scope:Scope) (pm ctv:Value) (c':Addr) (oc:Obj) (vs:Array Value) (t:Tok),
 H f=some (.frz (W.kla_obj "<lambda>" qual params (ixBody x p1 p2 p3 j) scope [] pm c' ctv) (.own f))∧H c'=some (.frz oc (.own c'))∧oc.data=.fields vs∧vs[1]?=some (.str qual t)∧LamScope x scope ∧
 ∀q:Addr,bindArgs (W.kla_fn "<lambda>" qual params (ixBody x p1 p2 p3 j) scope [] pm (.ref c') ctv) ⟨[.ref q],[]⟩=pure [(x,.ref q)]
def SortedBy (ks:List Int) (xs ys:List V):Prop:=∃ps:List (Int×V),ps.Perm (ks.zip xs)∧ys=ps.map Prod.snd∧ps.Pairwise fun a b=>a.1≤b.1
def rSortK (K:W.Frag):List V→V→Hp→VK→Prop:=fun vs y H Q=>∃(l f:Addr) (xs:List V) (ks:List Int),vs=[.ref l]∧y=.ref f∧IsLam H f∧SqL K H l xs∧ks.length=xs.length∧xs.length < 64 ∧
 (∀(i:Nat) v k,xs[i]?=some v→ks[i]?=some k→∃q r,v=.ref q∧H q=some (.tup r)∧r[1]?=some (.int k))∧∀D ys H',New H H' D (.lst ys)→SortedBy ks xs ys→Q (.ref D) H'
def backV:Value→V
 | .ref a=>.ref a
 | _=>.non
theorem vals_refs:∀{xs:List V} {us:List Value},Vals xs us→(∀v∈xs,∃q,v=.ref q)→xs=us.map backV∧∀u∈us,∃q,u=.ref q
 | _,_,.nil,_=>⟨rfl,fun _ h=>by cases h⟩
 | _,_,.cons r t,h=>by
  obtain ⟨e1,e2⟩:=vals_refs t fun v hv=>h v (List.mem_cons_of_mem _ hv)
  obtain ⟨q,rfl⟩:=h _ List.mem_cons_self
  cases r
  refine ⟨by rw [List.map_cons,← e1];rfl,fun u hu=>?_⟩
  rcases List.mem_cons.mp hu with rfl | hu
  ·exact ⟨q,rfl⟩
  ·exact e2 u hu
theorem vals_back:∀{us:List Value},(∀u∈us,∃q,u=.ref q)→Vals (us.map backV) us
 | [],_=>.nil
 | u::us,h=>by
  obtain ⟨q,rfl⟩:=h u List.mem_cons_self
  exact .cons rfl (vals_back fun v hv=>h v (List.mem_cons_of_mem _ hv))
theorem call_sortK {X:Cx} {K:W.Frag} {k:Nat} (hK:X.K=K) (hr:Room k X.A):CallK X "sorted" "key" (rSortK K):=by
 intro pins s σ H vs us y u Q I rv ry h
 subst hK
 obtain ⟨l,f,xs,ks,rfl,rfl,lam,hq,hl,h64,hk,q⟩:=h
 cases ry
 rcases rv with _ | ⟨r,_ | _⟩
 cases r
 obtain ⟨its,rv,p,hz⟩:=I.list hq
 obtain ⟨m,hm,_⟩:=id I.loc
 obtain ⟨qual,x,params,p1,p2,p3,j,scope,pm,ctv,c',oc,cv,t,ef,ec,ed,e1,S,hb⟩:=lam
 have hlen:its.length=xs.length:=rv.length.symm
 have nL:∀{b:Addr} {u:HO},H b=some u→b≠X.env.locals:=fun {b u} e z=>by rw [z,I.free] at e;cases e
 have refs:∀v∈xs,∃q,v=V.ref q:=fun v hv=>by
  obtain ⟨i,hi,e⟩:=List.getElem_of_mem hv
  obtain ⟨q,r,e2,_⟩:=hk i v (ks[i]'(by omega)) (by rw [← e];simp) (by simp)
  exact ⟨q,e2⟩
 obtain ⟨xb,ub⟩:=vals_refs rv refs
 have keep:∀{h:Heap} {own:List (Addr×Obj)},News { objs:=#[] } X.env.locals h (allBut s.heap X.env.locals++own)→∀b o,b≠X.env.locals→s.heap.get? b=some o→h.get? b=some o:=fun N b o n e=>(N (b,o) (List.mem_append_left _ (allBut_mem e n))).1
 refine ksk_sorted (h₀:={ objs:=#[] }) (L:=X.env.locals) (m:=m) (news:=allBut s.heap X.env.locals) (b:=false) (vs:=its) (kz:=ks) (f:=.ref f) ⟨hm,fun b o e=>?_,Nat.zero_le _⟩ (fun p hp=>⟨(of_allBut hp).1,(of_allBut hp).2,rfl⟩) p.isList (by omega) (by omega) (ksk_s1 _ _) (fun x=>ksk_l1 _ _) (fun x=>ksk_t1 f x) ?_ ?_
 ·have e:Heap.get? { objs:=#[] } b=some o:=e
  simp [Heap.get?] at e
 ·intro i v k hv hki h tk own F N
  have kp:=keep N
  have hx:xs[i]?=some (backV v):=by rw [xb,List.getElem?_map,hv];rfl
  obtain ⟨q,r,e2,e3,e4⟩:=hk i _ k hx hki
  obtain ⟨q',rfl⟩:=ub v (List.mem_of_getElem? hv)
  cases e2
  obtain ⟨_,its2,rv2,ob,et,ec2⟩:=I.hok q _ e3
  obtain ⟨u2,eu,ru⟩:=rv2.get e4
  obtain ⟨t2,rfl⟩:=ru
  have lim:h.NoLimit:=I.ok.mod.nolimit.keeps fun b o e=>kp b o (Nat.ne_of_lt (Nat.lt_of_lt_of_le (Heap.lt_size e) (Nat.le_trans I.ok.bsz I.ok.above))) (I.bk b o e)
  refine lam_ix (A:=X.A.in1.in1) (s:={ s with heap:=h,toks:=tk }) (show X.A.depth < _ from hr.depth) (kp _ _ (nL ef) (I.hok f _ ef).1) ⟨c',oc,cv,t,rfl,kp _ _ (nL ec) (I.hok c' _ ec).1,ed,e1⟩ lim S (hb q) (its:=its2) ⟨ob,kp _ _ (nL e3) et,ec2⟩ eu fun h' tk' k2=>?_
  exact KskEnd.intro (s₁:={ s with heap:=h,toks:=tk }) (news':=allBut s.heap X.env.locals++own) ⟨F.ns.keeps k2,fun b o e=>k2 b o (F.keep b o e),F.above⟩ (fun p hp=>⟨k2 _ _ (N p hp).1,(N p hp).2⟩) fun p hp=>hp
 ·intro D h' tk out c F N hD out'
  obtain ⟨ps,pp,eo,pw⟩:=out'
  have hn:s.heap.get? D=none:=by
   cases e:s.heap.get? D with
   | none=>rfl
   | some o =>
    have:=hD (D,o) (allBut_mem e (N (D,seqObj "list" out c) List.mem_cons_self).2.1)
    exact absurd this (Nat.lt_irrefl _)
  have hin:∀u∈out.toList,∃q,u=Value.ref q:=fun u hu=>by
   rw [eo] at hu
   obtain ⟨pr,h1,rfl⟩:=List.mem_map.mp hu
   have:=pp.mem_iff.mp h1
   exact ub _ (List.of_mem_zip (show (pr.1,pr.2)∈ks.zip its from this)).2
  have lo:out.toList.length=xs.length:=by
   rw [eo,List.length_map,pp.length_eq,List.length_zip]
   omega
  refine ⟨.ref D,upd H D (.lst (out.toList.map backV)),I.newIn (t':=tk) (fun b u n e=>(N (b,u) (List.mem_cons_of_mem _ (allBut_mem e n))).1) hm F.ns hn ?_,rfl,q D _ _ (New.mk' ?_) ⟨ps.map fun pr=>(pr.1,backV pr.2),?_,?_,?_⟩⟩
  ·refine ⟨by rw [List.length_map,lo];exact hz,out.toList,c,vals_back hin,?_⟩
   exact (N (D,seqObj "list" out c) List.mem_cons_self).1
  ·cases e:H D with
   | none=>rfl
   | some u =>
    obtain ⟨ob,e2⟩:=(I.hok D u e).is
    rw [hn] at e2
    cases e2
  ·have:=pp.map fun pr:Int×Value=>(pr.1,backV pr.2)
   rw [xb]
   have e3:(ks.zip its).map (fun pr:Int×Value=>(pr.1,backV pr.2))=ks.zip (its.map backV):=by
    rw [List.zip_map_right]
    rfl
   rw [← e3]
   exact this
  ·rw [eo,List.map_map,List.map_map]
   rfl
  ·exact List.pairwise_map.mpr (pw.imp fun h=>by simpa using h)
theorem Inv.grow {X:Cx} {pins:List (Addr×Obj)} {σ:St} {H H':Hp} {s:Shared} {h':Heap} {t':Nat} (I:Inv X pins σ H s) (k:∀b u,H b=none→s.heap.get? b=some u→h'.get? b=some u∧H' b=none)
  (kt:∀b u,H b=some u→(H' b=some u∧∀o,s.heap.get? b=some o→h'.get? b=some o)∨∃ps more,u=.tbl ps∧H' b=some (.tbl (ps++more))∧h'.get? b=some { cls:=.none,data:=.fields (ps++more) })
  (new:∀b u,H b=none→H' b=some u→ObjOk X.prog X.w H' h' b u):Inv X pins σ H' { s with heap:=h',toks:=t' }:=by
 have same:∀{b:Addr} {u:HO},H b=some u→(∀ps,u≠.tbl ps)→H' b=some u∧∀o,s.heap.get? b=some o→h'.get? b=some o:=fun {b u} e n=>by
  rcases kt b u e with z | ⟨ps,_,z,_⟩
  ·exact z
  ·exact absurd z (n ps)
 obtain ⟨m0,⟨oL,esL,epL,eL,rL⟩,_⟩:=id I.loc
 have kL:=(k _ _ I.free eL).1
 refine I.step (g':=s.gens) (d':=s.drawn) (ch:=[]) (fun _ z=>nomatch z) (fun b u n _ _ e q=>(k b u q e).1) (fun b u n _ _ e q=>⟨u.slots,(k b u q e).1⟩) (fun b u _ e q=>(k b u q e).2) (fun b u _ e=>?_) (fun b xs e=>(same e (by intro _ z;cases z)).1) (fun b u v e=>(same e (by intro _ z;cases z)).1) (fun b ps e=>?_) (fun m2 hm2=>?_) (fun b u e=>?_) I.bare
 ·cases q:H b with
  | none=>exact ⟨u,(k b u q e).1⟩
  | some v =>
   rcases kt b v q with z | ⟨ps,more,_,_,z⟩
   ·exact ⟨u,z.2 u e⟩
   ·exact ⟨_,z⟩
 ·rcases kt b _ e with z | ⟨ps',more,z,z2,_⟩
  ·exact ⟨#[],by rw [z.1];simp⟩
  ·cases z
   exact ⟨more,z2⟩
 ·obtain ⟨o,es,ep,e,r⟩:=hm2
  rw [eL] at e
  cases e
  exact ⟨_,es,ep,kL,r⟩
 ·cases q:H b with
  | none=>exact new b u q e
  | some v =>
   rcases kt b v q with z | ⟨ps,more,rfl,z2,z3⟩
   ·rw [z.1] at e
    cases e
    refine (I.hok b _ q).stay (fun c o hc e2=>?_) (fun c e2=>(same e2 (by intro _ z;cases z)).1) fun c xs e2=>(same e2 (by intro _ z;cases z)).1
    rcases hc with rfl | hc
    ·exact z.2 o e2
    ·exact (same hc (by intro _ z;cases z)).2 o e2
   ·rw [z2] at e
    cases e
    exact z3
def TabOk (pos:Pos) (qual:Str) (ps:Array Value) (H:Hp):Prop:=ps=#[]∨∃(c':Addr) (oc:Obj) (vs:Array Value) (t:Tok),ps=#[rawInt pos.line,rawInt pos.col,.ref c']∧H c'=some (.frz oc (.own c'))∧oc.data=.fields vs∧vs[1]?=some (.str qual t)
def Bm (mg:Str→Option Value) (base:Heap):Prop:=∃bm ob,mg "__builtins__" = some (.ref bm)∧bm≠builtinsNs∧base.get? bm=some ob∧ob.cls=.type "module" ∧ ob.dict=some builtinsNs∧ob.data=.plain
def tLam (P:Addr) (pos:Pos) (qual:Str):TE:=fun _ H Q=>∃ps,H P=some (.tbl ps)∧TabOk pos qual ps H∧∀f ps' H',Kp P H H'→H' P=some (.tbl ps')→TabOk pos qual ps' H'→IsLam H' f→Q (.ref f) H'
theorem pe_lam {X:Cx} {c P:Addr} {qual x:Str} {params:Arguments} {scope:Scope} {p1 p2 p3 pos:Pos} {j:Nat} (B:Bm X.mg X.base) (hc:X.env.code=.ref c) (hK:W.codeHdIn X.K c P=true) (hq:X.env.qual++("<lambda>" : Str)=qual) (S:LamScope x scope)
  (hdef:defaultsOf params X.env=([],[]):=by rfl) (hcl:closureFor scope X.env=pure []:=by rfl)
  (hb:∀(pm ctv:Value) (c' q:Addr),bindArgs (W.kla_fn "<lambda>" qual params (ixBody x p1 p2 p3 j) scope [] pm (.ref c') ctv) ⟨[.ref q],[]⟩=pure [(x,.ref q)]:=by intros;rfl) :
  PE X (.Lambda params (ixBody x p1 p2 p3 j) scope pos) (tLam P pos qual):=by
 intro pins s σ H Q I h
 obtain ⟨ps,eP,tk,q⟩:=h
 have hP:s.heap.get? P=some (W.tabObj ps):=I.hok P _ eP
 obtain ⟨bm,ob,b1,b2,b3,b4,b5,b6⟩:=B
 have hg:s.heap.Ns mainGlobals X.mg:=I.ok.mod.glob.keeps I.bk
 have nob:∀{b:Addr} {o:Obj},X.base.get? b=some o→b≠P:=fun {b o} e z=>by
  have:=(I.bs b o e).2
  rw [z,eP] at this
  cases this
 have nG:mainGlobals≠P:=by
  obtain ⟨o,_,_,e,_⟩:=I.ok.mod.glob
  exact nob e
 have nbG:bm≠mainGlobals:=fun z=>by
  obtain ⟨o,es,ep,e,hd,_⟩:=I.ok.mod.glob
  rw [z,e] at b3
  cases b3
  rw [hd] at b6
  cases b6
 have BA:s.heap.BuiltinsAt X.mg P:=⟨bm,ob,b1,b2,nbG,nob b3,I.bk _ _ b3,b4,b5,b6⟩
 have CH:=W.codeHd_of_K I.kIn hK
 refine W.kla_eval hdef ?_
 rw [hq]
 have nP:∀{b:Addr},H b=none→b≠P:=fun {b} e z=>by rw [z,eP] at e;cases e
 rcases tk with rfl | ⟨c',oc,vs,t,rfl,e1,e2,e3⟩
 ·refine W.kla_makeFunction hcl I.ok.glob hg hc CH hP trivial rfl nG BA fun c' ctv h' tk' hx hge hlt hrec hP'=>?_
  obtain ⟨c2,oc,vs,t,z,hoc,hd,hv⟩:=hrec
  cases z
  have fc:H c'=none:=I.hok.fresh hge
  have hsz:s.heap.objs.size≤h'.objs.size:=Nat.le_trans hge (Nat.le_of_lt hlt)
  have ff:H h'.objs.size=none:=I.hok.fresh hsz
  have ncf:c'≠h'.objs.size:=Nat.ne_of_lt hlt
  have ncP:c'≠P:=nP fc
  have nfP:h'.objs.size≠P:=nP ff
  generalize hf:h'.objs.size=f at *
  generalize hob:W.kla_obj "<lambda>" qual params (ixBody x p1 p2 p3 j) scope [] ((X.mg "__name__").getD .none) c' ctv=fo
  let H':Hp:=upd (upd (upd H P (.tbl (#[]++#[rawInt pos.line,rawInt pos.col,.ref c']))) c' (.frz oc (.own c'))) f (.frz fo (.own f))
  have hP2:H' P=some (.tbl #[rawInt pos.line,rawInt pos.col,.ref c']):=by
   show upd _ _ _ _=_
   rw [upd_ne (Ne.symm nfP),upd_ne (Ne.symm ncP),upd_same]
   simp
  have hc2:H' c'=some (.frz oc (.own c')):=by
   show upd _ _ _ _=_
   rw [upd_ne ncf,upd_same]
  have hf2:H' f=some (.frz fo (.own f)):=upd_same
  have old:∀{b:Addr},b≠P→b≠c'→b≠f→H' b=H b:=fun {b} n1 n2 n3=>by
   show upd _ _ _ _=_
   rw [upd_ne n3,upd_ne n2,upd_ne n1]
  have push:∀{b:Addr} {o:Obj},h'.get? b=some o→(h'.push fo).get? b=some o:=fun e=>Heap.get?_push_of_some _ e
  have I':Inv X pins σ H' { s with heap:=h'.push fo,toks:=tk' }:=by
   refine I.grow (fun b u n e=>?_) (fun b u e=>?_) fun b u n e=>?_
   ·have lt:=Heap.lt_size e
    have n2:b≠c':=Nat.ne_of_lt (Nat.lt_of_lt_of_le lt hge)
    have n3:b≠f:=Nat.ne_of_lt (Nat.lt_of_lt_of_le lt hsz)
    exact ⟨push (hx b u (nP n) e),by rw [old (nP n) n2 n3];exact n⟩
   ·by_cases hbP:b=P
    ·right
     rw [hbP,eP] at e
     cases e
     exact ⟨#[],#[rawInt pos.line,rawInt pos.col,.ref c'],rfl,by rw [hbP,hP2];simp,by rw [hbP];exact push hP'⟩
    ·left
     have n2:b≠c':=fun z=>by rw [z,fc] at e;cases e
     have n3:b≠f:=fun z=>by rw [z,ff] at e;cases e
     exact ⟨by rw [old hbP n2 n3];exact e,fun o e4=>push (hx b o hbP e4)⟩
   ·by_cases hbf:b=f
    ·rw [hbf,hf2] at e
     cases e
     have e5:(h'.push fo).get? f=some fo:=by
      rw [← hf]
      exact Heap.get?_push_size _ (by rw [← hob];rfl)
     rw [hbf]
     exact ⟨e5,_,e5⟩
    ·by_cases hbc:b=c'
     ·rw [hbc,hc2] at e
      cases e
      rw [hbc]
      exact ⟨push hoc,_,push hoc⟩
     ·have hbP:b≠P:=nP n
      rw [old hbP hbc hbf,n] at e
      cases e
  refine ⟨.ref f,H',I',rfl,q f _ H' (fun b u n e=>?_) hP2 (.inr ⟨c',oc,vs,t,rfl,hc2,hd,hv⟩) ⟨qual,x,params,p1,p2,p3,j,scope,_,ctv,c',oc,vs,t,by rw [hf2,← hob],hc2,hd,hv,S,hb _ _ _⟩⟩
  have n2:b≠c':=fun z=>by rw [z,fc] at e;cases e
  have n3:b≠f:=fun z=>by rw [z,ff] at e;cases e
  rw [old n n2 n3]
  exact e
 ·have hcode:codeAmong pos (#[rawInt pos.line,rawInt pos.col,Value.ref c']).toList=some (.ref c'):=by
   show (if ((pos.line:Int) == (pos.line:Int) && (pos.col:Int) == (pos.col:Int))=true then some (Value.ref c') else _)=_
   simp
  refine W.kla_makeFunctionHit hcl I.ok.glob hg hc CH hP trivial hcode BA fun ctv h' tk' hx hsz=>?_
  have ff:H h'.objs.size=none:=I.hok.fresh hsz
  generalize hob:({ cls:=Value.type "function", data:=Data.func (W.kla_fn "<lambda>" qual params (ixBody x p1 p2 p3 j) scope [] ((X.mg "__name__").getD .none) (.ref c') ctv) }:Obj)=fo
  have e5:(h'.push fo).get? h'.objs.size=some fo:=Heap.get?_push_size _ (by rw [← hob];rfl)
  have k2:∀{b:Addr} {u:HO},H b=some u→upd H h'.objs.size (.frz fo (.own h'.objs.size)) b=some u:=fun {b u} e=>by
   rw [upd_ne (fun z=>by rw [z,ff] at e;cases e)]
   exact e
  refine ⟨.ref h'.objs.size,upd H h'.objs.size (.frz fo (.own h'.objs.size)),I.laid (t':=tk') (fun b u e=>Heap.get?_push_of_some _ (hx b u e)) hsz ⟨e5,_,e5⟩,rfl,q _ _ _ (fun b u n e=>k2 e) (k2 eP) (.inr ⟨c',oc,vs,t,rfl,k2 e1,e2,e3⟩) ⟨qual,x,params,p1,p2,p3,j,scope,_,ctv,c',oc,vs,t,by rw [upd_same,← hob],k2 e1,e2,e3,S,hb _ _ _⟩⟩
section
variable {P:Program} {w:World} {K:W.Frag} {mg:Str→Option Value} {base:Heap} {CX:CXT} {k:Nat} {nm qual:Str} {st:Stmt} {f c:Addr} {N ps:List Str} {sp:Sp}
theorem fn_tellsC (h:∃fd,Fun K nm qual st f fd∧fd.code=.ref c) (S:FnScope N ps (defScope st)) (len:∀vs H Q E,sp vs H Q E→vs.length=ps.length)
  (hb:∀(kV doc pm:Value) (an:Option Addr) (cdv ct:Value) (us:List Value),us.length=ps.length→bindArgs (W.fnOf nm qual (defArgs st) (defBody st) (defScope st) .none kV doc pm an cdv ct) ⟨us,[]⟩=pure (ps.zip us))
  (hbody:∀(f:Addr) (A:Around) (outer:List Env) (s:Shared) (H:Hp) (vs:List V) (Q:VK) (E:XK),Room k (A.deeper (envOfC qual (defScope st) s.heap.objs.size f (.ref c)))→sp vs H Q E →
   ∃t,PSs (cxOf CX P w K mg base N qual (defScope st) f (.ref c) A outer s H E).nox (defBody st) t∧t { nx:=fun _ H'=>Q .non H',rt:=Q } (start N vs) H):FnTells P w K mg base CX (k + 1) f ps sp:=by
 obtain ⟨fd,F,hc⟩:=h
 refine ⟨fd,?_,F.binds hb⟩
 obtain ⟨oc,od,kV,doc,pm,an,cdv,ct,osl,rfl,lk,hcd⟩:=F.ex
 obtain rfl:cdv=.ref c:=hc
 refine fn_of lk hcd S len fun A outer s H vs Q E hr hsp=>?_
 obtain ⟨t,h,q⟩:=hbody f A outer s H vs Q E hr hsp
 exact ⟨t,h.nox,q⟩
end
def OnlyT (ts:List Addr) (H:Hp):Prop:=(∀p∈ts,H p=some (.tbl #[]))∧∀b,b ∉ ts→H b=none∨∃o xs,H b=some (.frz o (.lst xs))
theorem law_callT {P:Program} {w:World} {K:W.Frag} {mg mb:Str→Option Value} {CX:CXT} {k:Nat} {fa a:Addr} {fd:FuncData} {x:Str} {sp:Sp} {s₁:Shared} {vs:List Value} {ns:List Int} {ts:List Addr}
  (KX:K.In s₁.heap) (hns:s₁.heap.Ns mainGlobals mg) (hb:s₁.heap.Ns builtinsNs mb) (hbb:∀x:Str,x ≠ "__name__" → mb x=bootBuiltins x) (hlim:s₁.heap.NoLimit) (hg:s₁.gens=#[]) (hB:Bm mg s₁.heap)
  (hts:∀p∈ts,s₁.heap.get? p=some (W.tabObj #[])) (hct:∀p∈ts,isCodeTable s₁.heap p) (hKt:∀p∈ts,K.lookup p=none)
  (ha:s₁.heap.get? a=some { cls:=.type "list", data:=.seq vs.toArray }) (hi:IntsAre vs ns) (hl:ns.length≤sizeLine) (hr:Room k callerA)
  (F:∀base:Heap,K.In base→base.Ns mainGlobals mg→Bm mg base→FnOk P w K mg base CX k fa fd [x] sp) (hbind:∀(s:Shared) (u:Value),BindsTo s fd ⟨[u],[]⟩ [(x,u)])
  (hsp:∀H:Hp,OnlyT ts H→a ∉ ts→SqL K H a (ns.map V.int)→sp [.ref a] H (fun v _=>v=.bl true) fun _ _ _=>False)
  (hCX:∀H e s',CX [] H s₁ (fun _ _ _=>False) e s'→False) :
  codeAny (model P w) callerA (.call (.ref fa) ⟨[.ref a],[]⟩) (fun r s'=>r=.ok (.ret (.bool true))∧OldK s₁.heap s'.heap∧s'.os=s₁.os∧AllBare s'.gens) s₁:=by
 have rv:=vals_ints hi
 have lenV:=hi.length
 have nat:a ∉ ts:=fun z=>by
  have:=hts a z
  rw [ha] at this
  cases this
 have core:∀H:Hp,OnlyT ts H→SqL K H a (ns.map V.int)→HOk P w H s₁.heap→(∀b,b ∉ ts→H b≠none→b=a)→(H a≠none→K.lookup a=none) →
   codeAny (model P w) callerA (.call (.ref fa) ⟨[.ref a],[]⟩) (fun r s'=>r=.ok (.ret (.bool true))∧OldK s₁.heap s'.heap∧s'.os=s₁.os∧AllBare s'.gens) s₁:=by
  intro H hO hS hok hA hK
  have kindOf:∀{b:Addr} {o:Obj},s₁.heap.get? b=some o→H b≠none→o=W.tabObj #[]∨o={ cls:=.type "list", data:=.seq vs.toArray }:=fun {b o} e n=>by
   by_cases hb:b∈ts
   ·left
    have:=hts b hb
    rw [e] at this
    exact Option.some.inj this
   ·right
    have:=hA b hb n
    rw [this,ha] at e
    exact (Option.some.inj e).symm
  have keep:∀{b:Addr} {o:Obj},s₁.heap.get? b=some o→o≠W.tabObj #[]→o≠{ cls:=.type "list", data:=.seq vs.toArray }→(hidT s₁.heap H).get? b=some o:=fun {b o} e n1 n2=>hidT_get e (by
   cases q:H b with
   | none=>rfl
   | some u =>
    rcases kindOf e (by rw [q];simp) with z | z
    ·exact absurd z n1
    ·exact absurd z n2)
  have nsK:∀{b:Addr} {m:Str→Option Value},s₁.heap.Ns b m→(hidT s₁.heap H).Ns b m:=fun {b m} ⟨o,es,ep,e,d,r⟩=>⟨o,es,ep,keep e (fun z=>by rw [z] at d;cases d) (fun z=>by rw [z] at d;cases d),d,r⟩
  have hKb:K.In (hidT s₁.heap H):=fun b o e=>hidT_get (KX b o e) (by
   cases q:H b with
   | none=>rfl
   | some u =>
    by_cases hb:b∈ts
    ·rw [hKt b hb] at e
     cases e
    ·have z:=hA b hb (by rw [q];simp)
     rw [z] at e q
     rw [hK (by rw [q];simp)] at e
     cases e)
  have hBb:Bm mg (hidT s₁.heap H):=by
   obtain ⟨bm,ob,b1,b2,b3,b4,b5,b6⟩:=hB
   exact ⟨bm,ob,b1,b2,keep b3 (fun z=>by rw [z] at b4;cases b4) (fun z=>by rw [z] at b6;cases b6),b4,b5,b6⟩
  have hM:Mod K mg (hidT s₁.heap H):=⟨hKb,nsK hns,⟨mb,nsK hb,hbb⟩,let ⟨mc,h1,h2⟩:=hlim;⟨mc,nsK h1,h2⟩⟩
  have e0:Env0 P w K mg (hidT s₁.heap H) callerA [] s₁ H:=⟨rfl,hM,fun b o e=>of_hidT e,Nat.le_of_eq (hidT_size _ _),trivial,fun b hb=>absurd (show b∈([]:List Addr) from hb) (by simp),hok,.of_eq hg⟩
  refine codeAny_mono ((F _ hKb (nsK hns) hBb).run callerA [] s₁ H ⟨[.ref a],[]⟩ [.ref a] [.ref a] _ _ hr e0 (hbind s₁ (.ref a)) (.cons rfl .nil) (hsp H hO nat hS)) fun r s' h=>?_
  rcases r with e | fl
  ·exact (hCX H e s' h).elim
  ·rcases fl with _ | _ | _ | u
   ·exact False.elim h
   ·exact False.elim h
   ·exact False.elim h
   ·obtain ⟨v,H',os,bare,un,hok',r',q⟩:=h
    obtain rfl:v=.bl true:=q
    obtain rfl:u=Value.bool true:=r'
    refine ⟨rfl,?_,os,bare⟩
    have each:∀b o,s₁.heap.get? b=some o→s'.heap.get? b=some o∨(b∈ts∧o=W.tabObj #[]∧∃more,s'.heap.get? b=some (W.tabObj (#[]++more))):=fun b o e=>by
     cases q:H b with
     | none=>exact .inl (un.keep b o e q (fun z=>absurd (show b∈([]:List Addr) from z) (by simp)) (by simp))
     | some u =>
      by_cases hb:b∈ts
      ·right
       have e1:=hts b hb
       rw [e] at e1
       obtain ⟨more,e2⟩:=un.tbls b #[] (hO.1 b hb)
       exact ⟨hb,Option.some.inj e1,more,hok' b _ e2⟩
      ·left
       rcases hO.2 b hb with z | ⟨ob,xs,z⟩
       ·rw [q] at z
        cases z
       ·have e1:=(hok b _ z).1
        rw [e] at e1
        cases e1
        exact (hok' b _ (un.frzs b _ _ z)).1
    refine ⟨fun b o e=>?_,fun b o e=>?_⟩
    ·rcases each b o e with z | ⟨hb,rfl,more,z⟩
     ·exact .inl z
     ·exact .inr (.inl ⟨hct b hb,rfl,#[],more,rfl,z⟩)
    ·rcases each b o e with z | ⟨_,_,more,z⟩
     ·exact ⟨_,z⟩
     ·exact ⟨_,z⟩
 cases hk:K.lookup a with
 | some o =>
  have e:=KX a o hk
  rw [ha] at e
  cases e
  refine core (fun b=>if b∈ts then some (.tbl #[]) else none) ⟨fun p hp=>if_pos hp,fun b hb=>.inl (if_neg hb)⟩ (.inr ⟨_,vs.toArray,_,hk,rfl,rfl,rfl,by rw [List.size_toArray,lenV];exact hl,by simpa using rv⟩) (fun b u z=>?_) (fun b hb z=>absurd (if_neg hb) z) fun z=>absurd (if_neg nat) z
  by_cases hb:b∈ts
  ·have z':=(if_pos hb).symm.trans z
   cases z'
   exact hts b hb
  ·have z':=(if_neg hb).symm.trans z
   cases z'
 | none =>
  refine core (fun b=>if b∈ts then some (.tbl #[]) else if b=a then some (.frz { cls:=.type "list", data:=.seq vs.toArray } (.lst (ns.map V.int))) else none) ⟨fun p hp=>if_pos hp,fun b hb=>?_⟩ (.inl (.inr ⟨{ cls:=.type "list", data:=.seq vs.toArray },?_⟩)) (fun b u z=>?_) (fun b hb z=>?_) fun _=>hk
  ·by_cases h:b=a
   ·exact .inr ⟨_,_,(if_neg hb).trans (if_pos h)⟩
   ·exact .inl ((if_neg hb).trans (if_neg h))
  ·exact (if_neg nat).trans (if_pos rfl)
  ·by_cases hb:b∈ts
   ·have z':=(if_pos hb).symm.trans z
    cases z'
    exact hts b hb
   ·by_cases h:b=a
    ·have z':=((if_neg hb).trans (if_pos h)).symm.trans z
     cases z'
     rw [h]
     exact ⟨ha,by rw [List.length_map];exact hl,vs,_,rv,ha⟩
    ·have z':=((if_neg hb).trans (if_neg h)).symm.trans z
     cases z'
  ·by_cases h:b=a
   ·exact h
   ·exact absurd ((if_neg hb).trans (if_neg h)) z
theorem walk_ofT {l:W.OpenLaw} {n k:Nat} {q:Program} {loose:List Str} {XP:(Str→Option Value)→Heap→Prop} {YP:World→Heap→Prop} {d:DefRec} {K:Params→W.Frag} {CX:World→CXT} {sp:World→Sp} {x:Str} {ts:List Addr}
  (hn:l.most=some n) (hn2:n≤sizeLine) (hdf:d.params.defaults=[]) (hr:Room k callerA)
  (hY:∀(w:World) (h:Heap),YP w h→(K w.params).In h∧∀p∈ts,h.get? p=some (W.tabObj #[]))
  (F:∀(w:World) (mg:Str→Option Value) (fa:Addr) (h:Heap),(K w.params).In h→h.Ns mainGlobals mg→mg d.name=some (.ref fa)→(∀p∈ts,(K w.params).lookup p=none∧∃c,W.codeHdIn (K w.params) c p=true) ∧
   ∃fd:FuncData,(∀(s:Shared) (u:Value),BindsTo s fd ⟨[u],[]⟩ [(x,u)]) ∧
    ∀base:Heap,(K w.params).In base→base.Ns mainGlobals mg→Bm mg base→FnOk l.prog w (K w.params) mg base (CX w) k fa fd [x] (sp w))
  (hsp:∀(w:World) (H:Hp) (a:Addr) (ns:List Int),ns.length≤n→OnlyT ts H→a ∉ ts→SqL (K w.params) H a (ns.map V.int)→sp w [.ref a] H (fun v _=>v=.bl true) fun _ _ _=>False)
  (hCX:∀(w:World) (H:Hp) (s:Shared) (e:Value) (s':Shared),CX w [] H s (fun _ _ _=>False) e s'→False) :
  W.WalkO q loose XP YP l.row.toRowW d [] (fun f vs=>PySem.call f vs):=by
 refine Att.attach_call hn hdf fun w s₀ s₁ mg mb fa o pm cd doc a vs ns G Y ho hd hcd hmg hobj hints hlen hg=>?_
 obtain ⟨KX,hts⟩:=hY w _ Y
 obtain ⟨hT,fd,hb,hF⟩:=F w mg fa _ KX G.T.g hmg
 refine law_callT KX G.T.g G.T.b G.T.builtins G.T.nolimit hg G.T.bmain hts (fun p hp=>?_) (fun p hp=>(hT p hp).1) hobj hints (Nat.le_trans hlen hn2) hr hF hb (fun H hO hn hS=>hsp w H a ns hlen hO hn hS) fun H e s'=>hCX w H s₁ e s'
 obtain ⟨c,hc⟩:=(hT p hp).2
 obtain ⟨o,vs,_,_,_,_,_,_,_,e1,e2,e3,e4,_⟩:=W.codeHd_of_K KX hc
 exact ⟨c,o,vs,e1,e2,e3,e4⟩
end L2
namespace L2
open PySem PySem.Spec PyProof.Rows PySem.SeqAt
def tx (cs:List Nat):Str:=⟨cs.toArray⟩
theorem tx_len (cs:List Nat):(tx cs).length=cs.length:=by simp [tx,Str.length]
theorem tx_cps (cs:List Nat):(tx cs).cps.toList=cs:=by simp [tx]
theorem tx_inj {a b:List Nat} (h:tx a=tx b):a=b:=by
 have:=congrArg (fun z:Str=>z.cps.toList) h
 simpa [tx] using this
def rSlS:R2:=fun x y H Q=>∃z j,x=.str z∧y=.int j∧z.length≤sizeLine∧Q (.str (Txt.slice z none (some j))) H
def tSlS (te th:TE):TE:=fun σ H Q=>te σ H fun x H1=>th σ H1 fun y H2=>rSlS x y H2 Q
section
variable {X:Cx} {e hi:Expr} {te th:TE} {p2 pos:Pos}
theorem pe_slS (he:PE X e te) (hu:PE X hi th):PE X (.Subscript e (.Slice none (some hi) none p2) pos) (tSlS te th):=by
 intro pins s σ H Q I h
 refine Subscript_ (thn (he pins s σ H _ I h) fun v s1 ⟨x,H1,I1,r1,q1⟩=>?_)
 refine wpAny_Slice (wpAny_evalPart_none (wpAny_evalPart_some (thn (hu pins s1 σ H1 _ I1 q1) fun vu s3 ⟨y,H3,I3,pu,z,j,e1,e2,hz,q3⟩=>wpAny_evalPart_none ?_)))
 subst e1
 subst e2
 obtain ⟨t,rfl⟩:=r1
 obtain ⟨t2,rfl⟩:=pu
 obtain ⟨Tn,id,h1,h2,h3⟩:=SBH.sliceItem_ns (prog:=X.prog) (w:=X.w) (A:=X.A) (E:=X.xe) (s:=s3) (P:=fun h=>∀b o,s3.heap.get? b=some o→h.get? b=some o) (Q:=EP X pins σ Q) (x:=z) (t:=t) (j:=j) (uj:=t2) (fun h ob k b o e4=>Heap.get?_push_of_some _ (k b o e4)) (fun _ _ e4=>e4) (fun h' t' k kp=>⟨.str _,H3,I3.kept kp,⟨t',rfl⟩,q3⟩) hz
 exact tail_any (ops:=[.ref s3.heap.objs.size,.str z t]) h2 h1 h3 (by with_unfolding_all rfl)
def rMulS:R2:=fun x y H Q=>∃z n,x=.str z∧y=.int n∧MulOk z n∧Q (.str (Txt.mul z n)) H
theorem op_mulS:OpR X (binaryOp .Mult) rMulS:=op_mul_str
def rPopA:V→List V→Hp→VK→Prop:=fun x vs H Q=>∃l xs i y,x=.ref l∧vs=[.int i]∧H l=some (.lst xs)∧0≤i∧i < xs.length∧xs.length≤1000000∧xs[i.toNat]?=some y∧∀H',Off l H H'→H' l=some (.lst (xs.eraseIdx i.toNat))→Q y H'
theorem mt_popA:MtM X "list.pop" rPopA:=by
 intro pins s σ H x vs v us Q I rx rv h
 obtain ⟨l,xs,i,y,e1,e2,hH,h0,h1,hz,hy,q⟩:=h
 refine mt_popAt pins s σ H x vs v us Q I rx rv ⟨l,xs,i,i.toNat,y,e1,e2,hH,by omega,by omega,?_,hy,q _ Off.upd upd_same⟩
 unfold seqIndex?
 simp only [show ¬ i < 0 from by omega,if_false,h0,h1,decide_true,Bool.and_self,if_true]
theorem pe_popA {o e:Expr} {to te:TE} {apos cpos:Pos} (ho:PE X o to) (he:PE X e te) (hbase:attributeBase o "pop" X.env (eval o X.env)=eval o X.env:=by rfl)
  (hfew:((backTo cpos (starEach [e] X.env)).all (fun x=>!x.1) && (backToKw cpos (keywordEach [] X.env)).all (fun x=>x.1.isSome)
   && decide (([e]:List Expr).length + ([]:List Keyword).length + (if ([]:List Keyword).isEmpty then 0 else 1) < 30))=true:=by rfl)
  (hline:(apos.endLine == cpos.line)=true:=by rfl) (hs:starEach [e] X.env=(false,eval e X.env)::starEach [] X.env:=by rfl) :
  PE X (.Call (.Attribute o "pop" apos) [e] [] cpos) (tBM X.K "list" rPopA to (tCons te tNil)) :=
 pe_bm PySem.F.plainAttrs_list PySem.F.slot_list_pop PySem.F.type_list_pop mt_popA ho (pa_cons he pa_nil hs) hbase hfew hline hs (by rfl)
end
theorem slice_tx (cs:List Nat) (j:Nat):Txt.slice (tx cs) none (some (j:Int))=tx (cs.take j):=by
 have hn:¬ ((j:Int) < 0):=by omega
 have hix:Builtin.Str.strSliceIndices none (some (j:Int)) 1 (tx cs).length=List.range (min j cs.length):=by
  unfold Builtin.Str.strSliceIndices sliceRange
  dsimp only
  rw [tx_len]
  simp only [show (1:Int) > 0 from by decide,if_true,hn,if_false]
  have e1:max (0:Int) (min (j:Int) (cs.length:Int))=((min j cs.length:Nat):Int):=by omega
  rw [e1]
  by_cases h:(0:Int) < ((min j cs.length:Nat):Int)
  ·rw [if_pos h]
   have e2:((((min j cs.length:Nat):Int) - 0 + 1 - 1) / 1).toNat=min j cs.length:=by
    rw [Int.ediv_one]
    omega
   rw [e2]
   have e3:(fun k:Nat=>((0:Int) + 1 * (k:Int)).toNat)=id:=by
    funext k
    show ((0:Int) + 1 * (k:Int)).toNat=k
    omega
   rw [e3,List.map_id]
  ·rw [if_neg h]
   have:min j cs.length=0:=by omega
   rw [this]
   rfl
 unfold Txt.slice
 rw [hix,List.length_range,tx_len]
 by_cases h:min j cs.length=cs.length
 ·rw [if_pos (by rw [h];simp)]
  rw [List.take_of_length_le (by omega)]
 ·rw [if_neg (by simp [h])]
  unfold tx
  congr 2
  have hfm:∀(n:Nat),n≤cs.length→(List.range n).filterMap (fun i=>cs.toArray[i]?)=cs.take n:=by
   intro n
   induction n with
   | zero=>intro _;rfl
   | succ n ih =>
    intro hn
    rw [List.range_succ,List.filterMap_append,ih (by omega),List.take_succ,List.filterMap_cons,List.filterMap_nil]
    have:cs.toArray[n]?=cs[n]?:=by simp
    rw [this]
    cases cs[n]? <;> rfl
  have:=hfm (min j cs.length) (by omega)
  rw [this]
  by_cases hj:j≤cs.length
  ·rw [show min j cs.length=j by omega]
  ·exact absurd (by omega) h
theorem mul_tx (c:Nat) (n:Int):Txt.mul (tx [c]) n=tx (List.replicate n.toNat c):=by
 have h:=mul_one_list c n
 have e:(tx [c])=⟨#[c]⟩:=rfl
 rw [e]
 have:∀z:Str,z=tx z.cps.toList:=fun z=>by cases z;simp [tx]
 rw [this (Txt.mul ⟨#[c]⟩ n),h]
theorem append_tx (a b:List Nat):tx a++tx b=tx (a++b):=by
 show Str.append _ _=_
 unfold Str.append tx
 simp
section
variable {K:W.Frag} {H0 H:Hp} {M:List Addr} {L L':List (Addr×HO)} {I:List Im} {l P f:Addr} {xs ys:List V} {v y:V} {Q:VK} {R:Hp→Prop} {te th:TE} {σ:St} {i:Int} {cs ds:List Nat} {j c:Nat} {pos:Pos} {qual:Str} {ps:Array Value}
instance go_slS:Go (tSlS te th σ H Q) (te σ H fun x H1=>th σ H1 fun y H2=>rSlS x y H2 Q):=⟨id⟩
instance go_rslS:Go (rSlS (.str (tx cs)) (.int i) H Q) (Sd (0≤i∧cs.length≤1000) (Q (.str (tx (cs.take i.toNat))) H)):=⟨fun s=>⟨_,i,rfl,rfl,by rw [tx_len];exact small_line (by have:=s.1.2;omega),by
 have:=slice_tx cs i.toNat
 rw [show ((i.toNat:Nat):Int)=i by have:=s.1.1;omega] at this
 rw [this]
 exact s.2⟩⟩
instance go_rixS:Go (rIxS (.str (tx cs)) (.int i) H Q) (Sd (0≤i∧i < cs.length∧cs.length≤1000) (∀c:Nat,cs[i.toNat]?=some c→Q (.str (tx [c])) H)):=⟨fun s=>by
 obtain ⟨⟨h0,h1,h2⟩,k⟩:=s
 have hl:i.toNat < cs.length:=by omega
 refine ⟨tx cs,i,cs[i.toNat],rfl,rfl,by rw [tx_len];exact small_line (by omega),?_,k _ (by simp)⟩
 rw [tx_cps]
 obtain ⟨n,rfl⟩:∃n:Nat,i=(n:Int):=⟨i.toNat,by omega⟩
 exact atI_nat (by simp)⟩
instance go_raddS:Go (rAddS (.str (tx cs)) (.str (tx ds)) H Q) (Sd (cs.length + ds.length≤1000) (Q (.str (tx (cs++ds))) H)):=⟨fun s=>⟨_,_,rfl,rfl,by rw [tx_len,tx_len];exact small_line (by have:=s.1;omega),by rw [append_tx];exact s.2⟩⟩
instance go_rmulS:Go (rMulS (.str (tx [c])) (.int i) H Q) (Sd (0≤i∧i≤1000) (Q (.str (tx (List.replicate i.toNat c))) H)):=⟨fun s=>by
 obtain ⟨⟨h0,h1⟩,k⟩:=s
 refine ⟨_,i,rfl,rfl,⟨?_,fun a b=>?_,fun a b=>?_⟩,by rw [mul_tx];exact k⟩
 ·rw [decide_eq_false (by omega),decide_eq_false (by omega)]
  rfl
 ·rw [tx_len]
  have:(1:Int)≤(2 ^ 63 - 1) / i:=by
   rw [Int.le_ediv_iff_mul_le (by omega)]
   omega
  simp only [List.length_cons,List.length_nil]
  omega
 ·unfold Builtin.Str.tooLong
  rw [tx_len]
  refine decide_eq_false ?_
  have:=small_line (n:=1 * i.toNat) (by omega)
  simp only [List.length_cons,List.length_nil]
  omega⟩
instance go_pop [h:Hat H l (.lst xs)]:Go (rPopA (.ref l) [.int i] H Q) (Sd (0≤i∧i < xs.length∧xs.length≤1000000) (∀y:V,xs[i.toNat]?=some y→∀H',Off l H H'→H' l=some (.lst (xs.eraseIdx i.toNat))→Q y H')):=⟨fun s=>by
 obtain ⟨⟨h0,h1,h2⟩,k⟩:=s
 have hl:i.toNat < xs.length:=by omega
 exact ⟨l,xs,i,xs[i.toNat],rfl,rfl,h.e,h0,h1,h2,by simp,k _ (by simp)⟩⟩
theorem w_tupD {n i0 i1 i2 i3:Nat} {a b c d:V} {R:St→Hp→Prop} (hn:n=4) (hp:SqT K H l [a,b,c,d]) (h:gName i0 a σ H fun σ1 H1=>gName i1 b σ1 H1 fun σ2 H2=>gName i2 c σ2 H2 fun σ3 H3=>gName i3 d σ3 H3 R):gTup K n (gCons (gName i0) (gCons (gName i1) (gCons (gName i2) (gCons (gName i3) gNil)))) (.ref l) σ H R:=by
 subst hn
 exact ⟨l,_,rfl,hp,rfl,_,_,rfl,_,_,rfl,_,_,rfl,_,_,rfl,rfl,h⟩
instance go_tup4 {n i0 i1 i2 i3:Nat} {a b c d:V} {R:St→Hp→Prop} [h:SqB K H l [a,b,c,d]]:Go (gTup K n (gCons (gName i0) (gCons (gName i1) (gCons (gName i2) (gCons (gName i3) gNil)))) (.ref l) σ H R) (Sd (n=4) (gName i0 a σ H fun σ1 H1=>gName i1 b σ1 H1 fun σ2 H2=>gName i2 c σ2 H2 fun σ3 H3=>gName i3 d σ3 H3 R)):=⟨fun s=>w_tupD s.1 h.e s.2⟩
theorem TabOk.st:∀H H',Tst H H'→TabOk pos qual ps H→TabOk pos qual ps H':=fun H H' t h=>by
 rcases h with h | ⟨c',oc,vs,t',e,e1,e2⟩
 ·exact .inl h
 ·exact .inr ⟨c',oc,vs,t',e,t _ _ rfl e1,e2⟩
theorem IsLam.st:∀H H',Tst H H'→IsLam H f→IsLam H' f:=fun H H' t h=>by
 obtain ⟨a1,a2,a3,a4,a5,a6,a7,a8,a9,a10,a11,a12,a13,a14,e1,e2,r⟩:=h
 exact ⟨a1,a2,a3,a4,a5,a6,a7,a8,a9,a10,a11,a12,a13,a14,t _ _ rfl e1,t _ _ rfl e2,r⟩
abbrev TabI (pos:Pos) (qual:Str) (ps:Array Value):Im:=.fct (TabOk pos qual ps) TabOk.st
abbrev LamI (f:Addr):Im:=.fct (fun H=>IsLam H f) IsLam.st
class TabA (I:List Im) (pos:Pos) (qual:Str) (ps:Array Value):Prop where
 m:TabI pos qual ps∈I
class LamA (I:List Im) (f:Addr):Prop where
 m:LamI f∈I
instance tabA1 {g:Im} [h:TabA I pos qual ps]:TabA (g::I) pos qual ps:=⟨List.mem_cons_of_mem _ h.m⟩
instance tabA0:TabA (TabI pos qual ps::I) pos qual ps:=⟨List.mem_cons_self⟩
instance lamA0:LamA (LamI f::I) f:=⟨List.mem_cons_self⟩
theorem SH.tab [F:SH H0 M H L I] [h:TabA I pos qual ps]:TabOk pos qual ps H:=F.im _ h.m
instance go_lam [F:SH H0 M H L I] [e:LkL L P (.tbl ps)] [t:TabA I pos qual ps]:Go (tLam P pos qual σ H Q) (∀(f:Addr) (ps':Array Value) (H':Hp),Kp P H H'→H' P=some (.tbl ps')→TabOk pos qual ps' H'→IsLam H' f→Q (.ref f) H'):=⟨fun k=>⟨ps,F.raw e.m,F.im _ t.m,k⟩⟩
instance nx_tab [F:SH H0 M H L I] [u:LkU L P (.tbl ps) L']:Go (∀H',Kp P H H'→H' P=some (.tbl ps)→TabOk pos qual ps H'→R H') (∀H',SH H0 M H' L' (TabI pos qual ps::I)→R H'):=⟨fun k H' f e t=>k H' ((F.kp f e u.u rfl).addF t)⟩
instance nx_lam [F:SH H0 M H L I] [u:LkU L P (.tbl ps) L']:Go (∀H',Kp P H H'→H' P=some (.tbl ps)→TabOk pos qual ps H'→IsLam H' f→R H') (∀H',SH H0 M H' L' (LamI f::TabI pos qual ps::I)→R H'):=⟨fun k H' f e t g=>k H' (((F.kp f e u.u rfl).addF t).addF g)⟩
end
def isLow (c:Nat):Bool:=decide (97≤c) && decide (c≤122)
def isFig (c:Nat):Bool:=decide (48≤c) && decide (c≤57)
def LET:Str := "abcdefghijklmnopqrstuvwxyz"
def SGN:Str := "abcdefghijklmnopqrstuvwxyz0123456789"
theorem let_low (c:Nat):decide (c∈LET.cps.toList)=isLow c:=by
 rw [show LET.cps.toList=List.range' 97 26 by decide +kernel]
 unfold isLow
 rw [Bool.eq_iff_iff]
 simp only [decide_eq_true_eq,List.mem_range'_1,Bool.and_eq_true]
 omega
theorem sgn_low (c:Nat):decide (c∈SGN.cps.toList)=(isLow c || isFig c):=by
 rw [show SGN.cps.toList=List.range' 97 26++List.range' 48 10 by decide +kernel]
 unfold isLow isFig
 rw [Bool.eq_iff_iff]
 simp only [decide_eq_true_eq,List.mem_append,List.mem_range'_1,Bool.and_eq_true,Bool.or_eq_true]
 omega
structure NameOk (cs:List Nat):Prop where
 lo:1≤cs.length
 hi:cs.length≤8
 hd:∀c,cs[0]?=some c→isLow c=true
 all:∀c∈cs,(isLow c || isFig c)=true
structure Rw where
 nm:List Nat
 st:Nat
 sz:Nat
 pn:Nat
abbrev rowV (r:Rw):List V:=[.str (tx r.nm),.int (r.st:Nat),.int (r.sz:Nat),.int (r.pn:Nat)]
def rowsV (rs:List Rw):List (List V):=rs.map rowV
theorem rowsV_len (rs:List Rw):(rowsV rs).length=rs.length:=List.length_map ..
structure GoodR (n:Nat) (r:Rw):Prop where
 nm:NameOk r.nm
 sz:1≤r.sz
 le:r.st + r.sz≤n
def Apart (r s:Rw):Prop:=r.nm≠s.nm∧(r.st + r.sz≤s.st∨s.st + s.sz≤r.st)
theorem Apart.symm {r s:Rw} (h:Apart r s):Apart s r:=⟨fun z=>h.1 z.symm,h.2.elim .inr .inl⟩
structure Lay (n:Nat) (rs:List Rw):Prop where
 good:∀r∈rs,GoodR n r
 ap:rs.Pairwise Apart
 few:rs.length≤40
def Asc (rs:List Rw):Prop:=rs.Pairwise fun r s=>r.st + r.sz≤s.st
theorem Lay.perm {n:Nat} {rs qs:List Rw} (h:Lay n rs) (p:rs.Perm qs):Lay n qs:=⟨fun r hr=>h.good r (p.mem_iff.mpr hr),(p.pairwise_iff (fun {a b}=>Apart.symm)).mp h.ap,by rw [← p.length_eq];exact h.few⟩
theorem rowsV_at {H:Hp} {rs:List Rw} {ys:List V} {i:Nat} {v:V} (h:TupsAt H ys (rowsV rs)) (e:ys[i]?=some v):∃r q,rs[i]?=some r∧v=.ref q∧H q=some (.tup (rowV r)):=by
 obtain ⟨r,q,e1,e2,e3⟩:=tups_at h e
 unfold rowsV at e1
 rw [List.getElem?_map] at e1
 cases e4:rs[i]? with
 | none=>rw [e4] at e1;cases e1
 | some w=>rw [e4] at e1;cases e1;exact ⟨w,q,rfl,e2,e3⟩
theorem perm_of_map {α β:Type} {f:α→β} {l:List β} {m:List α} (p:l.Perm (m.map f)):∃k:List α,k.Perm m∧l=k.map f:=by
 generalize hm:m.map f=m' at p
 induction p generalizing m with
 | nil=>exact ⟨[],by rw [List.map_eq_nil_iff.mp hm],rfl⟩
 | cons x p ih =>
  cases m with
  | nil=>cases hm
  | cons a t =>
   rw [List.map_cons] at hm
   injection hm with h1 h2
   obtain ⟨k,pk,ek⟩:=ih h2
   exact ⟨a::k,pk.cons a,by rw [List.map_cons,h1,ek]⟩
 | swap x y l =>
  cases m with
  | nil=>cases hm
  | cons a t =>
   cases t with
   | nil=>rw [List.map_cons] at hm;injection hm with h1 h2;cases h2
   | cons b u =>
    rw [List.map_cons,List.map_cons] at hm
    injection hm with h1 h2
    injection h2 with h2 h3
    exact ⟨b::a::u,List.Perm.swap a b u,by rw [List.map_cons,List.map_cons,h1,h2,h3]⟩
 | trans p1 p2 ih1 ih2 =>
  obtain ⟨k,pk,ek⟩:=ih2 hm
  obtain ⟨k2,pk2,ek2⟩:=ih1 ek.symm
  exact ⟨k2,pk2.trans pk,ek2⟩
theorem rise_one:∀{as bs:List Rw},as.Perm bs→as.Pairwise (fun r s=>r.st≤s.st)→bs.Pairwise (fun r s=>r.st < s.st)→as=bs:=by
 intro as
 induction as with
 | nil=>intro bs p _ _;exact (List.nil_perm.mp p).symm
 | cons a t ih =>
  intro bs p ha hb
  cases bs with
  | nil=>exact absurd p.length_eq (by simp)
  | cons b u =>
   have e:a=b:=by
    rcases List.mem_cons.mp (p.mem_iff.mp List.mem_cons_self) with h | h
    ·exact h
    ·have h1:=(List.pairwise_cons.mp hb).1 a h
     rcases List.mem_cons.mp (p.mem_iff.mpr (List.mem_cons_self (a:=b) (l:=u))) with h2 | h2
     ·exact h2.symm
     ·have h3:=(List.pairwise_cons.mp ha).1 b h2
      omega
   subst e
   rw [ih (List.perm_cons a |>.mp p) (List.pairwise_cons.mp ha).2 (List.pairwise_cons.mp hb).2]
theorem zip_map1 {rs:List Rw} {ys:List V}:(rs.map fun r=>((r.st:Nat):Int)).zip ys=(rs.zip ys).map fun p=>(((p.1.st:Nat):Int),p.2):=by
 rw [List.zip_map_left]
 rfl
theorem sort_rows {H:Hp} {rs as:List Rw} {ys zs:List V} (t:TupsAt H ys (rowsV rs)) (p:rs.Perm as) (ha:as.Pairwise fun r s=>r.st < s.st) (s:SortedBy (rs.map fun r=>((r.st:Nat):Int)) ys zs):TupsAt H zs (rowsV as):=by
 obtain ⟨ps,pp,rfl,pw⟩:=s
 rw [zip_map1] at pp
 obtain ⟨qs,pq,rfl⟩:=perm_of_map pp
 have hl:ys.length=rs.length:=by rw [t.1,rowsV_len]
 have e1:(rs.zip ys).map Prod.fst=rs:=List.map_fst_zip (by omega)
 have pf:(qs.map Prod.fst).Perm rs:=by
  have:=pq.map Prod.fst
  rw [e1] at this
  exact this
 have hq:qs.map Prod.fst=as:=by
  refine rise_one (pf.trans p) ?_ ha
  rw [List.pairwise_map] at pw ⊢
  exact pw.imp fun h=>by omega
 have each:∀x∈qs,∃q,x.2=.ref q∧H q=some (.tup (rowV x.1)):=fun x hx=>by
  have hx:=pq.mem_iff.mp hx
  obtain ⟨i,hi,e⟩:=List.getElem_of_mem hx
  rw [List.length_zip] at hi
  rw [List.getElem_zip] at e
  obtain ⟨r,q,e2,e3,e4⟩:=rowsV_at t (v:=ys[i]'(by omega)) (i:=i) (by simp)
  rw [List.getElem?_eq_getElem (by omega)] at e2
  refine ⟨q,by rw [← e];exact e3,?_⟩
  rw [← e]
  show H q=some (.tup (rowV rs[i]))
  rw [Option.some.inj e2]
  exact e4
 refine ⟨by rw [rowsV_len,← hq,List.length_map,List.length_map,List.length_map],fun j r e=>?_⟩
 unfold rowsV at e
 rw [← hq,List.map_map,List.getElem?_map] at e
 cases e5:qs[j]? with
 | none=>rw [e5] at e;cases e
 | some x =>
  rw [e5] at e
  cases e
  obtain ⟨q,e6,e7⟩:=each x (List.mem_of_getElem? e5)
  exact ⟨q,by rw [List.map_map,List.getElem?_map,e5];show some x.2=_;rw [e6],e7⟩
theorem Asc.lt {n:Nat} {rs:List Rw} (h:Asc rs) (g:∀r∈rs,GoodR n r):rs.Pairwise fun r s=>r.st < s.st:=by
 refine List.Pairwise.imp_of_mem ?_ h
 intro a b ha hb hab
 have:=(g a ha).sz
 omega
def rInS:R2:=fun x y H Q=>∃c j,x=.str ⟨#[c]⟩∧y=.str j∧Q (.bl (decide (c∈j.cps.toList))) H
section
variable {X:Cx} {K:W.Frag} {H:Hp} {Q:VK} {z:Str} {cs:List Nat} {c:Nat} {t0 te:TE} {nt:Nat} {fr:List Nat} {g:TG} {cc:TT} {σ fvs:St} {p f l:Addr} {bs:List Bool} {ys:List V} {rs:List Rw}
theorem op_inS:OpR X (compareOp .In) rInS:=op_in_str1
instance go_inS:Go (rInS (.str (tx [c])) (.str z) H Q) (Q (.bl (decide (c∈z.cps.toList))) H):=⟨fun k=>⟨c,z,rfl,rfl,k⟩⟩
instance go_isSS:Go (rIsT K [.str z,.ty "str"] H Q) (Q (.bl true) H):=⟨fun k=>w_is (TyOf.str (K:=K) (H:=H) z) (bt_str (TyOf.str (K:=K) (H:=H) z)) k⟩
instance go_lenS:Go (rLen K [.str (tx cs)] H Q) (Sd (cs.length≤1000) (Q (.int cs.length) H)):=⟨fun s=>w_lenS (by rw [tx_len];exact small_line (by have:=s.1;omega)) (by rw [tx_len];exact s.2)⟩
instance go_compS:Go (tComp (iStr t0) nt fr g cc te σ H Q) (t0 σ H fun x H1=>∃z,x=.str z∧CompAll (Its z) nt fr g cc te σ H1 Q):=⟨id⟩
instance go_compS1:Go (∃z',V.str z=.str z'∧CompAll (Its z') nt fr g cc te σ H Q) (CompAll (Its z) nt fr g cc te σ H Q):=⟨fun k=>⟨z,rfl,k⟩⟩
theorem comp_S {F:Nat→V} (hz:cs.length≤1000) (hf:(fr.map fun i=>(σ[i]?).getD none)=fvs) (turn:∀(c:Nat) (H':Hp) (R:VK),c∈cs→Same H H'→(∀H2,Same H' H2→R (F c) H2)→te (some (.str (tx [c]))::fvs) H' R)
  (k:∀p H',New H H' p (.lst (cs.map F))→Q (.ref p) H'):CompAll (Its (tx cs)) 1 fr (gName 0) tTrue te σ H Q:=by
 have e0:signsV (tx cs)=cs.map fun c=>V.str (tx [c]):=by
  unfold signsV
  rw [tx_cps]
  rfl
 refine comp_map (P:=fun i y=>∃c,cs[i]?=some c∧y=F c) (items_str (z:=tx cs)) (by rw [e0,List.length_map];omega) hf (fun _ _=>trivial) (fun i v H' R hv s kk=>?_) fun p H' ys n hl hP=>k p H' ?_
 ·rw [e0,List.getElem?_map] at hv
  cases e:cs[i]? with
  | none=>rw [e] at hv;cases hv
  | some c =>
   rw [e] at hv
   cases hv
   exact turn c H' R (List.mem_of_getElem? e) s fun H2 s2=>kk _ _ s2 ⟨c,e,rfl⟩
 ·have e:ys=cs.map F:=by
   rw [e0,List.length_map] at hl
   apply List.ext_getElem?
   intro i
   rw [List.getElem?_map]
   by_cases hi:i < ys.length
   ·obtain ⟨c,e1,e2⟩:=hP i ys[i] (by simp)
    rw [e1,List.getElem?_eq_getElem hi,e2]
    rfl
   ·rw [List.getElem?_eq_none (by omega),List.getElem?_eq_none (by omega)]
    rfl
  rw [e] at n
  exact n
instance go_all [h:SqA K H p (bs.map V.bl)]:Go (∃(p':Addr) (bs':List Bool),[V.ref p]=[.ref p']∧SqL K H p' (bs'.map V.bl)∧Q (.bl (bs'.all id)) H) (Q (.bl (bs.all id)) H):=⟨fun k=>⟨p,bs,rfl,h.e,k⟩⟩
instance go_sortK {H0:Hp} {M:List Addr} {L:List (Addr×HO)} {I:List Im} [F:SH H0 M H L I] [h:SqA K H l ys] [t:TpA H ys (rowsV rs)] [m:LamA I f]:Go (rSortK K [.ref l] (.ref f) H Q) (Sd (rs.length < 64) (∀D zs H',New H H' D (.lst zs)→SortedBy (rs.map fun r=>((r.st:Nat):Int)) ys zs→Q (.ref D) H')):=⟨fun s=>by
 have hl:ys.length=rs.length:=by rw [t.e.1,rowsV_len]
 refine ⟨l,f,ys,rs.map fun r=>((r.st:Nat):Int),rfl,rfl,F.im _ m.m,h.e,by rw [List.length_map,hl],by rw [hl];exact s.1,fun i v k hv hk=>?_,s.2⟩
 obtain ⟨r,q,e1,e2,e3⟩:=rowsV_at t.e hv
 rw [List.getElem?_map,e1] at hk
 cases hk
 exact ⟨q,_,e2,e3,rfl⟩⟩
instance nx_rowsV {H0:Hp} {M:List Addr} {L:List (Addr×HO)} {I:List Im} {Z:Addr→Hp→Prop} [F:SH H0 M H L I]:Go (∀p ys H',New H H' p (.lst ys)→TupsAt H' ys (rowsV rs)→Z p H') (∀H' p ys,ys.length=rs.length→SH H0 M H' ((p,.lst ys)::L) (.tps ys (rowsV rs)::I)→Z p H'):=⟨fun k p ys H' n t=>k H' p ys (by rw [t.1,rowsV_len]) (F.newR n t)⟩
end
end L2
namespace L2
open PySem PySem.Spec PyProof.Rows
end L2
namespace L2
open PySem PySem.W PySem.Spec PyProof.Rows
section
variable {n:Nat} {rk:Nat→Int} {α β:Type}
def Pp (n:Nat) (p:Array Nat):Prop:=p.Perm (List.range n).toArray
theorem Pp.size {p:Array Nat} (h:Pp n p):p.size=n:=by
 have:=h.size_eq
 simpa using this
theorem Pp.ne {p:Array Nat} (h:Pp n p) {a b:Nat} (ha:a < n) (hb:b < n) (hab:a≠b):p.getD a 0≠p.getD b 0:=by
 have hs:=h.size
 have e:∀k (hk:k < n),p.getD k 0=p.toList[k]'(by simpa [hs] using hk):=fun k hk=>by
  rw [Array.getD_eq_getD_getElem?,Array.getElem?_eq_getElem (by omega)]
  rfl
 have nd:p.toList.Nodup:=(Array.perm_iff_toList_perm.mp h).nodup_iff.mpr (by simpa using List.nodup_range)
 rw [e a ha,e b hb]
 intro z
 exact hab ((List.getElem_inj nd).mp z)
end
end L2
namespace L2
open PySem PySem.W PySem.Calls PySem.Spec PyProof.Rows
section
variable {prog:Program} {w:World} {A:Around} {E:Value→Shared→Prop} {s:Shared} {h₀:Heap} {L:Addr} {m:Str→Option Value} {news:List (Addr×Obj)} {vs:List Value}
inductive F2 {α β:Type} (R:α→β→Prop):List α→List β→Prop
 | nil:F2 R [] []
 | cons {a b l m}:R a b→F2 R l m→F2 R (a::l) (b::m)
theorem F2.length_eq {α β:Type} {R:α→β→Prop}:∀{l:List α} {m:List β},F2 R l m→l.length=m.length
 | _,_,.nil=>rfl
 | _,_,.cons _ h=>congrArg (· + 1) h.length_eq
end
end L2
namespace L2
open PySem PySem.Spec PyProof.Rows PySem.SeqAt
section
variable {K:W.Frag} {H:Hp} {Q:VK} {l p q:Addr} {x:V} {r xs ys zs:List V} {rs:List Rw}
variable {σ:St} {nt:Nat} {fr:List Nat} {g:TG} {c:TT} {te t0:TE}
instance go_compT:Go (tComp (iTup K t0) nt fr g c te σ H Q) (t0 σ H fun x H1=>∃a,x=.ref a∧(∃xs,SqT K H1 a xs)∧CompAll (Itt K a) nt fr g c te σ H1 Q):=⟨id⟩
instance go_tby [h:Hat H l (.tup xs)]:Go (∃a,V.ref l=.ref a∧(∃xs,SqT K H a xs)∧CompAll (Itt K a) nt fr g c te σ H Q) (CompAll (Itt K l) nt fr g c te σ H Q):=⟨fun k=>⟨l,rfl,⟨_,SqT.of h.e⟩,k⟩⟩
variable {R:St→Hp→Prop}
end
end L2
namespace L2
open PySem PySem.W PySem.Spec PyProof.Rows
section
variable {CX:CXT} {P:Program} {w:World} {K:W.Frag} {mg:Str→Option Value} {base:Heap} {k m:Nat} {x:Str} {ps:List Str} {sp:Sp} {ds:List Value} {dvs:List V}
structure DefD (P:Program) (w:World) (K:W.Frag) (mg:Str→Option Value) (base:Heap) (CX:CXT) (k:Nat) (x:Str) (ps:List Str) (sp:Sp) (ds:List Value):Prop where
 ex:∃(f:Addr) (fd:FuncData),FnOk P w K mg base CX k f fd ps sp∧mg x=some (.ref f)∧W.keepIn K (.ref f)=true∧Binds K fd ps []∧Binds K fd ps ds
theorem DefD.all (D:DefD P w K mg base CX k x ps sp ds):Def P w K mg base CX k x ps sp :=
 let ⟨f,fd,F,a,b,c,_⟩:=D.ex
 ⟨f,fd,F,a,b,c⟩
end
end L2
namespace L2
open PySem PySem.Spec PyProof.Rows PySem.SeqAt
section
variable {K:W.Frag} {H:Hp} {Q:VK} {σ:St} {t:TE} {ts:List TE} {a b cs:List Nat} {c n:Nat} {ps:List (List Nat)} {p l q:Addr} {xs ys r:List V} {lo hi:Option Int} {R:Str→Prop} {S:Int→Prop} {v v0 v1 v2 v3 v4 v5:V} {i:Int} {z:Str} {bb:Bool}
instance go_notNi:Go (rNotN (.int i) .non H Q) (Q (.bl true) H):=⟨fun k=>⟨rfl,k⟩⟩
instance go_notNn:Go (rNotN .non .non H Q) (Q (.bl false) H):=⟨fun k=>⟨rfl,k⟩⟩
end
theorem cut_from {xs:List V} {i:Nat}:cutV xs (some (i:Int)) none=xs.drop i:=by
 unfold cutV
 rw [HT.sIx_nat]
 show (xs.drop (min i xs.length)).take (xs.length - min i xs.length)=_
 by_cases h:i≤xs.length
 ·rw [show min i xs.length=i by omega,List.take_of_length_le (by rw [List.length_drop];omega)]
 ·rw [List.drop_of_length_le (by omega),List.drop_of_length_le (by omega)]
  simp
end L2
namespace L2
open PySem PySem.W PySem.Calls PySem.Spec PyProof.Rows
end L2
namespace L2
open PySem PySem.Spec PyProof.Rows PySem.SeqAt
end L2
namespace L2
open PySem PySem.W PySem.Spec PyProof.Rows
end L2
namespace L2
open PySem PySem.Spec PyProof.Rows
theorem small_down {a:Int} (h0:-1≤a) (h1:a≤1000000):Builtin.Range.small a (-1) (-1)=true∧Builtin.Range.rangeSize a (-1) (-1)=a + 1:=by
 have hs:Builtin.Range.rangeSize a (-1) (-1)=a + 1:=by
  unfold Builtin.Range.rangeSize
  rw [if_neg (by decide)]
  split
  ·rw [show (-(-1):Int)=1 by decide,Int.ediv_one]
   omega
  ·omega
 have fit:∀x:Int,-2000000≤x→x≤2000000→Builtin.Range.rangeFitsLong x=true:=fun x y1 y2=>by
  unfold Builtin.Range.rangeFitsLong
  rw [decide_eq_true (by omega),decide_eq_true (by omega)]
  rfl
 refine ⟨?_,hs⟩
 unfold Builtin.Range.small
 rw [hs,fit a (by omega) (by omega),fit (-1) (by decide) (by decide),fit _ (by omega) (by omega)]
 first
  | rfl
  | (rw [if_neg (by decide)];rw [fit _ (by omega) (by omega)];first | rfl | simp)
  | simp
theorem nopl1 {x:Int}:Builtin.divisionGoesByPylong x (-1)=false:=by
 unfold Builtin.divisionGoesByPylong
 have e:(if ((-1:Int) == 0)=true then 0 else (-1:Int).natAbs.log2 / 30 + 1)=1:=by decide
 simp only [Bool.and_eq_false_iff,decide_eq_false_iff_not]
 left
 rw [e]
 omega
section
variable {X:Cx} {tg:Expr}
def iRngD (ta:TA):TI:=fun σ H R=>ta σ H fun vs H1=>∃i:Int,vs=[.int i,.int (-1),.int (-1)]∧(-1≤i∧i≤1000000)∧R (Itq i (-1) (i + 1).toNat) H1
theorem falls_it {pins:List (Addr×Obj)} {σ:St} {H:Hp} {s:Shared} {R:It→Hp→Prop} {E:Value→Shared→Prop} {lo:Int} {t u v:Tok} {tk:Nat} (I:Inv X pins σ H s) (h0:-1≤lo) (h1:lo≤1000000)
  (q:R (Itq lo (-1) (lo + 1).toNat) H):wpAny (model X.prog X.w) X.A (pyIter (.ref s.heap.objs.size)) (PIE X pins σ tg R) E { s with heap:=s.heap.push { cls:=.type "range", data:=.fields #[.int lo t,.int (-1) u,.int (-1) v] },toks:=tk }:=by
 obtain ⟨sm,sz⟩:=small_down h0 h1
 refine wpAny_pyIter_range (IsRange.new ..) sm ?_
 generalize hh:s.heap.push { cls:=.type "range", data:=.fields #[.int lo t,.int (-1) u,.int (-1) v] }=hp
 have I1:Inv X pins σ H { s with heap:=hp,toks:=tk }:=by
  rw [← hh]
  exact I.kept fun b o e=>Heap.get?_push_of_some _ e
 refine ⟨hp.objs.size,[hp.objs.size],_,_,H,rfl,I1.kept (t':=tk) fun b o e=>Heap.get?_push_of_some _ e,turn_steps _ lo (-1) (lo + 1).toNat,?_,fun b hb=>?_,q⟩
 ·show IsRangeIter _ _ (lo + ((0:Nat):Int) * (-1)) (((((lo + 1).toNat:Nat):Int)) - ((0:Nat):Int)) (-1)
  rw [show lo + ((0:Nat):Int) * (-1)=lo by simp,show (((lo + 1).toNat:Nat):Int) - ((0:Nat):Int)=Builtin.Range.rangeSize lo (-1) (-1) by rw [sz];omega]
  exact Heap.get?_push_size _ rfl
 ·rw [List.mem_singleton.mp hb]
  exact I1.fpOk (Nat.le_refl _) (I1.hok.fresh (Nat.le_refl _))
theorem pi_rangeD {a b c:Expr} {ta:TA} {p pos:Pos} (hg:Gl X "range") (hm:X.mg "range" = none) (ha:PA X [a,b,c] ta) (h1:starEach [a,b,c] X.env=(false,eval a X.env)::starEach [b,c] X.env:=by rfl) (h2:((backTo pos (starEach [b,c] X.env)).any fun x=>x.fst)=false:=by rfl) :
  PI X tg (.Call (.Name "range" p) [a,b,c] [] pos) (iRngD ta):=by
 intro pins s σ H R I h
 refine Call_ (ld_blt I hg hm boot_range (PyProof.Rows.callWith_type1 (thn (ha pos pins s σ H _ I h) fun us s1 ⟨vs,H1,I1,r1,i,e,⟨q1,q2⟩,q⟩=>?_) h1 h2))
 subst e
 rcases r1 with _ | ⟨⟨t,rfl⟩,_ | ⟨⟨t2,rfl⟩,_ | ⟨⟨t3,rfl⟩,_ | _⟩⟩⟩
 exact call_range_3 (by decide) (falls_it I1 q1 q2 q) (.inl nopl1)
end
section
variable {K:W.Frag} {H:Hp} {Q:VK} {σ:St} {tr:TA} {g:TG} {tb:TS} {D:Ends} {i:Int} {p q:Addr} {ns:List Int} {d:Int} {a b c:V} {R:St→Hp→Prop}
instance go_forD:Go (tFor (iRngD tr) g tb D σ H) (tr σ H fun vs H1=>∃i:Int,vs=[.int i,.int (-1),.int (-1)]∧(-1≤i∧i≤1000000)∧ForS i (-1) (i + 1).toNat g tb D σ H1):=⟨id⟩
instance go_dby:Go (∃i':Int,[V.int i,V.int (-1),V.int (-1)]=[.int i',.int (-1),.int (-1)]∧(-1≤i'∧i'≤1000000)∧ForS i' (-1) (i' + 1).toNat g tb D σ H) (Sd (-1≤i∧i≤1000000) (ForS i (-1) (i + 1).toNat g tb D σ H)):=⟨fun s=>⟨i,rfl,s.1,s.2⟩⟩
end
end L2
namespace L2
open PySem PySem.W PySem.Calls PySem.Spec PyProof.Rows
end L2
namespace L2
open PySem PySem.Spec PyProof.Rows PySem.SeqAt
class TyA (K:W.Frag) (H:Hp) (v:V) (n:outParam String):Prop where
 e:TyOf K H v (.type n)
class OldT (K:W.Frag) (H0:Hp) (M:List Addr) (v:V) (n:outParam String):Prop where
 e:TyOf K H0 v (.type n)
 n:∀a,v=.ref a→a ∉ M
theorem TyOf.kept {K:W.Frag} {H H':Hp} {v:V} {t:Value} (h:TyOf K H v t) (k:∀a u,v=.ref a→H a=some u→H' a=some u):TyOf K H' v t:=by
 cases h with
 | non=>exact .non
 | bl b=>exact .bl b
 | int i=>exact .int i
 | str x=>exact .str x
 | flt x=>exact .flt x
 | lst e=>exact .lst (k _ _ rfl e)
 | frz e=>exact .frz (k _ _ rfl e)
 | tup e=>exact .tup (k _ _ rfl e)
 | dK e=>exact .dK (k _ _ rfl e)
 | dT e=>exact .dT (k _ _ rfl e)
 | ins e a b c d f=>exact .ins (k _ _ rfl e) a b c d f
section
variable {K:W.Frag} {H0 H:Hp} {M:List Addr} {L:List (Addr×HO)} {I:List Im} {v:V} {n:String} {a:Addr} {xs:List V} {b:Bool} {i lo hi:Int} {z:Str} {kvs:List (Key×V)} {Q:VK} {E:XK}
instance ty_non:TyA K H .non "NoneType" := ⟨.non⟩
instance ty_bl:TyA K H (.bl b) "bool" := ⟨.bl b⟩
instance ty_int:TyA K H (.int i) "int" := ⟨.int i⟩
instance ty_str:TyA K H (.str z) "str" := ⟨.str z⟩
instance ty_dK [h:Hat H a (.dK kvs)]:TyA K H (.ref a) "dict" := ⟨.dK h.e⟩
instance (priority:=low) ty_old [F:SH H0 M H L I] [h:OldT K H0 M v n]:TyA K H v n:=⟨h.e.kept fun a u e hu=>F.fr a u (h.n a e) hu⟩
instance (priority:=low) go_isB [t:TyA K H v n]:Go (rIsT K [v,.ty "bool"] H Q) (Q (.bl (isB v)) H):=⟨fun k=>w_is t.e (bt_bool t.e) k⟩
instance (priority:=low) go_isT [t:TyA K H v n]:Go (rIsT K [v,.ty "tuple"] H Q) (Q (.bl (n == "tuple")) H):=⟨fun k=>w_is t.e (bt_tuple t.e) k⟩
instance (priority:=low) go_isL [t:TyA K H v n]:Go (rIsT K [v,.ty "list"] H Q) (Q (.bl (n == "list")) H):=⟨fun k=>w_is t.e (bt_list t.e) k⟩
end
def EqVV (x y:V) (b:Bool):Prop:=(x=y∧idV x=true∧b=true)∨∃s t,x=.str s∧y=.str t∧b=(s == t)
theorem EqVV.at {A:Around} {s:Shared} {x y:V} {u v:Value} {b:Bool} (h:EqVV x y b) (ru:RelV x u) (rv:RelV y v):EqAt A s u v b:=by
 rcases h with ⟨rfl,hi,rfl⟩ | ⟨p,q,rfl,rfl,rfl⟩
 ·exact same_eqAt hi ru rv
 ·obtain ⟨t,rfl⟩:=ru
  obtain ⟨t',rfl⟩:=rv
  exact EqAt.str_str (A:=A) (s:=s) p t q t'
end L2
namespace L2
open PySem PySem.W PySem.Spec PyProof.Rows PySem.SeqAt
theorem SH.over {H0 H H':Hp} {M M2:List Addr} {A R L2:List (Addr×HO)} {I I2:List Im} (F:SH H0 M H (A++R) I) (G:SH H M2 H' L2 I2) (e:A.map (·.1)=M2):SH H0 M H' (L2++R) (I2++I):=by
 have nd:=F.nd
 rw [List.map_append,e] at nd
 obtain ⟨nd1,nd2,nd3⟩:=List.nodup_append.mp nd
 have inA:∀{b},b∈M2→∃c∈A,c.1=b:=fun h=>by rw [← e] at h;exact List.mem_map.mp h
 have st:Tst H H':=fun q u tu hq=>by
  refine G.fr q u (fun hm=>?_) hq
  obtain ⟨c,hc,rfl⟩:=inA hm
  have h1:=F.at' c (List.mem_append_left _ hc)
  have h2:=F.mu c (List.mem_append_left _ hc)
  rw [hq] at h1
  cases h1
  rw [h2] at tu
  cases tu
 have rn:∀{c},c∈R→c.1 ∉ M2:=fun hc hm=>nd3 _ hm _ (List.mem_map.mpr ⟨_,hc,rfl⟩) rfl
 refine ⟨fun b u nb e0=>?_,fun f hf=>?_,fun c hc=>?_,?_,fun c hc=>?_,fun c hc=>?_⟩
 ·refine G.fr b u (fun hm=>?_) (F.fr b u nb e0)
  obtain ⟨c,hc,rfl⟩:=inA hm
  rcases F.ch c (List.mem_append_left _ hc) with h | h
  ·exact nb h
  ·exact h _ u e0 rfl
 ·rcases List.mem_append.mp hf with hf | hf
  ·exact G.im f hf
  ·exact Im.stay st (F.im f hf)
 ·rcases List.mem_append.mp hc with hc | hc
  ·exact G.at' c hc
  ·exact G.fr _ _ (rn hc) (F.at' c (List.mem_append_right _ hc))
 ·rw [List.map_append]
  refine List.nodup_append.mpr ⟨G.nd,nd2,fun a ha b hb=>?_⟩
  obtain ⟨c,hc,rfl⟩:=List.mem_map.mp ha
  obtain ⟨d,hd,rfl⟩:=List.mem_map.mp hb
  rcases G.ch c hc with h | h
  ·exact fun z=>rn hd (z▸h)
  ·exact fun z=>h d.1 _ (F.at' d (List.mem_append_right _ hd)) z.symm
 ·rcases List.mem_append.mp hc with hc | hc
  ·exact G.mu c hc
  ·exact F.mu c (List.mem_append_right _ hc)
 ·rcases List.mem_append.mp hc with hc | hc
  ·rcases G.ch c hc with h | h
   ·obtain ⟨d,hd,ed⟩:=inA h
    rw [← ed]
    exact F.ch d (List.mem_append_left _ hd)
   ·by_cases hm:c.1∈M
    ·exact .inl hm
    ·exact .inr fun b u e0 z=>h b u (F.fr b u (by rw [z];exact hm) e0) z
  ·exact F.ch c (List.mem_append_right _ hc)
section
variable {H:Hp} {Q:VK}
instance go_dnew {σ:L2.St}:Go (tDNewK σ H Q) (∀p H',New H H' p (.dK [])→Q (.ref p) H'):=⟨w_dnew⟩
instance nx_dnew {H0:Hp} {M:List Addr} {L:List (Addr×HO)} {I:List Im} {Z:Addr→Hp→Prop} [F:SH H0 M H L I]:Go (∀p H',New H H' p (.dK [])→Z p H') (∀H' p,SH H0 M H' ((p,.dK [])::L) I→Z p H'):=⟨fun k p H' n=>k H' p (F.newO n rfl)⟩
end
section
variable {K:W.Frag} {H H0:Hp} {Q:VK} {σ:St} {p q:Addr} {xs ys:List V} {fr:List Nat} {fvs:St} {cc:TT} {cs:List Nat} {M:List Addr} {L:List (Addr×HO)} {I:List Im} {Z:Addr→Hp→Prop} {a b:Int} {lo hi:Int} {x y:Nat}
instance go_tofL [h:SqA K H p xs]:Go (rTOfA K [.ref p] H Q) (∀l H',New H H' l (.tup xs)→Q (.ref l) H'):=⟨fun k=>⟨p,xs,rfl,.inl ⟨h.e,k⟩⟩⟩
end
inductive AnyK (H:Hp):V→Prop
 | flt {v:V} (h:v=.non∨(∃b,v=.bl b)∨(∃i,v=.int i)∨∃z,v=.str z):AnyK H v
 | lst {q:Addr} {xs:List V} (e:H q=some (.lst xs)):AnyK H (.ref q)
 | tup {q:Addr} {xs:List V} (e:H q=some (.tup xs)):AnyK H (.ref q)
theorem AnyK.kept {H H':Hp} {v:V} (h:AnyK H v) (k:∀a u,v=.ref a→H a=some u→H' a=some u):AnyK H' v:=by
 cases h with
 | flt h=>exact .flt h
 | lst e=>exact .lst (k _ _ rfl e)
 | tup e=>exact .tup (k _ _ rfl e)
theorem AnyK.same {H H':Hp} {v:V} (h:AnyK H v) (s:Same H H'):AnyK H' v:=h.kept fun a u _ e=>s a u e
theorem AnyK.ty {H:Hp} {v:V} (h:AnyK H v) (K:W.Frag):∃n,TyOf K H v (.type n):=by
 cases h with
 | flt h =>
  rcases h with rfl | ⟨b,rfl⟩ | ⟨i,rfl⟩ | ⟨z,rfl⟩
  ·exact ⟨_,.non⟩
  ·exact ⟨_,.bl b⟩
  ·exact ⟨_,.int i⟩
  ·exact ⟨_,.str z⟩
 | lst e=>exact ⟨_,.lst e⟩
 | tup e=>exact ⟨_,.tup e⟩
theorem AnyK.id {H:Hp} {v:V} (h:AnyK H v):idV v=true:=by
 cases h with
 | flt h=>rcases h with rfl | ⟨b,rfl⟩ | ⟨i,rfl⟩ | ⟨z,rfl⟩ <;> rfl
 | lst e=>rfl
 | tup e=>rfl
end L2
namespace L2
open PySem PySem.W PySem.Calls PySem.Spec PyProof.Rows
abbrev swBody (x:Str) (p1 p2 p3 p4 p5 p6 p7:Pos) (j j2 j3:Nat):Expr:=.Tuple [.Subscript (.Name x p1) (.Constant (.int 1) j p2) p3,.Subscript (.Name x p4) (.Constant (.int 0) j2 p5) p6] j3 p7
def IsLam2 (H:Hp) (f:Addr):Prop:=∃(qual x:Str) (params:Arguments) (p1 p2 p3 p4 p5 p6 p7:Pos) (j j2 j3:Nat) (scope:Scope) (pm ctv:Value) (c':Addr) (oc:Obj) (vs:Array Value) (t:Tok),
 H f=some (.frz (W.kla_obj "<lambda>" qual params (swBody x p1 p2 p3 p4 p5 p6 p7 j j2 j3) scope [] pm c' ctv) (.own f))∧H c'=some (.frz oc (.own c'))∧oc.data=.fields vs∧vs[1]?=some (.str qual t)∧LamScope x scope ∧
 ∀q:Addr,bindArgs (W.kla_fn "<lambda>" qual params (swBody x p1 p2 p3 p4 p5 p6 p7 j j2 j3) scope [] pm (.ref c') ctv) ⟨[.ref q],[]⟩=pure [(x,.ref q)]
section
variable {K:W.Frag} {H0 H:Hp} {M:List Addr} {L L':List (Addr×HO)} {I:List Im} {Q:VK} {l f P:Addr} {ys:List V} {ws:List (Nat×Nat)} {pos:Pos} {qual:Str} {ps:Array Value} {σ:St} {R:Hp→Prop}
theorem IsLam2.st:∀H H',Tst H H'→IsLam2 H f→IsLam2 H' f:=fun H H' t h=>by
 obtain ⟨a1,a2,a3,a4,a5,a6,a7,a8,a9,a10,a11,a12,a13,a14,a15,a16,a17,a18,a19,a20,e1,e2,r⟩:=h
 exact ⟨a1,a2,a3,a4,a5,a6,a7,a8,a9,a10,a11,a12,a13,a14,a15,a16,a17,a18,a19,a20,t _ _ rfl e1,t _ _ rfl e2,r⟩
end
end L2
namespace L2
open PySem PySem.W PySem.Spec PyProof.Rows
end L2
namespace L2
open PySem PySem.Spec PyProof.Rows PySem.SeqAt
abbrev flD (v:V):PyData:=pyD (flatDt v)
inductive ThD (H:Hp):V→PyData→Prop
 | flat {v:V} (h:isFlat v=true) (z:Shm 500 1 (flD v)):ThD H v (flD v)
 | lst {p:Addr} {vs:List V} (e:H p=some (.lst vs)) (h:∀v∈vs,isFlat v=true) (z:Shm 500 1 (.list (vs.map flD))):ThD H (.ref p) (.list (vs.map flD))
 | tup {p:Addr} {vs:List V} (e:H p=some (.tup vs)) (h:∀v∈vs,isFlat v=true) (z:Shm 500 1 (.tuple (vs.map flD))):ThD H (.ref p) (.tuple (vs.map flD))
 | dct {p:Addr} (e:H p=some (.dK [])):ThD H (.ref p) (.dict [])
section
variable {H H':Hp} {v:V} {d:PyData} {K:W.Frag}
theorem ThD.kept (h:ThD H v d) (k:∀a u,v=.ref a→H a=some u→H' a=some u):ThD H' v d:=by
 cases h with
 | flat h z=>exact .flat h z
 | lst e h z=>exact .lst (k _ _ rfl e) h z
 | tup e h z=>exact .tup (k _ _ rfl e) h z
 | dct e=>exact .dct (k _ _ rfl e)
theorem ThD.ty (h:ThD H v d):∃n,TyOf K H v (.type n):=by
 cases h with
 | flat h z =>
  cases v with
  | non=>exact ⟨_,.non⟩
  | bl b=>exact ⟨_,.bl b⟩
  | int i=>exact ⟨_,.int i⟩
  | str x=>exact ⟨_,.str x⟩
  | _=>simp [isFlat] at h
 | lst e h z=>exact ⟨_,.lst e⟩
 | tup e h z=>exact ⟨_,.tup e⟩
 | dct e=>exact ⟨_,.dK e⟩
end
structure Zp5 (z TI TO i1 i2:Addr):Prop where
 a:TI≠z∧TO≠z∧i1≠z∧i2≠z
 b:TI≠TO∧TI≠i1∧TI≠i2
 c:TO≠i1∧TO≠i2∧i1≠i2
def Itz (K:W.Frag) (a b:Addr) (xs ys:List V):It :=
 ⟨fun i H=>(SqL K H a xs∧SqL K H b ys)∧(i < xs.length∧i < ys.length),fun i H x H'=>∃T u v,x=.ref T∧xs[i]?=some u∧ys[i]?=some v∧New H H' T (.tup [u,v]),fun i H=>(SqL K H a xs∧SqL K H b ys)∧(xs.length≤i∨ys.length≤i)⟩
def ZpAt (z TI TO i1 i2 a b:Addr) (i:Nat) (h:Heap):Prop:=IsZip h z TI TO .none∧PySem.IsPair h TI (.ref i1) (.ref i2)∧(∃u v,PySem.IsPair h TO u v)∧h.IsListIter i1 a i∧h.IsListIter i2 b i
section
variable {h:Heap} {z TI TO i1 i2 a b:Addr} {i:Nat}
theorem zp_apart (D:Zp5 z TI TO i1 i2) (st:ZpAt z TI TO i1 i2 a b i h) {xs ys:Array Value} (la:h.IsList a xs) (lb:h.IsList b ys):ZipApart z TI TO i1 i2 a b:=by
 obtain ⟨hz,_,⟨u,v,hTO⟩,⟨o1,g1,c1,_⟩,⟨o2,g2,c2,_⟩⟩:=st
 have far:∀{l:Addr} {vs:Array Value} {c:Addr} {o:Obj} {n:String},h.IsList l vs→h.get? c=some o→o.cls=.type n→n ≠ "list" → l≠c:=fun {l vs c o n} hl hc ho hn e=>by
  obtain ⟨ol,gl,cl,_⟩:=hl
  subst e
  rw [gl] at hc
  cases hc
  rw [cl] at ho
  exact hn (Value.type.inj ho).symm
 exact ⟨D.a.1,D.a.2.1,D.a.2.2.1,D.a.2.2.2,D.b.1,D.b.2.1,D.b.2.2,D.c.1,D.c.2.1,D.c.2.2,
  far la hz rfl (by decide),far la hTO rfl (by decide),far la g1 c1 (by decide),far la g2 c2 (by decide),far lb hz rfl (by decide),far lb hTO rfl (by decide),far lb g1 c1 (by decide),far lb g2 c2 (by decide)⟩
end
theorem zp_new (n:Nat):Zp5 (n + 4) (n + 2) (n + 3) n (n + 1):=⟨⟨fun e=>absurd (show (n + 2:Nat)=n + 4 from e) (by omega),fun e=>absurd (show (n + 3:Nat)=n + 4 from e) (by omega),fun e=>absurd (show (n:Nat)=n + 4 from e) (by omega),fun e=>absurd (show (n + 1:Nat)=n + 4 from e) (by omega)⟩,⟨fun e=>absurd (show (n + 2:Nat)=n + 3 from e) (by omega),fun e=>absurd (show (n + 2:Nat)=n from e) (by omega),fun e=>absurd (show (n + 2:Nat)=n + 1 from e) (by omega)⟩,fun e=>absurd (show (n + 3:Nat)=n from e) (by omega),fun e=>absurd (show (n + 3:Nat)=n + 1 from e) (by omega),fun e=>absurd (show (n:Nat)=n + 1 from e) (by omega)⟩
theorem turn_zip {P:Program} {w:World} {K:W.Frag} {elts:List Expr} {x1} {pos:Pos} (a b z TI TO i1 i2:Addr) (xs ys:List V) (D:Zp5 z TI TO i1 i2) :
  Turn P w K (.Tuple elts x1 pos) (Itz K a b xs ys) [z,TI,TO,i1,i2] z (ZpAt z TI TO i1 i2 a b) where
 mem:=by simp
 obj:=fun i h st c hc=>by
  obtain ⟨hz,hI,⟨u,v,hO⟩,⟨o1,g1,_,d1⟩,⟨o2,g2,_,d2⟩⟩:=st
  simp only [List.mem_cons,List.not_mem_nil,or_false] at hc
  rcases hc with rfl | rfl | rfl | rfl | rfl
  ·exact ⟨_,hz,fun v e=>by cases (show Data.fields _=Data.cell v from e)⟩
  ·exact ⟨_,hI,fun v e=>by cases (show Data.seq _ _=Data.cell v from e)⟩
  ·exact ⟨_,hO,fun v e=>by cases (show Data.seq _ _=Data.cell v from e)⟩
  ·exact ⟨o1,g1,fun v e=>by rw [d1] at e;cases e⟩
  ·exact ⟨o2,g2,fun v e=>by rw [d2] at e;cases e⟩
 keep:=fun i h h' st k=>by
  obtain ⟨hz,hI,⟨u,v,hO⟩,g1,g2⟩:=st
  exact ⟨k z (by simp) _ hz,k TI (by simp) _ hI,⟨u,v,k TO (by simp) _ hO⟩,g1.at fun o q=>k i1 (by simp) o q,g2.at fun o q=>k i2 (by simp) o q⟩
 item:=by
  intro X hP hw hK hc i pins s σ H E I hf st hg
  subst hP hw hK
  obtain ⟨⟨qa,qb⟩,ha,hb⟩:=hg
  obtain ⟨us,ru,pu,_⟩:=I.list qa
  obtain ⟨vs,rv,pv,_⟩:=I.list qb
  have DD:=zp_apart D st pu.isList pv.isList
  obtain ⟨hz,hI,⟨c1,c2,hO⟩,g1,g2⟩:=id st
  have hx:xs[i]?=some xs[i]:=by simp [ha]
  have hy:ys[i]?=some ys[i]:=by simp [hb]
  generalize xs[i]=x at hx
  generalize ys[i]=y at hy
  obtain ⟨u,hu,rx⟩:=ru.get hx
  obtain ⟨v,hv,ry⟩:=rv.get hy
  refine wpAny_pyNext_zip_item DD hz hI hO g1 g2 pu.isList pv.isList (x:=u) (y:=v) (by simpa using hu) (by simpa using hv) fun h1 a1 a2 a3 a4 a5 a6 hk=>?_
  refine ⟨_,rfl,wpAny_letOwnedTupleGo_zip a1 fun h2 he2 hs2=>?_⟩
  have neT:s.heap.objs.size≠z:=Nat.ne_of_gt (Heap.lt_size hz)
  have hT2:=(hs2.2 _ neT).trans a5
  have k2:∀b o,b ∉ [z,TI,TO,i1,i2]→s.heap.get? b=some o→h2.get? b=some o:=fun b o hb q=>by
   simp only [List.mem_cons,List.not_mem_nil,or_false,not_or] at hb
   exact (hs2.2 b hb.1).trans (hk b o hb.1 hb.2.2.1 hb.2.2.2.1 hb.2.2.2.2 q)
  have new:ObjOk X.prog X.w (upd H s.heap.objs.size (.tup [x,y])) h2 s.heap.objs.size (.tup [x,y]) :=
   ⟨by show 2≤sizeLine;decide,[u,v],.cons rx (.cons ry .nil),⟨_,hT2,rfl,_,rfl⟩⟩
  refine ⟨.ref s.heap.objs.size,_,I.turnedLaid (t':=s.toks) hf k2 (Nat.le_refl _) new,rfl,⟨_,x,y,rfl,hx,hy,.mk' (I.hok.fresh (Nat.le_refl _))⟩,⟨he2,(hs2.2 TI DD.TIz).trans (hk TI _ DD.TIz DD.TITO DD.TIi1 DD.TIi2 hI),⟨u,v,(hs2.2 TO DD.TOz).trans a2⟩,a3.at fun o q=>(hs2.2 i1 DD.i1z).trans q,a4.at fun o q=>(hs2.2 i2 DD.i2z).trans q⟩,fun b hb=>?_⟩
  have hbn:=(hf b hb).1
  have hb':b < s.heap.objs.size:=by
   obtain ⟨o1,q1,_⟩:=g1
   obtain ⟨o2,q2,_⟩:=g2
   simp only [List.mem_cons,List.not_mem_nil,or_false] at hb
   rcases hb with rfl | rfl | rfl | rfl | rfl
   ·exact Heap.lt_size hz
   ·exact Heap.lt_size hI
   ·exact Heap.lt_size hO
   ·exact Heap.lt_size q1
   ·exact Heap.lt_size q2
  rw [upd_ne (Nat.ne_of_lt hb')]
  exact hbn
 done:=by
  intro X hP hw hK hc i pins s σ H E I hf st hg
  subst hP hw hK
  obtain ⟨⟨qa,qb⟩,hle⟩:=hg
  obtain ⟨us,ru,pu,_⟩:=I.list qa
  obtain ⟨vs,rv,pv,_⟩:=I.list qb
  have DD:=zp_apart D st pu.isList pv.isList
  obtain ⟨hz,hI,⟨c1,c2,hO⟩,g1,g2⟩:=id st
  have l1:=ru.length
  have l2:=rv.length
  refine wpAny_pyNext_zip_end (I.ok.hd hc) DD hz hI hO g1 g2 pu.isList pv.isList (by simp;omega) fun h' eb=>⟨rfl,I.turnedN (t':=s.toks) (ch:=[z,TI,TO,i1,i2]) hf fun b o hb q=>?_⟩
  simp only [List.mem_cons,List.not_mem_nil,or_false,not_or] at hb
  exact eb b o hb.1 hb.2.2.1 hb.2.2.2.1 hb.2.2.2.2 q
 self:=fun _ _ _ _ _ st h=>wpAny_pyIter_zip st.1 h
theorem boot_zip:bootBuiltins "zip" = some (.type "zip"):=by decide +kernel
def iZip (K:W.Frag) (ta:TA):TI:=fun σ H R=>ta σ H fun vs H1=>∃a b xs ys,vs=[.ref a,.ref b]∧SqL K H1 a xs∧SqL K H1 b ys∧R (Itz K a b xs ys) H1
theorem pi_zip {X:Cx} {elts:List Expr} {x1} {tpos:Pos} {a b:Expr} {ta:TA} {p pos:Pos} (hg:Gl X "zip") (hm:X.mg "zip" = none) (ha:PA X [a,b] ta) (hs:starEach [a,b] X.env=[(false,eval a X.env),(false,eval b X.env)]:=by rfl) (hs2:starEach [b] X.env=[(false,eval b X.env)]:=by rfl) :
  PI X (.Tuple elts x1 tpos) (.Call (.Name "zip" p) [a,b] [] pos) (iZip X.K ta):=by
 intro pins s σ H R I h
 refine Call_ (ld_blt I hg hm boot_zip (PyProof.Rows.callWith_type1 (thn (ha pos pins s σ H _ I h) fun us s1 ⟨vs,H1,I1,r1,q1⟩=>?_) (by rw [hs,hs2]) (by rw [hs2];rfl)))
 obtain ⟨l,m,xs,ys,e,hq,hq2,q⟩:=q1
 subst e
 obtain ⟨u,v,rfl,r,r2⟩:=vals2 r1
 cases r
 cases r2
 obtain ⟨its,rv,pl,hz⟩:=I1.list hq
 obtain ⟨its2,rv2,pl2,hz2⟩:=I1.list hq2
 refine call_zip_2 pl.isList pl2.isList fun h' b1 b2 b3 b4 b5 hsz hk=>?_
 have I2:Inv X pins σ H1 { s1 with heap:=h' }:=I1.kept (t':=s1.toks) hk
 refine wpAny_pyIter_zip b1 ?_
 refine ⟨s1.heap.objs.size + 4,[s1.heap.objs.size + 4,s1.heap.objs.size + 2,s1.heap.objs.size + 3,s1.heap.objs.size,s1.heap.objs.size + 1],_,Itz X.K l m xs ys,H1,rfl,I2,turn_zip l m (s1.heap.objs.size + 4) (s1.heap.objs.size + 2) (s1.heap.objs.size + 3) s1.heap.objs.size (s1.heap.objs.size + 1) xs ys (zp_new _),⟨b1,b2,⟨_,_,b3⟩,b4,b5⟩,fun b hb=>?_,q⟩
 have hb':s1.heap.objs.size≤b:=by
  simp only [List.mem_cons,List.not_mem_nil,or_false] at hb
  rcases hb with rfl | rfl | rfl | rfl | rfl
  ·exact Nat.le_add_right _ _
  ·exact Nat.le_add_right _ _
  ·exact Nat.le_add_right _ _
  ·exact Nat.le_refl _
  ·exact Nat.le_add_right _ _
 exact I1.fpOk hb' (I1.hok.fresh hb')
end L2
set_option maxHeartbeats 400000
namespace L2
open PySem PySem.Spec PyProof.Rows PySem.SeqAt
end L2
set_option maxHeartbeats 1000000
namespace L2
open PySem PySem.Spec PyProof.Rows PySem.SeqAt
theorem any_LT {K:W.Frag} {H:Hp} {x:V} {n:String} (t:TyOf K H x (.type n)):W.kitAny K (.type n) [.type "list", .type "tuple"]=some (n == "list" || n == "tuple"):=by
 have h1:W.kitOne K (.type n) (.type "list")=some (n == "list"):=bt_list t
 have h2:W.kitOne K (.type n) (.type "tuple")=some (n == "tuple"):=bt_tuple t
 unfold W.kitAny
 rw [h1]
 cases n == "list" with
 | true=>rfl
 | false =>
  unfold W.kitAny
  rw [h2]
  cases n == "tuple" <;> rfl
def rIsLT:List V→Hp→VK→Prop:=fun xs H Q=>∃x p,xs=[x,.ref p]∧H p=some (.tup [.ty "list", .ty "tuple"])∧((isFlat x=true∧Q (.bl false) H)∨∃a ys,x=.ref a∧(H a=some (.lst ys)∨H a=some (.tup ys))∧Q (.bl true) H)
theorem call_isLT {X:Cx}:CallR X (.builtin "isinstance") rIsLT:=by
 intro pins s σ H xs us Q I r h
 obtain ⟨x,p,rfl,hp,h⟩:=h
 obtain ⟨u,v,rfl,rx,rv⟩:=vals2 r
 obtain rfl:v=Value.ref p:=rv
 obtain ⟨_,its,rt,o,ho,hc,m,hd⟩:=(show ObjOk X.prog X.w H s.heap p (.tup [.ty "list", .ty "tuple"]) from I.hok p _ hp)
 obtain ⟨cls,dd,data,sl⟩:=o
 obtain rfl:cls=.type "tuple" := hc
 obtain rfl:data=.seq its.toArray m:=hd
 have ei:its=[.type "list", .type "tuple"]:=by
  cases rt with
  | cons r1 r2 =>
   cases r2 with
   | cons r3 r4 =>
    cases r4
    rw [show _=Value.type "list" from r1,show _=Value.type "tuple" from r3]
 subst ei
 rcases h with ⟨hf,q⟩ | ⟨a,ys,rfl,ha | ha,q⟩
 ·cases x with
  | non=>cases (show u=Value.none from rx);exact W.kia_tup W.kitx_none I.kIn True.intro ho (any_LT (K:=X.K) (H:=H) .non) (fun z=>nomatch z) fun tk=>⟨.bl _,H,I.tok _,rfl,q⟩
  | bl y=>cases (show u=Value.bool y from rx);exact W.kia_tup W.kitx_bool I.kIn True.intro ho (any_LT (K:=X.K) (H:=H) (.bl y)) (fun z=>nomatch z) fun tk=>⟨.bl _,H,I.tok _,rfl,q⟩
  | int i=>obtain ⟨t,z⟩:=(show ∃t,u=Value.int i t from rx);cases z;exact W.kia_tup W.kitx_int I.kIn True.intro ho (any_LT (K:=X.K) (H:=H) (.int i)) (fun z=>nomatch z) fun tk=>⟨.bl _,H,I.tok _,rfl,q⟩
  | str y=>obtain ⟨t,z⟩:=(show ∃t,u=Value.str y t from rx);cases z;exact W.kia_tup W.kitx_str I.kIn True.intro ho (any_LT (K:=X.K) (H:=H) (.str y)) (fun z=>nomatch z) fun tk=>⟨.bl _,H,I.tok _,rfl,q⟩
  | _=>simp [isFlat] at hf
 ·cases (show u=Value.ref a from rx)
  obtain ⟨_,_,m,_,h1⟩:=(show ObjOk X.prog X.w H s.heap a (.lst ys) from I.hok a _ ha)
  exact W.kia_tup W.kitx_list I.kIn ⟨_,h1,rfl⟩ ho (any_LT (K:=X.K) (H:=H) (.lst ha)) (fun z=>nomatch z) fun tk=>⟨.bl _,H,I.tok _,rfl,q⟩
 ·cases (show u=Value.ref a from rx)
  obtain ⟨_,_,_,o,h1,h2,_⟩:=(show ObjOk X.prog X.w H s.heap a (.tup ys) from I.hok a _ ha)
  exact W.kia_tup W.kitx_tuple I.kIn ⟨o,h1,h2⟩ ho (any_LT (K:=X.K) (H:=H) (.tup ha)) (fun z=>nomatch z) fun tk=>⟨.bl _,H,I.tok _,rfl,q⟩
section
variable {H:Hp} {Q:VK} {a p:Addr} {ys:List V} {i:Int}
instance go_isLTl [h:Hat H p (.tup [.ty "list", .ty "tuple"])] [h2:Hat H a (.lst ys)]:Go (rIsLT [.ref a,.ref p] H Q) (Q (.bl true) H):=⟨fun k=>⟨_,p,rfl,h.e,.inr ⟨a,ys,rfl,.inl h2.e,k⟩⟩⟩
instance go_isLTt [h:Hat H p (.tup [.ty "list", .ty "tuple"])] [h2:Hat H a (.tup ys)]:Go (rIsLT [.ref a,.ref p] H Q) (Q (.bl true) H):=⟨fun k=>⟨_,p,rfl,h.e,.inr ⟨a,ys,rfl,.inr h2.e,k⟩⟩⟩
instance go_isLTi [h:Hat H p (.tup [.ty "list", .ty "tuple"])]:Go (rIsLT [.int i,.ref p] H Q) (Q (.bl false) H):=⟨fun k=>⟨_,p,rfl,h.e,.inl ⟨rfl,k⟩⟩⟩
instance go_isLTn [h:Hat H p (.tup [.ty "list", .ty "tuple"])]:Go (rIsLT [.non,.ref p] H Q) (Q (.bl false) H):=⟨fun k=>⟨_,p,rfl,h.e,.inl ⟨rfl,k⟩⟩⟩
end
def iOr (w1 w2:TI):TI:=fun σ H R=>w1 σ H R∨w2 σ H R
theorem pi_or {X:Cx} {tg it:Expr} {w1 w2:TI} (h1:PI X tg it w1) (h2:PI X tg it w2):PI X tg it (iOr w1 w2):=fun pins s σ H R I h=>h.elim (h1 pins s σ H R I) (h2 pins s σ H R I)
section
variable {w1 w2:TI} {nt:Nat} {fr:List Nat} {g:TG} {c:TT} {te:TE} {σ:L2.St} {H:Hp} {Q:VK}
theorem comp_inl (h:tComp w1 nt fr g c te σ H Q):tComp (iOr w1 w2) nt fr g c te σ H Q:=.inl h
theorem comp_inr (h:tComp w2 nt fr g c te σ H Q):tComp (iOr w1 w2) nt fr g c te σ H Q:=.inr h
end
mutual
def TrH (H:Hp):Dt→V→Prop
 | .non,v=>v=.non
 | .bl b,v=>v=.bl b
 | .int i,v=>v=.int i
 | .str x,v=>v=.str x
 | .lst ds,v=>∃p xs,v=.ref p∧H p=some (.lst xs)∧TrsH H ds xs
 | .tup ds,v=>∃p xs,v=.ref p∧H p=some (.tup xs)∧TrsH H ds xs
def TrsH (H:Hp):List Dt→List V→Prop
 | [],xs=>xs=[]
 | d::ds,xs=>∃x r,xs=x::r∧TrH H d x∧TrsH H ds r
end
mutual
theorem TrH.same {H H':Hp} (s:Same H H'):∀{d:Dt} {v:V},TrH H d v→TrH H' d v
 | .non,v,h=>h
 | .bl _,v,h=>h
 | .int _,v,h=>h
 | .str _,v,h=>h
 | .lst ds,v,h=>by
  simp only [TrH] at h ⊢
  obtain ⟨p,xs,e,hp,hs⟩:=h
  exact ⟨p,xs,e,s _ _ hp,TrsH.same s hs⟩
 | .tup ds,v,h=>by
  simp only [TrH] at h ⊢
  obtain ⟨p,xs,e,hp,hs⟩:=h
  exact ⟨p,xs,e,s _ _ hp,TrsH.same s hs⟩
theorem TrsH.same {H H':Hp} (s:Same H H'):∀{ds:List Dt} {xs:List V},TrsH H ds xs→TrsH H' ds xs
 | [],xs,h=>h
 | d::ds,xs,h=>by
  simp only [TrsH] at h ⊢
  obtain ⟨x,r,e,h1,h2⟩:=h
  exact ⟨x,r,e,TrH.same s h1,TrsH.same s h2⟩
end
theorem TrsH.len {H:Hp}:∀{ds:List Dt} {xs:List V},TrsH H ds xs→xs.length=ds.length
 | [],xs,h=>by simp only [TrsH] at h;rw [h];rfl
 | d::ds,xs,h=>by
  simp only [TrsH] at h
  obtain ⟨x,r,rfl,h1,h2⟩:=h
  rw [List.length_cons,List.length_cons,h2.len]
theorem TrsH.at {H:Hp}:∀{ds:List Dt} {xs:List V},TrsH H ds xs→∀{i:Nat} {v:V},xs[i]?=some v→∃d,ds[i]?=some d∧TrH H d v
 | [],xs,h,i,v,e=>by simp only [TrsH] at h;rw [h] at e;cases e
 | d::ds,xs,h,i,v,e=>by
  simp only [TrsH] at h
  obtain ⟨x,r,rfl,h1,h2⟩:=h
  cases i with
  | zero=>cases e;exact ⟨d,rfl,h1⟩
  | succ i=>exact h2.at (i:=i) e
theorem TrsH.of {H:Hp}:∀{ds:List Dt} {xs:List V},xs.length=ds.length→(∀(i:Nat) (v:V),xs[i]?=some v→∃d,ds[i]?=some d∧TrH H d v)→TrsH H ds xs
 | [],xs,hl,_=>by simp only [TrsH];exact List.eq_nil_of_length_eq_zero hl
 | d::ds,[],hl,_=>by cases hl
 | d::ds,x::r,hl,h=>by
  simp only [TrsH]
  refine ⟨x,r,rfl,?_,TrsH.of (by simpa using hl) fun i v e=>h (i + 1) v e⟩
  obtain ⟨d',e,t⟩:=h 0 x rfl
  cases e
  exact t
mutual
theorem TrH.rep {K:W.Frag} {H:Hp}:∀{d:Dt} {v:V},TrH H d v→Rep K H d v
 | .non,v,h=>h
 | .bl _,v,h=>h
 | .int _,v,h=>h
 | .str _,v,h=>h
 | .lst ds,v,h=>by
  simp only [TrH] at h
  obtain ⟨p,xs,e,hp,hs⟩:=h
  simp only [Rep]
  exact ⟨p,xs,e,SqL.of hp,TrsH.reps hs⟩
 | .tup ds,v,h=>by
  simp only [TrH] at h
  obtain ⟨p,xs,e,hp,hs⟩:=h
  simp only [Rep]
  exact ⟨p,xs,e,SqT.of hp,TrsH.reps hs⟩
theorem TrsH.reps {K:W.Frag} {H:Hp}:∀{ds:List Dt} {xs:List V},TrsH H ds xs→Reps K H ds xs
 | [],xs,h=>by simpa [TrsH,Reps] using h
 | d::ds,xs,h=>by
  simp only [TrsH] at h
  obtain ⟨x,r,e,h1,h2⟩:=h
  simp only [Reps]
  exact ⟨x,r,e,TrH.rep h1,TrsH.reps h2⟩
end
mutual
def hasT:Dt→Bool
 | .bl _=>true
 | .lst ds=>hasTs ds
 | .tup ds=>hasTs ds
 | _=>false
def hasTs:List Dt→Bool
 | []=>false
 | d::ds=>hasT d || hasTs ds
end
theorem hasTs_any:∀ds:List Dt,(ds.map hasT).any id=hasTs ds
 | []=>rfl
 | d::ds=>by rw [List.map_cons,List.any_cons,hasTs_any ds,hasTs];rfl
mutual
def widD:Dt→Prop
 | .lst ds=>ds.length≤1000∧widDs ds
 | .tup ds=>ds.length≤1000∧widDs ds
 | _=>True
def widDs:List Dt→Prop
 | []=>True
 | d::ds=>widD d∧widDs ds
end
theorem widDs_at:∀{ds:List Dt},widDs ds→∀{i:Nat} {d:Dt},ds[i]?=some d→widD d
 | [],_,i,d,e=>by cases e
 | x::ds,h,i,d,e=>by
  simp only [widDs] at h
  cases i with
  | zero=>cases e;exact h.1
  | succ i=>exact widDs_at h.2 (i:=i) e
theorem depDs_at:∀{ds:List Dt} {i:Nat} {d:Dt},ds[i]?=some d→depD d≤depDs ds
 | [],i,d,e=>by cases e
 | x::ds,i,d,e=>by
  simp only [depDs]
  cases i with
  | zero=>cases e;omega
  | succ i=>have:=depDs_at (ds:=ds) (i:=i) e;omega
theorem bls_of {ds:List Dt} {ys:List V} (hl:ys.length=ds.length) (h:∀(i:Nat) (y:V),ys[i]?=some y→∃d,ds[i]?=some d∧y=.bl (hasT d)):ys=(ds.map hasT).map V.bl:=by
 apply List.ext_getElem?
 intro i
 rw [List.getElem?_map,List.getElem?_map]
 cases e:ys[i]? with
 | none =>
  have:ds[i]?=none:=by rw [List.getElem?_eq_none_iff] at e ⊢;omega
  rw [this]
  rfl
 | some y =>
  obtain ⟨d,e1,e2⟩:=h i y e
  rw [e1,e2]
  rfl
mutual
def alikeD:Dt→Dt→Bool
 | .lst xs,.lst ys=>alikeDs xs ys
 | .tup xs,.tup ys=>alikeDs xs ys
 | _,.lst _=>false
 | _,.tup _=>false
 | .bl a,.bl b=>a == b
 | .bl _,_=>false
 | _,.bl _=>false
 | x,y=>eqDt x y
def alikeDs:List Dt→List Dt→Bool
 | [],[]=>true
 | x::xs,y::ys=>alikeD x y && alikeDs xs ys
 | _,_=>false
end
mutual
theorem alike_eq:∀(y x:Dt),hasT y=false→alikeD x y=(eqDt x y && !hasT x)
 | .non,x,_=>by cases x <;> simp [alikeD,eqDt,hasT]
 | .bl b,x,h=>by simp [hasT] at h
 | .int i,x,_=>by cases x <;> simp [alikeD,eqDt,hasT]
 | .str s,x,_=>by cases x <;> simp [alikeD,eqDt,hasT]
 | .lst ys,x,h=>by
  simp only [hasT] at h
  cases x <;> simp [alikeD,eqDt,hasT]
  exact alike_eqs ys _ h
 | .tup ys,x,h=>by
  simp only [hasT] at h
  cases x <;> simp [alikeD,eqDt,hasT]
  exact alike_eqs ys _ h
theorem alike_eqs:∀(ys xs:List Dt),hasTs ys=false→alikeDs xs ys=(eqDts xs ys && !hasTs xs)
 | [],xs,_=>by cases xs <;> simp [alikeDs,eqDts,hasTs]
 | y::ys,xs,h=>by
  simp only [hasTs,Bool.or_eq_false_iff] at h
  cases xs with
  | nil=>simp [alikeDs,eqDts]
  | cons x xs =>
   simp only [alikeDs,eqDts,hasTs,alike_eq y x h.1,alike_eqs ys xs h.2]
   cases eqDt x y <;> cases eqDts xs ys <;> cases hasT x <;> cases hasTs xs <;> rfl
end
def hides (B:List Addr) (H:Hp):Hp:=fun a=>if a∈B then none else H a
def Al (H:Hp) (B:List Addr):Prop:=∀b∈B,∃xs,H b=some (.lst xs)
theorem hides_at {B:List Addr} {H:Hp} {a:Addr} {u:HO}:hides B H a=some u ↔ a ∉ B∧H a=some u:=by
 unfold hides
 by_cases h:a∈B
 ·rw [if_pos h]
  constructor
  ·intro z
   cases z
  ·intro z
   exact absurd h z.1
 ·rw [if_neg h]
  exact ⟨fun z=>⟨h,z⟩,fun z=>z.2⟩
theorem hides_nil {H:Hp}:hides [] H=H:=by funext a;simp [hides]
theorem hides_off {B:List Addr} {H H':Hp} (o:∀a u,a ∉ B→H a=some u→H' a=some u):Same (hides B H) (hides B H'):=fun a u e=>by
 rw [hides_at] at e ⊢
 exact ⟨e.1,o a u e.1 e.2⟩
theorem hides_same {B:List Addr} {H H':Hp} (s:Same H H'):Same (hides B H) (hides B H'):=hides_off fun a u _ e=>s a u e
theorem hides_sub {B:List Addr} {H:Hp}:Same (hides B H) H:=fun a u e=>(hides_at.mp e).2
theorem hides_less {B C:List Addr} {H:Hp} (h:∀a∈C,a∈B):Same (hides B H) (hides C H):=fun a u e=>by
 rw [hides_at] at e ⊢
 exact ⟨fun z=>e.1 (h a z),e.2⟩
theorem hides_new {B:List Addr} {H H':Hp} {p:Addr} (n:∀a u,H a=some u→a≠p) (s:Same H H'):Same (hides B H) (hides (p::B) H'):=fun a u e=>by
 rw [hides_at] at e ⊢
 exact ⟨fun z=>(List.mem_cons.mp z).elim (n a u e.2) e.1,s _ _ e.2⟩
theorem Al.same {H H':Hp} {B:List Addr} (h:Al H B) (s:Same H H'):Al H' B:=fun b hb=>(h b hb).imp fun u e=>s _ _ e
def Cp (H H':Hp) (d:Dt) (v v':V):Prop:=Same H H'∧∀B,Al H B→TrH (hides B H) d v→TrH (hides B H') d v'
theorem Cp.tr {H H':Hp} {d:Dt} {v v':V} (c:Cp H H' d v v') (t:TrH H d v):TrH H' d v':=by
 have h:=c.2 [] (by simp [Al])
 rw [hides_nil,hides_nil] at h
 exact h t
theorem Cp.refl {H H':Hp} {d:Dt} {v:V} (s:Same H H'):Cp H H' d v v:=⟨s,fun B _ t=>t.same (hides_same s)⟩
theorem comp_trees {J:It} {xs:List V} {Lk:Hp→Prop} {te:TE} {σ fvs:St} {fr:List Nat} {H:Hp} {Q:VK} {ds:List Dt} (it:L2.ItemsOf J xs Lk) (hz:xs.length≤1000000) (hf:(fr.map fun i=>(σ[i]?).getD none)=fvs) (hL:∀H',Same H H'→Lk H') (hn:xs.length=ds.length)
  (turn:∀(i:Nat) (v:V) (d:Dt) (H':Hp) (R:VK),xs[i]?=some v→ds[i]?=some d→Same H H'→(∀v' H2,Cp H' H2 d v v'→R v' H2)→te (some v::fvs) H' R)
  (k:∀p H' ys,New H H' p (.lst ys)→(∀B,Al H B→TrsH (hides B H) ds xs→TrsH (hides (p::B) H') ds ys)→Q (.ref p) H'):CompAll J 1 fr (gName 0) tTrue te σ H Q:=by
 intro acc hacc
 subst hf
 have nacc:∀b u,H b=some u→b≠acc:=fun b u e=>ne_of_none e hacc
 refine comp_by it (fun i ys H'=>H' acc=some (.lst ys)∧Same H H'∧ys.length=i∧∀(j:Nat) (y v:V) (d:Dt),ys[j]?=some y→xs[j]?=some v→ds[j]?=some d→∀B,Al H B→TrH (hides B H) d v→TrH (hides (acc::B) H') d y) ⟨upd_same,Same.new hacc,rfl,fun j y v d e=>by simp at e⟩ (fun i ys H' _ h=>⟨hL H' h.2.1,h.1⟩) ?_ ?_
 ·rintro i x tv ys H' hx hi ⟨ha,hs,hl,hp⟩ htv
  obtain ⟨t0,rfl⟩:∃t0,tv=[t0]:=by
   match tv,htv with
   | [t],_=>exact ⟨t,rfl⟩
  show te (some x::fr.map fun i=>(σ[i]?).getD none) H' _
  obtain ⟨d,hd⟩:∃d,ds[i]?=some d:=⟨_,List.getElem?_eq_getElem (by omega)⟩
  refine turn i x d H' _ hx hd hs fun y H2 cp=>⟨by rw [hl];exact Nat.lt_of_lt_of_le hi (small_line hz),cp.1 _ _ ha,CompW.next (tv:=[some x]) hi ⟨upd_same,fun b u e=>by rw [upd_ne (nacc b u e)];exact cp.1 _ _ (hs _ _ e),by rw [List.length_append,hl];rfl,fun j z v d' e1 e2 e3 B al t=>?_⟩ rfl⟩
  have st:Same (hides (acc::B) H2) (hides (acc::B) (upd H2 acc (.lst (ys++[y])))):=hides_off fun a u h e=>by
   rw [upd_ne (fun q=>h (by rw [q];exact List.mem_cons_self))]
   exact e
  by_cases hj:j < ys.length
  ·rw [List.getElem?_append_left hj] at e1
   exact ((hp j z v d' e1 e2 e3 B al t).same (hides_same cp.1)).same st
  ·rw [List.getElem?_append_right (by omega)] at e1
   have hj2:j - ys.length=0:=by
    by_cases h0:j - ys.length=0
    ·exact h0
    ·rw [List.getElem?_eq_none (by simp;omega)] at e1
     cases e1
   rw [hj2] at e1
   cases e1
   obtain rfl:j=i:=by omega
   rw [hx] at e2
   cases e2
   rw [hd] at e3
   cases e3
   refine (cp.2 (acc::B) (fun b hb=>?_) (t.same (hides_new nacc hs))).same st
   rcases List.mem_cons.mp hb with rfl | hb
   ·exact ⟨_,ha⟩
   ·exact (al.same hs) b hb
 ·rintro ys H' ⟨ha,hs,hl,hp⟩
  refine k acc H' ys ⟨hs,ha,nacc⟩ fun B al ts=>TrsH.of (by omega) fun i y e=>?_
  have hi:=(List.getElem?_eq_some_iff.mp e).1
  obtain ⟨v,hv⟩:∃v,xs[i]?=some v:=⟨_,List.getElem?_eq_getElem (by omega)⟩
  obtain ⟨d,hd,t⟩:=ts.at hv
  exact ⟨d,hd,hp i y v d e hv hd B al t⟩
section
variable {H:Hp} {ds es:List Dt} {xs ys:List V}
theorem TrsH.append:∀{ds:List Dt} {xs:List V},TrsH H ds xs→TrsH H es ys→TrsH H (ds++es) (xs++ys)
 | [],xs,h,h2=>by simp only [TrsH] at h;rw [h];exact h2
 | d::ds,xs,h,h2=>by
  simp only [TrsH] at h
  obtain ⟨x,r,rfl,a,b⟩:=h
  simp only [List.cons_append,TrsH]
  exact ⟨x,r++ys,rfl,a,b.append h2⟩
theorem TrsH.take (h:TrsH H ds xs) (n:Nat):TrsH H (ds.take n) (xs.take n):=TrsH.of (by rw [List.length_take,List.length_take,h.len]) fun i v e=>by
 rw [List.getElem?_take] at e ⊢
 by_cases hi:i < n
 ·rw [if_pos hi] at e ⊢
  exact h.at e
 ·rw [if_neg hi] at e
  cases e
theorem TrsH.drop (h:TrsH H ds xs) (n:Nat):TrsH H (ds.drop n) (xs.drop n):=TrsH.of (by rw [List.length_drop,List.length_drop,h.len]) fun i v e=>by
 rw [List.getElem?_drop] at e ⊢
 exact h.at e
theorem TrsH.rev (h:TrsH H ds xs):TrsH H ds.reverse xs.reverse:=TrsH.of (by rw [List.length_reverse,List.length_reverse,h.len]) fun i v e=>by
 have hi:=(List.getElem?_eq_some_iff.mp e).1
 rw [List.length_reverse] at hi
 have hl:=h.len
 rw [List.getElem?_reverse hi] at e
 rw [List.getElem?_reverse (by omega)]
 rw [hl] at e
 exact h.at e
theorem TrsH.one {d:Dt} {v:V} (h:TrH H d v):TrsH H [d] [v]:=by
 simp only [TrsH]
 exact ⟨v,[],rfl,h,rfl⟩
theorem TrH.flat {v:V} (h:isFlat v=true):TrH H (flatDt v) v:=by
 cases v <;> simp [isFlat] at h <;> simp [flatDt,TrH]
theorem TrsH.flats:∀{xs:List V},(∀v∈xs,isFlat v=true)→TrsH H (xs.map flatDt) xs
 | [],_=>by simp [TrsH]
 | x::xs,h=>by
  simp only [List.map_cons,TrsH]
  exact ⟨x,xs,rfl,TrH.flat (h x List.mem_cons_self),TrsH.flats fun v hv=>h v (List.mem_cons_of_mem _ hv)⟩
theorem TrH.lst {p:Addr} (h:H p=some (.lst xs)) (t:TrsH H ds xs):TrH H (.lst ds) (.ref p):=by
 simp only [TrH]
 exact ⟨p,xs,rfl,h,t⟩
theorem TrH.tup {p:Addr} (h:H p=some (.tup xs)) (t:TrsH H ds xs):TrH H (.tup ds) (.ref p):=by
 simp only [TrH]
 exact ⟨p,xs,rfl,h,t⟩
end
theorem dep_fl1 (v:V):depD (flatDt v)=0:=by cases v <;> simp [flatDt,depD]
theorem wid_fl1 (v:V):widD (flatDt v):=by cases v <;> simp [flatDt,widD]
def Sm (n:Nat) (ds:List Dt):Prop:=∀d∈ds,depD d≤n∧widD d
theorem Sm.dep {n:Nat}:∀{ds:List Dt},Sm n ds→depDs ds≤n
 | [],_=>Nat.zero_le _
 | d::ds,h=>by
  simp only [depDs]
  have h1:=(h d List.mem_cons_self).1
  have h2:=Sm.dep (n:=n) (ds:=ds) fun e he=>h e (List.mem_cons_of_mem _ he)
  omega
theorem Sm.wid {n:Nat}:∀{ds:List Dt},Sm n ds→widDs ds
 | [],_=>by simp [widDs]
 | d::ds,h=>by
  simp only [widDs]
  exact ⟨(h d List.mem_cons_self).2,Sm.wid (n:=n) fun e he=>h e (List.mem_cons_of_mem _ he)⟩
theorem Sm.append {n:Nat} {ds es:List Dt} (h:Sm n ds) (h2:Sm n es):Sm n (ds++es):=fun d hd=>(List.mem_append.mp hd).elim (h d) (h2 d)
theorem Sm.take {n:Nat} {ds:List Dt} (h:Sm n ds) (k:Nat):Sm n (ds.take k):=fun d hd=>h d (List.mem_of_mem_take hd)
theorem Sm.drop {n:Nat} {ds:List Dt} (h:Sm n ds) (k:Nat):Sm n (ds.drop k):=fun d hd=>h d (List.mem_of_mem_drop hd)
theorem Sm.rev {n:Nat} {ds:List Dt} (h:Sm n ds):Sm n ds.reverse:=fun d hd=>h d (List.mem_reverse.mp hd)
theorem Sm.one {n:Nat} {d:Dt} (h:depD d≤n) (w:widD d):Sm n [d]:=fun e he=>by rw [List.mem_singleton.mp he];exact ⟨h,w⟩
theorem sm_lst {n:Nat} {ds:List Dt} (h:Sm n ds) (l:ds.length≤1000):depD (.lst ds)≤n + 1∧widD (.lst ds):=by
 have:=h.dep
 exact ⟨by simp only [depD];omega,by simp only [widD];exact ⟨l,h.wid⟩⟩
theorem sm_tup {n:Nat} {ds:List Dt} (h:Sm n ds) (l:ds.length≤1000):depD (.tup ds)≤n + 1∧widD (.tup ds):=by
 have:=h.dep
 exact ⟨by simp only [depD];omega,by simp only [widD];exact ⟨l,h.wid⟩⟩
theorem sm_flats (xs:List V):Sm 0 (xs.map flatDt):=fun d hd=>by
 obtain ⟨v,_,rfl⟩:=List.mem_map.mp hd
 exact ⟨Nat.le_of_eq (dep_fl1 v),wid_fl1 v⟩
end L2
set_option maxHeartbeats 4000000
namespace L2
open PySem PySem.Spec PyProof.Rows PySem.SeqAt
section
variable {prog:Program} {w:World} {A:Around} {E:Value→Shared→Prop} {s:Shared} {it t z TI TO i1 i2 a b:Addr} {i j:Nat} {items xs ys:Array Value} {x y u v:Value}
theorem nt_item (st:s.heap.IsTupleIter it t i) (tu:s.heap.IsTuple t items) (at_:items[i]?=some x) {Q:Value→Shared→Prop} (k:∀h',h'.IsTupleIter it t (i + 1)→Heap.SameBut it s.heap h'→Q x { s with heap:=h' }) :
  wpAny (model prog w) A (Builtin.SmallTypes.nextOf (.ref it)) Q E s:=by
 obtain ⟨p,q1,_,m,q2⟩:=tu
 have ty:=st.typeIs
 obtain ⟨o,e1,e2,e3⟩:=st
 unfold Builtin.SmallTypes.nextOf
 refine wpAny_bind (wpAny_callSpecial?_slot (name:=Str.ofString "__next__") ty F.slot_tuple_iterator_next (wpAny_call_entry F.slot_tuple_iterator_next ty F.entry_tuple_iterator_next ?_ (F.args_tuple_iterator_next_1 _)))
 refine wpAny_bind (m:=field (.ref it) 0) (wpAny_field e1 e3 (x:=.ref t) rfl ?_)
 refine wpAny_bind (m:=field (.ref it) 1) (wpAny_field e1 e3 (x:=.int i 0) rfl ?_)
 refine wpAny_bind (m:=seqItems? (.ref t)) (wpAny_seqItems q1 q2 ?_)
 simp only [Int.toNat_natCast,at_]
 refine wpAny_bind (wpAny_setField e1 e3 (by simp) (wpAny_pure ⟨x,rfl,wpAny_pure (k _ ⟨_,Heap.get?_update_self _ e1 (Obj.isFreed_of_fields (Obj.data_mapFields e3 _)),(Obj.cls_mapFields ..).trans e2,?_⟩ (Heap.SameBut.update ..))⟩))
 rw [Obj.data_mapFields e3]
 simp [rawInt]
theorem nt_end (hh:A.handled=none) (st:s.heap.IsTupleIter it t i) (tu:s.heap.IsTuple t items) (at_:items[i]?=none) {Q:Value→Shared→Prop} (k:∀h' e,Heap.ExtBut it s.heap h'→(∃o,h'.get? e=some o∧o.cls=.type "StopIteration")→E (.ref e) { s with heap:=h' }) :
  wpAny (model prog w) A (Builtin.SmallTypes.nextOf (.ref it)) Q E s:=by
 obtain ⟨p,q1,_,m,q2⟩:=tu
 have ty:=st.typeIs
 obtain ⟨o,e1,e2,e3⟩:=st
 unfold Builtin.SmallTypes.nextOf
 refine wpAny_bind (wpAny_callSpecial?_slot (name:=Str.ofString "__next__") ty F.slot_tuple_iterator_next (wpAny_call_entry F.slot_tuple_iterator_next ty F.entry_tuple_iterator_next ?_ (F.args_tuple_iterator_next_1 _)))
 refine wpAny_bind (m:=field (.ref it) 0) (wpAny_field e1 e3 (x:=.ref t) rfl ?_)
 refine wpAny_bind (m:=field (.ref it) 1) (wpAny_field e1 e3 (x:=.int i 0) rfl ?_)
 refine wpAny_bind (m:=seqItems? (.ref t)) (wpAny_seqItems q1 q2 ?_)
 simp only [Int.toNat_natCast,at_]
 refine wpAny_bind (wpAny_rule (wpAny_bind (wpAny_setField e1 e3 (by simp) ?_)))
 refine wpAny_bind (m:=newExc (.type "StopIteration") []) ?_
 simp only [newExc,newTuple]
 refine wpAny_bind (wpAny_newObj_type ?_ (by size_fits))
 refine wpAny_bind (m:=firstArgMember _ _) (wpAny_of_eq (a:=Value.none) (by simp only [firstArgMember];rfl) (wpAny_newObj_type ?_ (by size_fits)))
 simp only [raiseNew]
 refine wpAny_bind (wpAny_handled ?_)
 rw [show A.in1.handled=none from hh]
 exact wpAny_bind (wpAny_pure (wpAny_throw (k _ _ (((Heap.SameBut.update ..).extBut.push _).push _) ⟨_,Heap.get?_push_size _ rfl,rfl⟩)))
def ZtAt (z TI TO i1 i2 a b:Addr) (i:Nat) (h:Heap):Prop:=IsZip h z TI TO .none∧PySem.IsPair h TI (.ref i1) (.ref i2)∧(∃u v,PySem.IsPair h TO u v)∧h.IsTupleIter i1 a i∧h.IsTupleIter i2 b i
def Zk (z TO i1 i2:Addr) (h h':Heap):Prop:=∀c o,c≠z→c≠TO→c≠i1→c≠i2→h.get? c=some o→h'.get? c=some o
theorem zt_item {Q:Option Value→Shared→Prop} (D:ZipApart z TI TO i1 i2 a b) (st:ZtAt z TI TO i1 i2 a b i s.heap) (ta:s.heap.IsTuple a xs) (tb:s.heap.IsTuple b ys) (hx:xs[i]?=some x) (hy:ys[i]?=some y)
  (k:∀h',IsZip h' z TI TO (rawInt s.heap.objs.size)→PySem.IsPair h' TO x y→h'.IsTupleIter i1 a (i + 1)→h'.IsTupleIter i2 b (i + 1)→PySem.IsPair h' s.heap.objs.size x y→Zk z TO i1 i2 s.heap h'→Q (some (.ref s.heap.objs.size)) { s with heap:=h' }) :
  wpAny (model prog w) A (pyNext (.ref z)) Q E s:=by
 obtain ⟨hz,hI,⟨c1,c2,hO⟩,g1,g2⟩:=st
 have ty:s.TypeIs (.ref z) "zip" := ⟨_,hz,rfl⟩
 unfold pyNext
 refine wpAny_bind (wpAny_attempt (wpAny_callSpecial?_slot (name:=Str.ofString "__next__") ty F.slot_zip_next (wpAny_call_entry F.slot_zip_next ty F.entry_zip_next ?_ (F.args_zip_next_1 _))))
 refine wpAny_bind (m:=field (.ref z) 2) (wpAny_field hz rfl (x:=.bool false) rfl ?_)
 refine wpAny_bind (m:=field (.ref z) 3) (wpAny_field hz rfl (x:=.ref TI) rfl (wpAny_bind (wpAny_seqItems hI rfl ?_)))
 refine wpAny_bind (m:=Builtin.SmallTypes.ownedTupleIsFree (.ref z)) ?_
 unfold Builtin.SmallTypes.ownedTupleIsFree
 refine wpAny_bind (wpAny_field hz rfl (x:=.none) rfl (wpAny_pure ?_))
 simp only [if_true]
 refine wpAny_bind (wpAny_rule (wpAny_bind (wpAny_field hz rfl (x:=.ref TO) rfl (wpAny_bind (wpAny_setField_rec hz (by simp) fun h1 z1 s1=>wpAny_bind ?_)))))
 have z1:IsZip h1 z TI TO .ellipsis:=z1
 simp only [List.zipIdx_cons,List.zipIdx_nil,List.forIn_cons,List.forIn_nil]
 refine wpAny_bind (wpAny_bind (wpAny_onRaise (wpAny_bind (m:=Builtin.SmallTypes.nextOf (.ref i1)) (nt_item (g1.extBut s1.extBut D.i1z) (ta.extBut s1.extBut D.l1z) hx fun h2 n2 s2=>wpAny_pure ?_))))
 have o2:PySem.IsPair h2 TO c1 c2:=s2.extBut _ _ D.TOi1 (s1.extBut _ _ D.TOz hO)
 refine wpAny_bind (wpAny_seqItems o2 rfl (wpAny_bind (wpAny_updateSeq_pair o2 fun h3 o3 s3=>wpAny_bind (wpAny_letGo (wpAny_pure ?_)))))
 have o3:PySem.IsPair h3 TO x c2:=o3
 refine wpAny_bind (wpAny_bind (wpAny_onRaise (wpAny_bind (m:=Builtin.SmallTypes.nextOf (.ref i2)) (nt_item (((g2.extBut s1.extBut D.i2z).extBut s2.extBut D.i12.symm).extBut s3.extBut D.TOi2.symm) (((tb.extBut s1.extBut D.l2z).extBut s2.extBut D.l2i1).extBut s3.extBut D.l2TO) hy fun h4 n4 s4=>wpAny_pure ?_))))
 have o4:PySem.IsPair h4 TO x c2:=s4.extBut _ _ D.TOi2 o3
 refine wpAny_bind (wpAny_seqItems o4 rfl (wpAny_bind (wpAny_updateSeq_pair o4 fun h5 o5 s5=>wpAny_bind (wpAny_letGo (wpAny_pure (wpAny_pure ?_))))))
 have o5:PySem.IsPair h5 TO x y:=o5
 refine wpAny_bind (wpAny_seqItems o5 rfl (wpAny_bind (wpAny_newTuple ?_)))
 have sz:h5.objs.size=s.heap.objs.size:=by rw [s5.1,s4.1,s3.1,s2.1,s1.1]
 have z5:IsZip h5 z TI TO .ellipsis:=s5.extBut _ _ D.TOz.symm (s4.extBut _ _ D.i2z.symm (s3.extBut _ _ D.TOz.symm (s2.extBut _ _ D.i1z.symm z1)))
 have k5:Zk z TO i1 i2 s.heap h5:=fun c o a1 a2 a3 a4 e=>s5.extBut _ _ a2 (s4.extBut _ _ a4 (s3.extBut _ _ a2 (s2.extBut _ _ a3 (s1.extBut _ _ a1 e))))
 have m1:h5.IsTupleIter i1 a (i + 1):=((n2.extBut s3.extBut D.TOi1.symm).extBut s4.extBut D.i12).extBut s5.extBut D.TOi1.symm
 have m2:h5.IsTupleIter i2 b (i + 1):=n4.extBut s5.extBut D.TOi2.symm
 have lz:z < h5.objs.size:=Heap.lt_size z5
 refine wpAny_bind (m:=Builtin.SmallTypes.ownedTupleHandOut (.ref z) (.ref h5.objs.size)) ?_
 unfold Builtin.SmallTypes.ownedTupleHandOut
 have z6:IsZip (h5.push { cls:=.type "tuple", data:=.seq #[x,y] }) z TI TO .ellipsis:=Heap.get?_push_of_some _ z5
 refine wpAny_bind (wpAny_setField_rec z6 (by simp) fun h7 z7 s7=>?_)
 have z7:IsZip h7 z TI TO (rawInt h5.objs.size):=z7
 refine wpAny_setField_rec z7 (by simp) fun h8 z8 s8=>wpAny_pure ⟨_,rfl,wpAny_pure ?_⟩
 have z8:IsZip h8 z TI TO (rawInt h5.objs.size):=z8
 have up:∀c o,c≠z→h5.get? c=some o→h8.get? c=some o:=fun c o h e=>s8.extBut _ _ h (s7.extBut _ _ h (Heap.get?_push_of_some _ e))
 have t8:PySem.IsPair h8 h5.objs.size x y:=s8.extBut _ _ (Nat.ne_of_gt lz) (s7.extBut _ _ (Nat.ne_of_gt lz) (Heap.get?_push_size _ rfl))
 show Q (some (.ref h5.objs.size)) _
 rw [sz] at z8 t8 ⊢
 obtain ⟨p1,r1,y1⟩:=m1
 obtain ⟨p2,r2,y2⟩:=m2
 exact k h8 z8 (up _ _ D.TOz o5) ⟨p1,up _ _ D.i1z r1,y1⟩ ⟨p2,up _ _ D.i2z r2,y2⟩ t8 fun c o a1 a2 a3 a4 e=>up c o a1 (k5 c o a1 a2 a3 a4 e)
theorem zt_end {Q:Option Value→Shared→Prop} (hh:A.handled=none) (D:ZipApart z TI TO i1 i2 a b) (st:ZtAt z TI TO i1 i2 a b i s.heap) (ta:s.heap.IsTuple a xs) (hx:xs[i]?=none)
  (k:∀h',Zk z TO i1 i2 s.heap h'→Q none { s with heap:=h' }):wpAny (model prog w) A (pyNext (.ref z)) Q E s:=by
 obtain ⟨hz,hI,⟨c1,c2,hO⟩,g1,g2⟩:=st
 have ty:s.TypeIs (.ref z) "zip" := ⟨_,hz,rfl⟩
 unfold pyNext
 refine wpAny_bind (wpAny_attempt (wpAny_callSpecial?_slot (name:=Str.ofString "__next__") ty F.slot_zip_next (wpAny_call_entry F.slot_zip_next ty F.entry_zip_next ?_ (F.args_zip_next_1 _))))
 refine wpAny_bind (m:=field (.ref z) 2) (wpAny_field hz rfl (x:=.bool false) rfl ?_)
 refine wpAny_bind (m:=field (.ref z) 3) (wpAny_field hz rfl (x:=.ref TI) rfl (wpAny_bind (wpAny_seqItems hI rfl ?_)))
 refine wpAny_bind (m:=Builtin.SmallTypes.ownedTupleIsFree (.ref z)) ?_
 unfold Builtin.SmallTypes.ownedTupleIsFree
 refine wpAny_bind (wpAny_field hz rfl (x:=.none) rfl (wpAny_pure ?_))
 simp only [if_true]
 refine wpAny_bind (wpAny_rule (wpAny_bind (wpAny_field hz rfl (x:=.ref TO) rfl (wpAny_bind (wpAny_setField_rec hz (by simp) fun h1 z1 s1=>wpAny_bind ?_)))))
 have z1:IsZip h1 z TI TO .ellipsis:=z1
 simp only [List.zipIdx_cons,List.zipIdx_nil,List.forIn_cons,List.forIn_nil]
 refine wpAny_bind (wpAny_bind (wpAny_onRaise (wpAny_bind (m:=Builtin.SmallTypes.nextOf (.ref i1)) (nt_end (A:=A.in1) (show A.in1.handled=none from hh) (g1.extBut s1.extBut D.i1z) (ta.extBut s1.extBut D.l1z) hx fun h2 e s2 he=>?_))))
 obtain ⟨oe,p1,p2⟩:=he
 have z2:IsZip h2 z TI TO .ellipsis:=s2 _ _ D.i1z.symm z1
 have ne:e≠z:=fun q=>by
  subst q
  rw [z2] at p1
  cases p1
  simp at p2
 refine wpAny_setField_rec z2 (by simp) fun h3 _ s3=>wpAny_bind (wpAny_isInstance (T := "StopIteration") (b:=true) ⟨oe,s3.extBut _ _ ne p1,p2⟩ isSubtype_stop (wpAny_pure (k _ fun c o a1 _ a3 _ q=>s3.extBut _ _ a1 (s2 _ _ a3 (s1.extBut _ _ a1 q)))))
end
section
variable {prog:Program} {w:World} {A:Around} {E:Value→Shared→Prop} {s:Shared}
def ztH (h:Heap) (a b:Addr):Heap:=((((h.push { cls:=.type "tuple_iterator", data:=.fields #[.ref a,.int 0 0] }).push { cls:=.type "tuple_iterator", data:=.fields #[.ref b,.int 0 0] }).push { cls:=.type "tuple", data:=.seq #[.ref h.objs.size,.ref (h.objs.size + 1)] }).push { cls:=.type "tuple", data:=.seq #[.none,.none] }).push { cls:=.type "zip", data:=.fields #[.none,.bool false,.bool false,.ref (h.objs.size + 2),.ref (h.objs.size + 3)] }
theorem meets_zt (a b:Addr) (xs ys:Array Value):Meets (Builtin.«zip.__new__» ⟨[.type "zip", .ref a,.ref b],[]⟩) (fun _ R s=>s.heap.IsTuple a xs∧s.heap.IsTuple b ys∧R (.ok (.ret (.ref (s.heap.objs.size + 4)))) { s with heap:=ztH s.heap a b }) :=
 .of_wp fun prog w A R s h=>by
  obtain ⟨hp,g,d,tk,os⟩:=s
  obtain ⟨ha,hb,h⟩:=h
  have hsub:=sub_zip
  have e1:Heap.IsTuple (Shared.heap ⟨hp,g,d,tk,os⟩) a xs:=ha
  have e2:Heap.IsTuple (Shared.heap ⟨hp.push { cls:=.type "tuple_iterator", data:=.fields #[.ref a,.int 0 0] },g,d,tk,os⟩) b ys:=hb.push _
  wp_walk using wpAny_pyIter_tuple e1,wpAny_pyIter_tuple e2
  refine ⟨_,rfl,?_⟩
  simp only [ztH,Heap.size_push] at h ⊢
  exact h
theorem call_zt {a b:Addr} {xs ys:Array Value} {Q:Value→Shared→Prop} (ha:s.heap.IsTuple a xs) (hb:s.heap.IsTuple b ys)
  (k:∀h',ZtAt (s.heap.objs.size + 4) (s.heap.objs.size + 2) (s.heap.objs.size + 3) s.heap.objs.size (s.heap.objs.size + 1) a b 0 h'→(∀c o,s.heap.get? c=some o→h'.get? c=some o)→Q (.ref (s.heap.objs.size + 4)) { s with heap:=h' }) :
  wpAny (model prog w) A (call (.type "zip") [.ref a,.ref b]) Q E s:=by
 refine callType_new F.called_zip (by decide) (F.typeCall_zip_2 _ _) (F.newCall_zip_2 _ _) (fun obj=>F.args_object_init_3 obj _ _) F.entry_zip_new (meets_zt a b xs ys) ⟨ha,hb,?_⟩
 have up:∀{h:Heap} {o p:Obj} {c:Addr},h.get? c=some p→(h.push o).get? c=some p:=fun e=>Heap.get?_push_of_some _ e
 have at_:∀{h:Heap} {n:Nat} {o:Obj} (_:h.objs.size=n) (_:o.isFreed=false),(h.push o).get? n=some o:=fun e f=>by subst e;exact Heap.get?_push_size _ f
 refine ⟨⟨_,at_ (by simp [Heap.size_push]) rfl,rfl⟩,k _ ⟨at_ (by simp [Heap.size_push]) rfl,up (up (at_ (by simp [Heap.size_push]) rfl)),⟨_,_,up (at_ (by simp [Heap.size_push]) rfl)⟩,⟨_,up (up (up (up (at_ rfl rfl)))),rfl,rfl⟩,⟨_,up (up (up (at_ (by simp [Heap.size_push]) rfl))),rfl,rfl⟩⟩ fun c o e=>up (up (up (up (up e))))⟩
end
def Itzt (a b:Addr) (xs ys:List V):It :=
 ⟨fun i H=>(H a=some (.tup xs)∧H b=some (.tup ys))∧(i < xs.length∧i < ys.length),fun i H x H'=>∃T u v,x=.ref T∧xs[i]?=some u∧ys[i]?=some v∧New H H' T (.tup [u,v]),fun i H=>(H a=some (.tup xs)∧H b=some (.tup ys))∧xs.length≤i⟩
theorem zt_apart {X:Cx} {pins:List (Addr×Obj)} {H:Hp} {z TI TO i1 i2 a b:Addr} {u v:HO} (D:Zp5 z TI TO i1 i2) (hf:∀c∈[z,TI,TO,i1,i2],FpOk X pins H c) (ha:H a=some u) (hb:H b=some v):ZipApart z TI TO i1 i2 a b:=by
 have n:∀c∈[z,TI,TO,i1,i2],H c=none:=fun c hc=>(hf c hc).1
 have na:∀c∈[z,TI,TO,i1,i2],a≠c:=fun c hc e=>by rw [e,n c hc] at ha;cases ha
 have nb:∀c∈[z,TI,TO,i1,i2],b≠c:=fun c hc e=>by rw [e,n c hc] at hb;cases hb
 exact ⟨D.a.1,D.a.2.1,D.a.2.2.1,D.a.2.2.2,D.b.1,D.b.2.1,D.b.2.2,D.c.1,D.c.2.1,D.c.2.2,na _ (by simp),na _ (by simp),na _ (by simp),na _ (by simp),nb _ (by simp),nb _ (by simp),nb _ (by simp),nb _ (by simp)⟩
theorem turn_zt {P:Program} {w:World} {K:W.Frag} {elts:List Expr} {x1} {pos:Pos} (a b z TI TO i1 i2:Addr) (xs ys:List V) (D:Zp5 z TI TO i1 i2) :
  Turn P w K (.Tuple elts x1 pos) (Itzt a b xs ys) [z,TI,TO,i1,i2] z (ZtAt z TI TO i1 i2 a b) where
 mem:=by simp
 obj:=fun i h st c hc=>by
  obtain ⟨hz,hI,⟨u,v,hO⟩,⟨o1,g1,_,d1⟩,⟨o2,g2,_,d2⟩⟩:=st
  simp only [List.mem_cons,List.not_mem_nil,or_false] at hc
  rcases hc with rfl | rfl | rfl | rfl | rfl
  ·exact ⟨_,hz,fun v e=>by cases (show Data.fields _=Data.cell v from e)⟩
  ·exact ⟨_,hI,fun v e=>by cases (show Data.seq _ _=Data.cell v from e)⟩
  ·exact ⟨_,hO,fun v e=>by cases (show Data.seq _ _=Data.cell v from e)⟩
  ·exact ⟨o1,g1,fun v e=>by rw [d1] at e;cases e⟩
  ·exact ⟨o2,g2,fun v e=>by rw [d2] at e;cases e⟩
 keep:=fun i h h' st k=>by
  obtain ⟨hz,hI,⟨u,v,hO⟩,g1,g2⟩:=st
  exact ⟨k z (by simp) _ hz,k TI (by simp) _ hI,⟨u,v,k TO (by simp) _ hO⟩,g1.at fun o q=>k i1 (by simp) o q,g2.at fun o q=>k i2 (by simp) o q⟩
 item:=by
  intro X hP hw hK hc i pins s σ H E I hf st hg
  subst hP hw hK
  obtain ⟨⟨qa,qb⟩,ha,hb⟩:=hg
  obtain ⟨us,ru,pu,_⟩:=I.tuple (SqT.of qa)
  obtain ⟨vs,rv,pv,_⟩:=I.tuple (SqT.of qb)
  have DD:=zt_apart D hf qa qb
  obtain ⟨hz,hI,⟨c1,c2,hO⟩,g1,g2⟩:=id st
  have hx:xs[i]?=some xs[i]:=by simp [ha]
  have hy:ys[i]?=some ys[i]:=by simp [hb]
  generalize xs[i]=x at hx
  generalize ys[i]=y at hy
  obtain ⟨u,hu,rx⟩:=ru.get hx
  obtain ⟨v,hv,ry⟩:=rv.get hy
  refine zt_item DD st (show s.heap.IsTuple a us.toArray from pu) (show s.heap.IsTuple b vs.toArray from pv) (x:=u) (y:=v) (by simpa using hu) (by simpa using hv) fun h1 a1 a2 a3 a4 a5 hk=>?_
  refine ⟨_,rfl,wpAny_letOwnedTupleGo_zip a1 fun h2 he2 hs2=>?_⟩
  have neT:s.heap.objs.size≠z:=Nat.ne_of_gt (Heap.lt_size hz)
  have hT2:=(hs2.2 _ neT).trans a5
  have k2:∀b o,b ∉ [z,TI,TO,i1,i2]→s.heap.get? b=some o→h2.get? b=some o:=fun b o hb q=>by
   simp only [List.mem_cons,List.not_mem_nil,or_false,not_or] at hb
   exact (hs2.2 b hb.1).trans (hk b o hb.1 hb.2.2.1 hb.2.2.2.1 hb.2.2.2.2 q)
  have new:ObjOk X.prog X.w (upd H s.heap.objs.size (.tup [x,y])) h2 s.heap.objs.size (.tup [x,y]) :=
   ⟨by show 2≤sizeLine;decide,[u,v],.cons rx (.cons ry .nil),⟨_,hT2,rfl,_,rfl⟩⟩
  refine ⟨.ref s.heap.objs.size,_,I.turnedLaid (t':=s.toks) hf k2 (Nat.le_refl _) new,rfl,⟨_,x,y,rfl,hx,hy,.mk' (I.hok.fresh (Nat.le_refl _))⟩,⟨he2,(hs2.2 TI DD.TIz).trans (hk TI _ DD.TIz DD.TITO DD.TIi1 DD.TIi2 hI),⟨u,v,(hs2.2 TO DD.TOz).trans a2⟩,a3.at fun o q=>(hs2.2 i1 DD.i1z).trans q,a4.at fun o q=>(hs2.2 i2 DD.i2z).trans q⟩,fun b hb=>?_⟩
  have hbn:=(hf b hb).1
  have hb':b < s.heap.objs.size:=by
   obtain ⟨o1,q1,_⟩:=g1
   obtain ⟨o2,q2,_⟩:=g2
   simp only [List.mem_cons,List.not_mem_nil,or_false] at hb
   rcases hb with rfl | rfl | rfl | rfl | rfl
   ·exact Heap.lt_size hz
   ·exact Heap.lt_size hI
   ·exact Heap.lt_size hO
   ·exact Heap.lt_size q1
   ·exact Heap.lt_size q2
  rw [upd_ne (Nat.ne_of_lt hb')]
  exact hbn
 done:=by
  intro X hP hw hK hc i pins s σ H E I hf st hg
  subst hP hw hK
  obtain ⟨⟨qa,qb⟩,hle⟩:=hg
  obtain ⟨us,ru,pu,_⟩:=I.tuple (SqT.of qa)
  have DD:=zt_apart D hf qa qb
  have l1:=ru.length
  refine zt_end (I.ok.hd hc) DD st (show s.heap.IsTuple a us.toArray from pu) (by simp;omega) fun h' eb=>⟨rfl,I.turnedN (t':=s.toks) (ch:=[z,TI,TO,i1,i2]) hf fun b o hb q=>?_⟩
  simp only [List.mem_cons,List.not_mem_nil,or_false,not_or] at hb
  exact eb b o hb.1 hb.2.2.1 hb.2.2.2.1 hb.2.2.2.2 q
 self:=fun _ _ _ _ _ st h=>wpAny_pyIter_zip st.1 h
def iZt (ta:TA):TI:=fun σ H R=>ta σ H fun vs H1=>∃a b xs ys,vs=[.ref a,.ref b]∧H1 a=some (.tup xs)∧H1 b=some (.tup ys)∧R (Itzt a b xs ys) H1
theorem pi_zt {X:Cx} {elts:List Expr} {x1} {tpos:Pos} {a b:Expr} {ta:TA} {p pos:Pos} (hg:Gl X "zip") (hm:X.mg "zip" = none) (ha:PA X [a,b] ta) (hs:starEach [a,b] X.env=[(false,eval a X.env),(false,eval b X.env)]:=by rfl) (hs2:starEach [b] X.env=[(false,eval b X.env)]:=by rfl) :
  PI X (.Tuple elts x1 tpos) (.Call (.Name "zip" p) [a,b] [] pos) (iZt ta):=by
 intro pins s σ H R I h
 refine Call_ (ld_blt I hg hm boot_zip (PyProof.Rows.callWith_type1 (thn (ha pos pins s σ H _ I h) fun us s1 ⟨vs,H1,I1,r1,q1⟩=>?_) (by rw [hs,hs2]) (by rw [hs2];rfl)))
 obtain ⟨l,m,xs,ys,e,hq,hq2,q⟩:=q1
 subst e
 obtain ⟨u,v,rfl,r,r2⟩:=vals2 r1
 cases r
 cases r2
 obtain ⟨its,rv,pl,hz⟩:=I1.tuple (SqT.of hq)
 obtain ⟨its2,rv2,pl2,hz2⟩:=I1.tuple (SqT.of hq2)
 refine call_zt (show s1.heap.IsTuple l its.toArray from pl) (show s1.heap.IsTuple m its2.toArray from pl2) fun h' b1 hk=>?_
 have I2:Inv X pins σ H1 { s1 with heap:=h' }:=I1.kept (t':=s1.toks) hk
 refine wpAny_pyIter_zip b1.1 ?_
 refine ⟨s1.heap.objs.size + 4,[s1.heap.objs.size + 4,s1.heap.objs.size + 2,s1.heap.objs.size + 3,s1.heap.objs.size,s1.heap.objs.size + 1],_,Itzt l m xs ys,H1,rfl,I2,turn_zt l m (s1.heap.objs.size + 4) (s1.heap.objs.size + 2) (s1.heap.objs.size + 3) s1.heap.objs.size (s1.heap.objs.size + 1) xs ys (zp_new _),b1,fun b hb=>?_,q⟩
 have hb':s1.heap.objs.size≤b:=by
  simp only [List.mem_cons,List.not_mem_nil,or_false] at hb
  rcases hb with rfl | rfl | rfl | rfl | rfl
  ·exact Nat.le_add_right _ _
  ·exact Nat.le_add_right _ _
  ·exact Nat.le_add_right _ _
  ·exact Nat.le_refl _
  ·exact Nat.le_add_right _ _
 exact I1.fpOk hb' (I1.hok.fresh hb')
structure ItemsZ (J:It) (xs ys:List V) (L:Hp→Prop):Prop where
 go:∀i H,L H→i < xs.length→J.go i H
 yld:∀i H x H',L H→i < xs.length→J.yld i H x H'→∃T u v,x=.ref T∧xs[i]?=some u∧ys[i]?=some v∧New H H' T (.tup [u,v])
 stop:∀H,L H→J.stop xs.length H
theorem itemsZ_list {K:W.Frag} {a b:Addr} {xs ys:List V} (hn:xs.length=ys.length):ItemsZ (Itz K a b xs ys) xs ys (fun H=>SqL K H a xs∧SqL K H b ys) :=
 ⟨fun i H h hi=>⟨h,hi,by omega⟩,fun i H x H' h hi y=>y,fun H h=>⟨h,.inl (Nat.le_refl _)⟩⟩
theorem itemsZ_tup {a b:Addr} {xs ys:List V} (hn:xs.length=ys.length):ItemsZ (Itzt a b xs ys) xs ys (fun H=>H a=some (.tup xs)∧H b=some (.tup ys)) :=
 ⟨fun i H h hi=>⟨h,hi,by omega⟩,fun i H x H' h hi y=>y,fun H h=>⟨h,Nat.le_refl _⟩⟩
theorem comp_zipB {K:W.Frag} {J:It} {xs ys:List V} {Lk:Hp→Prop} {te:TE} {σ fvs:St} {fr:List Nat} {H:Hp} {Q:VK} {n:Nat} (f:Nat→Bool) (it:ItemsZ J xs ys Lk) (hn2:n=2) (hz:xs.length≤1000000) (hf:(fr.map fun i=>(σ[i]?).getD none)=fvs) (hL:∀H',Same H H'→Lk H')
  (turn:∀(i:Nat) (u v:V) (H':Hp) (R:VK),xs[i]?=some u→ys[i]?=some v→Same H H'→(∀H2,Same H' H2→R (.bl (f i)) H2)→te (some u::some v::fvs) H' R)
  (k:∀p H',New H H' p (.lst (((List.range xs.length).map f).map V.bl))→Q (.ref p) H'):CompAll J 2 fr (gTup K n (gCons (gName 0) (gCons (gName 1) gNil))) tTrue te σ H Q:=by
 intro acc hacc
 subst hf hn2
 have nacc:∀b u,H b=some u→b≠acc:=fun b u e=>ne_of_none e hacc
 refine ⟨fun i m σ' zs H'=>m=xs.length - i∧i≤xs.length∧(H' acc=some (.lst zs)∧Same H H'∧zs=((List.range i).map f).map V.bl)∧∃tv:List (Option V),tv.length=2∧σ'=tv++fr.map fun i=>(σ[i]?).getD none,⟨xs.length,by simp,Nat.zero_le _,⟨upd_same,Same.new hacc,rfl⟩,List.replicate 2 none,by simp,rfl⟩,?_⟩
 rintro i m σ' zs H' ⟨rfl,hi,⟨ha,hs,hzs⟩,tv,htv,rfl⟩
 refine ⟨ha,?_⟩
 have l:=hL H' hs
 by_cases hlt:i < xs.length
 ·refine .inr ⟨it.go i H' l hlt,fun x H2 y=>?_⟩
  obtain ⟨T,u,v,rfl,hu,hv,nw⟩:=it.yld i H' x H2 l hlt y
  obtain ⟨t0,t1,rfl⟩:∃a b,tv=[a,b]:=by
   match tv,htv with
   | [a,b],_=>exact ⟨a,b,rfl⟩
  refine w_tup2 (SqT.of nw.e) ?_
  show te (some u::some v::fr.map fun i=>(σ[i]?).getD none) H2 _
  refine turn i u v H2 _ hu hv (hs.trans nw.s) fun H3 s3=>⟨?_,s3 _ _ (nw.s _ _ ha),xs.length - (i + 1),by omega,rfl,hlt,⟨upd_same,fun b u e=>?_,?_⟩,[some u,some v],rfl,rfl⟩
  ·rw [hzs,List.length_map,List.length_map,List.length_range]
   exact Nat.lt_of_lt_of_le hlt (small_line hz)
  ·rw [upd_ne (nacc b u e)]
   exact s3 _ _ (nw.s _ _ (hs _ _ e))
  ·rw [hzs,List.range_succ,List.map_append,List.map_append]
   rfl
 ·have e:i=xs.length:=by omega
  subst e
  subst hzs
  exact .inl ⟨it.stop H' l,k acc H' ⟨hs,ha,nacc⟩⟩
section
variable {K:W.Frag} {te:TE} {g:TG} {c:TT} {σ:St} {H:Hp} {Q:VK} {tr:TA} {a b:Addr} {xs ys:List V} {nt:Nat} {fr:List Nat}
instance go_compZ:Go (tComp (iZip K tr) nt fr g c te σ H Q) (tr σ H fun vs H1=>∃a b xs ys,vs=[.ref a,.ref b]∧SqL K H1 a xs∧SqL K H1 b ys∧CompAll (Itz K a b xs ys) nt fr g c te σ H1 Q):=⟨id⟩
instance go_compZt:Go (tComp (iZt tr) nt fr g c te σ H Q) (tr σ H fun vs H1=>∃a b xs ys,vs=[.ref a,.ref b]∧H1 a=some (.tup xs)∧H1 b=some (.tup ys)∧CompAll (Itzt a b xs ys) nt fr g c te σ H1 Q):=⟨id⟩
instance go_zlby [h:SqA K H a xs] [h2:SqA K H b ys]:Go (∃a' b' xs' ys',[V.ref a,V.ref b]=[.ref a',.ref b']∧SqL K H a' xs'∧SqL K H b' ys'∧CompAll (Itz K a' b' xs' ys') nt fr g c te σ H Q) (CompAll (Itz K a b xs ys) nt fr g c te σ H Q):=⟨fun k=>⟨a,b,xs,ys,rfl,h.e,h2.e,k⟩⟩
instance go_ztby [h:Hat H a (.tup xs)] [h2:Hat H b (.tup ys)]:Go (∃a' b' xs' ys',[V.ref a,V.ref b]=[.ref a',.ref b']∧H a'=some (.tup xs')∧H b'=some (.tup ys')∧CompAll (Itzt a' b' xs' ys') nt fr g c te σ H Q) (CompAll (Itzt a b xs ys) nt fr g c te σ H Q):=⟨fun k=>⟨a,b,xs,ys,rfl,h.e,h2.e,k⟩⟩
end
theorem dct_tup {l b:Addr} {es:Array DictEntry} {n n2:Nat} {dd dd2:Option Addr} {sl sl2:Array (Option Value)} {its:Array Value} :
  Meets (Builtin.«dict.__eq__» ⟨[.ref l,.ref b],[]⟩) (fun _ R s=>s.heap.get? l=some ⟨.type "dict", dd,.dict es n,sl⟩∧s.heap.get? b=some ⟨.type "tuple", dd2,.seq its n2,sl2⟩∧R (.ok (.ret .notImplemented)) s):=by
 refine .of_wp fun prog w A R s h=>?_
 obtain ⟨hp,g,d,tk,os⟩:=s
 obtain ⟨hl,hb,h⟩:=h
 have f1:=F.sub_tuple_dict
 wp_walk using wpAny_loadPart' hl,wpAny_loadPart' hb
 exact ⟨_,rfl,h⟩
theorem tup_dct {l b:Addr} {es:Array DictEntry} {n n2:Nat} {dd dd2:Option Addr} {sl sl2:Array (Option Value)} {its:Array Value} :
  Meets (Builtin.«tuple.__eq__» ⟨[.ref b,.ref l],[]⟩) (fun _ R s=>s.heap.get? l=some ⟨.type "dict", dd,.dict es n,sl⟩∧s.heap.get? b=some ⟨.type "tuple", dd2,.seq its n2,sl2⟩∧R (.ok (.ret .notImplemented)) s):=by
 refine .of_wp fun prog w A R s h=>?_
 obtain ⟨hp,g,d,tk,os⟩:=s
 obtain ⟨hl,hb,h⟩:=h
 have f1:=F.sub_dict_tuple
 wp_walk using wpAny_loadPart' hl,wpAny_loadPart' hb
 exact ⟨_,rfl,h⟩
def rEqDD (K:W.Frag):R2:=fun x y H Q=>rEqD K x y H Q∨∃p,x=.ref p∧H p=some (.dK [])∧((∃q xs,y=.ref q∧SqT K H q xs∧Q (.bl false) H)∨(y=.ref p∧Q (.bl true) H))
theorem op_eqDD {X:Cx} {K:W.Frag} {k:Nat} (hK:X.K=K) (hr:Room k X.A):OpR X (compareOp .Eq) (rEqDD K):=by
 subst hK
 intro pins s σ H x y v u Q I rx ry h
 have hu:X.A.units < cLine:=by have:=hr.un;omega
 rcases h with h | ⟨p,rfl,hp,h⟩
 ·exact op_eq_dN hr pins s σ H x y v u Q I rx ry h
 ·cases rx
  obtain ⟨_,hs,vs,kv,dof⟩:=dk_of I.hok hp
  rcases h with ⟨q,xs,rfl,hq,k2⟩ | ⟨rfl,k2⟩
  ·cases ry
   obtain ⟨o,es,ep,ho,hx,hd,hk,hp',hnd⟩:=dof
   obtain ⟨cls,dd,data,sl⟩:=o
   obtain rfl:cls=.type "dict" := hx.1
   obtain rfl:data=.dict es ep:=hd
   obtain ⟨us,ru,pu,_⟩:=I.tuple hq
   obtain ⟨⟨cls2,dd2,data2,sl2⟩,ho2,hc2,n2,hd2⟩:=id pu
   obtain rfl:cls2=.type "tuple" := hc2
   obtain rfl:data2=.seq us.toArray n2:=hd2
   have ne:p≠q:=fun z=>by
    subst z
    rw [ho] at ho2
    exact absurd (Value.type.inj (congrArg Obj.cls (Option.some.inj ho2))) (by decide)
   exact rc_eq_decline_or (k:=false) ⟨_,ho,rfl⟩ ⟨_,ho2,rfl⟩ (by decide) F.sub_tuple_dict F.slot_dict_eq F.slot_tuple_eq_refl
    (fun _ hq=>call_meets F.slot_dict_eq ⟨_,ho,rfl⟩ F.entry_dict_eq (F.args_dict_eq_2 _ _) dct_tup ⟨ho,ho2,hq⟩)
    (fun _ hq=>call_meets F.slot_tuple_eq_refl ⟨_,ho2,rfl⟩ F.entry_tuple_eq (F.args_tuple_eq_2 _ _) tup_dct ⟨ho,ho2,hq⟩)
    (fun _ hq=>wpAny_isSame_ref_other ne ho ho2 (by simp) hq) (.inr hu) ⟨.bl _,H,I,rfl,k2⟩
  ·cases ry
   cases kv
   exact W.keq_eq hs hs dof dof hu (fun _=>.nil) ⟨.bl _,H,I,rfl,k2⟩
instance go_eqDDs {K:W.Frag} {H:Hp} {Q:VK} {p:Addr} [h:Hat H p (.dK [])]:Go (rEqDD K (.ref p) (.ref p) H Q) (Q (.bl true) H):=⟨fun k=>.inr ⟨p,rfl,h.e,.inr ⟨rfl,k⟩⟩⟩
def rIsLTd:List V→Hp→VK→Prop:=fun xs H Q=>∃a p kvs,xs=[.ref a,.ref p]∧H p=some (.tup [.ty "list", .ty "tuple"])∧H a=some (.dK kvs)∧Q (.bl false) H
theorem call_isLTd {X:Cx}:CallR X (.builtin "isinstance") rIsLTd:=by
 intro pins s σ H xs us Q I r h
 obtain ⟨a,p,kvs,rfl,hp,ha,q⟩:=h
 obtain ⟨u,v,rfl,rx,rv⟩:=vals2 r
 obtain rfl:v=Value.ref p:=rv
 obtain rfl:u=Value.ref a:=rx
 obtain ⟨_,its,rt,o,ho,hc,m,hd⟩:=(show ObjOk X.prog X.w H s.heap p (.tup [.ty "list", .ty "tuple"]) from I.hok p _ hp)
 obtain ⟨cls,dd,data,sl⟩:=o
 obtain rfl:cls=.type "tuple" := hc
 obtain rfl:data=.seq its.toArray m:=hd
 have ei:its=[.type "list", .type "tuple"]:=by
  cases rt with
  | cons r1 r2 =>
   cases r2 with
   | cons r3 r4 =>
    cases r4
    rw [show _=Value.type "list" from r1,show _=Value.type "tuple" from r3]
 subst ei
 obtain ⟨_,_,vs,kv,o2,es,ep,ho2,hx,_⟩:=dk_of I.hok ha
 exact W.kia_tup W.kitx_dict I.kIn ⟨o2,ho2,hx.1⟩ ho (any_LT (K:=X.K) (H:=H) (.dK ha)) (fun z=>nomatch z) fun tk=>⟨.bl _,H,I.tok _,rfl,q⟩
def tEi (t u:TE):TE:=fun σ H Q=>t σ H Q∨u σ H Q
theorem pe_ei {X:Cx} {e:Expr} {t u:TE} (h1:PE X e t) (h2:PE X e u):PE X e (tEi t u):=fun pins s σ H Q I h=>h.elim (h1 pins s σ H Q I) (h2 pins s σ H Q I)
theorem ei_l {t u:TE} {σ:St} {H:Hp} {Q:VK} (h:t σ H Q):tEi t u σ H Q:=.inl h
theorem ei_r {t u:TE} {σ:St} {H:Hp} {Q:VK} (h:u σ H Q):tEi t u σ H Q:=.inr h
instance go_isLTdd {H:Hp} {Q:VK} {a p:Addr} {kvs:List (Key×V)} [h:Hat H p (.tup [.ty "list", .ty "tuple"])] [h2:Hat H a (.dK kvs)]:Go (rIsLTd [.ref a,.ref p] H Q) (Q (.bl false) H):=⟨fun k=>⟨a,p,kvs,rfl,h.e,h2.e,k⟩⟩
theorem adj_back (n:Nat):Builtin.Slice.sliceAdjust none none (-1) (n:Int)=((n:Int) - 1,-1):=by
 simp [Builtin.Slice.sliceAdjust]
theorem places_back (n:Nat):Builtin.Slice.slicePlaces ((n:Int) - 1) (-1) (-1)=n:=by
 simp [Builtin.Slice.slicePlaces]
 omega
theorem fm_congr {α β:Type} {f g:α→Option β}:∀{l:List α},(∀x∈l,f x=g x)→l.filterMap f=l.filterMap g
 | [],_=>rfl
 | x::l,h=>by rw [List.filterMap_cons,List.filterMap_cons,h x List.mem_cons_self,fm_congr fun y hy=>h y (List.mem_cons_of_mem _ hy)]
theorem pick_back (xs:Array Value):((List.range xs.size).filterMap fun (m:Nat)=>xs[((xs.size:Int) - 1 + (m:Int) * (-1)).toNat]?).toArray=xs.toList.reverse.toArray:=by
 congr 1
 have e:∀m∈List.range xs.size,xs[((xs.size:Int) - 1 + (m:Int) * (-1)).toNat]?=(some ∘ fun m=>xs.toList.reverse[m]?.getD .none) m:=fun m hm=>by
  have hm:=List.mem_range.mp hm
  have h2:m < xs.toList.length:=by simpa using hm
  have:((xs.size:Int) - 1 + (m:Int) * (-1)).toNat=xs.size - 1 - m:=by omega
  rw [this]
  simp only [Function.comp]
  rw [List.getElem?_reverse h2]
  have:xs.size - 1 - m < xs.size:=by omega
  simp [this]
 rw [fm_congr e,List.filterMap_eq_map]
 apply List.ext_getElem?
 intro i
 rw [List.getElem?_map]
 by_cases hi:i < xs.size
 ·simp [hi]
 ·rw [List.getElem?_eq_none (by simpa using hi),List.getElem?_eq_none (by simpa using hi)]
  rfl
section
variable {prog:Program} {w:World} {A:Around} {E:Value→Shared→Prop} {s:Shared}
theorem get_tup_back {t sl:Addr} {items:Array Value} {u:Tok} {Q:Value→Shared→Prop} (ht:IsTup s.heap t items) (hs:s.heap.IsSliceOf sl .none .none (.int (-1) u))
  (h:Q (.ref s.heap.objs.size) { s with heap:=s.heap.push { cls:=.type "tuple", data:=.seq items.toList.reverse.toArray } }) (hsz:items.size≤sizeLine):wpAny (model prog w) A (getItem (.ref t) (.ref sl)) Q E s:=by
 have hok:sizeOk (.seq items.toList.reverse.toArray):=by
  show items.toList.reverse.toArray.size≤sizeLine
  simpa using hsz
 obtain ⟨os,e1,e2,e3⟩:=id hs
 unfold getItem
 try with_reducible refine wpAny_holding ?_
 first | refine wpAny_bind (wpAny_pure ?_) | skip
 refine wpAny_bind (wpAny_sequenceKey ht.typeIs (by decide) (wpAny_bind (wpAny_callSpecial?_slot (name:=Str.ofString "__getitem__") ht.typeIs PyProof.Rows.slot_tuple_getitem (wpAny_call_entry PyProof.Rows.slot_tuple_getitem ht.typeIs entry_tuple_getitem ?_ (args_tuple_getitem _ _)))))
 refine wpAny_bind (m:=Builtin.Tuple.tupleItemsOf (.ref t)) (tupleItemsOf_ ht (wpAny_bind (wpAny_typeOf ⟨os,e1,e2⟩ ?_)))
 rw [if_pos (by decide)]
 refine wpAny_bind ?_
 unfold Builtin.Slice.sliceApplied Builtin.Slice.sliceFields
 refine wpAny_bind (wpAny_bind (wpAny_field e1 e3 (x:=.none) rfl (wpAny_bind (wpAny_field e1 e3 (x:=.none) rfl (wpAny_bind (wpAny_field e1 e3 (x:=.int (-1) u) rfl (wpAny_pure ?_)))))))
 refine wpAny_bind (slicePart_int ?_)
 rw [if_neg (by decide)]
 refine wpAny_bind (slicePart_none (wpAny_bind (slicePart_none (wpAny_bind (wpAny_pure ?_)))))
 show wpAny _ _ (match Builtin.Slice.sliceAdjust none none (-1) (items.size:Int) with | (lo,hi)=>pure (lo,(-1:Int),Builtin.Slice.slicePlaces lo hi (-1))) _ _ s
 rw [adj_back]
 show wpAny _ _ (pure (((items.size:Nat):Int) - 1,(-1:Int),Builtin.Slice.slicePlaces ((items.size:Int) - 1) (-1) (-1))) _ _ s
 rw [places_back]
 refine wpAny_pure ?_
 show wpAny _ _ (if (((items.size:Int) - 1) == 0 && (-1:Int) == 1 && items.size == items.size)=true then _ else _) _ _ s
 rw [if_neg (by simp),pick_back]
 first
  | exact wpAny_bind (m:=Builtin.Tuple.tupleExact _) (wpAny_newObj_type (wpAny_pure ⟨_,rfl,wpAny_pure h⟩) hok)
  | exact wpAny_bind (m:=Builtin.Tuple.tupleExact _) (wpAny_newObj_type (wpAny_bind (wpAny_pure (wpAny_pure ⟨_,rfl,wpAny_pure h⟩))) hok)
end
def tRevA (K:W.Frag) (te ts:TE):TE:=fun σ H Q=>te σ H fun x H1=>ts σ H1 fun y H2=>∃a xs,x=.ref a∧y=.int (-1)∧((SqL K H2 a xs∧∀p H',New H2 H' p (.lst xs.reverse)→Q (.ref p) H')∨(SqT K H2 a xs∧∀p H',New H2 H' p (.tup xs.reverse)→Q (.ref p) H'))
theorem pe_revAny {X:Cx} {e st:Expr} {te ts:TE} {pos p2:Pos} (he:PE X e te) (hst:PE X st ts):PE X (.Subscript e (.Slice none none (some st) p2) pos) (tRevA X.K te ts):=by
 intro pins s σ H Q I h
 refine Subscript_ (thn (he pins s σ H _ I h) fun v s1 ⟨x,H1,I1,r1,q1⟩=>?_)
 refine wpAny_Slice (wpAny_evalPart_none (wpAny_evalPart_none (wpAny_evalPart_some (thn (hst pins s1 σ H1 _ I1 q1) fun z s2 ⟨y,H2,I2,r2,q2⟩=>?_))))
 obtain ⟨a,xs,rfl,rfl,q2⟩:=q2
 cases r1
 obtain ⟨t,rfl⟩:=r2
 have I3:Inv X pins σ H2 { s2 with heap:=s2.heap.push { cls:=.type "slice", data:=.fields #[.none,.none,.int (-1) t] } }:=I2.kept (t':=s2.toks) fun b ob z=>Heap.get?_push_of_some _ z
 rcases q2 with ⟨hx,q⟩ | ⟨hx,q⟩
 ·obtain ⟨its,r,ht,hz⟩:=I3.list hx
  have hlen:=r.length
  show wpAny (model X.prog X.w) X.A (subscriptTail e (.Slice none none (some st) p2) (.ref a) (.ref s2.heap.objs.size)) (EP X pins σ Q) X.xe { s2 with heap:=s2.heap.push { cls:=.type "slice", data:=.fields #[.none,.none,.int (-1) t] } }
  refine tail_any (ops:=[.ref a,.ref s2.heap.objs.size]) ht.isList.typeIs slot_list_getitem.lookup ?_ (by with_unfolding_all rfl)
  refine wpAny_getItem_list_slice (lo:=none) (hi:=none) (st:=some (-1)) ht.isList (Heap.IsSliceOf.new ..) .none .none (.int (-1) t) (by decide) ?_ (by rw [List.size_toArray] <;> omega)
  rw [W.krv_pick]
  refine ⟨.ref (s2.heap.push { cls:=.type "slice", data:=.fields #[.none,.none,.int (-1) t] }).objs.size,_,I3.laid (t':=s2.toks) (o:=.lst xs.reverse) (fun b ob z=>Heap.get?_push_of_some _ z) (Nat.le_refl _) ?_,rfl,q _ _ (.mk' (I3.hok.fresh (Nat.le_refl _)))⟩
  exact ⟨by rw [List.length_reverse];exact hz,its.reverse,0,r.reverse,Heap.get?_push_size _ rfl⟩
 ·obtain ⟨its,r,ht,hz⟩:=I3.tuple hx
  have hlen:=r.length
  show wpAny (model X.prog X.w) X.A (subscriptTail e (.Slice none none (some st) p2) (.ref a) (.ref s2.heap.objs.size)) (EP X pins σ Q) X.xe { s2 with heap:=s2.heap.push { cls:=.type "slice", data:=.fields #[.none,.none,.int (-1) t] } }
  refine tail_any (ops:=[.ref a,.ref s2.heap.objs.size]) ht.typeIs PyProof.Rows.slot_tuple_getitem.lookup ?_ (by with_unfolding_all rfl)
  refine get_tup_back ht (Heap.IsSliceOf.new ..) ?_ (by rw [List.size_toArray] <;> omega)
  refine ⟨.ref (s2.heap.push { cls:=.type "slice", data:=.fields #[.none,.none,.int (-1) t] }).objs.size,_,I3.laid (t':=s2.toks) (o:=.tup xs.reverse) (fun b ob z=>Heap.get?_push_of_some _ z) (Nat.le_refl _) ?_,rfl,q _ _ (.mk' (I3.hok.fresh (Nat.le_refl _)))⟩
  exact ⟨by rw [List.length_reverse];exact hz,its.reverse,r.reverse,IsTup.new _ _⟩
instance go_revA {K:W.Frag} {te ts:TE} {σ:St} {H:Hp} {Q:VK}:Go (tRevA K te ts σ H Q) (te σ H fun x H1=>ts σ H1 fun y H2=>∃a xs,x=.ref a∧y=.int (-1)∧((SqL K H2 a xs∧∀p H',New H2 H' p (.lst xs.reverse)→Q (.ref p) H')∨(SqT K H2 a xs∧∀p H',New H2 H' p (.tup xs.reverse)→Q (.ref p) H'))):=⟨id⟩
end L2
namespace K73
open PySem L2 PyProof.Rows
def top (i:Nat):Stmt:=PySem.Challenge.pw_slideroom_k73_forged_prices.main.body.getD i (.Pass ⟨0,0,0,0⟩)
abbrev s_is_whole:Stmt:=top 17
theorem sc_is_whole:FnScope ["thing"] ["thing"] (defScope s_is_whole):=⟨rfl,rfl,rfl,by decide +kernel,rfl,by decide +kernel,by decide +kernel⟩
abbrev s_is_from:Stmt:=top 19
theorem sc_is_from:FnScope ["thing", "low"] ["thing", "low"] (defScope s_is_from):=⟨rfl,rfl,rfl,by decide +kernel,rfl,by decide +kernel,by decide +kernel⟩
abbrev s_is_within:Stmt:=top 20
theorem sc_is_within:FnScope ["thing", "low", "high"] ["thing", "low", "high"] (defScope s_is_within):=⟨rfl,rfl,rfl,by decide +kernel,rfl,by decide +kernel,by decide +kernel⟩
abbrev s_is_many:Stmt:=top 21
theorem sc_is_many:FnScope ["thing"] ["thing"] (defScope s_is_many):=⟨rfl,rfl,rfl,by decide +kernel,rfl,by decide +kernel,by decide +kernel⟩
abbrev s_is_name:Stmt:=top 22
theorem sc_is_name:FnScope ["thing"] ["thing"] (defScope s_is_name):=⟨rfl,rfl,rfl,by decide +kernel,rfl,by decide +kernel,by decide +kernel⟩
abbrev s_end_of:Stmt:=top 24
theorem sc_end_of:FnScope ["stretch"] ["stretch"] (defScope s_end_of):=⟨rfl,rfl,rfl,by decide +kernel,rfl,by decide +kernel,by decide +kernel⟩
abbrev s_is_row:Stmt:=top 28
theorem sc_is_row:FnScope ["thing"] ["thing"] (defScope s_is_row):=⟨rfl,rfl,rfl,by decide +kernel,rfl,by decide +kernel,by decide +kernel⟩
abbrev s_cells_of:Stmt:=top 29
theorem sc_cells_of:FnScope ["row"] ["row"] (defScope s_cells_of):=⟨rfl,rfl,rfl,by decide +kernel,rfl,by decide +kernel,by decide +kernel⟩
abbrev s_need_row:Stmt:=top 30
theorem sc_need_row:FnScope ["many", "row", "ahead", "other"] ["many", "row", "ahead"] (defScope s_need_row):=⟨rfl,rfl,rfl,by decide +kernel,rfl,by decide +kernel,by decide +kernel⟩
abbrev s_need_rows:Stmt:=top 31
theorem sc_need_rows:FnScope ["many", "rows", "at"] ["many", "rows"] (defScope s_need_rows):=⟨rfl,rfl,rfl,by decide +kernel,rfl,by decide +kernel,by decide +kernel⟩
abbrev s_share:Stmt:=top 25
theorem sc_share:FnScope ["one", "other"] ["one", "other"] (defScope s_share):=⟨rfl,rfl,rfl,by decide +kernel,rfl,by decide +kernel,by decide +kernel⟩
abbrev s_cell_at:Stmt:=top 42
theorem sc_cell_at:FnScope ["_law_script", "_law_k"] ["_law_script", "_law_k"] (defScope s_cell_at):=⟨rfl,rfl,rfl,by decide +kernel,rfl,by decide +kernel,by decide +kernel⟩
abbrev s_box:Stmt:=top 43
theorem sc_box:FnScope ["_law_cell"] ["_law_cell"] (defScope s_box):=⟨rfl,rfl,rfl,by decide +kernel,rfl,by decide +kernel,by decide +kernel⟩
abbrev s_take:Stmt:=top 44
theorem sc_take:FnScope ["_law_box_here", "_law_many_here", "_law_digit", "_law_number"] ["_law_box_here", "_law_many_here"] (defScope s_take):=⟨rfl,rfl,rfl,by decide +kernel,rfl,by decide +kernel,by decide +kernel⟩
abbrev s_names:Stmt:=top 45
theorem sc_names:FnScope ["_law_box_here", "_law_many_here", "_law_letters", "_law_tail", "_law_first_here", "_law_names_here", "_law_k", "_law_name"] ["_law_box_here", "_law_many_here"] (defScope s_names):=⟨rfl,rfl,rfl,by decide +kernel,rfl,by decide +kernel,by decide +kernel⟩
abbrev s_rows:Stmt:=top 46
theorem sc_rows:FnScope ["_law_box_here", "_law_many_here", "_law_most", "_law_names_here", "_law_pinned", "_law_rows_here", "_law_at", "_law_k", "_law_left", "_law_near", "_law_far", "_law_gap", "_law_wide", "_law_size", "_law_pins"] ["_law_box_here", "_law_many_here"] (defScope s_rows):=⟨rfl,rfl,rfl,by decide +kernel,rfl,by decide +kernel,by decide +kernel⟩
abbrev s_gapsof:Stmt:=top 34
theorem sc_gapsof:FnScope ["layout", "gaps", "behind", "block"] ["layout"] (defScope s_gapsof):=⟨rfl,rfl,rfl,by decide +kernel,rfl,by decide +kernel,by decide +kernel⟩
abbrev s_truth:Stmt:=top 18
theorem sc_truth:FnScope ["thing"] ["thing"] (defScope s_truth):=⟨rfl,rfl,rfl,by decide +kernel,rfl,by decide +kernel,by decide +kernel⟩
abbrev s_atend:Stmt:=top 35
theorem sc_atend:FnScope ["size"] ["size"] (defScope s_atend):=⟨rfl,rfl,rfl,by decide +kernel,rfl,by decide +kernel,by decide +kernel⟩
abbrev s_beside:Stmt:=top 36
theorem sc_beside:FnScope ["block", "beyond", "cells", "size", "row", "longer", "price"] ["block", "beyond", "cells", "size"] (defScope s_beside):=⟨rfl,rfl,rfl,by decide +kernel,rfl,by decide +kernel,by decide +kernel⟩
abbrev s_left:Stmt:=top 37
theorem sc_left:FnScope ["layout", "size", "gaps", "table", "at", "block"] ["layout", "size"] (defScope s_left):=⟨rfl,rfl,rfl,by decide +kernel,rfl,by decide +kernel,by decide +kernel⟩
abbrev s_right:Stmt:=top 38
theorem sc_right:FnScope ["layout", "size", "gaps", "blocks", "falling", "at"] ["layout", "size"] (defScope s_right):=⟨rfl,rfl,rfl,by decide +kernel,rfl,by decide +kernel,by decide +kernel⟩
abbrev s_prices:Stmt:=top 39
theorem sc_prices:FnScope ["layout", "size"] ["layout", "size"] (defScope s_prices):=⟨rfl,rfl,rfl,by decide +kernel,rfl,by decide +kernel,by decide +kernel⟩
abbrev s_isprices:Stmt:=top 40
theorem sc_isprices:FnScope ["layout", "size", "told"] ["layout", "size", "told"] (defScope s_isprices):=⟨rfl,rfl,rfl,by decide +kernel,rfl,by decide +kernel,by decide +kernel⟩
abbrev s_lgaps:Stmt:=top 50
theorem sc_lgaps:FnScope ["_law_many_here", "_law_rows_here", "_law_found", "_law_end", "_law_name", "_law_start", "_law_size", "_law_pins"] ["_law_many_here", "_law_rows_here"] (defScope s_lgaps):=⟨rfl,rfl,rfl,by decide +kernel,rfl,by decide +kernel,by decide +kernel⟩
abbrev s_lfirst:Stmt:=top 51
theorem sc_lfirst:FnScope ["_law_size"] ["_law_size"] (defScope s_lfirst):=⟨rfl,rfl,rfl,by decide +kernel,rfl,by decide +kernel,by decide +kernel⟩
abbrev s_lbehind:Stmt:=top 52
theorem sc_lbehind:FnScope ["_law_block", "_law_gap", "_law_ahead", "_law_found", "_law_x", "_law_price"] ["_law_block", "_law_gap", "_law_ahead"] (defScope s_lbehind):=⟨rfl,rfl,rfl,by decide +kernel,rfl,by decide +kernel,by decide +kernel⟩
abbrev s_lcarried:Stmt:=top 53
theorem sc_lcarried:FnScope ["_law_side_here", "_law_start", "_law_blocks", "_law_gaps_here", "_law_found", "_law_k"] ["_law_side_here", "_law_start", "_law_blocks", "_law_gaps_here"] (defScope s_lcarried):=⟨rfl,rfl,rfl,by decide +kernel,rfl,by decide +kernel,by decide +kernel⟩
abbrev s_lside:Stmt:=top 54
theorem sc_lside:FnScope ["_law_blocks", "_law_gaps_here", "_law_size"] ["_law_blocks", "_law_gaps_here", "_law_size"] (defScope s_lside):=⟨rfl,rfl,rfl,by decide +kernel,rfl,by decide +kernel,by decide +kernel⟩
abbrev s_lentry:Stmt:=top 55
theorem sc_lentry:FnScope ["_law_box_here", "_law_side_here", "_law_blocks", "_law_gaps_here", "_law_g", "_law_x", "_law_price", "_law_some", "_law_row", "_law_found"] ["_law_box_here", "_law_side_here", "_law_blocks", "_law_gaps_here"] (defScope s_lentry):=⟨rfl,rfl,rfl,by decide +kernel,rfl,by decide +kernel,by decide +kernel⟩
abbrev s_lspoilt:Stmt:=top 56
theorem sc_lspoilt:FnScope ["_law_box_here", "_law_side_here", "_law_blocks", "_law_gaps_here", "_law_way", "_law_g", "_law_row"] ["_law_box_here", "_law_side_here", "_law_blocks", "_law_gaps_here"] (defScope s_lspoilt):=⟨rfl,rfl,rfl,by decide +kernel,rfl,by decide +kernel,by decide +kernel⟩
abbrev s_lalike:Stmt:=top 57
theorem sc_lalike:FnScope ["_law_thing", "_law_due"] ["_law_thing", "_law_due"] (defScope s_lalike):=⟨rfl,rfl,rfl,by decide +kernel,rfl,by decide +kernel,by decide +kernel⟩
abbrev s_lcopied:Stmt:=top 58
theorem sc_lcopied:FnScope ["_law_thing"] ["_law_thing"] (defScope s_lcopied):=⟨rfl,rfl,rfl,by decide +kernel,rfl,by decide +kernel,by decide +kernel⟩
abbrev s_lforged:Stmt:=top 59
theorem sc_lforged:FnScope ["_law_box_here", "_law_due", "_law_rows_here", "_law_gaps_here", "_law_way", "_law_left", "_law_right"] ["_law_box_here", "_law_due", "_law_rows_here", "_law_gaps_here"] (defScope s_lforged):=⟨rfl,rfl,rfl,by decide +kernel,rfl,by decide +kernel,by decide +kernel⟩
abbrev s_ljudged:Stmt:=top 60
theorem sc_ljudged:FnScope ["_law_layout", "_law_size", "_law_thing", "_law_due", "_law_handed", "_law_found"] ["_law_layout", "_law_size", "_law_thing", "_law_due"] (defScope s_ljudged):=⟨rfl,rfl,rfl,by decide +kernel,rfl,by decide +kernel,by decide +kernel⟩
abbrev s_law:Stmt:=top 61
theorem sc_law:FnScope ["_law_script", "_law_k", "_law_box_here", "_law_many_here", "_law_rows_here", "_law_size", "_law_gaps_here", "_law_layout", "_law_due", "_law_more", "_law_thing"] ["_law_script"] (defScope s_law):=⟨rfl,rfl,rfl,by decide +kernel,rfl,by decide +kernel,by decide +kernel⟩
abbrev s_Linit:Stmt:=inClass (top 32) 0
theorem sc_Linit:FnScope ["self", "many", "rows"] ["self", "many", "rows"] (defScope s_Linit):=⟨rfl,rfl,rfl,by decide +kernel,rfl,by decide +kernel,by decide +kernel⟩
abbrev s_Lblocks:Stmt:=inClass (top 32) 1
theorem sc_Lblocks:FnScope ["self"] ["self"] (defScope s_Lblocks):=⟨rfl,rfl,rfl,by decide +kernel,rfl,by decide +kernel,by decide +kernel⟩
structure Txt (K:W.Frag) (mg:Str→Option Value) (c:Nat→Addr) (R CL ct_Linit pt_Linit:Addr):Prop where
 d_is_whole:HasDef K mg "is_whole" s_is_whole
 d_is_from:HasDef K mg "is_from" s_is_from
 d_is_within:HasDef K mg "is_within" s_is_within
 d_is_many:HasDef K mg "is_many" s_is_many
 d_is_name:HasDef K mg "is_name" s_is_name
 d_end_of:HasDef K mg "end_of" s_end_of
 d_is_row:HasDef K mg "is_row" s_is_row
 d_cells_of:HasDef K mg "cells_of" s_cells_of
 d_need_row:HasDef K mg "need_row" s_need_row
 d_need_rows:HasDef K mg "need_rows" s_need_rows
 d_share:HasDef K mg "share_cells" s_share
 d_cell_at:HasDef K mg "_law_cell_at" s_cell_at
 d_box:HasDef K mg "_law_box" s_box
 d_take:HasDef K mg "_law_take" s_take
 d_names:HasDef K mg "_law_names" s_names
 d_rows:HasDef K mg "_law_rows" s_rows
 d_gapsof:HasDef K mg "gaps_of" s_gapsof
 d_truth:HasDef K mg "has_truth" s_truth
 d_atend:HasDef K mg "row_at_end" s_atend
 d_beside:HasDef K mg "row_beside" s_beside
 d_left:HasDef K mg "left_prices" s_left
 d_right:HasDef K mg "right_prices" s_right
 d_prices:HasDef K mg "prices" s_prices
 d_isprices:HasDef K mg "is_prices" s_isprices
 d_lgaps:HasDef K mg "_law_gaps" s_lgaps
 d_lfirst:HasDef K mg "_law_first" s_lfirst
 d_lbehind:HasDef K mg "_law_row_behind" s_lbehind
 d_lcarried:HasDef K mg "_law_carried_on" s_lcarried
 d_lside:HasDef K mg "_law_side" s_lside
 d_lentry:HasDef K mg "_law_spoilt_entry" s_lentry
 d_lspoilt:HasDef K mg "_law_spoilt_side" s_lspoilt
 d_lalike:HasDef K mg "_law_alike" s_lalike
 d_lcopied:HasDef K mg "_law_copied" s_lcopied
 d_lforged:HasDef K mg "_law_forged" s_lforged
 d_ljudged:HasDef K mg "_law_judged" s_ljudged
 n_isinstance:mg "isinstance" = none
 n_int:mg "int" = none
 n_bool:mg "bool" = none
 n_str:mg "str" = none
 n_list:mg "list" = none
 n_tuple:mg "tuple" = none
 n_len:mg "len" = none
 n_all:mg "all" = none
 n_range:mg "range" = none
 n_sorted:mg "sorted" = none
 n_max:mg "max" = none
 n_min:mg "min" = none
 n_sum:mg "sum" = none
 n_enumerate:mg "enumerate" = none
 n_zip:mg "zip" = none
 n_reversed:mg "reversed" = none
 n_any:mg "any" = none
 g_LETTERS:GlobIs mg "LETTERS" (.str LET)
 g_NAME_SIGNS:GlobIs mg "NAME_SIGNS" (.str SGN)
 g_MOST_SIGNS:GlobIs mg "MOST_SIGNS" (.int 8)
 g_FEWEST_CELLS:GlobIs mg "FEWEST_CELLS" (.int 16)
 g_MOST_CELLS:GlobIs mg "MOST_CELLS" (.int 240)
 g_MOST_BLOCKS:GlobIs mg "MOST_BLOCKS" (.int 40)
 g_R:mg "RoomError" = some (.ref R)
 c_R:(W.clsIn K R).isSome=true
 t_R:W.typeIn K (.ref R)=some (.type "type")
 m_R:W.mroIn K R (.type "BaseException")=some true
 clL:Cls K CL
 gc_Layout:mg "Layout" = some (.ref CL)
 aL_many:NoAttr K CL "many"
 aL_rows:NoAttr K CL "rows"
 tab_Linit:W.codeHdIn K ct_Linit pt_Linit=true
 f_Linit:∃f,(∃fd,Fun K "__init__" "Layout.__init__" s_Linit f fd∧fd.code=.ref ct_Linit)∧Mk K CL f
 f_Lblocks:∃f,FnAt K "blocks" "Layout.blocks" s_Lblocks f∧Meth K CL "blocks" f
local macro_rules | `(tactic| k_room)=>`(tactic| first
 | with_reducible assumption
 | with_unfolding_all exact rfl
 | with_unfolding_all exact Nat.le_of_ble_eq_true rfl
 | omega
 | (with_reducible refine small_line ?_;first | omega | (simp only [List.length_cons,List.length_nil,List.length_map,List.length_append,List.length_replicate,rowsN_len,List.length_take,List.length_drop,List.length_set];omega))
 | (with_reducible refine small_lt ?_;first | omega | (simp only [List.length_cons,List.length_nil,List.length_map,List.length_append,List.length_replicate,rowsN_len,List.length_take,List.length_drop,List.length_set];omega))
 | (simp only [List.length_cons,List.length_nil,List.length_map,List.length_append,List.length_replicate,rowsN_len,List.length_take,List.length_drop,List.length_set];omega)
 | decide)
local macro_rules | `(tactic| k_mem)=>`(tactic| first
 | with_reducible assumption
 | decide
 | omega
 | (simp only [List.length_cons,List.length_nil,List.length_map,List.length_append,List.length_replicate,rowsN_len,List.length_take,List.length_drop,List.length_set];omega))
set_option hygiene false in
local macro_rules | `(tactic| k_meth)=>`(tactic| first
 | with_reducible refine go1 ?_
 | (intro H_ a_ dx_ (F_:SH _ _ _ _ _) (ex_:ExcT _ _ _ _);clear F;(have F:=F_);clear F_;have exA_:=ExA.mk ex_)
 | (intro H_ (F_:SH _ _ _ _ _);clear F;(have F:=F_);clear F_)
 | (intro H_ p_ (F_:SH _ _ _ _ _);clear F;(have F:=F_);clear F_)
 | (intro H_ x_ dx_ (F_:SH _ _ _ _ _);clear F;(have F:=F_);clear F_)
 | (intro H_ p_ ys_ l_ (F_:SH _ _ _ _ _);clear F;(have F:=F_);clear F_)
 | with_reducible refine sd (by k_room) ?_
 | (intro (r_:Int) (x_:Int) (y_:Int) (z_:Int) lo_ hi_)
 | (intro (x_:Int) (y_:Int))
 | (intro (c_:Int))
 | with_reducible refine i_pos (by k_mem) ?_
 | with_reducible refine i_neg (by k_mem) ?_
 | with_reducible refine i_npos (by k_mem) ?_
 | with_reducible refine i_nneg (by k_mem) ?_)
def sp_is_name:Sp:=fun vs H Q _=>∃cs:List Nat,vs=[.str (tx cs)]∧NameOk cs∧∀H',Same H H'→Q (.bl true) H'
def sp_share:Sp:=fun vs H Q _=>∃(p q:Addr) (a b c d:Int),vs=[.ref p,.ref q]∧H p=some (.tup [.int a,.int b])∧H q=some (.tup [.int c,.int d])∧Q (.bl (decide (a < c + d) && decide (c < a + b))) H
def sp_cells:Sp:=fun vs H Q _=>∃(q:Addr) (r:Rw),vs=[.ref q]∧H q=some (.tup (rowV r))∧∀p H',Same H H'→H' p=some (.tup [.int (r.st:Nat),.int (r.sz:Nat)])→Q (.ref p) H'
def sp_is_row:Sp:=fun vs H Q _=>∃(q:Addr) (r:Rw),vs=[.ref q]∧H q=some (.tup (rowV r))∧NameOk r.nm∧1≤r.sz∧∀H',Same H H'→Q (.bl true) H'
def sp_need_row:Sp:=fun vs H Q _=>∃(n:Nat) (q l:Addr) (r:Rw) (ys:List V) (rs:List Rw),vs=[.int (n:Nat),.ref q,.ref l]∧H q=some (.tup (rowV r))∧H l=some (.lst ys)∧TupsAt H ys (rowsV rs)∧GoodR n r∧(∀s∈rs,Apart s r)∧∀H',Same H H'→Q .non H'
def sp_need_rows:Sp:=fun vs H Q _=>∃(n:Nat) (l:Addr) (ys:List V) (rs:List Rw),vs=[.int (n:Nat),.ref l]∧H l=some (.lst ys)∧TupsAt H ys (rowsV rs)∧Lay n rs∧∀H',Same H H'→Q .non H'
section
variable {H:Hp} {Q:VK} {E:XK} {cs:List Nat} {p q l:Addr} {a b c d:Int} {r:Rw} {n:Nat} {ys:List V} {rs:List Rw}
instance go_is_name:Go (sp_is_name [.str (tx cs)] H Q E) (Sd (NameOk cs) (∀H',Same H H'→Q (.bl true) H')):=⟨fun s=>⟨cs,rfl,s.1,s.2⟩⟩
instance go_share [h:Hat H p (.tup [.int a,.int b])] [h2:Hat H q (.tup [.int c,.int d])]:Go (sp_share [.ref p,.ref q] H Q E) (Q (.bl (decide (a < c + d) && decide (c < a + b))) H):=⟨fun k=>⟨p,q,a,b,c,d,rfl,h.e,h2.e,k⟩⟩
instance go_cells [h:Hat H q (.tup (rowV r))]:Go (sp_cells [.ref q] H Q E) (∀p H',Same H H'→H' p=some (.tup [.int (r.st:Nat),.int (r.sz:Nat)])→Q (.ref p) H'):=⟨fun k=>⟨q,r,rfl,h.e,k⟩⟩
instance go_is_row [h:Hat H q (.tup (rowV r))]:Go (sp_is_row [.ref q] H Q E) (Sd (NameOk r.nm∧1≤r.sz) (∀H',Same H H'→Q (.bl true) H')):=⟨fun s=>⟨q,r,rfl,h.e,s.1.1,s.1.2,s.2⟩⟩
instance go_need_row [h:Hat H q (.tup (rowV r))] [h2:Hat H l (.lst ys)] [t:TpA H ys (rowsV rs)]:Go (sp_need_row [.int (n:Nat),.ref q,.ref l] H Q E) (Sd (GoodR n r∧∀s∈rs,Apart s r) (∀H',Same H H'→Q .non H')):=⟨fun s=>⟨n,q,l,r,ys,rs,rfl,h.e,h2.e,t.e,s.1.1,s.1.2,s.2⟩⟩
instance go_need_rows [h2:Hat H l (.lst ys)] [t:TpA H ys (rowsV rs)]:Go (sp_need_rows [.int (n:Nat),.ref l] H Q E) (Sd (Lay n rs) (∀H',Same H H'→Q .non H')):=⟨fun s=>⟨n,l,ys,rs,rfl,h2.e,t.e,s.1,s.2⟩⟩
instance nx_sameT {H0:Hp} {M:List Addr} {L:List (Addr×HO)} {I:List Im} {xs:List V} {Z:Addr→Hp→Prop} [F:SH H0 M H L I]:Go (∀p H',Same H H'→H' p=some (.tup xs)→Z p H') (∀H' p,SH H0 M H' L (.tup p xs::I)→Z p H'):=⟨fun k p H' s e=>k H' p ((F.same s).addT e)⟩
theorem rows_take {i:Nat} (t:TupsAt H ys (rowsV rs)):TupsAt H (ys.take i) (rowsV (rs.take i)):=by
 refine ⟨?_,fun j r e=>?_⟩
 ·rw [rowsV_len,List.length_take,List.length_take,t.1,rowsV_len]
 ·unfold rowsV at e
  rw [List.map_take,List.getElem?_take] at e
  split at e
  ·rename_i hj
   obtain ⟨q,e1,e2⟩:=t.2 j r e
   exact ⟨q,by rw [List.getElem?_take,if_pos hj];exact e1,e2⟩
  ·cases e
theorem cut_take {i:Nat}:cutV ys none (some (i:Int))=ys.take i:=by
 unfold cutV
 rw [HT.sIx_nat]
 show (ys.drop 0).take (min i ys.length - 0)=_
 rw [List.drop_zero,Nat.sub_zero]
 by_cases h:i≤ys.length
 ·rw [show min i ys.length=i by omega]
 ·rw [List.take_of_length_le (by omega),List.take_of_length_le (by omega)]
end
section
variable {H:Hp} {l:Addr} {x y z v:V} {r:List V} {R:Hp→Prop}
instance go_set0 [h:Hat H l (.lst (x::r))]:Go (rSetA (.ref l) (.int 0) v H R) (∀H',Off l H H'→H' l=some (.lst (v::r))→R H'):=⟨fun k=>w_setA h.e (j:=0) (by unfold ixN;rw [if_pos (by decide),if_pos (by simp only [List.length_cons];omega)];rfl) k⟩
def sp_takeK:Sp:=fun vs H Q _=>∃(p:Addr) (a b c m:Int),vs=[.ref p,.int m]∧H p=some (.lst [.int a,.int b,.int c])∧0 < m∧m < 1073741824∧∀(r a' b' c':Int) (H':Hp),0≤r→r < m→Kp p H H'→H' p=some (.lst [.int a',.int b',.int c'])→Q (.int r) H'
instance go_takeK {Q:VK} {E:XK} {p:Addr} {a b c m:Int} [h:Hat H p (.lst [.int a,.int b,.int c])]:Go (sp_takeK [.ref p,.int m] H Q E) (Sd (0 < m∧m < 1073741824) (∀r a' b' c':Int,0≤r→r < m→∀H',Kp p H H'→H' p=some (.lst [.int a',.int b',.int c'])→Q (.int r) H')):=⟨fun s=>⟨p,a,b,c,m,rfl,h.e,s.1.1,s.1.2,fun r a' b' c' H' h0 h1 f e=>s.2 r a' b' c' h0 h1 H' f e⟩⟩
instance go_set2 [h:Hat H l (.lst (x::y::z::r))]:Go (rSetA (.ref l) (.int 2) v H R) (∀H',Off l H H'→H' l=some (.lst (x::y::v::r))→R H'):=⟨fun k=>w_setA h.e (j:=2) (by unfold ixN;rw [if_pos (by decide),if_pos (by simp only [List.length_cons];omega)];rfl) k⟩
end
section
variable {P:Program} {w:World} {K:W.Frag} {mg:Str→Option Value} {base:Heap} {c:Nat→Addr} {ct_Linit pt_Linit R CL:Addr}
theorem D_is_whole (T:Txt K mg c R CL ct_Linit pt_Linit):Def P w K mg base CX0 1 "is_whole" ["thing"] (sp_whole K):=by
 refine def_of T.d_is_whole sc_is_whole (fun vs H Q E h=>?_) (fun _ _ _ _ _ _ us hl=>match us,hl with | [_],_=>rfl) (fun f cdv A outer s H vs Q E hr h=>?_)
 ·obtain ⟨x,n,rfl,_⟩:=h
  rfl
 ·obtain ⟨x,n,rfl,ty,k⟩:=h
  have nd:=sc_is_whole.nd
  refine ⟨_,(pss_one (ps_ret (pe_and (pe_callB call_isT rfl T.n_isinstance boot_isinstance (pa_cons (pv 0) (pa_cons (pe_ty (T := "int") rfl T.n_int boot_int) pa_nil))) (pe_one (pe_not (pe_callB call_isT rfl T.n_isinstance boot_isinstance (pa_cons (pv 0) (pa_cons (pe_ty (T := "bool") rfl T.n_bool boot_bool) pa_nil)))))))),?_⟩
  clear nd 
  rw [show start ["thing"] [x]=[some (x)] from rfl]
  try dsimp only [cx_K,cx_K2]
  rw [isW_eq] at k
  repeat k_meth
  refine w_is ty (bt_int ty) ?_
  repeat k_meth
  refine i_b (fun h=>?_) (fun h=>?_)
  ·repeat k_meth
   refine w_is ty (bt_bool ty) ?_
   repeat k_meth
   rw [h] at k
   exact k
  ·rw [h] at k
   exact k
theorem D_is_from (T:Txt K mg c R CL ct_Linit pt_Linit):Def P w K mg base CX0 2 "is_from" ["thing", "low"] (sp_is_from K):=by
 have D_is_whole:=D_is_whole (P:=P) (w:=w) (base:=base) T
 refine def_of T.d_is_from sc_is_from (fun vs H Q E h=>?_) (fun _ _ _ _ _ _ us hl=>match us,hl with | [_,_],_=>rfl) (fun f cdv A outer s H vs Q E hr h=>?_)
 ·obtain ⟨x,n,lo,rfl,_⟩:=h
  rfl
 ·obtain ⟨x,n,lo,rfl,ty,k⟩:=h
  have nd:=sc_is_from.nd
  refine ⟨_,(pss_one (ps_ret (pe_and (pe_def D_is_whole hr (pa_cons (pv 0) pa_nil)) (pe_one (pe_cmpR op_le (pv 1) (pv 0) (nomark _)))))),?_⟩
  clear nd D_is_whole
  rw [show start ["thing", "low"] [x,.int lo]=[some (x),some (.int lo)] from rfl]
  try dsimp only [cx_K,cx_K2]
  repeat k_meth
  refine u_whole ty ?_
  repeat k_meth
  cases x with
  | int i =>
   refine i_T rfl ?_
   repeat k_meth
   exact k
  | _=>exact i_F rfl k
theorem D_is_within (T:Txt K mg c R CL ct_Linit pt_Linit):Def P w K mg base CX0 2 "is_within" ["thing", "low", "high"] (sp_is_within K):=by
 have D_is_whole:=D_is_whole (P:=P) (w:=w) (base:=base) T
 refine def_of T.d_is_within sc_is_within (fun vs H Q E h=>?_) (fun _ _ _ _ _ _ us hl=>match us,hl with | [_,_,_],_=>rfl) (fun f cdv A outer s H vs Q E hr h=>?_)
 ·obtain ⟨x,n,lo,hi,rfl,_⟩:=h
  rfl
 ·obtain ⟨x,n,lo,hi,rfl,ty,k⟩:=h
  have nd:=sc_is_within.nd
  refine ⟨_,(pss_one (ps_ret (pe_and (pe_def D_is_whole hr (pa_cons (pv 0) pa_nil)) (pe_one (pe_chain op_le op_le (pv 1) (pv 0) (pv 2)))))),?_⟩
  clear nd D_is_whole
  rw [show start ["thing", "low", "high"] [x,.int lo,.int hi]=[some (x),some (.int lo),some (.int hi)] from rfl]
  try dsimp only [cx_K,cx_K2]
  repeat k_meth
  refine u_whole ty ?_
  repeat k_meth
  cases x with
  | int i =>
   refine i_T rfl ?_
   repeat k_meth
   have k:Q (.bl (decide (lo≤i) && decide (i≤hi))) H:=k
   refine i_dec (fun h=>?_) (fun h=>?_)
   ·repeat k_meth
    rw [decide_eq_true h,Bool.true_and] at k
    exact k
   ·rw [decide_eq_false h,Bool.false_and] at k
    exact k
  | _=>exact i_F rfl k
theorem D_is_many (T:Txt K mg c R CL ct_Linit pt_Linit):Def P w K mg base CX0 3 "is_many" ["thing"] (sp_is_many K):=by
 have D_is_within:=D_is_within (P:=P) (w:=w) (base:=base) T
 refine def_of T.d_is_many sc_is_many (fun vs H Q E h=>?_) (fun _ _ _ _ _ _ us hl=>match us,hl with | [_],_=>rfl) (fun f cdv A outer s H vs Q E hr h=>?_)
 ·obtain ⟨x,n,rfl,_⟩:=h
  rfl
 ·obtain ⟨x,n,rfl,ty,k⟩:=h
  have nd:=sc_is_many.nd
  refine ⟨_,(pss_one (ps_ret (pe_def D_is_within hr (pa_cons (pv 0) (pa_cons (pe_gl T.g_FEWEST_CELLS) (pa_cons (pe_gl T.g_MOST_CELLS) pa_nil)))))),?_⟩
  clear nd D_is_within
  rw [show start ["thing"] [x]=[some (x)] from rfl]
  try dsimp only [cx_K,cx_K2]
  repeat k_meth
  exact u_within ty k
theorem D_end_of (T:Txt K mg c R CL ct_Linit pt_Linit):Def P w K mg base CX0 1 "end_of" ["stretch"] sp_end_of:=by
 refine def_of T.d_end_of sc_end_of (fun vs H Q E h=>?_) (fun _ _ _ _ _ _ us hl=>match us,hl with | [_],_=>rfl) (fun f cdv A outer s H vs Q E hr h=>?_)
 ·obtain ⟨q,a,b,rfl,_⟩:=h
  rfl
 ·obtain ⟨q,a,b,rfl,h,k⟩:=h
  have nd:=sc_end_of.nd
  refine ⟨_,(pss_one (ps_ret (pe_op op_add (pe_ix ix_tup (pv 0) pe_int (fun _ _=>rfl)) (pe_ix ix_tup (pv 0) pe_int (fun _ _=>rfl))))),?_⟩
  clear nd 
  rw [show start ["stretch"] [.ref q]=[some (.ref q)] from rfl]
  try dsimp only [cx_K,cx_K2]
  have iL_many:FldOk K CL "many" := ⟨T.clL,T.aL_many⟩
  have iL_rows:FldOk K CL "rows" := ⟨T.clL,T.aL_rows⟩
  have o_h:=Old.mk (M:=[]) h nm0
  have F:SH H [] H [] []:=SH.nil
  repeat k_meth
  exact k
theorem D_cell_at (T:Txt K mg c R CL ct_Linit pt_Linit):Def P w K mg base CX0 1 "_law_cell_at" ["_law_script", "_law_k"] (sp_cellA K):=by
 refine def_of T.d_cell_at sc_cell_at (fun vs H Q E h=>?_) (fun _ _ _ _ _ _ us hl=>match us,hl with | [_,_],_=>rfl) (fun f cdv A outer s H vs Q E hr h=>?_)
 ·obtain ⟨a,ns,m,rfl,_⟩:=h
  rfl
 ·obtain ⟨a,ns,m,rfl,hS,m0,k⟩:=h
  have nd:=sc_cell_at.nd
  refine ⟨_,(pss_cons (ps_if (pt_cmpR op_lt (pv 1) (pe_callB call_lenN rfl T.n_len boot_len (pa_cons (pv 0) pa_nil)) (nomark _)) (pss_one (ps_ret (pe_ix ix_list (pv 0) (pv 1) (fun _ _=>rfl)))) pss_nil)
   (pss_one (ps_ret (pe_op op_add (pe_op op_mul pe_int (pv 1)) pe_int)))),?_⟩
  clear nd 
  rw [show start ["_law_script", "_law_k"] [.ref a,.int m]=[some (.ref a),some (.int m)] from rfl]
  try dsimp only [cx_K,cx_K2]
  have iL_many:FldOk K CL "many" := ⟨T.clL,T.aL_many⟩
  have iL_rows:FldOk K CL "rows" := ⟨T.clL,T.aL_rows⟩
  have o_hS:=OldQ.mk (M:=[]) hS nm0
  have F:SH H [] H [] []:=SH.nil
  repeat k_meth
  refine i_dec (fun h=>?_) (fun h=>?_)
  ·repeat k_meth
   obtain ⟨v,e,mm⟩:=atI_lt (xs:=ns.map V.int) m0 h
   obtain ⟨c,_,rfl⟩:=List.mem_map.mp mm
   exact w_ixL hS e (k c)
  ·repeat k_meth
   exact k _
theorem D_box (T:Txt K mg c R CL ct_Linit pt_Linit):Def P w K mg base CX0 1 "_law_box" ["_law_cell"] sp_boxA:=by
 refine def_of T.d_box sc_box (fun vs H Q E h=>?_) (fun _ _ _ _ _ _ us hl=>match us,hl with | [_],_=>rfl) (fun f cdv A outer s H vs Q E hr h=>?_)
 ·obtain ⟨c,rfl,_⟩:=h
  rfl
 ·obtain ⟨c,rfl,k⟩:=h
  have nd:=sc_box.nd
  refine ⟨_,(pss_one (ps_ret (pe_lstA (pa_cons (pe_op op_mul (pe_callB (call_maxN rfl) rfl T.n_max boot_max (pa_cons pe_int (pa_cons (pv 0) pa_nil))) (pe_callTy call_intN rfl T.n_int boot_int (pa_cons (pe_cmpR op_ge (pv 0) (pe_op op_pow pe_int pe_int) (nomark _)) pa_nil))) (pa_cons (pe_op op_mod (pv 0) pe_int) (pa_cons pe_int pa_nil)))))),?_⟩
  clear nd 
  rw [show start ["_law_cell"] [.int c]=[some (.int c)] from rfl]
  try dsimp only [cx_K,cx_K2]
  have iL_many:FldOk K CL "many" := ⟨T.clL,T.aL_many⟩
  have iL_rows:FldOk K CL "rows" := ⟨T.clL,T.aL_rows⟩
  have F:SH H [] H [] []:=SH.nil
  repeat k_meth
  exact k _ _ _ _ SH.nwC
theorem D_take (T:Txt K mg c R CL ct_Linit pt_Linit):Def P w K mg base CX0 1 "_law_take" ["_law_box_here", "_law_many_here"] sp_takeK:=by
 refine def_of T.d_take sc_take (fun vs H Q E h=>?_) (fun _ _ _ _ _ _ us hl=>match us,hl with | [_,_],_=>rfl) (fun f cdv A outer s H vs Q E hr h=>?_)
 ·obtain ⟨p,a,b,c,m,rfl,_⟩:=h
  rfl
 ·obtain ⟨p,a,b,c,m,rfl,hp,m0,m1,k⟩:=h
  have nd:=sc_take.nd
  refine ⟨_,(pss_cons (ps_if (pt_cmpR op_gt (pe_ix ix_list (pv 0) pe_int (fun _ _=>rfl)) pe_int (nomark _)) (pss_cons (ps_set (i:=2) nd rfl (Or.inl rfl) (pe_op op_mod (pe_ix ix_list (pv 0) pe_int (fun _ _=>rfl)) (pv 1)))
    (pss_cons (ps_asg (pe_op op_fdiv (pe_ix ix_list (pv 0) pe_int (fun _ _=>rfl)) (pv 1)) (pg_sub (pv 0) pe_int set_listA))
    (pss_one (ps_ret (pv 2))))) pss_nil)
   (pss_cons (ps_asg (pe_op op_add (pe_ix ix_list (pv 0) pe_int (fun _ _=>rfl)) pe_int) (pg_sub (pv 0) pe_int set_listA))
   (pss_cons (ps_set (i:=3) nd rfl (Or.inl rfl) (pe_op op_mod (pe_op op_mul (pe_op op_add (pe_ix ix_list (pv 0) pe_int (fun _ _=>rfl)) (pe_op op_mul pe_int (pe_ix ix_list (pv 0) pe_int (fun _ _=>rfl)))) pe_int) pe_int))
   (pss_cons (ps_set (i:=3) nd rfl (Or.inl rfl) (pe_op op_mod (pe_op op_mul (pv 3) (pv 3)) pe_int))
   (pss_one (ps_ret (pe_op op_mod (pe_op op_fdiv (pe_op op_mod (pe_op op_mul (pe_op op_add (pv 3) (pe_ix ix_list (pv 0) pe_int (fun _ _=>rfl))) (pe_op op_add (pv 3) pe_int)) pe_int) pe_int) (pv 1)))))))),?_⟩
  clear nd 
  rw [show start ["_law_box_here", "_law_many_here", "_law_digit", "_law_number"] [.ref p,.int m]=[some (.ref p),some (.int m),none,none] from rfl]
  try dsimp only [cx_K,cx_K2]
  have iL_many:FldOk K CL "many" := ⟨T.clL,T.aL_many⟩
  have iL_rows:FldOk K CL "rows" := ⟨T.clL,T.aL_rows⟩
  have F:SH H [p] H [(p,.lst [.int a,.int b,.int c])] []:=SH.nil.addM List.mem_cons_self hp rfl (by simp)
  repeat k_meth
  refine i_dec (fun h=>?_) (fun h=>?_)
  ·repeat k_meth
   exact k _ _ _ _ _ (Int.emod_nonneg _ (by omega)) (Int.emod_lt_of_pos _ m0) F.kpo hatC
  ·repeat k_meth
   exact k _ _ _ _ _ (Int.emod_nonneg _ (by omega)) (Int.emod_lt_of_pos _ m0) F.kpo hatC
theorem D_is_name (T:Txt K mg c R CL ct_Linit pt_Linit):Def P w K mg base CX0 1 "is_name" ["thing"] sp_is_name:=by
 refine def_of T.d_is_name sc_is_name (fun vs H Q E h=>?_) (fun _ _ _ _ _ _ us hl=>match us,hl with | [_],_=>rfl) (fun f cdv A outer s H vs Q E hr h=>?_)
 ·obtain ⟨cs,rfl,_⟩:=h
  rfl
 ·obtain ⟨cs,rfl,ok,k⟩:=h
  have nd:=sc_is_name.nd
  refine ⟨_,(pss_cons (ps_if (PW.pt (pw_or (pt_not (pt_val (pe_callB call_isT rfl T.n_isinstance boot_isinstance (pa_cons (pv 0) (pa_cons (pe_ty (T := "str") rfl T.n_str boot_str) pa_nil))))) (pw_or1 (pt_not (pt_chain op_le op_le pe_int (pe_callB call_lenN rfl T.n_len boot_len (pa_cons (pv 0) pa_nil)) (pe_gl T.g_MOST_SIGNS)))))) (pss_one (ps_ret pe_bl)) pss_nil)
   (pss_one (ps_ret (pe_and (pe_cmpR op_inS (pe_ix ix_str (pv 0) pe_int (fun _ _=>rfl)) (pe_gl T.g_LETTERS) (by with_unfolding_all rfl)) (pe_one (pe_callB (call_all rfl) rfl T.n_all boot_all (pa_cons (pe_comp (N:=["sign"]) (nt:=1) (fr:=[]) (pi_str (pv 0)) (fun _ _ _ _=>(pg_name (i:=0) (show (["sign"]:List Str).Nodup from by decide +kernel) rfl (Or.inl rfl))) (fun _ _ _ _=>pif_nil) (fun _ _ _ _=>(pe_cmpR op_inS (pv 0) (pe_gl T.g_NAME_SIGNS) (by with_unfolding_all rfl)))) pa_nil))))))),?_⟩
  clear nd 
  rw [show start ["thing"] [.str (tx cs)]=[some (.str (tx cs))] from rfl]
  try dsimp only [cx_K,cx_K2]
  have iL_many:FldOk K CL "many" := ⟨T.clL,T.aL_many⟩
  have iL_rows:FldOk K CL "rows" := ⟨T.clL,T.aL_rows⟩
  have F:SH H [] H [] []:=SH.nil
  have h1:=ok.lo
  have h2:=ok.hi
  repeat k_meth
  intro c hc
  repeat k_meth
  rw [let_low,ok.hd c hc]
  repeat k_meth
  refine comp_S (F:=fun c=>V.bl true) (by omega) rfl (fun c H' R hm s kk=>?_) ?_
  ·clear F
   have F:SH H' [] H' [] []:=SH.nil
   repeat k_meth
   rw [sgn_low,ok.all c hm]
   exact kk _ (Same.refl _)
  ·have e:(cs.map fun _=>V.bl true)=(List.replicate cs.length true).map V.bl:=by
    rw [List.map_replicate,List.map_const']
   rw [e]
   repeat k_meth
   rw [show (List.replicate cs.length true).all id=true by simp]
   exact k _ F.sm
theorem D_share (T:Txt K mg c R CL ct_Linit pt_Linit):Def P w K mg base CX0 2 "share_cells" ["one", "other"] sp_share:=by
 have D_end_of:=D_end_of (P:=P) (w:=w) (base:=base) T
 refine def_of T.d_share sc_share (fun vs H Q E h=>?_) (fun _ _ _ _ _ _ us hl=>match us,hl with | [_,_],_=>rfl) (fun f cdv A outer s H vs Q E hr h=>?_)
 ·obtain ⟨p,q,a,b,c,d,rfl,_⟩:=h
  rfl
 ·obtain ⟨p,q,a,b,c,d,rfl,hp,hq,k⟩:=h
  have nd:=sc_share.nd
  refine ⟨_,(pss_one (ps_ret (pe_and (pe_cmpR op_lt (pe_ix ix_tup (pv 0) pe_int (fun _ _=>rfl)) (pe_def D_end_of hr (pa_cons (pv 1) pa_nil)) (nomark _)) (pe_one (pe_cmpR op_lt (pe_ix ix_tup (pv 1) pe_int (fun _ _=>rfl)) (pe_def D_end_of hr (pa_cons (pv 0) pa_nil)) (nomark _)))))),?_⟩
  clear nd D_end_of
  rw [show start ["one", "other"] [.ref p,.ref q]=[some (.ref p),some (.ref q)] from rfl]
  try dsimp only [cx_K,cx_K2]
  have iL_many:FldOk K CL "many" := ⟨T.clL,T.aL_many⟩
  have iL_rows:FldOk K CL "rows" := ⟨T.clL,T.aL_rows⟩
  have o_hp:=Old.mk (M:=[]) hp nm0
  have o_hq:=Old.mk (M:=[]) hq nm0
  have F:SH H [] H [] []:=SH.nil
  repeat k_meth
  refine i_dec (fun h=>?_) (fun h=>?_)
  ·repeat k_meth
   rw [decide_eq_true h,Bool.true_and] at k
   exact k
  ·rw [decide_eq_false h,Bool.false_and] at k
   exact k
theorem D_cells_of (T:Txt K mg c R CL ct_Linit pt_Linit):Def P w K mg base CX0 1 "cells_of" ["row"] sp_cells:=by
 refine def_of T.d_cells_of sc_cells_of (fun vs H Q E h=>?_) (fun _ _ _ _ _ _ us hl=>match us,hl with | [_],_=>rfl) (fun f cdv A outer s H vs Q E hr h=>?_)
 ·obtain ⟨q,r,rfl,_⟩:=h
  rfl
 ·obtain ⟨q,r,rfl,hq,k⟩:=h
  have nd:=sc_cells_of.nd
  refine ⟨_,(pss_one (ps_ret (pe_tupA (pa_cons (pe_ix ix_tup (pv 0) pe_int (fun _ _=>rfl)) (pa_cons (pe_ix ix_tup (pv 0) pe_int (fun _ _=>rfl)) pa_nil))))),?_⟩
  clear nd 
  rw [show start ["row"] [.ref q]=[some (.ref q)] from rfl]
  try dsimp only [cx_K,cx_K2]
  have iL_many:FldOk K CL "many" := ⟨T.clL,T.aL_many⟩
  have iL_rows:FldOk K CL "rows" := ⟨T.clL,T.aL_rows⟩
  have o_hq:=Old.mk (M:=[]) hq nm0
  have F:SH H [] H [] []:=SH.nil
  repeat k_meth
  exact k _ _ F.sm hatC
theorem D_is_row (T:Txt K mg c R CL ct_Linit pt_Linit):Def P w K mg base CX0 3 "is_row" ["thing"] sp_is_row:=by
 have D_is_name:=D_is_name (P:=P) (w:=w) (base:=base) T
 have D_is_from:=D_is_from (P:=P) (w:=w) (base:=base) T
 refine def_of T.d_is_row sc_is_row (fun vs H Q E h=>?_) (fun _ _ _ _ _ _ us hl=>match us,hl with | [_],_=>rfl) (fun f cdv A outer s H vs Q E hr h=>?_)
 ·obtain ⟨q,r,rfl,_⟩:=h
  rfl
 ·obtain ⟨q,r,rfl,hq,ok,hz,k⟩:=h
  have nd:=sc_is_row.nd
  refine ⟨_,(pss_cons (ps_if (PW.pt (pw_or (pt_not (pt_val (pe_callB call_isT rfl T.n_isinstance boot_isinstance (pa_cons (pv 0) (pa_cons (pe_ty (T := "tuple") rfl T.n_tuple boot_tuple) pa_nil))))) (pw_or1 (pt_cmpR op_ne (pe_callB call_lenN rfl T.n_len boot_len (pa_cons (pv 0) pa_nil)) pe_int (nomark _))))) (pss_one (ps_ret pe_bl)) pss_nil)
   (pss_one (ps_ret (pe_and (pe_def D_is_name hr (pa_cons (pe_ix ix_tup (pv 0) pe_int (fun _ _=>rfl)) pa_nil)) (pe_and (pe_def D_is_from hr (pa_cons (pe_ix ix_tup (pv 0) pe_int (fun _ _=>rfl)) (pa_cons pe_int pa_nil))) (pe_and (pe_def D_is_from hr (pa_cons (pe_ix ix_tup (pv 0) pe_int (fun _ _=>rfl)) (pa_cons pe_int pa_nil))) (pe_one (pe_def D_is_from hr (pa_cons (pe_ix ix_tup (pv 0) pe_int (fun _ _=>rfl)) (pa_cons pe_int pa_nil)))))))))),?_⟩
  clear nd D_is_name D_is_from
  rw [show start ["thing"] [.ref q]=[some (.ref q)] from rfl]
  try dsimp only [cx_K,cx_K2]
  have iL_many:FldOk K CL "many" := ⟨T.clL,T.aL_many⟩
  have iL_rows:FldOk K CL "rows" := ⟨T.clL,T.aL_rows⟩
  have o_hq:=Old.mk (M:=[]) hq nm0
  have F:SH H [] H [] []:=SH.nil
  have e4:(((rowV r).length:Nat):Int)=4:=rfl
  repeat k_meth
  exact k _ F.sm
theorem D_need_row (T:Txt K mg c R CL ct_Linit pt_Linit):Def P w K mg base CX0 4 "need_row" ["many", "row", "ahead"] sp_need_row:=by
 have D_is_row:=D_is_row (P:=P) (w:=w) (base:=base) T
 have D_end_of:=D_end_of (P:=P) (w:=w) (base:=base) T
 have D_share:=D_share (P:=P) (w:=w) (base:=base) T
 have D_cells_of:=D_cells_of (P:=P) (w:=w) (base:=base) T
 refine def_of T.d_need_row sc_need_row (fun vs H Q E h=>?_) (fun _ _ _ _ _ _ us hl=>match us,hl with | [_,_,_],_=>rfl) (fun f cdv A outer s H vs Q E hr h=>?_)
 ·obtain ⟨n,q,l,r,ys,rs,rfl,_⟩:=h
  rfl
 ·obtain ⟨n,q,l,r,ys,rs,rfl,hq,hl,tp,gd,ap,k⟩:=h
  have nd:=sc_need_row.nd
  refine ⟨_,(pss_cons (ps_if (pt_not (pt_val (pe_def D_is_row hr (pa_cons (pv 1) pa_nil)))) pss_never pss_nil)
   (pss_cons (ps_if (pt_cmpR op_gt (pe_def D_end_of hr (pa_cons (pe_def D_cells_of hr (pa_cons (pv 1) pa_nil)) pa_nil)) (pv 0) (nomark _)) pss_never pss_nil)
   (pss_cons (ps_for PassesOwn.never rfl (pi_list (pv 2)) (pg_name (i:=3) nd rfl (Or.inl rfl)) (pss_one (ps_if (pt_cmpR op_eq (pe_ix ix_tup (pv 3) pe_int (fun _ _=>rfl)) (pe_ix ix_tup (pv 1) pe_int (fun _ _=>rfl)) (nomark _)) pss_never pss_nil)))
   (pss_one (ps_for PassesOwn.never rfl (pi_list (pv 2)) (pg_name (i:=3) nd rfl (Or.inl rfl)) (pss_one (ps_if (pt_val (pe_def D_share hr (pa_cons (pe_def D_cells_of hr (pa_cons (pv 1) pa_nil)) (pa_cons (pe_def D_cells_of hr (pa_cons (pv 3) pa_nil)) pa_nil)))) pss_never pss_nil))))))),?_⟩
  clear nd D_is_row D_end_of D_share D_cells_of
  rw [show start ["many", "row", "ahead", "other"] [.int (n:Nat),.ref q,.ref l]=[some (.int (n:Nat)),some (.ref q),some (.ref l),none] from rfl]
  try dsimp only [cx_K,cx_K2]
  have iL_many:FldOk K CL "many" := ⟨T.clL,T.aL_many⟩
  have iL_rows:FldOk K CL "rows" := ⟨T.clL,T.aL_rows⟩
  have o_hq:=Old.mk (M:=[]) hq nm0
  have o_hl:=Old.mk (M:=[]) hl nm0
  have o_tp:=OldP.mk tp
  have F:SH H [] H [] []:=SH.nil
  have ok:NameOk r.nm∧1≤r.sz:=⟨gd.nm,gd.sz⟩
  have le:=gd.le
  repeat k_meth
  refine forL_by (xs:=ys) (fun i σ' H'=>∃o3:Option V,σ'=[some (.int (n:Nat)),some (.ref q),some (.ref l),o3]∧SH H [] H' [] []) ⟨_,rfl,F.subC⟩ ?_ ?_ ?_
  ·clear F
   rintro i σ' H' _ ⟨_,rfl,F⟩
   exact SqA.e
  ·clear F
   rintro i v σ' H' hv ⟨_,rfl,F⟩
   obtain ⟨s,q1,e1,rfl,e2⟩:=rowsV_at tp hv
   have o_e2:=Old.mk (M:=[]) e2 nm0
   have ne:¬ tx s.nm=tx r.nm:=fun z=>(ap s (List.mem_of_getElem? e1)).1 (tx_inj z)
   repeat k_meth
   exact ⟨_,rfl,F⟩
  ·clear F
   rintro σ' H' ⟨_,rfl,F⟩
   repeat k_meth
   refine forL_by (xs:=ys) (fun i σ' H'=>∃o3:Option V,σ'=[some (.int (n:Nat)),some (.ref q),some (.ref l),o3]∧SH H [] H' [] []) ⟨_,rfl,F.subC⟩ ?_ ?_ ?_
   ·clear F
    rintro i σ' H' _ ⟨_,rfl,F⟩
    exact SqA.e
   ·clear F
    rintro i v σ' H' hv ⟨_,rfl,F⟩
    obtain ⟨s,q1,e1,rfl,e2⟩:=rowsV_at tp hv
    have o_e2:=Old.mk (M:=[]) e2 nm0
    have ne:=(ap s (List.mem_of_getElem? e1)).2
    repeat k_meth
    have e5:(decide (((r.st:Nat):Int) < ((s.st:Nat):Int) + ((s.sz:Nat):Int)) && decide (((s.st:Nat):Int) < ((r.st:Nat):Int) + ((r.sz:Nat):Int)))=false:=by
     rcases ne with ne | ne
     ·rw [decide_eq_false (by omega),Bool.false_and]
     ·rw [decide_eq_false (show ¬ ((s.st:Nat):Int) < ((r.st:Nat):Int) + ((r.sz:Nat):Int) by omega),Bool.and_false]
    rw [e5]
    repeat k_meth
    exact ⟨_,rfl,F.subC⟩
   ·clear F
    rintro σ' H' ⟨_,rfl,F⟩
    repeat k_meth
    exact k _ F.sm
theorem D_need_rows (T:Txt K mg c R CL ct_Linit pt_Linit):Def P w K mg base CX0 5 "need_rows" ["many", "rows"] sp_need_rows:=by
 have D_need_row:=D_need_row (P:=P) (w:=w) (base:=base) T
 refine def_of T.d_need_rows sc_need_rows (fun vs H Q E h=>?_) (fun _ _ _ _ _ _ us hl=>match us,hl with | [_,_],_=>rfl) (fun f cdv A outer s H vs Q E hr h=>?_)
 ·obtain ⟨n,l,ys,rs,rfl,_⟩:=h
  rfl
 ·obtain ⟨n,l,ys,rs,rfl,hl,tp,ly,k⟩:=h
  have nd:=sc_need_rows.nd
  refine ⟨_,(pss_cons (ps_if (pt_not (pt_val (pe_callB call_isT rfl T.n_isinstance boot_isinstance (pa_cons (pv 1) (pa_cons (pe_ty (T := "list") rfl T.n_list boot_list) pa_nil))))) pss_never pss_nil)
   (pss_cons (ps_if (pt_cmpR op_gt (pe_callB call_lenN rfl T.n_len boot_len (pa_cons (pv 1) pa_nil)) (pe_gl T.g_MOST_BLOCKS) (nomark _)) pss_never pss_nil)
   (pss_one (ps_for PassesOwn.never rfl (pi_range1 rfl T.n_range (pa_cons (pe_callB call_lenN rfl T.n_len boot_len (pa_cons (pv 1) pa_nil)) pa_nil)) (pg_name (i:=2) nd rfl (Or.inl rfl)) (pss_one (ps_expr (pe_def D_need_row hr (pa_cons (pv 0) (pa_cons (pe_ix ix_list (pv 1) (pv 2) (fun _ _=>rfl)) (pa_cons (pe_slice sl_listA (pv 1) po_none (po_some (pv 2))) pa_nil)))))))))),?_⟩
  clear nd D_need_row
  rw [show start ["many", "rows", "at"] [.int (n:Nat),.ref l]=[some (.int (n:Nat)),some (.ref l),none] from rfl]
  try dsimp only [cx_K,cx_K2]
  have iL_many:FldOk K CL "many" := ⟨T.clL,T.aL_many⟩
  have iL_rows:FldOk K CL "rows" := ⟨T.clL,T.aL_rows⟩
  have o_hl:=Old.mk (M:=[]) hl nm0
  have o_tp:=OldP.mk tp
  have F:SH H [] H [] []:=SH.nil
  have few:=ly.few
  have yl:ys.length=rs.length:=by rw [tp.1,rowsV_len]
  repeat k_meth
  rw [show ((ys.length:Nat):Int).toNat=ys.length by omega]
  refine forR0_by (fun i σ' H'=>∃o2:Option V,σ'=[some (.int (n:Nat)),some (.ref l),o2]∧SH H [] H' [] []) ⟨_,rfl,F⟩ ?_ ?_
  ·clear F
   rintro i σ' H' hi ⟨_,rfl,F⟩
   obtain ⟨s,q1,e1,e0,e2⟩:=rowsV_at tp (i:=i) (v:=ys[i]) (by simp)
   have o_e2:=Old.mk (M:=[]) e2 nm0
   have a1:AtI ys (i:Int) (.ref q1):=⟨atI_nat (by rw [← e0];simp)⟩
   have gd:=ly.good s (List.mem_of_getElem? e1)
   have ap:∀t∈rs.take i,Apart t s:=fun t ht=>by
    have h1:=ly.ap
    obtain ⟨hi2,rfl⟩:=List.getElem?_eq_some_iff.mp e1
    obtain ⟨j,hj,rfl⟩:=List.getElem_of_mem ht
    rw [List.length_take] at hj
    rw [List.getElem_take]
    exact List.pairwise_iff_getElem.mp h1 j i (by omega) hi2 (by omega)
   have side:=And.intro gd ap
   repeat k_meth
   rw [cut_take] at F
   have tp2:TpA H_ (ys.take i) (rowsV (rs.take i)):=⟨(rows_take tp).same F.sm⟩
   repeat k_meth
   exact ⟨_,rfl,F.subC⟩
  ·clear F
   rintro σ' H' ⟨_,rfl,F⟩
   repeat k_meth
   exact k _ F.sm
end
end K73
namespace K73
open PySem L2 PyProof.Rows
local macro_rules | `(tactic| k_room)=>`(tactic| first
 | with_reducible assumption
 | with_unfolding_all exact rfl
 | with_unfolding_all exact Nat.le_of_ble_eq_true rfl
 | omega
 | (with_reducible refine small_line ?_;first | omega | (simp only [List.length_cons,List.length_nil,List.length_map,List.length_append,List.length_replicate,rowsN_len,List.length_take,List.length_drop,List.length_set];omega))
 | (with_reducible refine small_lt ?_;first | omega | (simp only [List.length_cons,List.length_nil,List.length_map,List.length_append,List.length_replicate,rowsN_len,List.length_take,List.length_drop,List.length_set];omega))
 | (simp only [List.length_cons,List.length_nil,List.length_map,List.length_append,List.length_replicate,rowsN_len,List.length_take,List.length_drop,List.length_set];omega)
 | decide)
local macro_rules | `(tactic| k_mem)=>`(tactic| first
 | with_reducible assumption
 | decide
 | omega
 | (simp only [List.length_cons,List.length_nil,List.length_map,List.length_append,List.length_replicate,rowsN_len,List.length_take,List.length_drop,List.length_set];omega))
set_option hygiene false in
local macro_rules | `(tactic| k_meth)=>`(tactic| first
 | with_reducible refine go1 ?_
 | (intro H_ a_ dx_ (F_:SH _ _ _ _ _) (ex_:ExcT _ _ _ _);clear F;(have F:=F_);clear F_;have exA_:=ExA.mk ex_)
 | (intro H_ (F_:SH _ _ _ _ _);clear F;(have F:=F_);clear F_)
 | (intro H_ p_ (F_:SH _ _ _ _ _);clear F;(have F:=F_);clear F_)
 | (intro H_ x_ dx_ (F_:SH _ _ _ _ _);clear F;(have F:=F_);clear F_)
 | (intro H_ p_ ys_ l_ (F_:SH _ _ _ _ _);clear F;(have F:=F_);clear F_)
 | with_reducible refine sd (by k_room) ?_
 | (intro (r_:Int) (x_:Int) (y_:Int) (z_:Int) lo_ hi_)
 | (intro (x_:Int) (y_:Int))
 | (intro (c_:Int))
 | with_reducible refine i_pos (by k_mem) ?_
 | with_reducible refine i_neg (by k_mem) ?_
 | with_reducible refine i_npos (by k_mem) ?_
 | with_reducible refine i_nneg (by k_mem) ?_)
def lF (n:Int) (p:Addr):List (Str×V):=putF "rows" (.ref p) (putF "many" (.int n) [])
theorem lF_many {n:Int} {p:Addr}:(lF n p).lookup ("many" : Str)=some (.int n):=by unfold lF;rw [lookup_putF,if_neg (by decide),lookup_putF,if_pos rfl]
theorem lF_rows {n:Int} {p:Addr}:(lF n p).lookup ("rows" : Str)=some (.ref p):=by unfold lF;rw [lookup_putF,if_pos rfl]
theorem lF_none {n:Int} {p:Addr} {m:Str} (h1:m ≠ "rows") (h2:m ≠ "many"):(lF n p).lookup m=none:=by unfold lF;rw [lookup_putF,if_neg h1,lookup_putF,if_neg h2];rfl
class LayA (n:Nat) (rs:List Rw) (as:outParam (List Rw)):Prop where
 p:rs.Perm as
 l:Lay n as
 a:Asc as
def sp_Linit (CL P:Addr) (pos:Pos) (qual:Str):Sp:=fun vs H Q _=>∃(x dx l:Addr) (n:Nat) (ys:List V) (rs as:List Rw) (ps:Array Value),vs=[.ref x,.int (n:Nat),.ref l]∧H x=some (.ins CL dx [])∧H l=some (.lst ys)∧TupsAt H ys (rowsV rs)∧LayA n rs as∧16≤n∧n≤240∧H P=some (.tbl ps)∧TabOk pos qual ps H ∧
 ∀(p:Addr) (zs:List V) (ps':Array Value) (H':Hp),(∀b u,b≠x→b≠P→H b=some u→H' b=some u)→H' x=some (.ins CL dx (lF n p))→H' p=some (.lst zs)→TupsAt H' zs (rowsV as)→(∀b u,H b=some u→b≠p)→H' P=some (.tbl ps')→TabOk pos qual ps' H'→Q .non H'
def sp_Lblocks (CL:Addr):Sp:=fun vs H Q _=>∃(x p dx:Addr) (n:Nat) (zs:List V),vs=[.ref x]∧H x=some (.ins CL dx (lF (n:Nat) p))∧H p=some (.lst zs)∧∀q H',New H H' q (.lst zs)→Q (.ref q) H'
section
variable {CL P x dx l p:Addr} {pos:Pos} {qual:Str} {H H0:Hp} {M:List Addr} {L:List (Addr×HO)} {I:List Im} {Q:VK} {E:XK} {n:Nat} {m:Int} {ys zs:List V} {rs as:List Rw} {ps:Array Value}
instance ll_many:FLk (lF m p) "many" (.int m):=⟨lF_many⟩
instance ll_rows:FLk (lF m p) "rows" (.ref p):=⟨lF_rows⟩
instance ln_blocks:FNo (lF m p) "blocks" := ⟨lF_none (by decide) (by decide)⟩
instance go_Lblocks [h:Hat H x (.ins CL dx (lF (n:Nat) p))] [h2:Hat H p (.lst zs)]:Go (sp_Lblocks CL [.ref x] H Q E) (∀q H',New H H' q (.lst zs)→Q (.ref q) H'):=⟨fun k=>⟨x,p,dx,n,zs,rfl,h.e,h2.e,k⟩⟩
instance go_Linit [h:Hat H x (.ins CL dx [])] [h2:Hat H l (.lst ys)] [t:TpA H ys (rowsV rs)] [e:Hat H P (.tbl ps)] [F:SH H0 M H L I] [tb:TabA I pos qual ps] [la:LayA n rs as]:Go (sp_Linit CL P pos qual [.ref x,.int (n:Nat),.ref l] H Q E)
  (Sd (16≤n∧n≤240) (∀(ps':Array Value) (H1:Hp),Kp P H H1→H1 P=some (.tbl ps')→TabOk pos qual ps' H1→∀(p:Addr) (zs:List V) (H2:Hp),New H1 H2 p (.lst zs)→TupsAt H2 zs (rowsV as)→∀H3,Off x H2 H3→H3 x=some (.ins CL dx (lF n p))→Q .non H3)):=by
 refine ⟨fun s=>⟨x,dx,l,n,ys,rs,as,ps,rfl,h.e,h2.e,t.e,la,s.1.1,s.1.2,e.e,F.im _ tb.m,fun p zs ps' H' keep ex ep tz fr eP tk=>?_⟩⟩
 have hx:=h.e
 have hP:=e.e
 have nxp:x≠p:=fr x _ hx
 have nPp:P≠p:=fr P _ hP
 have nPx:P≠x:=fun z=>by rw [z,hx] at hP;cases hP
 let H2:Hp:=fun b=>if b=x then H x else H' b
 let H1:Hp:=fun b=>if b=p then none else H2 b
 have h2x:H2 x=H x:=if_pos rfl
 have h2n:∀{b:Addr},b≠x→H2 b=H' b:=fun n=>if_neg n
 have h1n:∀{b:Addr},b≠p→H1 b=H2 b:=fun n=>if_neg n
 refine s.2 ps' H1 (fun b u nb eb=>?_) ?_ ?_ p zs H2 ⟨fun b u eb=>?_,?_,fun b u eb z=>?_⟩ ?_ H' (fun b nb=>(h2n nb).symm) ex
 ·have n1:b≠p:=fr b u eb
  rw [h1n n1]
  by_cases hb:b=x
  ·rw [hb,h2x,← hb]
   exact eb
  ·rw [h2n hb]
   exact keep b u hb nb eb
 ·rw [h1n nPp,h2n nPx]
  exact eP
 ·rcases tk with tk | ⟨c',oc,vs,t',e1,e2,e3⟩
  ·exact .inl tk
  ·refine .inr ⟨c',oc,vs,t',e1,?_,e3⟩
   have n1:c'≠p:=fun z=>by rw [z,ep] at e2;cases e2
   have n2:c'≠x:=fun z=>by rw [z,ex] at e2;cases e2
   rw [h1n n1,h2n n2]
   exact e2
 ·by_cases hb:b=p
  ·have:H1 b=none:=if_pos hb
   rw [this] at eb
   cases eb
  ·rw [h1n hb] at eb
   exact eb
 ·rw [h2n (Ne.symm nxp)]
  exact ep
 ·have:H1 b=none:=if_pos z
  rw [this] at eb
  cases eb
 ·refine ⟨tz.1,fun j r ej=>?_⟩
  obtain ⟨q,e1,e2⟩:=tz.2 j r ej
  refine ⟨q,e1,?_⟩
  rw [h2n (fun z=>by rw [z,ex] at e2;cases e2)]
  exact e2
end
abbrev lamPos:Pos:=⟨100,37,100,55⟩
abbrev lamQual:Str := "Layout.__init__.<locals>.<lambda>"
section
variable {P:Program} {w:World} {K:W.Frag} {mg:Str→Option Value} {base:Heap} {c:Nat→Addr} {ct_Linit pt_Linit R CL:Addr}
theorem MK_Linit (T:Txt K mg c R CL ct_Linit pt_Linit) (B:Bm mg base):Mak P w K mg base CX0 6 "Layout" CL ["self", "many", "rows"] (sp_Linit CL pt_Linit lamPos lamQual):=by
 have D_need_rows:=D_need_rows (P:=P) (w:=w) (base:=base) T
 have D_is_many:=D_is_many (P:=P) (w:=w) (base:=base) T
 obtain ⟨f,hf,hm⟩:=T.f_Linit
 refine (fn_tellsC (k:=5) hf sc_Linit (fun vs H Q E h=>?_) (fun _ _ _ _ _ _ us hl=>match us,hl with | [_,_,_],_=>rfl) (fun f A outer s H vs Q E hr h=>?_)).mak hm T.gc_Layout
 ·obtain ⟨x,dx,l,n,ys,rs,as,ps,rfl,_⟩:=h
  rfl
 ·obtain ⟨x,dx,l,n,ys,rs,as,ps,rfl,hx,hl,tp,la,h16,h240,hP,tk,k⟩:=h
  have nd:=sc_Linit.nd
  refine ⟨_,(pss_cons (ps_if (pt_not (pt_val (pe_def D_is_many hr (pa_cons (pv 1) pa_nil)))) pss_never pss_nil)
   (pss_cons (ps_expr (pe_def D_need_rows hr (pa_cons (pv 1) (pa_cons (pv 2) pa_nil))))
   (pss_cons (ps_fld (pv 0) (pv 1) rfl)
   (pss_one (ps_fld (pv 0) (pe_ckw (call_sortK rfl hr) rfl T.n_sorted boot_sorted (pa_cons (pv 2) pa_nil) (pe_lam (qual:=lamQual) B rfl T.tab_Linit (by with_unfolding_all rfl) ⟨rfl,rfl,rfl,by with_unfolding_all rfl,by decide +kernel,by decide⟩)) rfl))))),?_⟩
  clear nd D_need_rows D_is_many
  rw [show start ["self", "many", "rows"] [.ref x,.int (n:Nat),.ref l]=[some (.ref x),some (.int (n:Nat)),some (.ref l)] from rfl]
  try dsimp only [cx_K,cx_K2]
  have iL_many:FldOk K CL "many" := ⟨T.clL,T.aL_many⟩
  have iL_rows:FldOk K CL "rows" := ⟨T.clL,T.aL_rows⟩
  have nxP:x≠pt_Linit:=fun z=>by rw [z,hP] at hx;cases hx
  have nlx:l≠x:=fun z=>by rw [z,hx] at hl;cases hl
  have nlP:l≠pt_Linit:=fun z=>by rw [z,hP] at hl;cases hl
  have nm2:∀{b:Addr},b≠x→b≠pt_Linit→b ∉ [x,pt_Linit]:=fun a b z=>by
   rcases List.mem_cons.mp z with z | z
   ·exact a z
   ·exact b (List.mem_singleton.mp z)
  have F:SH H [x,pt_Linit] H [(x,.ins CL dx []),(pt_Linit,.tbl ps)] [.tps ys (rowsV rs),TabI lamPos lamQual ps]:=(((SH.nil.addM (List.mem_cons_of_mem _ List.mem_cons_self) hP rfl (by simp)).addM List.mem_cons_self hx rfl (by simp [Ne.symm nxP])).addF tk).addP tp
  have o_hl:=Old.mk (M:=[x,pt_Linit]) hl (nm2 nlx nlP)
  have ly:=la.l.perm la.p.symm
  have few:=ly.few
  have e1:(decide (16≤(n:Int)) && decide ((n:Int)≤240))=true:=by rw [decide_eq_true (by omega),decide_eq_true (by omega)];rfl
  repeat k_meth
  rw [e1]
  repeat k_meth
  intro f_ ps_
  repeat k_meth
  intro D zs H8 n8 so
  have t8:=sort_rows (H:=H_) TpA.e la.p (la.a.lt la.l.good) so
  replace F:=F.newR n8 (t8.same n8.s)
  repeat k_meth
  exact k D zs ps_ _ (fun b u n1 n2 e=>F.fr b u (nm2 n1 n2) e) hatC hatC TpA.e (F.fresh (LkL.m (o:=.lst zs)) (nm2 (SH.neC (F:=F)) (SH.neC (F:=F)))) hatC SH.tab
theorem MT_Lblocks (T:Txt K mg c R CL ct_Linit pt_Linit):Met P w K mg base CX0 1 CL "blocks" ["self"] (sp_Lblocks CL):=by
 obtain ⟨f,hf,hm⟩:=T.f_Lblocks
 refine (fn_tells (k:=0) hf sc_Lblocks (fun vs H Q E h=>?_) (fun _ _ _ _ _ _ us hl=>match us,hl with | [_],_=>rfl) (fun f cdv A outer s H vs Q E hr h=>?_)).met hm
 ·obtain ⟨x,p,dx,n,zs,rfl,_⟩:=h
  rfl
 ·obtain ⟨x,p,dx,n,zs,rfl,hx,hp,k⟩:=h
  have nd:=sc_Lblocks.nd
  refine ⟨_,(pss_one (ps_ret (pe_callTy call_list_ofA rfl T.n_list boot_list (pa_cons (pe_fld (pv 0) rfl) pa_nil)))),?_⟩
  clear nd 
  rw [show start ["self"] [.ref x]=[some (.ref x)] from rfl]
  try dsimp only [cx_K,cx_K2]
  have iL_many:FldOk K CL "many" := ⟨T.clL,T.aL_many⟩
  have iL_rows:FldOk K CL "rows" := ⟨T.clL,T.aL_rows⟩
  have o_hx:=Old.mk (M:=[]) hx nm0
  have o_hp:=Old.mk (M:=[]) hp nm0
  have F:SH H [] H [] []:=SH.nil
  repeat k_meth
  exact k _ _ SH.nwC
end
def sp_names:Sp:=fun vs H Q _=>∃(bx:Addr) (x y z:Int) (m:Nat),vs=[.ref bx,.int (m:Nat)]∧H bx=some (.lst [.int x,.int y,.int z])∧m≤40∧∀(x' y' z':Int) (nms:List (List Nat)) (p:Addr) (H':Hp),nms.length=m→(∀cs∈nms,NameOk cs)→nms.Nodup→Kp bx H H'→H' bx=some (.lst [.int x',.int y',.int z'])→H' p=some (.lst (nms.map fun cs=>.str (tx cs)))→(∀b u,H b=some u→b≠p)→Q (.ref p) H'
def sp_lrows:Sp:=fun vs H Q _=>∃(bx:Addr) (x y z:Int) (n:Nat),vs=[.ref bx,.int (n:Nat)]∧H bx=some (.lst [.int x,.int y,.int z])∧16≤n∧n≤240∧∀(x' y' z':Int) (rs:List Rw) (p:Addr) (ys:List V) (H':Hp),Lay n rs→Asc rs→Kp bx H H'→H' bx=some (.lst [.int x',.int y',.int z'])→H' p=some (.lst ys)→TupsAt H' ys (rowsV rs)→(∀b u,H b=some u→b≠p)→Q (.ref p) H'
theorem two_steps {H H':Hp} {bx p:Addr} {b3 o:HO} {R:Hp→Prop} (hb:∃u,H bx=some u) (kp:Kp bx H H') (eb:H' bx=some b3) (ep:H' p=some o) (fr:∀b u,H b=some u→b≠p) (k:∀H1,Kp bx H H1→H1 bx=some b3→New H1 H' p o→R H'):R H':=by
 obtain ⟨u0,hb⟩:=hb
 have nb:bx≠p:=fr bx _ hb
 have h1:∀{b:Addr},b≠p→(fun b=>if b=p then none else H' b:Hp) b=H' b:=fun n=>if_neg n
 refine k (fun b=>if b=p then none else H' b) (fun b u n e=>?_) ?_ ⟨fun b u e=>?_,ep,fun b u e z=>?_⟩
 ·rw [h1 (fr b u e)]
  exact kp b u n e
 ·exact (h1 nb).trans eb
 ·have e:(if b=p then none else H' b)=some u:=e
  split at e
  ·cases e
  ·exact e
 ·have e:(if b=p then none else H' b)=some u:=e
  rw [if_pos z] at e
  cases e
section
variable {bx l:Addr} {x y z:Int} {H:Hp} {Q:VK} {E:XK} {n m:Nat} {ys:List V} {rs:List Rw}
instance go_names [h:Hat H bx (.lst [.int x,.int y,.int z])]:Go (sp_names [.ref bx,.int (m:Nat)] H Q E) (Sd (m≤40) (∀(x' y' z':Int) (nms:List (List Nat)),nms.length=m→(∀cs∈nms,NameOk cs)→nms.Nodup→∀H1,Kp bx H H1→H1 bx=some (.lst [.int x',.int y',.int z'])→∀p H2,New H1 H2 p (.lst (nms.map fun cs=>.str (tx cs)))→Q (.ref p) H2)) :=
 ⟨fun s=>⟨bx,x,y,z,m,rfl,h.e,s.1,fun x' y' z' nms p H' h1 h2 h3 f e e2 fr=>two_steps (R:=fun H'=>Q (.ref p) H') ⟨_,h.e⟩ f e e2 fr fun H1 f1 e1 n1=>s.2 x' y' z' nms h1 h2 h3 H1 f1 e1 p H' n1⟩⟩
instance go_lrows [h:Hat H bx (.lst [.int x,.int y,.int z])]:Go (sp_lrows [.ref bx,.int (n:Nat)] H Q E) (Sd (16≤n∧n≤240) (∀(x' y' z':Int) (rs:List Rw),Lay n rs→Asc rs→∀H1,Kp bx H H1→H1 bx=some (.lst [.int x',.int y',.int z'])→∀p ys H2,New H1 H2 p (.lst ys)→TupsAt H2 ys (rowsV rs)→Q (.ref p) H2)) :=
 ⟨fun s=>⟨bx,x,y,z,n,rfl,h.e,s.1.1,s.1.2,fun x' y' z' rs p ys H' h1 h2 f e e2 t fr=>two_steps (R:=fun H'=>Q (.ref p) H') ⟨_,h.e⟩ f e e2 fr fun H1 f1 e1 n1=>s.2 x' y' z' rs h1 h2 H1 f1 e1 p ys H' n1 t⟩⟩
end
def letter (s:Nat):Nat:=97 + s % 26
theorem letter_at {s:Int} {c:Nat} (h0:0≤s) (h:(List.range' 97 26)[(s % 26).toNat]?=some c):c=letter s.toNat:=by
 have h1:(s % 26).toNat < 26:=by omega
 rw [List.getElem?_eq_getElem (by simpa using h1),List.getElem_range'] at h
 have:=Option.some.inj h
 unfold letter
 omega
theorem letter_low (s:Nat):isLow (letter s)=true:=by
 unfold isLow letter
 rw [decide_eq_true (by omega),decide_eq_true (by omega)]
 rfl
def nameA (s:Nat) (tl:List Nat) (k:Nat):List Nat:=[letter (s + k / 8)]++tl.take (k % 8)
theorem nodup_of {nms:List (List Nat)} (h:∀(i j:Nat) a b,i < j→nms[i]?=some a→nms[j]?=some b→a≠b):nms.Nodup:=by
 rw [List.Nodup,List.pairwise_iff_getElem]
 intro i j hi hj hij
 exact h i j _ _ hij (by simp) (by simp)
theorem join_one:∀cs:List Nat,Str.join (Str.ofString "") (cs.map fun c=>tx [c])=tx cs:=by
 have e0:Str.ofString "" = tx []:=by decide +kernel
 rw [e0]
 intro cs
 induction cs with
 | nil=>rfl
 | cons c t ih =>
  cases t with
  | nil=>rfl
  | cons d u =>
   show tx [c]++tx []++Str.join (tx []) ((d::u).map fun c=>tx [c])=_
   rw [ih,append_tx,append_tx]
   rfl
instance go_join {K:W.Frag} {H:Hp} {Q:VK} {p:Addr} {cs:List Nat} [h:SqA K H p (cs.map fun c=>V.str (tx [c]))]:Go (rJoin K (.str (Str.ofString "")) [.ref p] H Q) (Sd (cs.length≤1000) (Q (.str (tx cs)) H)):=⟨fun s=>⟨_,p,cs.map fun c=>tx [c],rfl,rfl,by rw [List.map_map];exact h.e,by decide,by
 rw [List.map_map,List.length_map]
 have:(cs.map ((fun t:Str=>t.length) ∘ fun c=>tx [c]))=cs.map fun _=>1:=rfl
 rw [this,List.map_const']
 have hs:(List.replicate cs.length 1).sum=cs.length:=by simp
 have:=s.1
 omega,by rw [join_one];exact s.2⟩⟩
instance go_tyS {K:W.Frag} {H:Hp} {z:Str} {R:Prop}:Go (tyV K "str" (.str z) H∧R) R:=⟨fun k=>⟨by first | exact .inr (.inr rfl) | exact .inr rfl | exact ⟨_,rfl⟩ | trivial,k⟩⟩
structure TailOk7 (tl:List Nat):Prop where
 len:tl.length=7
 hd:∀c,tl[0]?=some c→c∈[97,98,122]
 all:∀c∈tl,c∈[97,98,122,48,49,57,113]
theorem TailOk7.sgn {tl:List Nat} (h:TailOk7 tl):∀c∈tl,(isLow c || isFig c)=true:=fun c hc=>by
 have:=h.all c hc
 simp only [List.mem_cons,List.not_mem_nil,or_false] at this
 rcases this with rfl | rfl | rfl | rfl | rfl | rfl | rfl <;> rfl
def nameC (s:Nat) (tl:List Nat) (k r:Nat):List Nat:=([letter (s + 5 * k)]++List.replicate (k / 26) 48)++tl.take r
theorem nameA_ok7 {s k:Nat} {tl:List Nat} (h:TailOk7 tl):NameOk (nameA s tl k):=by
 refine ⟨?_,?_,fun c hc=>?_,fun c hc=>?_⟩
 ·simp [nameA]
 ·simp only [nameA,List.length_append,List.length_singleton,List.length_take]
  omega
 ·have:some (letter (s + k / 8))=some c:=hc
  cases this
  exact letter_low _
 ·rcases List.mem_append.mp hc with hc | hc
  ·rw [List.mem_singleton.mp hc,letter_low]
   rfl
  ·exact h.sgn c (List.mem_of_mem_take hc)
theorem nameC_ok {s k r:Nat} {tl:List Nat} (h:TailOk7 tl) (hr:r < 7) (hk:k < 52):NameOk (nameC s tl k r):=by
 refine ⟨?_,?_,fun c hc=>?_,fun c hc=>?_⟩
 ·simp [nameC]
 ·simp only [nameC,List.length_append,List.length_singleton,List.length_take,List.length_replicate]
  omega
 ·have:some (letter (s + 5 * k))=some c:=hc
  cases this
  exact letter_low _
 ·rcases List.mem_append.mp hc with hc | hc
  ·rcases List.mem_append.mp hc with hc | hc
   ·rw [List.mem_singleton.mp hc,letter_low]
    rfl
   ·rw [(List.mem_replicate.mp hc).2]
    rfl
  ·exact h.sgn c (List.mem_of_mem_take hc)
theorem nameA_inj7 {s:Nat} {tl:List Nat} (h:tl.length=7) {i j:Nat} (hi:i < 40) (hj:j < 40) (e:nameA s tl i=nameA s tl j):i=j:=by
 have e1:=congrArg List.length e
 simp only [nameA,List.length_append,List.length_singleton,List.length_take,h] at e1
 have e2:letter (s + i / 8)=letter (s + j / 8):=by
  have:=congrArg (fun l:List Nat=>l[0]?) e
  exact Option.some.inj this
 unfold letter at e2
 omega
theorem nameC_inj {s:Nat} {tl:List Nat} (h:TailOk7 tl) {i j r t:Nat} (hi:i < 40) (hj:j < 40) (hij:i < j) (e:nameC s tl i r=nameC s tl j t):False:=by
 have e2:letter (s + 5 * i)=letter (s + 5 * j):=by
  have:=congrArg (fun l:List Nat=>l[0]?) e
  exact Option.some.inj this
 unfold letter at e2
 have e3:j=i + 26:=by omega
 have e4:i / 26=0:=by omega
 have e5:j / 26=1:=by omega
 have e6:tl.take r=[48]++tl.take t:=by
  unfold nameC at e
  rw [e4,e5] at e
  simp only [List.replicate,List.append_nil,List.cons_append,List.nil_append,List.cons.injEq] at e
  exact e.2
 cases tl with
 | nil=>have:=h.len;simp at this
 | cons c u =>
  cases r with
  | zero=>simp at e6
  | succ r =>
   have e7:c=48:=by
    have:=congrArg (fun l:List Nat=>l[0]?) e6
    simpa using this
   have:=h.hd c rfl
   rw [e7] at this
   simp at this
section
variable {P:Program} {w:World} {K:W.Frag} {mg:Str→Option Value} {base:Heap} {c:Nat→Addr} {ct_Linit pt_Linit R CL:Addr}
theorem D_names (T:Txt K mg c R CL ct_Linit pt_Linit):Def P w K mg base CX0 2 "_law_names" ["_law_box_here", "_law_many_here"] sp_names:=by
 have D_take:=D_take (P:=P) (w:=w) (base:=base) T
 refine def_of T.d_names sc_names (fun vs H Q E h=>?_) (fun _ _ _ _ _ _ us hl=>match us,hl with | [_,_],_=>rfl) (fun f cdv A outer s H vs Q E hr h=>?_)
 ·obtain ⟨bx,x,y,z,m,rfl,_⟩:=h
  rfl
 ·obtain ⟨bx,x,y,z,m,rfl,hbx,h40,k⟩:=h
  have nd:=sc_names.nd
  refine ⟨_,(pss_cons (ps_set (i:=2) nd rfl (Or.inr rfl) pe_str)
   (pss_cons (ps_set (i:=3) nd rfl (Or.inr rfl) (pe_op op_addS (pe_ix ix_str pe_str (pe_def D_take hr (pa_cons (pv 0) (pa_cons pe_int pa_nil))) (fun _ _=>rfl)) (pe_join pe_str (pe_comp (N:=["_law_k", "_law_box_here"]) (nt:=1) (fr:=[0]) (pi_range1 rfl T.n_range (pa_cons pe_int pa_nil)) (fun _ _ _ _=>(pg_name (i:=0) (show (["_law_k", "_law_box_here"]:List Str).Nodup from by decide +kernel) rfl (Or.inl rfl))) (fun _ _ _ _=>pif_nil) (fun _ _ _ _=>(pe_ix ix_str pe_str (pe_def D_take hr (pa_cons (pv 1) (pa_cons pe_int pa_nil))) (fun _ _=>rfl)))))))
   (pss_cons (ps_set (i:=4) nd rfl (Or.inr rfl) (pe_def D_take hr (pa_cons (pv 0) (pa_cons pe_int pa_nil))))
   (pss_cons (ps_if (pt_cmpR op_eq (pe_def D_take hr (pa_cons (pv 0) (pa_cons pe_int pa_nil))) pe_int (nomark _)) (pss_one (ps_ret (pe_comp (N:=["_law_k", "_law_letters", "_law_tail", "_law_first_here"]) (nt:=1) (fr:=[2,3,4]) (pi_range1 rfl T.n_range (pa_cons (pv 1) pa_nil)) (fun _ _ _ _=>(pg_name (i:=0) (show (["_law_k", "_law_letters", "_law_tail", "_law_first_here"]:List Str).Nodup from by decide +kernel) rfl (Or.inl rfl))) (fun _ _ _ _=>pif_nil) (fun _ _ _ _=>(pe_op op_addS (pe_ix ix_str (pv 1) (pe_op op_mod (pe_op op_add (pv 3) (pe_op op_fdiv (pv 0) pe_int)) pe_int) (fun _ _=>rfl)) (pe_slS (pv 2) (pe_op op_mod (pv 0) pe_int))))))) pss_nil)
   (pss_cons (ps_set (i:=5) nd rfl (Or.inl rfl) (pe_lstA pa_nil))
   (pss_cons (ps_for PassesOwn.never rfl (pi_range1 rfl T.n_range (pa_cons (pv 1) pa_nil)) (pg_name (i:=6) nd rfl (Or.inl rfl)) (pss_cons (ps_set (i:=7) nd rfl (Or.inl rfl) (pe_op op_addS (pe_ix ix_str (pv 2) (pe_op op_mod (pe_op op_add (pv 4) (pe_op op_mul pe_int (pv 6))) pe_int) (fun _ _=>rfl)) (pe_op op_mulS pe_str (pe_op op_fdiv (pv 6) pe_int))))
    (pss_one (ps_expr (pe_appendA (pv 5) (pe_op op_addS (pv 7) (pe_slS (pv 3) (pe_def D_take hr (pa_cons (pv 0) (pa_cons pe_int pa_nil))))))))))
   (pss_one (ps_ret (pv 5))))))))),?_⟩
  clear nd D_take
  rw [show start ["_law_box_here", "_law_many_here", "_law_letters", "_law_tail", "_law_first_here", "_law_names_here", "_law_k", "_law_name"] [.ref bx,.int (m:Nat)]=[some (.ref bx),some (.int (m:Nat)),none,none,none,none,none,none] from rfl]
  try dsimp only [cx_K,cx_K2]
  have iL_many:FldOk K CL "many" := ⟨T.clL,T.aL_many⟩
  have iL_rows:FldOk K CL "rows" := ⟨T.clL,T.aL_rows⟩
  have F:SH H [bx] H [(bx,.lst [.int x,.int y,.int z])] []:=SH.nil.addM List.mem_cons_self hbx rfl (by simp)
  rw [show Str.ofString "abcdefghijklmnopqrstuvwxyz" = tx (List.range' 97 26) by decide +kernel,show Str.ofString "abz" = tx [97,98,122] by decide +kernel,show Str.ofString "abz019q" = tx [97,98,122,48,49,57,113] by decide +kernel,show Str.ofString "0" = tx [48] by decide +kernel]
  repeat k_meth
  intro c0 hc0
  have hc0:=List.mem_of_getElem? hc0
  repeat k_meth
  have e26:(List.range' 97 26).length=26:=by simp
  refine go_compR (n:=6) (fvs:=[some (.ref bx)]) (fun acc i ys H'=>∃(cs:List Nat) (x y z:Int),cs.length=i∧(∀c∈cs,c∈[97,98,122,48,49,57,113])∧ys=cs.map (fun c=>V.str (tx [c]))∧SH H [bx] H' [(acc,.lst ys),(bx,.lst [.int x,.int y,.int z])] []) (rda_cons rd_c rda_nil) (by decide) rfl (fun acc H' n=>⟨[],x_,y_,z_,rfl,by simp,rfl,F.newL n⟩) ?_ ?_ ?_
  ·clear F
   rintro acc i ys H' ⟨cs,x,y,z,h1,_,rfl,F⟩
   exact ⟨hatC,by rw [List.length_map];exact h1⟩
  ·clear F
   rintro acc i ys H' R hi ⟨cs,x,y,z,h1,h2,rfl,F⟩ kk
   repeat k_meth
   intro c hc
   refine kk _ _ hatC ?_
   repeat k_meth
   refine ⟨cs++[c],_,_,_,by simp [h1],fun d hd=>?_,by simp,F⟩
   rcases List.mem_append.mp hd with hd | hd
   ·exact h2 d hd
   ·rw [List.mem_singleton.mp hd]
    exact List.mem_of_getElem? hc
  ·clear F
   rintro acc ys H' ⟨tl0,x,y,z,h1,h2,rfl,F⟩
   repeat k_meth
   generalize htl:[c0]++tl0=tl
   have tk:TailOk7 tl:=by
    subst htl
    refine ⟨by simp [h1],fun c hc=>?_,fun c hc=>?_⟩
    ·have:some c0=some c:=hc
     cases this
     exact hc0
    ·rcases List.mem_append.mp hc with hc | hc
     ·rw [List.mem_singleton.mp hc]
      simp only [List.mem_cons,List.not_mem_nil,or_false] at hc0 ⊢
      omega
     ·exact h2 c hc
   have h7:=tk.len
   rename_i sh _ _ _ sh0 _ _
   refine i_dec (fun h=>?_) (fun h=>?_)
   ·repeat k_meth
    refine go_map_range (n:=m) (fvs:=[some (.str (tx (List.range' 97 26))),some (.str (tx tl)),some (.int sh)]) (F:=fun j=>V.str (tx (nameA sh.toNat tl j))) (rda_cons (rd_var rfl) rda_nil) (by omega) (by omega) rfl (fun i H' hi s8 Q8 q8=>?_) ?_
    ·repeat k_meth
     intro c hc
     have e3:=letter_at (by omega) hc
     subst e3
     repeat k_meth
     have e4:[letter (sh + (i:Int) / 8).toNat]++tl.take ((i:Int) % 8).toNat=nameA sh.toNat tl i:=by
      unfold nameA
      rw [show (sh + (i:Int) / 8).toNat=sh.toNat + i / 8 by omega,show ((i:Int) % 8).toNat=i % 8 by omega]
     rw [e4]
     exact q8
    ·repeat k_meth
     have e5:(List.range m).map (fun j=>V.str (tx (nameA sh.toNat tl j)))=((List.range m).map (nameA sh.toNat tl)).map fun cs=>V.str (tx cs):=by
      rw [List.map_map]
      rfl
     rw [e5] at F
     refine k _ _ _ _ _ _ (by simp) (fun cs hcs=>?_) (nodup_of fun i j a b hij ha hb z=>?_) F.kpo hatC hatC (F.fresh (LkL.m (o:=.lst _)) (nm1 (SH.neC (F:=F))))
     ·obtain ⟨j,_,rfl⟩:=List.mem_map.mp hcs
      exact nameA_ok7 tk
     ·have h3:=(List.getElem?_eq_some_iff.mp hb).1
      rw [List.length_map,List.length_range] at h3
      rw [List.getElem?_map,List.getElem?_range (by omega)] at ha hb
      cases ha
      cases hb
      have:=nameA_inj7 h7 (by omega) (by omega) z
      omega
   ·repeat k_meth
    rename Addr=>nl
    rw [show ((m:Nat):Int).toNat=m by omega]
    refine forR0_by (fun i σ' H'=>∃(o6 o7:Option V) (nms:List (List Nat)) (x y z:Int),σ'=[some (.ref bx),some (.int (m:Nat)),some (.str (tx (List.range' 97 26))),some (.str (tx tl)),some (.int sh),some (.ref nl),o6,o7]∧nms.length=i∧(∀(j:Nat) cs,nms[j]?=some cs→∃r,r < 7∧cs=nameC sh.toNat tl j r)∧SH H [bx] H' [(nl,.lst (nms.map fun cs=>V.str (tx cs))),(bx,.lst [.int x,.int y,.int z])] []) ⟨_,_,[],_,_,_,rfl,rfl,fun j cs e=>by simp at e,F.subC (L':=[(nl,.lst []),(bx,.lst [.int x_,.int y_,.int z_])])⟩ ?_ ?_
    ·clear F
     rintro i σ' H' hi ⟨_,_,nms,x,y,z,rfl,hl,hn,F⟩
     repeat k_meth
     intro c hc
     have e3:=letter_at (by omega) hc
     subst e3
     repeat k_meth
     refine ⟨_,_,nms++[nameC sh.toNat tl i r_.toNat],x_,y_,z_,rfl,by simp [hl],fun j cs e=>?_,?_⟩
     ·by_cases hj:j < nms.length
      ·rw [List.getElem?_append_left hj] at e
       exact hn j cs e
      ·have hj2:=(List.getElem?_eq_some_iff.mp e).1
       rw [List.length_append,List.length_singleton] at hj2
       obtain rfl:j=i:=by omega
       rw [List.getElem?_append_right (by omega),hl,Nat.sub_self] at e
       cases e
       exact ⟨r_.toNat,by omega,rfl⟩
     ·have e4:[letter (sh + 5 * (i:Int)).toNat]++List.replicate ((i:Int) / 26).toNat 48++tl.take r_.toNat=nameC sh.toNat tl i r_.toNat:=by
       unfold nameC
       rw [show (sh + 5 * (i:Int)).toNat=sh.toNat + 5 * i by omega,show ((i:Int) / 26).toNat=i / 26 by omega]
      rw [e4] at F
      rw [List.map_append]
      exact F
    ·clear F
     rintro σ' H' ⟨_,_,nms,x,y,z,rfl,hl,hn,F⟩
     repeat k_meth
     refine k _ _ _ nms _ _ hl (fun cs hcs=>?_) (nodup_of fun i j a b hij ha hb z=>?_) F.kpo hatC hatC (F.fresh (LkL.m (o:=.lst _)) (nm1 (SH.neC (F:=F))))
     ·obtain ⟨j,hj,e⟩:=List.getElem_of_mem hcs
      obtain ⟨r,hr,rfl⟩:=hn j cs (by rw [← e];simp)
      exact nameC_ok tk hr (by omega)
     ·have h3:=(List.getElem?_eq_some_iff.mp hb).1
      obtain ⟨r,hr,rfl⟩:=hn i a ha
      obtain ⟨t,ht,rfl⟩:=hn j b hb
      exact nameC_inj tk (by omega) (by omega) hij z
end
theorem pickL {v:V} {xs:List Int} {lo hi:Int} (hv:v∈xs.map V.int) (h:∀a∈xs,lo≤a∧a < hi) (h0:0≤lo):∃g:Nat,v=.int (g:Nat)∧lo≤(g:Int)∧(g:Int) < hi:=by
 obtain ⟨a,ha,rfl⟩:=List.mem_map.mp hv
 have:=h a ha
 exact ⟨a.toNat,by congr 1;omega,by omega,by omega⟩
theorem pickL4 {v:V} {a b c d lo hi:Int} (hv:v∈[V.int a,V.int b,V.int c,V.int d]) (h:0≤lo∧(lo≤a∧a < hi)∧(lo≤b∧b < hi)∧(lo≤c∧c < hi)∧(lo≤d∧d < hi)):∃g:Nat,v=.int (g:Nat)∧lo≤(g:Int)∧(g:Int) < hi :=
 pickL (xs:=[a,b,c,d]) hv (fun z hz=>by
  simp only [List.mem_cons,List.not_mem_nil,or_false] at hz
  rcases hz with rfl | rfl | rfl | rfl
  ·exact h.2.1
  ·exact h.2.2.1
  ·exact h.2.2.2.1
  ·exact h.2.2.2.2) h.1
theorem lay_of {n at_:Nat} {rs:List Rw} {nms:List (List Nat)} (h1:at_≤n) (as:Asc rs) (ok:∀r∈rs,NameOk r.nm∧1≤r.sz∧r.st + r.sz≤at_) (sb:(rs.map (·.nm)).Sublist nms) (nd:nms.Nodup) (h40:nms.length≤40):Lay n rs:=by
 refine ⟨fun r hr=>⟨(ok r hr).1,(ok r hr).2.1,by have:=(ok r hr).2.2;omega⟩,?_,?_⟩
 ·have h2:rs.Pairwise fun r s=>r.nm≠s.nm:=List.pairwise_map.mp (nd.sublist sb)
  exact h2.imp₂ (fun a b h3 h4=>⟨h3,.inl h4⟩) as
 ·have:=sb.length_le
  rw [List.length_map] at this
  omega
theorem asc_snoc {rs:List Rw} {r:Rw} {at_:Nat} (h:Asc rs) (ok:∀s∈rs,s.st + s.sz≤at_) (hr:at_≤r.st):Asc (rs++[r]):=by
 unfold Asc
 rw [List.pairwise_append]
 refine ⟨h,List.pairwise_singleton _ _,fun a ha b hb=>?_⟩
 rw [List.mem_singleton.mp hb]
 have:=ok a ha
 omega
theorem rowsV_snoc (rs:List Rw) (r:Rw):rowsV (rs++[r])=rowsV rs++[rowV r]:=by unfold rowsV;rw [List.map_append];rfl
section
variable {P:Program} {w:World} {K:W.Frag} {mg:Str→Option Value} {base:Heap} {c:Nat→Addr} {ct_Linit pt_Linit R CL:Addr}
theorem D_rows (T:Txt K mg c R CL ct_Linit pt_Linit):Def P w K mg base CX0 3 "_law_rows" ["_law_box_here", "_law_many_here"] sp_lrows:=by
 have D_names:=D_names (P:=P) (w:=w) (base:=base) T
 have D_take:=D_take (P:=P) (w:=w) (base:=base) T
 refine def_of T.d_rows sc_rows (fun vs H Q E h=>?_) (fun _ _ _ _ _ _ us hl=>match us,hl with | [_,_],_=>rfl) (fun f cdv A outer s H vs Q E hr h=>?_)
 ·obtain ⟨bx,x,y,z,n,rfl,_⟩:=h
  rfl
 ·obtain ⟨bx,x,y,z,n,rfl,hbx,h16,h240,k⟩:=h
  have nd:=sc_rows.nd
  refine ⟨_,(pss_cons (ps_set (i:=2) nd rfl (Or.inl rfl) (pe_ix ix_list (pe_lstA (pa_cons (pe_def D_take hr (pa_cons (pv 0) (pa_cons pe_int pa_nil))) (pa_cons pe_int pa_nil))) (pe_callTy call_intN rfl T.n_int boot_int (pa_cons (pe_cmpR op_eq (pe_def D_take hr (pa_cons (pv 0) (pa_cons pe_int pa_nil))) pe_int (nomark _)) pa_nil)) (fun _ _=>rfl)))
   (pss_cons (ps_set (i:=3) nd rfl (Or.inl rfl) (pe_def D_names hr (pa_cons (pv 0) (pa_cons (pv 2) pa_nil))))
   (pss_cons (ps_set (i:=4) nd rfl (Or.inl rfl) (pe_def D_take hr (pa_cons (pv 0) (pa_cons pe_int pa_nil))))
   (pss_cons (ps_set (i:=5) nd rfl (Or.inl rfl) (pe_lstA pa_nil))
   (pss_cons (ps_set (i:=6) nd rfl (Or.inl rfl) pe_int)
   (pss_cons (ps_for PassesOwn.never rfl (pi_range1 rfl T.n_range (pa_cons (pv 2) pa_nil)) (pg_name (i:=7) nd rfl (Or.inl rfl)) (pss_cons (ps_set (i:=8) nd rfl (Or.inl rfl) (pe_op op_sub (pv 1) (pv 6)))
    (pss_one (ps_if (pt_cmpR op_gt (pv 8) pe_int (nomark _)) (pss_cons (ps_set (i:=9) nd rfl (Or.inl rfl) (pe_def D_take hr (pa_cons (pv 0) (pa_cons (pe_callB (call_minN rfl) rfl T.n_min boot_min (pa_cons (pv 8) (pa_cons pe_int pa_nil))) pa_nil))))
     (pss_cons (ps_set (i:=10) nd rfl (Or.inl rfl) (pe_def D_take hr (pa_cons (pv 0) (pa_cons (pv 8) pa_nil))))
     (pss_cons (ps_set (i:=11) nd rfl (Or.inl rfl) (pe_ix ix_list (pe_lstA (pa_cons pe_int (pa_cons pe_int (pa_cons (pv 9) (pa_cons (pv 10) pa_nil))))) (pe_def D_take hr (pa_cons (pv 0) (pa_cons pe_int pa_nil))) (fun _ _=>rfl)))
     (pss_cons (ps_set (i:=12) nd rfl (Or.inl rfl) (pe_ix ix_list (pe_lstA (pa_cons pe_int (pa_cons pe_int (pa_cons pe_int (pa_cons pe_int pa_nil))))) (pe_def D_take hr (pa_cons (pv 0) (pa_cons pe_int pa_nil))) (fun _ _=>rfl)))
     (pss_cons (ps_set (i:=13) nd rfl (Or.inl rfl) (pe_op op_add pe_int (pe_def D_take hr (pa_cons (pv 0) (pa_cons (pe_callB (call_minN rfl) rfl T.n_min boot_min (pa_cons (pe_op op_sub (pv 8) (pv 11)) (pa_cons (pv 12) pa_nil))) pa_nil)))))
     (pss_cons (ps_set (i:=14) nd rfl (Or.inl rfl) (pe_op op_mul (pe_op op_add pe_int (pe_def D_take hr (pa_cons (pv 0) (pa_cons pe_int pa_nil)))) (pe_callTy call_intN rfl T.n_int boot_int (pa_cons (pe_and (pe_cmpR op_eq (pe_def D_take hr (pa_cons (pv 0) (pa_cons pe_int pa_nil))) pe_int (nomark _)) (pe_one (pe_cmpR op_gt (pv 4) pe_int (nomark _)))) pa_nil))))
     (pss_cons (ps_expr (pe_appendA (pv 5) (pe_tupA (pa_cons (pe_ix ix_list (pv 3) (pv 7) (fun _ _=>rfl)) (pa_cons (pe_op op_add (pv 6) (pv 11)) (pa_cons (pv 13) (pa_cons (pv 14) pa_nil)))))))
     (pss_one (ps_set (i:=6) nd rfl (Or.inl rfl) (pe_op op_add (pe_op op_add (pv 6) (pv 11)) (pv 13))))))))))) pss_nil))))
   (pss_one (ps_ret (pv 5))))))))),?_⟩
  clear nd D_names D_take
  rw [show start ["_law_box_here", "_law_many_here", "_law_most", "_law_names_here", "_law_pinned", "_law_rows_here", "_law_at", "_law_k", "_law_left", "_law_near", "_law_far", "_law_gap", "_law_wide", "_law_size", "_law_pins"] [.ref bx,.int (n:Nat)]=[some (.ref bx),some (.int (n:Nat)),none,none,none,none,none,none,none,none,none,none,none,none,none] from rfl]
  try dsimp only [cx_K,cx_K2]
  have iL_many:FldOk K CL "many" := ⟨T.clL,T.aL_many⟩
  have iL_rows:FldOk K CL "rows" := ⟨T.clL,T.aL_rows⟩
  have F:SH H [bx] H [(bx,.lst [.int x,.int y,.int z])] []:=SH.nil.addM List.mem_cons_self hbx rfl (by simp)
  repeat k_meth
  have hidx:0≤(if decide (r_=0)=true then (1:Int) else 0)∧(if decide (r_=0)=true then (1:Int) else 0) < 2:=by split <;> omega
  refine w_ixM SqA.e hidx.1 hidx.2 fun v hv=>?_
  obtain ⟨m,rfl,hm0,hm⟩:=pickL (lo:=0) (hi:=41) (xs:=[_,40]) hv (fun a ha=>by
   simp only [List.mem_cons,List.not_mem_nil,or_false] at ha
   rcases ha with rfl | rfl <;> omega) (by omega)
  clear hv hidx
  repeat k_meth
  intro nms nl nk nn
  repeat k_meth
  rename Addr=>rwA
  have ⟨pd,hpd⟩:∃pd,pd=r_:=⟨_,rfl⟩
  rw [← hpd]
  rw [show ((m:Nat):Int).toNat=m by omega]
  refine forR0_by (fun i σ' H'=>∃(o7 o8 o9 o10 o11 o12 o13 o14:Option V) (at_:Nat) (rs:List Rw) (ys:List V) (x y z:Int),σ'=[some (.ref bx),some (.int (n:Nat)),some (.int (m:Nat)),some (.ref p_),some (.int pd),some (.ref rwA),some (.int (at_:Nat)),o7,o8,o9,o10,o11,o12,o13,o14]∧at_≤n∧Asc rs∧(∀r∈rs,NameOk r.nm∧1≤r.sz∧r.st + r.sz≤at_)∧(rs.map (·.nm)).Sublist (nms.take i)∧ys.length=rs.length∧SH H [bx] H' [(rwA,.lst ys),(p_,.lst (nms.map fun cs=>V.str (tx cs))),(bx,.lst [.int x,.int y,.int z])] [.tps ys (rowsV rs)]) ⟨_,_,_,_,_,_,_,_,0,[],[],x_,y_,z_,rfl,Nat.zero_le _,List.Pairwise.nil,by simp,List.nil_sublist _,rfl,(F.addP (ys:=[]) (rs:=rowsV []) TupsAt.nil).sub SbC.s (by simp)⟩ ?_ ?_
  ·clear F hpd lo_ hi_
   rintro i σ' H' hi ⟨_,_,_,_,_,_,_,_,at_,rs,ys,x,y,z,rfl,hat,as,ok,sb,yl,F⟩
   obtain ⟨nm0,hnm⟩:∃nm0,nms[i]?=some nm0:=⟨nms[i]'(by omega),by simp⟩
   have a1:AtI (nms.map fun cs=>V.str (tx cs)) (i:Int) (.str (tx nm0)):=⟨atI_nat (by rw [List.getElem?_map,hnm];rfl)⟩
   have tkn:nms.take (i + 1)=nms.take i++[nm0]:=by rw [List.take_succ,hnm];rfl
   have few:rs.length≤40:=by
    have:=sb.length_le
    rw [List.length_map,List.length_take] at this
    omega
   repeat k_meth
   refine i_dec (fun h=>?_) (fun h=>?_)
   ·repeat k_meth
    refine w_ixM SqA.e lo_ hi_ fun v hv=>?_
    obtain ⟨g,rfl,hg0,hg⟩:=pickL4 (lo:=0) (hi:=(n:Int) - (at_:Int)) hv (by omega)
    clear hv
    repeat k_meth
    refine w_ixM SqA.e lo_ hi_ fun v hv=>?_
    obtain ⟨wd,rfl,hw0,hw⟩:=pickL4 (lo:=1) (hi:=241) hv (by omega)
    clear hv
    repeat k_meth
    rename_i zz _ _ _ zlo zhi _ r1 _ _ _ r1lo r1hi _
    obtain ⟨z1,rfl⟩:∃z1:Nat,zz=(z1:Int):=⟨zz.toNat,by omega⟩
    refine i_dec (fun h0=>?_) (fun h0=>?_)
    ·repeat k_meth
     rename Addr=>tq
     obtain ⟨pn,hpn⟩:∃pn:Nat,(1 + r1) * (if decide (pd > 0)=true then (1:Int) else 0)=(pn:Int):=⟨((1 + r1) * (if decide (pd > 0)=true then (1:Int) else 0)).toNat,by have:0≤(1 + r1) * (if decide (pd > 0)=true then (1:Int) else 0):=Int.mul_nonneg (by omega) (by split <;> omega);omega⟩
     rw [hpn] at F ⊢
     rw [show [V.str (tx nm0),V.int ((at_:Int) + (g:Int)),V.int (1 + (z1:Int)),V.int (pn:Int)]=rowV ⟨nm0,at_ + g,1 + z1,pn⟩ by simp [rowV]] at F
     have F2:=SH.app (ys:=ys) (rs:=rowsV rs) (q:=tq) (r:=rowV ⟨nm0,at_ + g,1 + z1,pn⟩) F (LkP.m) (LkI.m)
     rw [← rowsV_snoc] at F2
     rw [show (at_:Int) + (g:Int) + (1 + (z1:Int))=((at_ + g + (1 + z1):Nat):Int) by omega]
     refine ⟨_,_,_,_,_,_,_,_,at_ + g + (1 + z1),rs++[⟨nm0,at_ + g,1 + z1,pn⟩],ys++[.ref tq],x_,y_,z_,rfl,by omega,asc_snoc as (fun s hs=>(ok s hs).2.2) (by show at_≤at_ + g;omega),fun s hs=>?_,?_,by simp [yl],F2.sub SbC.s (by simp)⟩
     ·rcases List.mem_append.mp hs with hs | hs
      ·have:=ok s hs
       exact ⟨this.1,this.2.1,by omega⟩
      ·rw [List.mem_singleton.mp hs]
       exact ⟨nk _ (List.mem_of_getElem? hnm),by show 1≤1 + z1;omega,by show at_ + g + (1 + z1)≤_;omega⟩
     ·rw [List.map_append,tkn]
      exact List.Sublist.append sb (List.Sublist.refl _)
    ·repeat k_meth
     rename Addr=>tq
     obtain ⟨pn,hpn⟩:∃pn:Nat,(1 + r1) * (if false=true then (1:Int) else 0)=(pn:Int):=⟨((1 + r1) * (if false=true then (1:Int) else 0)).toNat,by have:0≤(1 + r1) * (if false=true then (1:Int) else 0):=Int.mul_nonneg (by omega) (by split <;> omega);omega⟩
     rw [hpn] at F ⊢
     rw [show [V.str (tx nm0),V.int ((at_:Int) + (g:Int)),V.int (1 + (z1:Int)),V.int (pn:Int)]=rowV ⟨nm0,at_ + g,1 + z1,pn⟩ by simp [rowV]] at F
     have F2:=SH.app (ys:=ys) (rs:=rowsV rs) (q:=tq) (r:=rowV ⟨nm0,at_ + g,1 + z1,pn⟩) F (LkP.m) (LkI.m)
     rw [← rowsV_snoc] at F2
     rw [show (at_:Int) + (g:Int) + (1 + (z1:Int))=((at_ + g + (1 + z1):Nat):Int) by omega]
     refine ⟨_,_,_,_,_,_,_,_,at_ + g + (1 + z1),rs++[⟨nm0,at_ + g,1 + z1,pn⟩],ys++[.ref tq],x_,y_,z_,rfl,by omega,asc_snoc as (fun s hs=>(ok s hs).2.2) (by show at_≤at_ + g;omega),fun s hs=>?_,?_,by simp [yl],F2.sub SbC.s (by simp)⟩
     ·rcases List.mem_append.mp hs with hs | hs
      ·have:=ok s hs
       exact ⟨this.1,this.2.1,by omega⟩
      ·rw [List.mem_singleton.mp hs]
       exact ⟨nk _ (List.mem_of_getElem? hnm),by show 1≤1 + z1;omega,by show at_ + g + (1 + z1)≤_;omega⟩
     ·rw [List.map_append,tkn]
      exact List.Sublist.append sb (List.Sublist.refl _)
   ·repeat k_meth
    exact ⟨_,_,_,_,_,_,_,_,at_,rs,ys,x,y,z,rfl,hat,as,ok,sb.trans (by rw [tkn];exact List.sublist_append_left _ _),yl,F⟩
  ·clear F
   rintro σ' H' ⟨_,_,_,_,_,_,_,_,at_,rs,ys,x,y,z,rfl,hat,as,ok,sb,yl,F⟩
   repeat k_meth
   exact k _ _ _ rs _ ys _ (lay_of hat as ok sb (nn.sublist (List.take_sublist _ _)) (by rw [List.length_take];omega)) as F.kpo hatC hatC TpA.e (F.fresh (LkL.m (o:=.lst _)) (nm1 (SH.neC (F:=F))))
end
def gp (rs:List Rw):List Int×Int:=rs.foldl (fun g r=>(g.1++[(r.st:Int) - g.2],(r.st:Int) + (r.sz:Int))) ([],0)
theorem gp_snoc (rs:List Rw) (r:Rw):gp (rs++[r])=((gp rs).1++[(r.st:Int) - (gp rs).2],(r.st:Int) + (r.sz:Int)):=by unfold gp;rw [List.foldl_append];rfl
theorem gp_len (rs:List Rw):(gp rs).1.length=rs.length:=by
 have:∀(rs:List Rw) (g:List Int×Int),(rs.foldl (fun g r=>(g.1++[(r.st:Int) - g.2],(r.st:Int) + (r.sz:Int))) g).1.length=g.1.length + rs.length:=by
  intro rs
  induction rs with
  | nil=>intro g;rfl
  | cons r t ih=>intro g;rw [List.foldl_cons,ih];simp;omega
 have:=this rs ([],0)
 simpa [gp] using this
def gapsOf (n:Nat) (rs:List Rw):List Int:=(gp rs).1++[(n:Int) - (gp rs).2]
theorem take_snocR {rs:List Rw} {i:Nat} {r:Rw} (h:rs[i]?=some r):rs.take (i + 1)=rs.take i++[r]:=by rw [List.take_succ,h];rfl
def within (a b:Int) (r:Rw):Bool:=decide (a≤(r.st:Int)) && decide ((r.st:Int) < b)
def freeB (rs:List Rw) (a b:Int):Int:=b - a - ((rs.filter (within a b)).map fun r=>(r.sz:Int)).sum
def sp_gapsof (CL:Addr):Sp:=fun vs H Q _=>∃(x p dx:Addr) (n:Nat) (zs:List V) (rs:List Rw),vs=[.ref x]∧H x=some (.ins CL dx (lF (n:Nat) p))∧H p=some (.lst zs)∧TupsAt H zs (rowsV rs)∧rs.length≤40∧∀q H',New H H' q (.lst ((gapsOf n rs).map V.int))→Q (.ref q) H'
def sp_lgaps:Sp:=fun vs H Q _=>∃(l:Addr) (n:Nat) (zs:List V) (rs:List Rw),vs=[.int (n:Nat),.ref l]∧H l=some (.lst zs)∧TupsAt H zs (rowsV rs)∧rs.length≤40∧∀q H',New H H' q (.lst ((gapsOf n rs).map V.int))→Q (.ref q) H'
section
variable {CL x p dx l:Addr} {H:Hp} {Q:VK} {E:XK} {n:Nat} {zs:List V} {rs:List Rw} {a b:Int}
instance go_gapsof [h:Hat H x (.ins CL dx (lF (n:Nat) p))] [h2:Hat H p (.lst zs)] [t:TpA H zs (rowsV rs)]:Go (sp_gapsof CL [.ref x] H Q E) (Sd (rs.length≤40) (∀q H',New H H' q (.lst ((gapsOf n rs).map V.int))→Q (.ref q) H')):=⟨fun s=>⟨x,p,dx,n,zs,rs,rfl,h.e,h2.e,t.e,s.1,s.2⟩⟩
instance go_lgaps [h2:Hat H l (.lst zs)] [t:TpA H zs (rowsV rs)]:Go (sp_lgaps [.int (n:Nat),.ref l] H Q E) (Sd (rs.length≤40) (∀q H',New H H' q (.lst ((gapsOf n rs).map V.int))→Q (.ref q) H')):=⟨fun s=>⟨l,n,zs,rs,rfl,h2.e,t.e,s.1,s.2⟩⟩
end
section
variable {P:Program} {w:World} {K:W.Frag} {mg:Str→Option Value} {base:Heap} {c:Nat→Addr} {ct_Linit pt_Linit R CL:Addr}
theorem D_gapsof (T:Txt K mg c R CL ct_Linit pt_Linit):Def P w K mg base CX0 2 "gaps_of" ["layout"] (sp_gapsof CL):=by
 have MT_Lblocks:=MT_Lblocks (P:=P) (w:=w) (base:=base) T
 have D_end_of:=D_end_of (P:=P) (w:=w) (base:=base) T
 have D_cells_of:=D_cells_of (P:=P) (w:=w) (base:=base) T
 refine def_of T.d_gapsof sc_gapsof (fun vs H Q E h=>?_) (fun _ _ _ _ _ _ us hl=>match us,hl with | [_],_=>rfl) (fun f cdv A outer s H vs Q E hr h=>?_)
 ·obtain ⟨x,p,dx,n,zs,rs,rfl,_⟩:=h
  rfl
 ·obtain ⟨x,p,dx,n,zs,rs,rfl,hx,hp,tp,few,k⟩:=h
  have nd:=sc_gapsof.nd
  refine ⟨_,(pss_cons (ps_set (i:=1) nd rfl (Or.inl rfl) (pe_lstA pa_nil))
   (pss_cons (ps_set (i:=2) nd rfl (Or.inl rfl) pe_int)
   (pss_cons (ps_for PassesOwn.never rfl (pi_list (pe_met0 (pv 0) T.clL MT_Lblocks hr)) (pg_name (i:=3) nd rfl (Or.inl rfl)) (pss_cons (ps_expr (pe_appendA (pv 1) (pe_op op_sub (pe_ix ix_tup (pv 3) pe_int (fun _ _=>rfl)) (pv 2))))
    (pss_one (ps_set (i:=2) nd rfl (Or.inl rfl) (pe_def D_end_of hr (pa_cons (pe_def D_cells_of hr (pa_cons (pv 3) pa_nil)) pa_nil))))))
   (pss_one (ps_ret (pe_op op_catA (pv 1) (pe_lstA (pa_cons (pe_op op_sub (pe_fld (pv 0) rfl) (pv 2)) pa_nil)))))))),?_⟩
  clear nd MT_Lblocks D_end_of D_cells_of
  rw [show start ["layout", "gaps", "behind", "block"] [.ref x]=[some (.ref x),none,none,none] from rfl]
  try dsimp only [cx_K,cx_K2]
  have iL_many:FldOk K CL "many" := ⟨T.clL,T.aL_many⟩
  have iL_rows:FldOk K CL "rows" := ⟨T.clL,T.aL_rows⟩
  have o_hx:=Old.mk (M:=[]) hx nm0
  have o_hp:=Old.mk (M:=[]) hp nm0
  have o_tp:=OldP.mk tp
  have F:SH H [] H [] []:=SH.nil
  repeat k_meth
  rename_i _ gl
  rename Addr=>bl
  refine forL_by (xs:=zs) (fun i σ' H'=>∃o3:Option V,σ'=[some (.ref x),some (.ref gl),some (.int (gp (rs.take i)).2),o3]∧SH H [] H' [(gl,.lst ((gp (rs.take i)).1.map V.int)),(bl,.lst zs)] []) ⟨_,rfl,F.subC (L':=[(gl,.lst []),(bl,.lst zs)])⟩ ?_ ?_ ?_
  ·clear F
   rintro i σ' H' _ ⟨_,rfl,F⟩
   exact SqA.e
  ·clear F
   rintro i v σ' H' hv ⟨_,rfl,F⟩
   obtain ⟨r,q1,e1,rfl,e2⟩:=rowsV_at tp hv
   have o_e2:=Old.mk (M:=[]) e2 nm0
   have gl1:=gp_len (rs.take i)
   rw [List.length_take] at gl1
   repeat k_meth
   refine ⟨_,by rw [take_snocR e1,gp_snoc],?_⟩
   rw [take_snocR e1,gp_snoc]
   simp only [List.map_append,List.map_cons,List.map_nil]
   exact F.subC
  ·clear F
   rintro σ' H' ⟨_,rfl,F⟩
   have gl1:=gp_len rs
   rw [show zs.length=rs.length by rw [tp.1,rowsV_len],List.take_length] at F ⊢
   repeat k_meth
   rw [show (gp rs).1.map V.int++[V.int ((n:Int) - (gp rs).2)]=(gapsOf n rs).map V.int by unfold gapsOf;rw [List.map_append];rfl] at F
   exact k _ _ SH.nwC
theorem D_lgaps (T:Txt K mg c R CL ct_Linit pt_Linit):Def P w K mg base CX0 1 "_law_gaps" ["_law_many_here", "_law_rows_here"] sp_lgaps:=by
 refine def_of T.d_lgaps sc_lgaps (fun vs H Q E h=>?_) (fun _ _ _ _ _ _ us hl=>match us,hl with | [_,_],_=>rfl) (fun f cdv A outer s H vs Q E hr h=>?_)
 ·obtain ⟨l,n,zs,rs,rfl,_⟩:=h
  rfl
 ·obtain ⟨l,n,zs,rs,rfl,hl,tp,few,k⟩:=h
  have nd:=sc_lgaps.nd
  refine ⟨_,(pss_cons (ps_set (i:=2) nd rfl (Or.inl rfl) (pe_lstA pa_nil))
   (pss_cons (ps_set (i:=3) nd rfl (Or.inl rfl) pe_int)
   (pss_cons (ps_for PassesOwn.never rfl (pi_list (pv 1)) (pg_tup rfl (pgs_cons (pg_name (i:=4) nd rfl (Or.inl rfl)) (pgs_cons (pg_name (i:=5) nd rfl (Or.inl rfl)) (pgs_cons (pg_name (i:=6) nd rfl (Or.inl rfl)) (pgs_cons (pg_name (i:=7) nd rfl (Or.inl rfl)) pgs_nil))))) (pss_cons (ps_expr (pe_appendA (pv 2) (pe_op op_sub (pv 5) (pv 3))))
    (pss_one (ps_set (i:=3) nd rfl (Or.inl rfl) (pe_op op_add (pv 5) (pv 6))))))
   (pss_one (ps_ret (pe_op op_catA (pv 2) (pe_lstA (pa_cons (pe_op op_sub (pv 0) (pv 3)) pa_nil)))))))),?_⟩
  clear nd 
  rw [show start ["_law_many_here", "_law_rows_here", "_law_found", "_law_end", "_law_name", "_law_start", "_law_size", "_law_pins"] [.int (n:Nat),.ref l]=[some (.int (n:Nat)),some (.ref l),none,none,none,none,none,none] from rfl]
  try dsimp only [cx_K,cx_K2]
  have iL_many:FldOk K CL "many" := ⟨T.clL,T.aL_many⟩
  have iL_rows:FldOk K CL "rows" := ⟨T.clL,T.aL_rows⟩
  have o_hl:=Old.mk (M:=[]) hl nm0
  have o_tp:=OldP.mk tp
  have F:SH H [] H [] []:=SH.nil
  repeat k_meth
  rename Addr=>gl
  refine forL_by (xs:=zs) (fun i σ' H'=>∃o4 o5 o6 o7:Option V,σ'=[some (.int (n:Nat)),some (.ref l),some (.ref gl),some (.int (gp (rs.take i)).2),o4,o5,o6,o7]∧SH H [] H' [(gl,.lst ((gp (rs.take i)).1.map V.int))] []) ⟨_,_,_,_,rfl,F.subC (L':=[(gl,.lst [])])⟩ ?_ ?_ ?_
  ·clear F
   rintro i σ' H' _ ⟨_,_,_,_,rfl,F⟩
   exact SqA.e
  ·clear F
   rintro i v σ' H' hv ⟨_,_,_,_,rfl,F⟩
   obtain ⟨r,q1,e1,rfl,e2⟩:=rowsV_at tp hv
   have o_e2:=Old.mk (M:=[]) e2 nm0
   have gl1:=gp_len (rs.take i)
   rw [List.length_take] at gl1
   repeat k_meth
   refine ⟨_,_,_,_,by rw [take_snocR e1,gp_snoc],?_⟩
   rw [take_snocR e1,gp_snoc]
   simp only [List.map_append,List.map_cons,List.map_nil]
   exact F.subC
  ·clear F
   rintro σ' H' ⟨_,_,_,_,rfl,F⟩
   have gl1:=gp_len rs
   rw [show zs.length=rs.length by rw [tp.1,rowsV_len],List.take_length] at F ⊢
   repeat k_meth
   rw [show (gp rs).1.map V.int++[V.int ((n:Int) - (gp rs).2)]=(gapsOf n rs).map V.int by unfold gapsOf;rw [List.map_append];rfl] at F
   exact k _ _ SH.nwC
end
abbrev PR:=List (Option Int)
def pV:Option Int→V
 | none=>.non
 | some i=>.int i
def endR (s:Nat):PR:=some 0::List.replicate s none
def besV (r:Rw) (b:PR) (c:Int) (x:Nat):Option Int:=((b[((x:Int) - c).toNat]?).getD none).map fun y=>(r.sz:Int) + y
def besR (r:Rw) (b:PR) (c:Int) (s:Nat):PR:=if 0 < r.pn then endR s else some 0::(List.range s).map fun j=>besV r b c (j + 1)
theorem endR_len (s:Nat):(endR s).length=s + 1:=by simp [endR]
theorem besR_len (r:Rw) (b:PR) (c:Int) (s:Nat):(besR r b c s).length=s + 1:=by unfold besR;split <;> simp [endR]
theorem endR_V (s:Nat):(endR s).map pV=V.int 0::List.replicate s V.non:=by simp [endR,pV]
def prf (r:Rw) (b:PR) (c:Int) (s i:Nat):PR:=some 0::((List.range i).map (fun j=>besV r b c (j + 1))++List.replicate (s - i) none)
theorem prf_zero (r:Rw) (b:PR) (c:Int) (s:Nat):prf r b c s 0=endR s:=by simp [prf,endR]
theorem prf_all {r:Rw} {b:PR} {c:Int} {s:Nat} (h:¬ 0 < r.pn):prf r b c s s=besR r b c s:=by
 unfold prf besR
 rw [if_neg h]
 simp
theorem prf_next {r:Rw} {b:PR} {c:Int} {s i:Nat} (h:i < s):prf r b c s (i + 1)=(prf r b c s i).set (i + 1) (besV r b c (i + 1)):=by
 unfold prf
 rw [List.set_cons_succ,List.set_append_right _ _ (by simp)]
 obtain ⟨d,hd⟩:∃d,s - i=d + 1:=⟨s - i - 1,by omega⟩
 rw [show s - (i + 1)=d by omega,hd,List.replicate_succ,List.length_map,List.length_range,Nat.sub_self,List.set_cons_zero,List.range_succ,List.map_append,List.append_assoc]
 rfl
theorem prf_none {r:Rw} {b:PR} {c:Int} {s i:Nat} (h:i < s) (e:besV r b c (i + 1)=none):prf r b c s (i + 1)=prf r b c s i:=by
 unfold prf
 obtain ⟨d,hd⟩:∃d,s - i=d + 1:=⟨s - i - 1,by omega⟩
 rw [show s - (i + 1)=d by omega,hd,List.replicate_succ,List.range_succ,List.map_append,List.append_assoc,List.map_cons,List.map_nil,e]
 rfl
theorem prf_len {r:Rw} {b:PR} {c:Int} {s i:Nat} (h:i≤s):(prf r b c s i).length=s + 1:=by
 unfold prf
 simp
 omega
def sp_atend:Sp:=fun vs H Q _=>∃s:Nat,vs=[.int (s:Nat)]∧s≤240∧∀q H',New H H' q (.lst ((endR s).map pV))→Q (.ref q) H'
def sp_beside:Sp:=fun vs H Q _=>∃(q l:Addr) (r:Rw) (b:PR) (c:Int) (s:Nat),vs=[.ref q,.ref l,.int c,.int (s:Nat)]∧H q=some (.tup (rowV r))∧H l=some (.lst (b.map pV))∧b.length=s + 1∧(s≤240∧0≤c)∧∀z H',New H H' z (.lst ((besR r b c s).map pV))→Q (.ref z) H'
section
variable {H:Hp} {Q:VK} {E:XK} {q l:Addr} {r:Rw} {b:PR} {c:Int} {s:Nat}
instance go_atend:Go (sp_atend [.int (s:Nat)] H Q E) (Sd (s≤240) (∀q H',New H H' q (.lst ((endR s).map pV))→Q (.ref q) H')):=⟨fun k=>⟨s,rfl,k.1,k.2⟩⟩
end
section
variable {P:Program} {w:World} {K:W.Frag} {mg:Str→Option Value} {base:Heap} {c:Nat→Addr} {ct_Linit pt_Linit R CL:Addr}
theorem D_atend (T:Txt K mg c R CL ct_Linit pt_Linit):Def P w K mg base CX0 1 "row_at_end" ["size"] sp_atend:=by
 refine def_of T.d_atend sc_atend (fun vs H Q E h=>?_) (fun _ _ _ _ _ _ us hl=>match us,hl with | [_],_=>rfl) (fun f cdv A outer s H vs Q E hr h=>?_)
 ·obtain ⟨s,rfl,_⟩:=h
  rfl
 ·obtain ⟨s,rfl,hs,k⟩:=h
  have nd:=sc_atend.nd
  refine ⟨_,(pss_one (ps_ret (pe_op op_catA (pe_lstA (pa_cons pe_int pa_nil)) (pe_op op_repA (pe_lstA (pa_cons pe_non pa_nil)) (pv 0))))),?_⟩
  clear nd 
  rw [show start ["size"] [.int (s:Nat)]=[some (.int (s:Nat))] from rfl]
  try dsimp only [cx_K,cx_K2]
  have iL_many:FldOk K CL "many" := ⟨T.clL,T.aL_many⟩
  have iL_rows:FldOk K CL "rows" := ⟨T.clL,T.aL_rows⟩
  have F:SH H [] H [] []:=SH.nil
  repeat k_meth
  rw [show [V.int 0]++List.replicate s V.non=(endR s).map pV from (endR_V s).symm] at F
  exact k _ _ SH.nwC
theorem D_beside (T:Txt K mg c R CL ct_Linit pt_Linit):Def P w K mg base CX0 2 "row_beside" ["block", "beyond", "cells", "size"] sp_beside:=by
 have D_atend:=D_atend (P:=P) (w:=w) (base:=base) T
 refine def_of T.d_beside sc_beside (fun vs H Q E h=>?_) (fun _ _ _ _ _ _ us hl=>match us,hl with | [_,_,_,_],_=>rfl) (fun f cdv A outer s H vs Q E hr h=>?_)
 ·obtain ⟨q,l,r,b,c,s,rfl,_⟩:=h
  rfl
 ·obtain ⟨q,l,r,b,c,s,rfl,hq,hl,bl,side,k⟩:=h
  have nd:=sc_beside.nd
  refine ⟨_,(pss_cons (ps_set (i:=4) nd rfl (Or.inl rfl) (pe_def D_atend hr (pa_cons (pv 3) pa_nil)))
   (pss_cons (ps_if (pt_cmpR op_gt (pe_ix ix_tup (pv 0) pe_int (fun _ _=>rfl)) pe_int (nomark _)) (pss_one (ps_ret (pv 4))) pss_nil)
   (pss_cons (ps_for PassesOwn.never rfl (pi_range2 rfl T.n_range (pa_cons pe_int (pa_cons (pe_op op_add (pv 3) pe_int) pa_nil))) (pg_name (i:=5) nd rfl (Or.inl rfl)) (pss_cons (ps_set (i:=6) nd rfl (Or.inl rfl) (pe_ix ix_list (pv 1) (pe_callB (call_maxN rfl) rfl T.n_max boot_max (pa_cons pe_int (pa_cons (pe_op op_sub (pv 5) (pv 2)) pa_nil))) (fun _ _=>rfl)))
    (pss_one (ps_if (pt_cmpR op_notNN (pv 6) pe_non (nomark _)) (pss_one (ps_asg (pe_op op_add (pe_ix ix_tup (pv 0) pe_int (fun _ _=>rfl)) (pv 6)) (pg_sub (pv 4) (pv 5) set_listA))) pss_nil))))
   (pss_one (ps_ret (pv 4)))))),?_⟩
  clear nd D_atend
  rw [show start ["block", "beyond", "cells", "size", "row", "longer", "price"] [.ref q,.ref l,.int c,.int (s:Nat)]=[some (.ref q),some (.ref l),some (.int c),some (.int (s:Nat)),none,none,none] from rfl]
  try dsimp only [cx_K,cx_K2]
  have iL_many:FldOk K CL "many" := ⟨T.clL,T.aL_many⟩
  have iL_rows:FldOk K CL "rows" := ⟨T.clL,T.aL_rows⟩
  have o_hq:=Old.mk (M:=[]) hq nm0
  have o_hl:=Old.mk (M:=[]) hl nm0
  have F:SH H [] H [] []:=SH.nil
  obtain ⟨s240,c0⟩:=side
  repeat k_meth
  refine i_dec (fun h=>?_) (fun h=>?_)
  ·repeat k_meth
   rw [show endR s=besR r b c s from (if_pos (by omega)).symm] at F
   exact k _ _ SH.nwC
  repeat k_meth
  rename Addr=>rw_
  rw [show ((s:Int) + 1 - 1).toNat=s by omega]
  refine forR_by (fun j σ' H'=>∃(o5 o6:Option V),σ'=[some (.ref q),some (.ref l),some (.int c),some (.int (s:Nat)),some (.ref rw_),o5,o6]∧SH H [] H' [(rw_,.lst ((prf r b c s j).map pV))] []) ⟨_,_,rfl,by rw [prf_zero];exact F⟩ ?_ ?_
  ·clear F
   rintro j σ' H' hj ⟨_,_,rfl,F⟩
   obtain ⟨y,hy⟩:∃y,b[((((j + 1:Nat):Int)) - c).toNat]?=some y:=⟨_,List.getElem?_eq_getElem (by omega)⟩
   have at_y:AtI (b.map pV) (max 0 (1 + (j:Int) - c)) (pV y):=⟨by
    rw [show max 0 (1 + (j:Int) - c)=(((((j + 1:Nat):Int)) - c).toNat:Int) by omega]
    exact atI_nat (by rw [List.getElem?_map,hy];rfl)⟩
   have ev:besV r b c (j + 1)=y.map fun z=>(r.sz:Int) + z:=by unfold besV;rw [hy];rfl
   have pl:=prf_len (r:=r) (b:=b) (c:=c) (s:=s) (i:=j) (by omega)
   cases y with
   | none =>
    have at_z:AtI (b.map pV) (max 0 (1 + (j:Int) - c)) .non:=at_y
    repeat k_meth
    rw [prf_none hj ev]
    exact ⟨_,_,rfl,F⟩
   | some z =>
    have at_z:AtI (b.map pV) (max 0 (1 + (j:Int) - c)) (.int z):=at_y
    repeat k_meth
    rw [show (1 + (j:Int)).toNat=j + 1 by omega,show V.int ((r.sz:Int) + z)=pV (some ((r.sz:Int) + z)) from rfl,← List.map_set] at F
    rw [prf_next hj,ev]
    exact ⟨_,_,rfl,F⟩
  ·clear F
   rintro σ' H' ⟨_,_,rfl,F⟩
   rw [prf_all (by omega)] at F
   repeat k_meth
   exact k _ _ SH.nwC
end
instance go_beside {H:Hp} {Q:VK} {E:XK} {q l:Addr} {r:Rw} {b:PR} {c:Int} {s:Nat} [h:Hat H q (.tup (rowV r))] [h2:Hat H l (.lst (b.map pV))]:Go (sp_beside [.ref q,.ref l,.int c,.int (s:Nat)] H Q E) (Sd (b.length=s + 1) (Sd (s≤240∧0≤c) (∀z H',New H H' z (.lst ((besR r b c s).map pV))→Q (.ref z) H'))):=⟨fun k=>⟨q,l,r,b,c,s,rfl,h.e,h2.e,k.1,k.2.1,k.2.2⟩⟩
def LsAt (H:Hp) (ys:List V) (T:List PR):Prop:=ys.length=T.length∧∀(j:Nat) (r:PR),T[j]?=some r→∃q:Addr,ys[j]?=some (V.ref q)∧H q=some (.lst (r.map pV))
theorem LsAt.kept {H H':Hp} {ys:List V} {T:List PR} (h:LsAt H ys T) (k:∀q u,V.ref q∈ys→H q=some u→H' q=some u):LsAt H' ys T:=⟨h.1,fun j r e=>by
 obtain ⟨q,a,b⟩:=h.2 j r e
 exact ⟨q,a,k q _ (List.mem_of_getElem? a) b⟩⟩
theorem LsAt.nil {H:Hp}:LsAt H [] []:=⟨rfl,fun j r e=>by cases e⟩
theorem LsAt.snoc {H:Hp} {ys:List V} {T:List PR} {q:Addr} {r:PR} (h:LsAt H ys T) (e:H q=some (.lst (r.map pV))):LsAt H (ys++[.ref q]) (T++[r]):=by
 refine ⟨by simp [h.1],fun j r' e'=>?_⟩
 rcases Nat.lt_or_ge j T.length with hj | hj
 ·rw [List.getElem?_append_left hj] at e'
  obtain ⟨q',a,b⟩:=h.2 j r' e'
  exact ⟨q',by rw [List.getElem?_append_left (by rw [h.1];exact hj)];exact a,b⟩
 ·rw [List.getElem?_append_right hj] at e'
  cases h0:j - T.length with
  | zero =>
   rw [h0] at e'
   cases e'
   exact ⟨q,by rw [List.getElem?_append_right (by rw [h.1];exact hj),h.1,h0];rfl,e⟩
  | succ d=>rw [h0] at e';simp at e'
theorem LsAt.rev {H:Hp} {ys:List V} {T:List PR} (h:LsAt H ys T):LsAt H ys.reverse T.reverse:=by
 refine ⟨by simp [h.1],fun j r e=>?_⟩
 have hj:j < T.length:=by have:=(List.getElem?_eq_some_iff.mp e).1;simpa using this
 rw [List.getElem?_reverse hj] at e
 obtain ⟨q,a,b⟩:=h.2 _ r e
 exact ⟨q,by rw [List.getElem?_reverse (by rw [h.1];exact hj),h.1];exact a,b⟩
def leftR (rs:List Rw) (gs:List Int) (s:Nat):Nat→PR
 | 0=>endR s
 | i + 1=>match rs[i]? with
  | some r=>besR r (leftR rs gs s i) (gs.getD i 0) s
  | none=>endR s
def leftT (rs:List Rw) (gs:List Int) (s m:Nat):List PR:=(List.range (m + 1)).map (leftR rs gs s)
theorem leftR_len (rs:List Rw) (gs:List Int) (s i:Nat):(leftR rs gs s i).length=s + 1:=by
 cases i with
 | zero=>exact endR_len s
 | succ i =>
  unfold leftR
  cases rs[i]? with
  | none=>exact endR_len s
  | some r=>exact besR_len _ _ _ _
theorem leftT_next {rs:List Rw} {gs:List Int} {s m:Nat} {r:Rw} (h:rs[m]?=some r):leftT rs gs s (m + 1)=leftT rs gs s m++[besR r (leftR rs gs s m) (gs.getD m 0) s]:=by
 unfold leftT
 rw [List.range_succ,List.map_append,List.map_cons,List.map_nil]
 congr 2
 show leftR rs gs s (m + 1)=_
 rw [leftR,h]
theorem leftT_at {rs:List Rw} {gs:List Int} {s m:Nat}:(leftT rs gs s m)[m]?=some (leftR rs gs s m):=by
 unfold leftT
 rw [List.getElem?_map,List.getElem?_range (by omega)]
 rfl
def sp_left (CL:Addr):Sp:=fun vs H Q _=>∃(x p dx:Addr) (n:Nat) (zs:List V) (rs:List Rw) (s:Nat),vs=[.ref x,.int (s:Nat)]∧H x=some (.ins CL dx (lF (n:Nat) p))∧H p=some (.lst zs)∧TupsAt H zs (rowsV rs)∧rs.length≤40∧s≤240∧(∀g∈gapsOf n rs,0≤g)∧∀q ys H',Same H H'→H' q=some (.lst ys)→LsAt H' ys (leftT rs (gapsOf n rs) s rs.length)→(∀a u,H a=some u→a≠q∧V.ref a ∉ ys)→V.ref q ∉ ys→Q (.ref q) H'
section
variable {P:Program} {w:World} {K:W.Frag} {mg:Str→Option Value} {base:Heap} {c:Nat→Addr} {ct_Linit pt_Linit R CL:Addr}
theorem D_left (T:Txt K mg c R CL ct_Linit pt_Linit):Def P w K mg base CX0 3 "left_prices" ["layout", "size"] (sp_left CL):=by
 have D_gapsof:=D_gapsof (P:=P) (w:=w) (base:=base) T
 have D_atend:=D_atend (P:=P) (w:=w) (base:=base) T
 have MT_Lblocks:=MT_Lblocks (P:=P) (w:=w) (base:=base) T
 have D_beside:=D_beside (P:=P) (w:=w) (base:=base) T
 refine def_of T.d_left sc_left (fun vs H Q E h=>?_) (fun _ _ _ _ _ _ us hl=>match us,hl with | [_,_],_=>rfl) (fun f cdv A outer s H vs Q E hr h=>?_)
 ·obtain ⟨x,p,dx,n,zs,rs,s,rfl,_⟩:=h
  rfl
 ·obtain ⟨x,p,dx,n,zs,rs,s,rfl,hx,hp,tp,few,s240,gpos,k⟩:=h
  have nd:=sc_left.nd
  refine ⟨_,(pss_cons (ps_set (i:=2) nd rfl (Or.inl rfl) (pe_def D_gapsof hr (pa_cons (pv 0) pa_nil)))
   (pss_cons (ps_set (i:=3) nd rfl (Or.inl rfl) (pe_lstA (pa_cons (pe_def D_atend hr (pa_cons (pv 1) pa_nil)) pa_nil)))
   (pss_cons (ps_for PassesOwn.never rfl (pi_enum rfl T.n_enumerate (pa_cons (pe_met0 (pv 0) T.clL MT_Lblocks hr) pa_nil)) (pg_tup rfl (pgs_cons (pg_name (i:=4) nd rfl (Or.inl rfl)) (pgs_cons (pg_name (i:=5) nd rfl (Or.inl rfl)) pgs_nil))) (pss_one (ps_expr (pe_appendA (pv 3) (pe_def D_beside hr (pa_cons (pv 5) (pa_cons (pe_ix ix_list (pv 3) (pv 4) (fun _ _=>rfl)) (pa_cons (pe_ix ix_list (pv 2) (pv 4) (fun _ _=>rfl)) (pa_cons (pv 1) pa_nil)))))))))
   (pss_one (ps_ret (pv 3)))))),?_⟩
  clear nd D_gapsof D_atend MT_Lblocks D_beside
  rw [show start ["layout", "size", "gaps", "table", "at", "block"] [.ref x,.int (s:Nat)]=[some (.ref x),some (.int (s:Nat)),none,none,none,none] from rfl]
  try dsimp only [cx_K,cx_K2]
  have iL_many:FldOk K CL "many" := ⟨T.clL,T.aL_many⟩
  have iL_rows:FldOk K CL "rows" := ⟨T.clL,T.aL_rows⟩
  have o_hx:=Old.mk (M:=[]) hx nm0
  have o_hp:=Old.mk (M:=[]) hp nm0
  have o_tp:=OldP.mk tp
  have F:SH H [] H [] []:=SH.nil
  have few2:rs.length≤40:=few
  have yl:zs.length=rs.length:=by rw [tp.1,rowsV_len]
  have gl_:(gapsOf n rs).length=rs.length + 1:=by unfold gapsOf;rw [List.length_append,gp_len];rfl
  repeat k_meth
  rename_i _ gl _ er _ tb
  rename Addr=>bl
  have fre:∀a u,H a=some u→V.ref a ∉ [V.ref er]:=fun a u e hm=>by
   cases List.mem_singleton.mp hm
   exact F.fresh (LkL.m (o:=.lst _)) nm0 er u e rfl
  refine forE_by (xs:=zs) (fun i σ' H'=>∃(o4 o5:Option V) (ys:List V),σ'=[some (.ref x),some (.int (s:Nat)),some (.ref gl),some (.ref tb),o4,o5]∧LsAt H' ys (leftT rs (gapsOf n rs) s i)∧(∀a u,H a=some u→V.ref a ∉ ys)∧V.ref tb ∉ ys∧SH H [] H' [(bl,.lst zs),(tb,.lst ys),(gl,.lst ((gapsOf n rs).map V.int))] []) ⟨_,_,[.ref er],rfl,LsAt.snoc LsAt.nil hatC,fre,fun hm=>SH.neC (F:=F) (a:=tb) (b:=er) (by simpa using hm),F.sub SbC.s (by simp)⟩ ?_ ?_ ?_
  ·clear F
   rintro i σ' H' _ ⟨_,_,ys,rfl,_,_,_,F⟩
   exact SqA.e
  ·clear F
   rintro i v T σ' H' H2 hv ⟨_,_,ys,rfl,ls,fr,nt,F⟩ nw
   obtain ⟨r,q1,e1,rfl,e2⟩:=rowsV_at tp hv
   obtain ⟨ql,hl,eql⟩:=ls.2 i _ leftT_at
   have sm0:=F.sm
   have ysl:ys.length < sizeLine:=by
    have h1:=ls.1
    have h2:=(List.getElem?_eq_some_iff.mp e1).1
    unfold leftT at h1
    rw [List.length_map,List.length_range] at h1
    rw [sizeLine_eq]
    omega
   have htb:H' tb=some (.lst ys):=hatC
   have hgl:H' gl=some (.lst ((gapsOf n rs).map V.int)):=hatC
   have ne1:gl≠tb:=SH.neC (F:=F)
   have e3:=F.sm _ _ e2
   have ne2:q1≠tb:=fun z=>by rw [z,htb] at e3;cases e3
   have ne3:ql≠tb:=fun z=>nt (by rw [← z];exact List.mem_of_getElem? hl)
   have back:∀(H4:Hp) (zs2:List V),Kp tb H' H4→H4 tb=some (.lst zs2)→SH H [] H4 [(bl,.lst zs),(tb,.lst zs2),(gl,.lst ((gapsOf n rs).map V.int))] []:=fun H4 zs2 kp e=>F.kpL kp e LkU.u
   clear F
   have F:SH H' [tb] H' [(tb,.lst ys)] []:=SH.nil.addM List.mem_cons_self htb rfl (by simp)
   have o_gl:=Old.mk (M:=[tb]) hgl (nm1 ne1)
   have o_q1:=Old.mk (M:=[tb]) e3 (nm1 ne2)
   have o_ql:=Old.mk (M:=[tb]) eql (nm1 ne3)
   replace F:=(F.same nw.s).addT nw.e
   have at_r:AtI ys ((i:Nat):Int) (.ref ql):=⟨atI_nat hl⟩
   obtain ⟨gv,hgv⟩:∃gv,(gapsOf n rs)[i]?=some gv:=⟨_,List.getElem?_eq_getElem (by have:=(List.getElem?_eq_some_iff.mp e1).1;omega)⟩
   have at_g:AtI ((gapsOf n rs).map V.int) ((i:Nat):Int) (.int gv):=⟨atI_nat (by rw [List.getElem?_map,hgv];rfl)⟩
   have bl1:=leftR_len rs (gapsOf n rs) s i
   have sd1:s≤240∧0≤gv:=⟨s240,gpos gv (List.mem_of_getElem? hgv)⟩
   repeat k_meth
   refine ⟨_,_,ys++[.ref p_],rfl,?_,fun a u e hm=>?_,fun hm=>?_,back _ _ F.kpo hatC⟩
   ·rw [leftT_next e1,show (gapsOf n rs).getD i 0=gv by rw [List.getD_eq_getElem?_getD,hgv];rfl]
    exact LsAt.snoc (ls.kept fun q u hm e=>F.fr q u (nm1 fun z=>nt (z▸hm)) e) hatC
   ·rcases List.mem_append.mp hm with hm | hm
    ·exact fr a u e hm
    ·exact F.fresh (LkL.m (o:=.lst _)) (nm1 (SH.neC (F:=F))) a u (sm0 _ _ e) (by simpa using hm)
   ·rcases List.mem_append.mp hm with hm | hm
    ·exact nt hm
    ·exact SH.neC (F:=F) (a:=tb) (b:=p_) (by simpa using hm)
  ·clear F
   rintro σ' H' ⟨_,_,ys,rfl,ls,fr,nt,F⟩
   rw [yl] at ls
   repeat k_meth
   exact k tb ys _ F.sm hatC ls (fun a u e=>⟨F.fresh (LkL.m (o:=.lst _)) nm0 a u e,fr a u e⟩) nt
end
def rightR (rs:List Rw) (gs:List Int) (s:Nat):Nat→PR
 | 0=>endR s
 | i + 1=>match rs[rs.length - 1 - i]? with
  | some r=>besR r (rightR rs gs s i) (gs.getD (rs.length - i) 0) s
  | none=>endR s
def rightT (rs:List Rw) (gs:List Int) (s m:Nat):List PR:=(List.range (m + 1)).map (rightR rs gs s)
theorem rightR_len (rs:List Rw) (gs:List Int) (s i:Nat):(rightR rs gs s i).length=s + 1:=by
 cases i with
 | zero=>exact endR_len s
 | succ i =>
  unfold rightR
  cases rs[rs.length - 1 - i]? with
  | none=>exact endR_len s
  | some r=>exact besR_len _ _ _ _
theorem rightT_next {rs:List Rw} {gs:List Int} {s m:Nat} {r:Rw} (h:rs[rs.length - 1 - m]?=some r):rightT rs gs s (m + 1)=rightT rs gs s m++[besR r (rightR rs gs s m) (gs.getD (rs.length - m) 0) s]:=by
 unfold rightT
 rw [List.range_succ,List.map_append,List.map_cons,List.map_nil]
 congr 2
 show rightR rs gs s (m + 1)=_
 rw [rightR,h]
theorem rightT_at {rs:List Rw} {gs:List Int} {s m:Nat}:(rightT rs gs s m)[m]?=some (rightR rs gs s m):=by
 unfold rightT
 rw [List.getElem?_map,List.getElem?_range (by omega)]
 rfl
theorem at_last {ys:List V} {v:V} {n:Nat} (hn:ys.length=n + 1) (h:ys[n]?=some v):AtI ys (-1) v:=⟨by
 unfold atI ixN
 rw [if_neg (by decide),if_pos (by omega),Option.bind_some,show (-1 + (ys.length:Int)).toNat=n by omega]
 exact h⟩
instance go_lrev {K:W.Frag} {ta:TA} {σ:L2.St} {H:Hp} {Q:VK}:Go (tLRev K ta σ H Q) (ta σ H fun vs H1=>∃a xs,vs=[.ref a]∧SqL K H1 a xs∧∀l H',New H1 H' l (.lst xs.reverse)→Q (.ref l) H'):=⟨id⟩
theorem LsAt.has {H:Hp} {ys:List V} {T:List PR} {q:Addr} (h:LsAt H ys T) (hm:V.ref q∈ys):∃u,H q=some u:=by
 obtain ⟨j,hj⟩:=List.getElem?_of_mem hm
 have hl:j < T.length:=by have:=(List.getElem?_eq_some_iff.mp hj).1;rw [h.1] at this;exact this
 obtain ⟨q',a,b⟩:=h.2 j _ (List.getElem?_eq_getElem hl)
 rw [hj] at a
 cases a
 exact ⟨_,b⟩
def sp_right (CL:Addr):Sp:=fun vs H Q _=>∃(x p dx:Addr) (n:Nat) (zs:List V) (rs:List Rw) (s:Nat),vs=[.ref x,.int (s:Nat)]∧H x=some (.ins CL dx (lF (n:Nat) p))∧H p=some (.lst zs)∧TupsAt H zs (rowsV rs)∧rs.length≤40∧s≤240∧(∀g∈gapsOf n rs,0≤g)∧∀q ys H',Same H H'→H' q=some (.lst ys)→LsAt H' ys (rightT rs (gapsOf n rs) s rs.length).reverse→(∀a u,H a=some u→a≠q∧V.ref a ∉ ys)→V.ref q ∉ ys→Q (.ref q) H'
section
variable {P:Program} {w:World} {K:W.Frag} {mg:Str→Option Value} {base:Heap} {c:Nat→Addr} {ct_Linit pt_Linit R CL:Addr}
theorem D_right (T:Txt K mg c R CL ct_Linit pt_Linit):Def P w K mg base CX0 3 "right_prices" ["layout", "size"] (sp_right CL):=by
 have D_gapsof:=D_gapsof (P:=P) (w:=w) (base:=base) T
 have MT_Lblocks:=MT_Lblocks (P:=P) (w:=w) (base:=base) T
 have D_atend:=D_atend (P:=P) (w:=w) (base:=base) T
 have D_beside:=D_beside (P:=P) (w:=w) (base:=base) T
 refine def_of T.d_right sc_right (fun vs H Q E h=>?_) (fun _ _ _ _ _ _ us hl=>match us,hl with | [_,_],_=>rfl) (fun f cdv A outer s H vs Q E hr h=>?_)
 ·obtain ⟨x,p,dx,n,zs,rs,s,rfl,_⟩:=h
  rfl
 ·obtain ⟨x,p,dx,n,zs,rs,s,rfl,hx,hp,tp,few,s240,gpos,k⟩:=h
  have nd:=sc_right.nd
  refine ⟨_,(pss_cons (ps_set (i:=2) nd rfl (Or.inl rfl) (pe_def D_gapsof hr (pa_cons (pv 0) pa_nil)))
   (pss_cons (ps_set (i:=3) nd rfl (Or.inl rfl) (pe_met0 (pv 0) T.clL MT_Lblocks hr))
   (pss_cons (ps_set (i:=4) nd rfl (Or.inl rfl) (pe_lstA (pa_cons (pe_def D_atend hr (pa_cons (pv 1) pa_nil)) pa_nil)))
   (pss_cons (ps_for PassesOwn.never rfl (pi_rangeD rfl T.n_range (pa_cons (pe_op op_sub (pe_callB call_lenN rfl T.n_len boot_len (pa_cons (pv 3) pa_nil)) pe_int) (pa_cons (pe_un un_neg pe_int) (pa_cons (pe_un un_neg pe_int) pa_nil)))) (pg_name (i:=5) nd rfl (Or.inl rfl)) (pss_one (ps_expr (pe_appendA (pv 4) (pe_def D_beside hr (pa_cons (pe_ix ix_list (pv 3) (pv 5) (fun _ _=>rfl)) (pa_cons (pe_ix ix_list (pv 4) (pe_un un_neg pe_int) (fun _ _=>rfl)) (pa_cons (pe_ix ix_list (pv 2) (pe_op op_add (pv 5) pe_int) (fun _ _=>rfl)) (pa_cons (pv 1) pa_nil)))))))))
   (pss_one (ps_ret (pe_listRev rfl rfl T.n_list rfl T.n_reversed (pa_cons (pv 4) pa_nil)))))))),?_⟩
  clear nd D_gapsof MT_Lblocks D_atend D_beside
  rw [show start ["layout", "size", "gaps", "blocks", "falling", "at"] [.ref x,.int (s:Nat)]=[some (.ref x),some (.int (s:Nat)),none,none,none,none] from rfl]
  try dsimp only [cx_K,cx_K2]
  have iL_many:FldOk K CL "many" := ⟨T.clL,T.aL_many⟩
  have iL_rows:FldOk K CL "rows" := ⟨T.clL,T.aL_rows⟩
  have o_hx:=Old.mk (M:=[]) hx nm0
  have o_hp:=Old.mk (M:=[]) hp nm0
  have o_tp:=OldP.mk tp
  have F:SH H [] H [] []:=SH.nil
  have few2:rs.length≤40:=few
  have yl:zs.length=rs.length:=by rw [tp.1,rowsV_len]
  have gl_:(gapsOf n rs).length=rs.length + 1:=by unfold gapsOf;rw [List.length_append,gp_len];rfl
  repeat k_meth
  rename_i _ gl _ bl _ er
  rename Addr=>tb
  have fre:∀a u,H a=some u→V.ref a ∉ [V.ref er]:=fun a u e hm=>by
   cases List.mem_singleton.mp hm
   exact F.fresh (LkL.m (o:=.lst _)) nm0 er u e rfl
  rw [show ((zs.length:Int) - 1 + 1).toNat=rs.length by omega]
  refine forS_by (fun i σ' H'=>∃(o5:Option V) (ys:List V),σ'=[some (.ref x),some (.int (s:Nat)),some (.ref gl),some (.ref bl),some (.ref tb),o5]∧LsAt H' ys (rightT rs (gapsOf n rs) s i)∧(∀a u,H a=some u→V.ref a ∉ ys)∧V.ref tb ∉ ys∧SH H [] H' [(bl,.lst zs),(tb,.lst ys),(gl,.lst ((gapsOf n rs).map V.int))] []) ⟨_,[.ref er],rfl,LsAt.snoc LsAt.nil hatC,fre,fun hm=>SH.neC (F:=F) (a:=tb) (b:=er) (by simpa using hm),F.sub SbC.s (by simp)⟩ ?_ ?_
  ·clear F
   rintro i σ' H' hi ⟨_,ys,rfl,ls,fr,nt,F⟩
   obtain ⟨r,e1⟩:∃r,rs[rs.length - 1 - i]?=some r:=⟨_,List.getElem?_eq_getElem (by omega)⟩
   obtain ⟨v,hv⟩:∃v,zs[rs.length - 1 - i]?=some v:=⟨_,List.getElem?_eq_getElem (by omega)⟩
   obtain ⟨r',q1,e1',rfl,e2⟩:=rowsV_at tp hv
   rw [e1] at e1'
   cases e1'
   obtain ⟨ql,hl,eql⟩:=ls.2 i _ rightT_at
   have ysn:ys.length=i + 1:=by
    have h1:=ls.1
    unfold rightT at h1
    rw [List.length_map,List.length_range] at h1
    exact h1
   have sm0:=F.sm
   have ysl:ys.length < sizeLine:=by rw [sizeLine_eq];omega
   have htb:H' tb=some (.lst ys):=hatC
   have hgl:H' gl=some (.lst ((gapsOf n rs).map V.int)):=hatC
   have hbl:H' bl=some (.lst zs):=hatC
   have ne1:gl≠tb:=SH.neC (F:=F)
   have ne4:bl≠tb:=SH.neC (F:=F)
   have e3:=F.sm _ _ e2
   have ne2:q1≠tb:=fun z=>by rw [z,htb] at e3;cases e3
   have ne3:ql≠tb:=fun z=>nt (by rw [← z];exact List.mem_of_getElem? hl)
   have back:∀(H4:Hp) (zs2:List V),Kp tb H' H4→H4 tb=some (.lst zs2)→SH H [] H4 [(bl,.lst zs),(tb,.lst zs2),(gl,.lst ((gapsOf n rs).map V.int))] []:=fun H4 zs2 kp e=>F.kpL kp e LkU.u
   clear F
   have F:SH H' [tb] H' [(tb,.lst ys)] []:=SH.nil.addM List.mem_cons_self htb rfl (by simp)
   have o_gl:=Old.mk (M:=[tb]) hgl (nm1 ne1)
   have o_bl:=Old.mk (M:=[tb]) hbl (nm1 ne4)
   have o_q1:=Old.mk (M:=[tb]) e3 (nm1 ne2)
   have o_ql:=Old.mk (M:=[tb]) eql (nm1 ne3)
   have at_r:AtI ys (-1) (.ref ql):=at_last ysn hl
   have at_b:AtI zs ((zs.length:Int) - 1 + (i:Int) * (-1)) (.ref q1):=⟨by rw [show (zs.length:Int) - 1 + (i:Int) * (-1)=((rs.length - 1 - i:Nat):Int) by omega];exact atI_nat hv⟩
   obtain ⟨gv,hgv⟩:∃gv,(gapsOf n rs)[rs.length - i]?=some gv:=⟨_,List.getElem?_eq_getElem (by omega)⟩
   have at_g:AtI ((gapsOf n rs).map V.int) ((zs.length:Int) - 1 + (i:Int) * (-1) + 1) (.int gv):=⟨by rw [show (zs.length:Int) - 1 + (i:Int) * (-1) + 1=((rs.length - i:Nat):Int) by omega];exact atI_nat (by rw [List.getElem?_map,hgv];rfl)⟩
   have bl1:=rightR_len rs (gapsOf n rs) s i
   have sd1:s≤240∧0≤gv:=⟨s240,gpos gv (List.mem_of_getElem? hgv)⟩
   repeat k_meth
   refine ⟨_,ys++[.ref p_],rfl,?_,fun a u e hm=>?_,fun hm=>?_,back _ _ F.kpo hatC⟩
   ·rw [rightT_next e1,show (gapsOf n rs).getD (rs.length - i) 0=gv by rw [List.getD_eq_getElem?_getD,hgv];rfl]
    exact LsAt.snoc (ls.kept fun q u hm e=>F.fr q u (nm1 fun z=>nt (z▸hm)) e) hatC
   ·rcases List.mem_append.mp hm with hm | hm
    ·exact fr a u e hm
    ·exact F.fresh (LkL.m (o:=.lst _)) (nm1 (SH.neC (F:=F))) a u (sm0 _ _ e) (by simpa using hm)
   ·rcases List.mem_append.mp hm with hm | hm
    ·exact nt hm
    ·exact SH.neC (F:=F) (a:=tb) (b:=p_) (by simpa using hm)
  ·clear F
   rintro σ' H' ⟨_,ys,rfl,ls,fr,nt,F⟩
   repeat k_meth
   refine ⟨tb,ys,rfl,SqA.e,fun q H2 nw=>?_⟩
   have sm0:=F.sm
   refine k q _ _ (sm0.trans nw.s) nw.e (ls.kept fun q u _ e=>nw.s _ _ e).rev (fun a u e=>⟨nw.n a u (sm0 _ _ e),fun hm=>fr a u e (List.mem_reverse.mp hm)⟩) fun hm=>?_
   obtain ⟨u,hu⟩:=ls.has (List.mem_reverse.mp hm)
   exact nw.n q u hu rfl
end
instance go_isLTb {H:Hp} {Q:VK} {p:Addr} {b:Bool} [h:Hat H p (.tup [.ty "list", .ty "tuple"])]:Go (rIsLT [.bl b,.ref p] H Q) (Q (.bl false) H):=⟨fun k=>⟨_,p,rfl,h.e,.inl ⟨rfl,k⟩⟩⟩
instance go_isLTs {H:Hp} {Q:VK} {p:Addr} {x:Str} [h:Hat H p (.tup [.ty "list", .ty "tuple"])]:Go (rIsLT [.str x,.ref p] H Q) (Q (.bl false) H):=⟨fun k=>⟨_,p,rfl,h.e,.inl ⟨rfl,k⟩⟩⟩
def sp_no:Sp:=fun _ _ _ _=>False
def sp_ht (n:Nat):Sp:=fun vs H Q _=>∃(v:V) (d:Dt),vs=[v]∧TrH H d v∧depD d≤n∧widD d∧∀H',Same H H'→Q (.bl (hasT d)) H'
section
variable {P:Program} {w:World} {K:W.Frag} {mg:Str→Option Value} {base:Heap} {c:Nat→Addr} {ct_Linit pt_Linit R CL:Addr}
theorem D_truthZ (T:Txt K mg c R CL ct_Linit pt_Linit):Def P w K mg base CX0 1 "has_truth" ["thing"] sp_no:=by
 refine def_of T.d_truth sc_truth (fun vs H Q E h=>h.elim) (fun _ _ _ _ _ _ us hl=>match us,hl with | [_],_=>rfl) (fun f cdv A outer s H vs Q E hr h=>h.elim)
theorem D_truth0 (T:Txt K mg c R CL ct_Linit pt_Linit):Def P w K mg base CX0 2 "has_truth" ["thing"] (sp_ht 0):=by
 refine def_of T.d_truth sc_truth (fun vs H Q E h=>?_) (fun _ _ _ _ _ _ us hl=>match us,hl with | [_],_=>rfl) (fun f cdv A outer s H vs Q E hr h=>?_)
 ·obtain ⟨v,d,rfl,_⟩:=h
  rfl
 ·obtain ⟨v,d,rfl,tr,dp,wd,k⟩:=h
  have nd:=sc_truth.nd
  refine ⟨_,(pss_cons (ps_if (pt_val (pe_callB call_isLT rfl T.n_isinstance boot_isinstance (pa_cons (pv 0) (pa_cons (pe_tupA (pa_cons (pe_ty (T := "list") rfl T.n_list boot_list) (pa_cons (pe_ty (T := "tuple") rfl T.n_tuple boot_tuple) pa_nil))) pa_nil)))) (pss_one (ps_ret (pe_callB (call_any rfl) rfl T.n_any boot_any (pa_cons (pe_comp (N:=["part"]) (nt:=1) (fr:=[]) (pi_or (pi_list (pv 0)) (pi_tup (pv 0))) (fun _ _ _ _=>(pg_name (i:=0) (show (["part"]:List Str).Nodup from by decide +kernel) rfl (Or.inl rfl))) (fun _ _ _ _=>pif_nil) (fun _ _ _ _=>(pe_def (D_truthZ (P:=P) (w:=w) (base:=base) T) hr (pa_cons (pv 0) pa_nil)))) pa_nil)))) pss_nil)
   (pss_one (ps_ret (pe_callB call_isT rfl T.n_isinstance boot_isinstance (pa_cons (pv 0) (pa_cons (pe_ty (T := "bool") rfl T.n_bool boot_bool) pa_nil)))))),?_⟩
  clear nd 
  rw [show start ["thing"] [v]=[some (v)] from rfl]
  try dsimp only [cx_K,cx_K2]
  have iL_many:FldOk K CL "many" := ⟨T.clL,T.aL_many⟩
  have iL_rows:FldOk K CL "rows" := ⟨T.clL,T.aL_rows⟩
  have F:SH H [] H [] []:=SH.nil
  cases d with
  | non =>
   simp only [TrH] at tr
   subst tr
   repeat k_meth
   exact k _ F.sm
  | bl b =>
   simp only [TrH] at tr
   subst tr
   repeat k_meth
   exact k _ F.sm
  | int i =>
   simp only [TrH] at tr
   subst tr
   repeat k_meth
   exact k _ F.sm
  | str x =>
   simp only [TrH] at tr
   subst tr
   repeat k_meth
   exact k _ F.sm
  | lst ds=>simp [depD] at dp
  | tup ds=>simp [depD] at dp
theorem D_truth1 (T:Txt K mg c R CL ct_Linit pt_Linit):Def P w K mg base CX0 3 "has_truth" ["thing"] (sp_ht 1):=by
 refine def_of T.d_truth sc_truth (fun vs H Q E h=>?_) (fun _ _ _ _ _ _ us hl=>match us,hl with | [_],_=>rfl) (fun f cdv A outer s H vs Q E hr h=>?_)
 ·obtain ⟨v,d,rfl,_⟩:=h
  rfl
 ·obtain ⟨v,d,rfl,tr,dp,wd,k⟩:=h
  have nd:=sc_truth.nd
  refine ⟨_,(pss_cons (ps_if (pt_val (pe_callB call_isLT rfl T.n_isinstance boot_isinstance (pa_cons (pv 0) (pa_cons (pe_tupA (pa_cons (pe_ty (T := "list") rfl T.n_list boot_list) (pa_cons (pe_ty (T := "tuple") rfl T.n_tuple boot_tuple) pa_nil))) pa_nil)))) (pss_one (ps_ret (pe_callB (call_any rfl) rfl T.n_any boot_any (pa_cons (pe_comp (N:=["part"]) (nt:=1) (fr:=[]) (pi_or (pi_list (pv 0)) (pi_tup (pv 0))) (fun _ _ _ _=>(pg_name (i:=0) (show (["part"]:List Str).Nodup from by decide +kernel) rfl (Or.inl rfl))) (fun _ _ _ _=>pif_nil) (fun _ _ _ _=>(pe_def (D_truth0 (P:=P) (w:=w) (base:=base) T) hr (pa_cons (pv 0) pa_nil)))) pa_nil)))) pss_nil)
   (pss_one (ps_ret (pe_callB call_isT rfl T.n_isinstance boot_isinstance (pa_cons (pv 0) (pa_cons (pe_ty (T := "bool") rfl T.n_bool boot_bool) pa_nil)))))),?_⟩
  clear nd 
  rw [show start ["thing"] [v]=[some (v)] from rfl]
  try dsimp only [cx_K,cx_K2]
  have iL_many:FldOk K CL "many" := ⟨T.clL,T.aL_many⟩
  have iL_rows:FldOk K CL "rows" := ⟨T.clL,T.aL_rows⟩
  have F:SH H [] H [] []:=SH.nil
  cases d with
  | non =>
   simp only [TrH] at tr
   subst tr
   repeat k_meth
   exact k _ F.sm
  | bl b =>
   simp only [TrH] at tr
   subst tr
   repeat k_meth
   exact k _ F.sm
  | int i =>
   simp only [TrH] at tr
   subst tr
   repeat k_meth
   exact k _ F.sm
  | str x =>
   simp only [TrH] at tr
   subst tr
   repeat k_meth
   exact k _ F.sm
  | lst ds =>
   simp only [TrH] at tr
   obtain ⟨p,xs,rfl,hp,ts⟩:=tr
   simp only [depD] at dp
   simp only [widD] at wd
   have ln:=ts.len
   have o_p:=Old.mk (M:=[]) hp nm0
   repeat k_meth
   refine comp_inl ?_
   repeat k_meth
   refine comp_map (P:=fun i y=>∃d,ds[i]?=some d∧y=.bl (hasT d)) (items_list (xs:=xs)) (by omega) rfl (fun H' s=>s.seq SqA.e) (fun i v H' R hv s kk=>?_) fun z H2 ys nw hl hP=>?_
   ·obtain ⟨d,hd,td⟩:=ts.at hv
    have td2:=td.same (F.sm.trans s)
    have dd:=depDs_at hd
    have wd2:=widDs_at wd.2 hd
    clear F
    have F:SH H' [] H' [] []:=SH.nil
    repeat k_meth
    exact ⟨v,d,rfl,td2,by omega,wd2,fun H2 s2=>kk _ _ s2 ⟨d,hd,rfl⟩⟩
   ·rw [bls_of (hl.trans ln) hP] at nw
    replace F:=F.newL nw
    repeat k_meth
    refine ⟨z,_,rfl,SqA.e,?_⟩
    rw [hasTs_any]
    exact k _ F.sm
  | tup ds =>
   simp only [TrH] at tr
   obtain ⟨p,xs,rfl,hp,ts⟩:=tr
   simp only [depD] at dp
   simp only [widD] at wd
   have ln:=ts.len
   have o_p:=Old.mk (M:=[]) hp nm0
   repeat k_meth
   refine comp_inr ?_
   repeat k_meth
   refine comp_map (P:=fun i y=>∃d,ds[i]?=some d∧y=.bl (hasT d)) (items_tup (xs:=xs)) (by omega) rfl (fun H' s=>s.tup (SqT.of hatC)) (fun i v H' R hv s kk=>?_) fun z H2 ys nw hl hP=>?_
   ·obtain ⟨d,hd,td⟩:=ts.at hv
    have td2:=td.same (F.sm.trans s)
    have dd:=depDs_at hd
    have wd2:=widDs_at wd.2 hd
    clear F
    have F:SH H' [] H' [] []:=SH.nil
    repeat k_meth
    exact ⟨v,d,rfl,td2,by omega,wd2,fun H2 s2=>kk _ _ s2 ⟨d,hd,rfl⟩⟩
   ·rw [bls_of (hl.trans ln) hP] at nw
    replace F:=F.newL nw
    repeat k_meth
    refine ⟨z,_,rfl,SqA.e,?_⟩
    rw [hasTs_any]
    exact k _ F.sm
theorem D_truth2 (T:Txt K mg c R CL ct_Linit pt_Linit):Def P w K mg base CX0 4 "has_truth" ["thing"] (sp_ht 2):=by
 refine def_of T.d_truth sc_truth (fun vs H Q E h=>?_) (fun _ _ _ _ _ _ us hl=>match us,hl with | [_],_=>rfl) (fun f cdv A outer s H vs Q E hr h=>?_)
 ·obtain ⟨v,d,rfl,_⟩:=h
  rfl
 ·obtain ⟨v,d,rfl,tr,dp,wd,k⟩:=h
  have nd:=sc_truth.nd
  refine ⟨_,(pss_cons (ps_if (pt_val (pe_callB call_isLT rfl T.n_isinstance boot_isinstance (pa_cons (pv 0) (pa_cons (pe_tupA (pa_cons (pe_ty (T := "list") rfl T.n_list boot_list) (pa_cons (pe_ty (T := "tuple") rfl T.n_tuple boot_tuple) pa_nil))) pa_nil)))) (pss_one (ps_ret (pe_callB (call_any rfl) rfl T.n_any boot_any (pa_cons (pe_comp (N:=["part"]) (nt:=1) (fr:=[]) (pi_or (pi_list (pv 0)) (pi_tup (pv 0))) (fun _ _ _ _=>(pg_name (i:=0) (show (["part"]:List Str).Nodup from by decide +kernel) rfl (Or.inl rfl))) (fun _ _ _ _=>pif_nil) (fun _ _ _ _=>(pe_def (D_truth1 (P:=P) (w:=w) (base:=base) T) hr (pa_cons (pv 0) pa_nil)))) pa_nil)))) pss_nil)
   (pss_one (ps_ret (pe_callB call_isT rfl T.n_isinstance boot_isinstance (pa_cons (pv 0) (pa_cons (pe_ty (T := "bool") rfl T.n_bool boot_bool) pa_nil)))))),?_⟩
  clear nd 
  rw [show start ["thing"] [v]=[some (v)] from rfl]
  try dsimp only [cx_K,cx_K2]
  have iL_many:FldOk K CL "many" := ⟨T.clL,T.aL_many⟩
  have iL_rows:FldOk K CL "rows" := ⟨T.clL,T.aL_rows⟩
  have F:SH H [] H [] []:=SH.nil
  cases d with
  | non =>
   simp only [TrH] at tr
   subst tr
   repeat k_meth
   exact k _ F.sm
  | bl b =>
   simp only [TrH] at tr
   subst tr
   repeat k_meth
   exact k _ F.sm
  | int i =>
   simp only [TrH] at tr
   subst tr
   repeat k_meth
   exact k _ F.sm
  | str x =>
   simp only [TrH] at tr
   subst tr
   repeat k_meth
   exact k _ F.sm
  | lst ds =>
   simp only [TrH] at tr
   obtain ⟨p,xs,rfl,hp,ts⟩:=tr
   simp only [depD] at dp
   simp only [widD] at wd
   have ln:=ts.len
   have o_p:=Old.mk (M:=[]) hp nm0
   repeat k_meth
   refine comp_inl ?_
   repeat k_meth
   refine comp_map (P:=fun i y=>∃d,ds[i]?=some d∧y=.bl (hasT d)) (items_list (xs:=xs)) (by omega) rfl (fun H' s=>s.seq SqA.e) (fun i v H' R hv s kk=>?_) fun z H2 ys nw hl hP=>?_
   ·obtain ⟨d,hd,td⟩:=ts.at hv
    have td2:=td.same (F.sm.trans s)
    have dd:=depDs_at hd
    have wd2:=widDs_at wd.2 hd
    clear F
    have F:SH H' [] H' [] []:=SH.nil
    repeat k_meth
    exact ⟨v,d,rfl,td2,by omega,wd2,fun H2 s2=>kk _ _ s2 ⟨d,hd,rfl⟩⟩
   ·rw [bls_of (hl.trans ln) hP] at nw
    replace F:=F.newL nw
    repeat k_meth
    refine ⟨z,_,rfl,SqA.e,?_⟩
    rw [hasTs_any]
    exact k _ F.sm
  | tup ds =>
   simp only [TrH] at tr
   obtain ⟨p,xs,rfl,hp,ts⟩:=tr
   simp only [depD] at dp
   simp only [widD] at wd
   have ln:=ts.len
   have o_p:=Old.mk (M:=[]) hp nm0
   repeat k_meth
   refine comp_inr ?_
   repeat k_meth
   refine comp_map (P:=fun i y=>∃d,ds[i]?=some d∧y=.bl (hasT d)) (items_tup (xs:=xs)) (by omega) rfl (fun H' s=>s.tup (SqT.of hatC)) (fun i v H' R hv s kk=>?_) fun z H2 ys nw hl hP=>?_
   ·obtain ⟨d,hd,td⟩:=ts.at hv
    have td2:=td.same (F.sm.trans s)
    have dd:=depDs_at hd
    have wd2:=widDs_at wd.2 hd
    clear F
    have F:SH H' [] H' [] []:=SH.nil
    repeat k_meth
    exact ⟨v,d,rfl,td2,by omega,wd2,fun H2 s2=>kk _ _ s2 ⟨d,hd,rfl⟩⟩
   ·rw [bls_of (hl.trans ln) hP] at nw
    replace F:=F.newL nw
    repeat k_meth
    refine ⟨z,_,rfl,SqA.e,?_⟩
    rw [hasTs_any]
    exact k _ F.sm
theorem D_truth3 (T:Txt K mg c R CL ct_Linit pt_Linit):Def P w K mg base CX0 5 "has_truth" ["thing"] (sp_ht 3):=by
 refine def_of T.d_truth sc_truth (fun vs H Q E h=>?_) (fun _ _ _ _ _ _ us hl=>match us,hl with | [_],_=>rfl) (fun f cdv A outer s H vs Q E hr h=>?_)
 ·obtain ⟨v,d,rfl,_⟩:=h
  rfl
 ·obtain ⟨v,d,rfl,tr,dp,wd,k⟩:=h
  have nd:=sc_truth.nd
  refine ⟨_,(pss_cons (ps_if (pt_val (pe_callB call_isLT rfl T.n_isinstance boot_isinstance (pa_cons (pv 0) (pa_cons (pe_tupA (pa_cons (pe_ty (T := "list") rfl T.n_list boot_list) (pa_cons (pe_ty (T := "tuple") rfl T.n_tuple boot_tuple) pa_nil))) pa_nil)))) (pss_one (ps_ret (pe_callB (call_any rfl) rfl T.n_any boot_any (pa_cons (pe_comp (N:=["part"]) (nt:=1) (fr:=[]) (pi_or (pi_list (pv 0)) (pi_tup (pv 0))) (fun _ _ _ _=>(pg_name (i:=0) (show (["part"]:List Str).Nodup from by decide +kernel) rfl (Or.inl rfl))) (fun _ _ _ _=>pif_nil) (fun _ _ _ _=>(pe_def (D_truth2 (P:=P) (w:=w) (base:=base) T) hr (pa_cons (pv 0) pa_nil)))) pa_nil)))) pss_nil)
   (pss_one (ps_ret (pe_callB call_isT rfl T.n_isinstance boot_isinstance (pa_cons (pv 0) (pa_cons (pe_ty (T := "bool") rfl T.n_bool boot_bool) pa_nil)))))),?_⟩
  clear nd 
  rw [show start ["thing"] [v]=[some (v)] from rfl]
  try dsimp only [cx_K,cx_K2]
  have iL_many:FldOk K CL "many" := ⟨T.clL,T.aL_many⟩
  have iL_rows:FldOk K CL "rows" := ⟨T.clL,T.aL_rows⟩
  have F:SH H [] H [] []:=SH.nil
  cases d with
  | non =>
   simp only [TrH] at tr
   subst tr
   repeat k_meth
   exact k _ F.sm
  | bl b =>
   simp only [TrH] at tr
   subst tr
   repeat k_meth
   exact k _ F.sm
  | int i =>
   simp only [TrH] at tr
   subst tr
   repeat k_meth
   exact k _ F.sm
  | str x =>
   simp only [TrH] at tr
   subst tr
   repeat k_meth
   exact k _ F.sm
  | lst ds =>
   simp only [TrH] at tr
   obtain ⟨p,xs,rfl,hp,ts⟩:=tr
   simp only [depD] at dp
   simp only [widD] at wd
   have ln:=ts.len
   have o_p:=Old.mk (M:=[]) hp nm0
   repeat k_meth
   refine comp_inl ?_
   repeat k_meth
   refine comp_map (P:=fun i y=>∃d,ds[i]?=some d∧y=.bl (hasT d)) (items_list (xs:=xs)) (by omega) rfl (fun H' s=>s.seq SqA.e) (fun i v H' R hv s kk=>?_) fun z H2 ys nw hl hP=>?_
   ·obtain ⟨d,hd,td⟩:=ts.at hv
    have td2:=td.same (F.sm.trans s)
    have dd:=depDs_at hd
    have wd2:=widDs_at wd.2 hd
    clear F
    have F:SH H' [] H' [] []:=SH.nil
    repeat k_meth
    exact ⟨v,d,rfl,td2,by omega,wd2,fun H2 s2=>kk _ _ s2 ⟨d,hd,rfl⟩⟩
   ·rw [bls_of (hl.trans ln) hP] at nw
    replace F:=F.newL nw
    repeat k_meth
    refine ⟨z,_,rfl,SqA.e,?_⟩
    rw [hasTs_any]
    exact k _ F.sm
  | tup ds =>
   simp only [TrH] at tr
   obtain ⟨p,xs,rfl,hp,ts⟩:=tr
   simp only [depD] at dp
   simp only [widD] at wd
   have ln:=ts.len
   have o_p:=Old.mk (M:=[]) hp nm0
   repeat k_meth
   refine comp_inr ?_
   repeat k_meth
   refine comp_map (P:=fun i y=>∃d,ds[i]?=some d∧y=.bl (hasT d)) (items_tup (xs:=xs)) (by omega) rfl (fun H' s=>s.tup (SqT.of hatC)) (fun i v H' R hv s kk=>?_) fun z H2 ys nw hl hP=>?_
   ·obtain ⟨d,hd,td⟩:=ts.at hv
    have td2:=td.same (F.sm.trans s)
    have dd:=depDs_at hd
    have wd2:=widDs_at wd.2 hd
    clear F
    have F:SH H' [] H' [] []:=SH.nil
    repeat k_meth
    exact ⟨v,d,rfl,td2,by omega,wd2,fun H2 s2=>kk _ _ s2 ⟨d,hd,rfl⟩⟩
   ·rw [bls_of (hl.trans ln) hP] at nw
    replace F:=F.newL nw
    repeat k_meth
    refine ⟨z,_,rfl,SqA.e,?_⟩
    rw [hasTs_any]
    exact k _ F.sm
theorem D_truth (T:Txt K mg c R CL ct_Linit pt_Linit):Def P w K mg base CX0 6 "has_truth" ["thing"] (sp_ht 4):=by
 refine def_of T.d_truth sc_truth (fun vs H Q E h=>?_) (fun _ _ _ _ _ _ us hl=>match us,hl with | [_],_=>rfl) (fun f cdv A outer s H vs Q E hr h=>?_)
 ·obtain ⟨v,d,rfl,_⟩:=h
  rfl
 ·obtain ⟨v,d,rfl,tr,dp,wd,k⟩:=h
  have nd:=sc_truth.nd
  refine ⟨_,(pss_cons (ps_if (pt_val (pe_callB call_isLT rfl T.n_isinstance boot_isinstance (pa_cons (pv 0) (pa_cons (pe_tupA (pa_cons (pe_ty (T := "list") rfl T.n_list boot_list) (pa_cons (pe_ty (T := "tuple") rfl T.n_tuple boot_tuple) pa_nil))) pa_nil)))) (pss_one (ps_ret (pe_callB (call_any rfl) rfl T.n_any boot_any (pa_cons (pe_comp (N:=["part"]) (nt:=1) (fr:=[]) (pi_or (pi_list (pv 0)) (pi_tup (pv 0))) (fun _ _ _ _=>(pg_name (i:=0) (show (["part"]:List Str).Nodup from by decide +kernel) rfl (Or.inl rfl))) (fun _ _ _ _=>pif_nil) (fun _ _ _ _=>(pe_def (D_truth3 (P:=P) (w:=w) (base:=base) T) hr (pa_cons (pv 0) pa_nil)))) pa_nil)))) pss_nil)
   (pss_one (ps_ret (pe_callB call_isT rfl T.n_isinstance boot_isinstance (pa_cons (pv 0) (pa_cons (pe_ty (T := "bool") rfl T.n_bool boot_bool) pa_nil)))))),?_⟩
  clear nd 
  rw [show start ["thing"] [v]=[some (v)] from rfl]
  try dsimp only [cx_K,cx_K2]
  have iL_many:FldOk K CL "many" := ⟨T.clL,T.aL_many⟩
  have iL_rows:FldOk K CL "rows" := ⟨T.clL,T.aL_rows⟩
  have F:SH H [] H [] []:=SH.nil
  cases d with
  | non =>
   simp only [TrH] at tr
   subst tr
   repeat k_meth
   exact k _ F.sm
  | bl b =>
   simp only [TrH] at tr
   subst tr
   repeat k_meth
   exact k _ F.sm
  | int i =>
   simp only [TrH] at tr
   subst tr
   repeat k_meth
   exact k _ F.sm
  | str x =>
   simp only [TrH] at tr
   subst tr
   repeat k_meth
   exact k _ F.sm
  | lst ds =>
   simp only [TrH] at tr
   obtain ⟨p,xs,rfl,hp,ts⟩:=tr
   simp only [depD] at dp
   simp only [widD] at wd
   have ln:=ts.len
   have o_p:=Old.mk (M:=[]) hp nm0
   repeat k_meth
   refine comp_inl ?_
   repeat k_meth
   refine comp_map (P:=fun i y=>∃d,ds[i]?=some d∧y=.bl (hasT d)) (items_list (xs:=xs)) (by omega) rfl (fun H' s=>s.seq SqA.e) (fun i v H' R hv s kk=>?_) fun z H2 ys nw hl hP=>?_
   ·obtain ⟨d,hd,td⟩:=ts.at hv
    have td2:=td.same (F.sm.trans s)
    have dd:=depDs_at hd
    have wd2:=widDs_at wd.2 hd
    clear F
    have F:SH H' [] H' [] []:=SH.nil
    repeat k_meth
    exact ⟨v,d,rfl,td2,by omega,wd2,fun H2 s2=>kk _ _ s2 ⟨d,hd,rfl⟩⟩
   ·rw [bls_of (hl.trans ln) hP] at nw
    replace F:=F.newL nw
    repeat k_meth
    refine ⟨z,_,rfl,SqA.e,?_⟩
    rw [hasTs_any]
    exact k _ F.sm
  | tup ds =>
   simp only [TrH] at tr
   obtain ⟨p,xs,rfl,hp,ts⟩:=tr
   simp only [depD] at dp
   simp only [widD] at wd
   have ln:=ts.len
   have o_p:=Old.mk (M:=[]) hp nm0
   repeat k_meth
   refine comp_inr ?_
   repeat k_meth
   refine comp_map (P:=fun i y=>∃d,ds[i]?=some d∧y=.bl (hasT d)) (items_tup (xs:=xs)) (by omega) rfl (fun H' s=>s.tup (SqT.of hatC)) (fun i v H' R hv s kk=>?_) fun z H2 ys nw hl hP=>?_
   ·obtain ⟨d,hd,td⟩:=ts.at hv
    have td2:=td.same (F.sm.trans s)
    have dd:=depDs_at hd
    have wd2:=widDs_at wd.2 hd
    clear F
    have F:SH H' [] H' [] []:=SH.nil
    repeat k_meth
    exact ⟨v,d,rfl,td2,by omega,wd2,fun H2 s2=>kk _ _ s2 ⟨d,hd,rfl⟩⟩
   ·rw [bls_of (hl.trans ln) hP] at nw
    replace F:=F.newL nw
    repeat k_meth
    refine ⟨z,_,rfl,SqA.e,?_⟩
    rw [hasTs_any]
    exact k _ F.sm
end
structure Tab (H:Hp) (t l m:Addr) (ys zs:List V) (T U:List PR):Prop where
 t:H t=some (.tup [.ref l,.ref m])
 l:H l=some (.lst ys)
 a:LsAt H ys T
 m:H m=some (.lst zs)
 b:LsAt H zs U
theorem Tab.same {H H':Hp} {t l m:Addr} {ys zs:List V} {T U:List PR} (h:Tab H t l m ys zs T U) (s:Same H H'):Tab H' t l m ys zs T U:=⟨s _ _ h.t,s _ _ h.l,h.a.kept fun q u _ e=>s _ _ e,s _ _ h.m,h.b.kept fun q u _ e=>s _ _ e⟩
def rowD (r:PR):Dt:=.lst (r.map fun o=>flatDt (pV o))
def tabD (T U:List PR):Dt:=.tup [.lst (T.map rowD),.lst (U.map rowD)]
theorem pV_flat (o:Option Int):isFlat (pV o)=true:=by cases o <;> rfl
theorem reps_ls {K:W.Frag} {H:Hp}:∀{T:List PR} {ys:List V},LsAt H ys T→Reps K H (T.map rowD) ys
 | [],ys,h=>by
  have:ys=[]:=List.eq_nil_of_length_eq_zero h.1
  subst this
  simp [Reps]
 | r::T,[],h=>by simp [LsAt] at h
 | r::T,y::ys,h=>by
  obtain ⟨q,e,hq⟩:=h.2 0 r rfl
  cases e
  simp only [List.map_cons,Reps]
  refine ⟨_,_,rfl,?_,reps_ls (T:=T) (ys:=ys) ⟨by have:=h.1;simpa using this,fun j r' e=>h.2 (j + 1) r' e⟩⟩
  unfold rowD
  simp only [Rep]
  refine ⟨q,_,rfl,SqL.of hq,?_⟩
  rw [show (r.map fun o=>flatDt (pV o))=(r.map pV).map flatDt by rw [List.map_map];rfl]
  exact reps_flat fun v hv=>by obtain ⟨o,_,rfl⟩:=List.mem_map.mp hv;exact pV_flat o
theorem rep_tab {K:W.Frag} {H:Hp} {t l m:Addr} {ys zs:List V} {T U:List PR} (h:Tab H t l m ys zs T U):Rep K H (tabD T U) (.ref t):=by
 unfold tabD
 simp only [Rep,Reps]
 exact ⟨t,_,rfl,SqT.of h.t,_,_,rfl,⟨l,ys,rfl,SqL.of h.l,reps_ls h.a⟩,_,_,rfl,⟨m,zs,rfl,SqL.of h.m,reps_ls h.b⟩,rfl⟩
theorem leftT_len {rs:List Rw} {gs:List Int} {s m:Nat}:(leftT rs gs s m).length=m + 1∧∀r∈leftT rs gs s m,List.length r=s + 1:=by
 unfold leftT
 refine ⟨by simp,fun r hr=>?_⟩
 obtain ⟨i,_,rfl⟩:=List.mem_map.mp hr
 exact leftR_len _ _ _ _
theorem rightT_len {rs:List Rw} {gs:List Int} {s m:Nat}:(rightT rs gs s m).reverse.length=m + 1∧∀r∈(rightT rs gs s m).reverse,List.length r=s + 1:=by
 unfold rightT
 refine ⟨by simp,fun r hr=>?_⟩
 obtain ⟨i,_,rfl⟩:=List.mem_map.mp (List.mem_reverse.mp hr)
 exact rightR_len _ _ _ _
structure LayS (CL:Addr) (H:Hp) (x p dx:Addr) (n:Nat) (zs:List V) (rs:List Rw) (s:Nat):Prop where
 x:H x=some (.ins CL dx (lF (n:Nat) p))
 p:H p=some (.lst zs)
 t:TupsAt H zs (rowsV rs)
 few:rs.length≤40
 s1:1≤s
 s2:s≤240
 g:∀g∈gapsOf n rs,0≤g
theorem LayS.same {CL:Addr} {H H':Hp} {x p dx:Addr} {n:Nat} {zs:List V} {rs:List Rw} {s:Nat} (h:LayS CL H x p dx n zs rs s) (sm:Same H H'):LayS CL H' x p dx n zs rs s:=⟨sm _ _ h.x,sm _ _ h.p,h.t.same sm,h.few,h.s1,h.s2,h.g⟩
def sp_prices (CL:Addr):Sp:=fun vs H Q _=>∃(x p dx:Addr) (n:Nat) (zs:List V) (rs:List Rw) (s:Nat),vs=[.ref x,.int (s:Nat)]∧LayS CL H x p dx n zs rs s∧∀t l m ys us H',Same H H'→Tab H' t l m ys us (leftT rs (gapsOf n rs) s rs.length) (rightT rs (gapsOf n rs) s rs.length).reverse→(∀a u,H a=some u→a≠m∧V.ref a ∉ ys)→V.ref m ∉ ys∧V.ref l ∉ ys∧l≠m→Q (.ref t) H'
def sp_isp (CL:Addr):Sp:=fun vs H Q _=>∃(x p dx:Addr) (n:Nat) (zs:List V) (rs:List Rw) (s:Nat) (v:V) (d:Dt),vs=[.ref x,.int (s:Nat),v]∧LayS CL H x p dx n zs rs s∧TrH H d v∧depD d≤4∧widD d∧∀H',Same H H'→Q (.bl (eqDt d (tabD (leftT rs (gapsOf n rs) s rs.length) (rightT rs (gapsOf n rs) s rs.length).reverse) && !hasT d)) H'
section
variable {P:Program} {w:World} {K:W.Frag} {mg:Str→Option Value} {base:Heap} {c:Nat→Addr} {ct_Linit pt_Linit R CL:Addr}
theorem D_prices (T:Txt K mg c R CL ct_Linit pt_Linit):Def P w K mg base CX0 4 "prices" ["layout", "size"] (sp_prices CL):=by
 have D_is_within:=D_is_within (P:=P) (w:=w) (base:=base) T
 have D_left:=D_left (P:=P) (w:=w) (base:=base) T
 have D_right:=D_right (P:=P) (w:=w) (base:=base) T
 refine def_of T.d_prices sc_prices (fun vs H Q E h=>?_) (fun _ _ _ _ _ _ us hl=>match us,hl with | [_,_],_=>rfl) (fun f cdv A outer s H vs Q E hr h=>?_)
 ·obtain ⟨x,p,dx,n,zs,rs,s,rfl,_⟩:=h
  rfl
 ·obtain ⟨x,p,dx,n,zs,rs,s,rfl,ly,k⟩:=h
  have nd:=sc_prices.nd
  refine ⟨_,(pss_cons (ps_if (pt_not (pt_val (pe_def D_is_within hr (pa_cons (pv 1) (pa_cons pe_int (pa_cons (pe_gl T.g_MOST_CELLS) pa_nil)))))) pss_never pss_nil)
   (pss_one (ps_ret (pe_tupA (pa_cons (pe_def D_left hr (pa_cons (pv 0) (pa_cons (pv 1) pa_nil))) (pa_cons (pe_def D_right hr (pa_cons (pv 0) (pa_cons (pv 1) pa_nil))) pa_nil)))))),?_⟩
  clear nd D_is_within D_left D_right
  rw [show start ["layout", "size"] [.ref x,.int (s:Nat)]=[some (.ref x),some (.int (s:Nat))] from rfl]
  try dsimp only [cx_K,cx_K2]
  have iL_many:FldOk K CL "many" := ⟨T.clL,T.aL_many⟩
  have iL_rows:FldOk K CL "rows" := ⟨T.clL,T.aL_rows⟩
  have F:SH H [] H [] []:=SH.nil
  have sd1:=ly.s1
  have sd2:=ly.s2
  repeat k_meth
  rw [decide_eq_true (show (1:Int)≤(s:Int) by omega),decide_eq_true (show (s:Int)≤240 by omega),show (true && true)=true from rfl]
  repeat k_meth
  refine ⟨x,p,dx,n,zs,rs,s,rfl,ly.x,ly.p,ly.t,ly.few,ly.s2,ly.g,fun l ys H2 m2 hl ls fr nl=>?_⟩
  replace F:=F.same m2
  have ly2:=ly.same m2
  repeat k_meth
  refine ⟨x,p,dx,n,zs,rs,s,rfl,ly2.x,ly2.p,ly2.t,ly2.few,ly2.s2,ly2.g,fun m us H3 m3 hm ms fm nm=>?_⟩
  clear F
  have F:SH H3 [] H3 [] []:=SH.nil
  repeat k_meth
  refine k p_ l m ys us _ ((m2.trans m3).trans F.sm) ⟨hatC,F.sm _ _ (m3 _ _ hl),ls.kept fun q u _ e=>F.sm _ _ (m3 _ _ e),F.sm _ _ hm,ms.kept fun q u _ e=>F.sm _ _ e⟩ (fun a u e=>⟨(fm a u (m2 _ _ e)).1,(fr a u e).2⟩) ⟨fun hh=>?_,nl,(fm l _ hl).1⟩
  obtain ⟨u,hu⟩:=ls.has hh
  exact (fm m u hu).1 rfl
theorem D_isprices (T:Txt K mg c R CL ct_Linit pt_Linit):Def P w K mg base CX0 7 "is_prices" ["layout", "size", "told"] (sp_isp CL):=by
 have D_prices:=D_prices (P:=P) (w:=w) (base:=base) T
 have D_truth:=D_truth (P:=P) (w:=w) (base:=base) T
 refine def_of T.d_isprices sc_isprices (fun vs H Q E h=>?_) (fun _ _ _ _ _ _ us hl=>match us,hl with | [_,_,_],_=>rfl) (fun f cdv A outer s H vs Q E hr h=>?_)
 ·obtain ⟨x,p,dx,n,zs,rs,s,v,d,rfl,_⟩:=h
  rfl
 ·obtain ⟨x,p,dx,n,zs,rs,s,v,d,rfl,ly,tr,dp,wd,k⟩:=h
  have nd:=sc_isprices.nd
  refine ⟨_,(pss_one (ps_ret (pe_and (pe_cmpR (op_eq_dN hr) (pv 2) (pe_def D_prices hr (pa_cons (pv 0) (pa_cons (pv 1) pa_nil))) (nomark _)) (pe_one (pe_not (pe_def D_truth hr (pa_cons (pv 2) pa_nil))))))),?_⟩
  clear nd D_prices D_truth
  rw [show start ["layout", "size", "told"] [.ref x,.int (s:Nat),v]=[some (.ref x),some (.int (s:Nat)),some (v)] from rfl]
  try dsimp only [cx_K,cx_K2]
  have iL_many:FldOk K CL "many" := ⟨T.clL,T.aL_many⟩
  have iL_rows:FldOk K CL "rows" := ⟨T.clL,T.aL_rows⟩
  have F:SH H [] H [] []:=SH.nil
  have sd1:=ly.few
  have sd2:=ly.s2
  repeat k_meth
  refine ⟨x,p,dx,n,zs,rs,s,rfl,ly,fun t2 l2 m2 ys2 us2 H2 s2 tb2 _ _=>?_⟩
  replace F:=F.same s2
  have tr1:=tr.same s2
  repeat k_meth
  refine ⟨_,_,tr1.rep,rep_tab tb2,by omega,?_⟩
  revert k
  cases eqDt d (tabD (leftT rs (gapsOf n rs) s rs.length) (rightT rs (gapsOf n rs) s rs.length).reverse) with
  | false =>
   intro k
   repeat k_meth
   exact k _ F.sm
  | true =>
   intro k
   repeat k_meth
   refine ⟨v,d,rfl,tr1,dp,wd,fun H3 s3=>?_⟩
   replace F:=F.same s3
   repeat k_meth
   exact k _ F.sm
end
def sp_lfirst:Sp:=fun vs H Q _=>∃s:Nat,vs=[.int (s:Nat)]∧s≤240∧∀q H',New H H' q (.lst ((endR s).map pV))→Q (.ref q) H'
def sp_lbehind:Sp:=fun vs H Q _=>∃(q l:Addr) (r:Rw) (b:PR) (c:Int) (s:Nat),vs=[.ref q,.int c,.ref l]∧H q=some (.tup (rowV r))∧H l=some (.lst (b.map pV))∧b.length=s + 1∧(s≤240∧0≤c)∧∀z H',New H H' z (.lst ((besR r b c s).map pV))→Q (.ref z) H'
instance go_lfirst {H:Hp} {Q:VK} {E:XK} {s:Nat}:Go (sp_lfirst [.int (s:Nat)] H Q E) (Sd (s≤240) (∀q H',New H H' q (.lst ((endR s).map pV))→Q (.ref q) H')):=⟨fun k=>⟨s,rfl,k.1,k.2⟩⟩
def behP (r:Rw) (b:PR) (c:Int) (j:Nat):PR:=some 0::(List.range j).map fun i=>besV r b c (i + 1)
theorem behP_next {r:Rw} {b:PR} {c:Int} {j:Nat}:behP r b c (j + 1)=behP r b c j++[besV r b c (j + 1)]:=by unfold behP;rw [List.range_succ,List.map_append];rfl
theorem behP_len {r:Rw} {b:PR} {c:Int} {j:Nat}:(behP r b c j).length=j + 1:=by simp [behP]
section
variable {P:Program} {w:World} {K:W.Frag} {mg:Str→Option Value} {base:Heap} {c:Nat→Addr} {ct_Linit pt_Linit R CL:Addr}
theorem D_lfirst (T:Txt K mg c R CL ct_Linit pt_Linit):Def P w K mg base CX0 1 "_law_first" ["_law_size"] sp_lfirst:=by
 refine def_of T.d_lfirst sc_lfirst (fun vs H Q E h=>?_) (fun _ _ _ _ _ _ us hl=>match us,hl with | [_],_=>rfl) (fun f cdv A outer s H vs Q E hr h=>?_)
 ·obtain ⟨s,rfl,_⟩:=h
  rfl
 ·obtain ⟨s,rfl,hs,k⟩:=h
  have nd:=sc_lfirst.nd
  refine ⟨_,(pss_one (ps_ret (pe_op op_catA (pe_lstA (pa_cons pe_int pa_nil)) (pe_op op_repA (pe_lstA (pa_cons pe_non pa_nil)) (pv 0))))),?_⟩
  clear nd 
  rw [show start ["_law_size"] [.int (s:Nat)]=[some (.int (s:Nat))] from rfl]
  try dsimp only [cx_K,cx_K2]
  have iL_many:FldOk K CL "many" := ⟨T.clL,T.aL_many⟩
  have iL_rows:FldOk K CL "rows" := ⟨T.clL,T.aL_rows⟩
  have F:SH H [] H [] []:=SH.nil
  repeat k_meth
  rw [show [V.int 0]++List.replicate s V.non=(endR s).map pV from (endR_V s).symm] at F
  exact k _ _ SH.nwC
theorem D_lbehind (T:Txt K mg c R CL ct_Linit pt_Linit):Def P w K mg base CX0 2 "_law_row_behind" ["_law_block", "_law_gap", "_law_ahead"] sp_lbehind:=by
 have D_lfirst:=D_lfirst (P:=P) (w:=w) (base:=base) T
 refine def_of T.d_lbehind sc_lbehind (fun vs H Q E h=>?_) (fun _ _ _ _ _ _ us hl=>match us,hl with | [_,_,_],_=>rfl) (fun f cdv A outer s H vs Q E hr h=>?_)
 ·obtain ⟨q,l,r,b,c,s,rfl,_⟩:=h
  rfl
 ·obtain ⟨q,l,r,b,c,s,rfl,hq,hl,bl,side,k⟩:=h
  have nd:=sc_lbehind.nd
  refine ⟨_,(pss_cons (ps_if (pt_cmpR op_gt (pe_ix ix_tup (pv 0) pe_int (fun _ _=>rfl)) pe_int (nomark _)) (pss_one (ps_ret (pe_def D_lfirst hr (pa_cons (pe_op op_sub (pe_callB call_lenN rfl T.n_len boot_len (pa_cons (pv 2) pa_nil)) pe_int) pa_nil)))) pss_nil)
   (pss_cons (ps_set (i:=3) nd rfl (Or.inl rfl) (pe_lstA (pa_cons pe_int pa_nil)))
   (pss_cons (ps_for PassesOwn.never rfl (pi_range2 rfl T.n_range (pa_cons pe_int (pa_cons (pe_callB call_lenN rfl T.n_len boot_len (pa_cons (pv 2) pa_nil)) pa_nil))) (pg_name (i:=4) nd rfl (Or.inl rfl)) (pss_cons (ps_set (i:=5) nd rfl (Or.inl rfl) (pe_ix ix_list (pv 2) (pe_callB (call_maxN rfl) rfl T.n_max boot_max (pa_cons pe_int (pa_cons (pe_op op_sub (pv 4) (pv 1)) pa_nil))) (fun _ _=>rfl)))
    (pss_cons (ps_if (pt_cmpR op_notNN (pv 5) pe_non (nomark _)) (pss_one (ps_set (i:=5) nd rfl (Or.inl rfl) (pe_op op_add (pv 5) (pe_ix ix_tup (pv 0) pe_int (fun _ _=>rfl))))) pss_nil)
    (pss_one (ps_expr (pe_appendA (pv 3) (pv 5)))))))
   (pss_one (ps_ret (pv 3)))))),?_⟩
  clear nd D_lfirst
  rw [show start ["_law_block", "_law_gap", "_law_ahead", "_law_found", "_law_x", "_law_price"] [.ref q,.int c,.ref l]=[some (.ref q),some (.int c),some (.ref l),none,none,none] from rfl]
  try dsimp only [cx_K,cx_K2]
  have iL_many:FldOk K CL "many" := ⟨T.clL,T.aL_many⟩
  have iL_rows:FldOk K CL "rows" := ⟨T.clL,T.aL_rows⟩
  have o_hq:=Old.mk (M:=[]) hq nm0
  have o_hl:=Old.mk (M:=[]) hl nm0
  have F:SH H [] H [] []:=SH.nil
  obtain ⟨s240,c0⟩:=side
  repeat k_meth
  refine i_dec (fun h=>?_) (fun h=>?_)
  ·repeat k_meth
   rw [show ((b.map pV).length:Int) - 1=((s:Nat):Int) by rw [List.length_map];omega]
   repeat k_meth
   rw [show endR s=besR r b c s from (if_pos (by omega)).symm] at F
   exact k _ _ SH.nwC
  repeat k_meth
  rename Addr=>rw_
  rw [show (((b.map pV).length:Int) - 1).toNat=s by rw [List.length_map];omega]
  refine forR_by (fun j σ' H'=>∃(o4 o5:Option V),σ'=[some (.ref q),some (.int c),some (.ref l),some (.ref rw_),o4,o5]∧SH H [] H' [(rw_,.lst ((behP r b c j).map pV))] []) ⟨_,_,rfl,F⟩ ?_ ?_
  ·clear F
   rintro j σ' H' hj ⟨_,_,rfl,F⟩
   obtain ⟨y,hy⟩:∃y,b[((((j + 1:Nat):Int)) - c).toNat]?=some y:=⟨_,List.getElem?_eq_getElem (by omega)⟩
   have at_y:AtI (b.map pV) (max 0 (1 + (j:Int) - c)) (pV y):=⟨by
    rw [show max 0 (1 + (j:Int) - c)=(((((j + 1:Nat):Int)) - c).toNat:Int) by omega]
    exact atI_nat (by rw [List.getElem?_map,hy];rfl)⟩
   have ev:besV r b c (j + 1)=y.map fun z=>(r.sz:Int) + z:=by unfold besV;rw [hy];rfl
   have pl:((behP r b c j).map pV).length < sizeLine:=by rw [List.length_map,behP_len,sizeLine_eq];omega
   cases y with
   | none =>
    have at_z:AtI (b.map pV) (max 0 (1 + (j:Int) - c)) .non:=at_y
    repeat k_meth
    rw [show V.non=pV (besV r b c (j + 1)) by rw [ev];rfl,show (behP r b c j).map pV++[pV (besV r b c (j + 1))]=(behP r b c (j + 1)).map pV by rw [behP_next,List.map_append];rfl] at F
    exact ⟨_,_,rfl,F⟩
   | some z =>
    have at_z:AtI (b.map pV) (max 0 (1 + (j:Int) - c)) (.int z):=at_y
    repeat k_meth
    rw [show V.int (z + (r.sz:Int))=pV (besV r b c (j + 1)) by rw [ev,Int.add_comm];rfl,show (behP r b c j).map pV++[pV (besV r b c (j + 1))]=(behP r b c (j + 1)).map pV by rw [behP_next,List.map_append];rfl] at F
    exact ⟨_,_,rfl,F⟩
  ·clear F
   rintro σ' H' ⟨_,_,rfl,F⟩
   rw [show behP r b c s=besR r b c s from (if_neg (by omega)).symm] at F
   repeat k_meth
   exact k _ _ SH.nwC
end
theorem LsAt.take {H:Hp} {ys:List V} {T:List PR} (h:LsAt H ys T) (n:Nat):LsAt H (ys.take n) (T.take n):=by
 refine ⟨by rw [List.length_take,List.length_take,h.1],fun j r e=>?_⟩
 rw [List.getElem?_take] at e
 split at e
 ·obtain ⟨q,a,b⟩:=h.2 j r e
  exact ⟨q,by rw [List.getElem?_take,if_pos (by assumption)];exact a,b⟩
 ·cases e
def carN (rs:List Rw) (gs:List Int) (s:Nat) (T:List PR) (g:Nat):Nat→List PR
 | 0=>T.take (g + 1)
 | j + 1=>match rs[g + j]? with
  | some r=>carN rs gs s T g j++[besR r ((carN rs gs s T g j).getD (g + j) []) (gs.getD (g + j) 0) s]
  | none=>carN rs gs s T g j
theorem carN_len {rs:List Rw} {gs:List Int} {s:Nat} {T:List PR} {g:Nat} (hT:g + 1≤T.length):∀j,g + j≤rs.length→(carN rs gs s T g j).length=g + j + 1
 | 0,_=>by simp [carN];omega
 | j + 1,h=>by
  have e:rs[g + j]?=some rs[g + j]:=List.getElem?_eq_getElem (by omega)
  rw [carN,e]
  dsimp only
  rw [List.length_append,carN_len hT j (by omega)]
  rfl
theorem carN_row {rs:List Rw} {gs:List Int} {s:Nat} {T:List PR} {g:Nat} (hT:∀r∈T,List.length r=s + 1):∀j,∀r∈carN rs gs s T g j,List.length r=s + 1
 | 0,r,h=>hT r (List.mem_of_mem_take h)
 | j + 1,r,h=>by
  rw [carN] at h
  cases e:rs[g + j]? with
  | none=>rw [e] at h;exact carN_row hT j r h
  | some w =>
   rw [e] at h
   rcases List.mem_append.mp h with h | h
   ·exact carN_row hT j r h
   ·rw [List.mem_singleton.mp h]
    exact besR_len ..
theorem carN_left {rs:List Rw} {gs:List Int} {s:Nat}:∀j,j≤rs.length→carN rs gs s [endR s] 0 j=leftT rs gs s j
 | 0,_=>by simp [carN,leftT,leftR]
 | j + 1,h=>by
  have e:rs[j]?=some rs[j]:=List.getElem?_eq_getElem (by omega)
  rw [carN,Nat.zero_add,e,leftT_next e]
  dsimp only
  rw [carN_left j (by omega),List.getD_eq_getElem?_getD,leftT_at]
  rfl
def sp_lcar:Sp:=fun vs H Q _=>∃(l m c:Addr) (ys zs:List V) (T:List PR) (rs:List Rw) (gs:List Int) (s g:Nat),vs=[.ref l,.int (g:Nat),.ref m,.ref c]∧H l=some (.lst ys)∧LsAt H ys T∧H m=some (.lst zs)∧TupsAt H zs (rowsV rs)∧H c=some (.lst (gs.map V.int)) ∧
 (g + 1≤T.length∧g≤rs.length∧rs.length≤40∧s≤240∧gs.length=rs.length + 1)∧(∀x∈gs,0≤x)∧(∀r∈T,List.length r=s + 1)∧∀q us H',Same H H'→H' q=some (.lst us)→LsAt H' us (carN rs gs s T g (rs.length - g))→(∀a u,H a=some u→a≠q∧(V.ref a∈us→V.ref a∈ys))→V.ref q ∉ us→Q (.ref q) H'
def sp_lsideS:Sp:=fun vs H Q _=>∃(m c:Addr) (zs:List V) (rs:List Rw) (gs:List Int) (s:Nat),vs=[.ref m,.ref c,.int (s:Nat)]∧H m=some (.lst zs)∧TupsAt H zs (rowsV rs)∧H c=some (.lst (gs.map V.int)) ∧
 (rs.length≤40∧s≤240∧gs.length=rs.length + 1)∧(∀x∈gs,0≤x)∧∀q us H',Same H H'→H' q=some (.lst us)→LsAt H' us (leftT rs gs s rs.length)→(∀a u,H a=some u→a≠q∧V.ref a ∉ us)→V.ref q ∉ us→Q (.ref q) H'
section
variable {P:Program} {w:World} {K:W.Frag} {mg:Str→Option Value} {base:Heap} {c:Nat→Addr} {ct_Linit pt_Linit R CL:Addr}
theorem D_lcarried (T:Txt K mg c R CL ct_Linit pt_Linit):Def P w K mg base CX0 3 "_law_carried_on" ["_law_side_here", "_law_start", "_law_blocks", "_law_gaps_here"] sp_lcar:=by
 have D_lbehind:=D_lbehind (P:=P) (w:=w) (base:=base) T
 refine def_of T.d_lcarried sc_lcarried (fun vs H Q E h=>?_) (fun _ _ _ _ _ _ us hl=>match us,hl with | [_,_,_,_],_=>rfl) (fun f cdv A outer s H vs Q E hr h=>?_)
 ·obtain ⟨l,m,c,ys,zs,T_,rs,gs,s,g,rfl,_⟩:=h
  rfl
 ·obtain ⟨l,m,c,ys,zs,T_,rs,gs,s,g,rfl,hl,ls0,hm,tp,hc,side,gpos,rl,k⟩:=h
  have nd:=sc_lcarried.nd
  refine ⟨_,(pss_cons (ps_set (i:=4) nd rfl (Or.inl rfl) (pe_callTy call_list_ofA rfl T.n_list boot_list (pa_cons (pe_slice sl_listA (pv 0) po_none (po_some (pe_op op_add (pv 1) pe_int))) pa_nil)))
   (pss_cons (ps_for PassesOwn.never rfl (pi_range2 rfl T.n_range (pa_cons (pv 1) (pa_cons (pe_callB call_lenN rfl T.n_len boot_len (pa_cons (pv 2) pa_nil)) pa_nil))) (pg_name (i:=5) nd rfl (Or.inl rfl)) (pss_one (ps_expr (pe_appendA (pv 4) (pe_def D_lbehind hr (pa_cons (pe_ix ix_list (pv 2) (pv 5) (fun _ _=>rfl)) (pa_cons (pe_ix ix_list (pv 3) (pv 5) (fun _ _=>rfl)) (pa_cons (pe_ix ix_list (pv 4) (pv 5) (fun _ _=>rfl)) pa_nil))))))))
   (pss_one (ps_ret (pv 4))))),?_⟩
  clear nd D_lbehind
  rw [show start ["_law_side_here", "_law_start", "_law_blocks", "_law_gaps_here", "_law_found", "_law_k"] [.ref l,.int (g:Nat),.ref m,.ref c]=[some (.ref l),some (.int (g:Nat)),some (.ref m),some (.ref c),none,none] from rfl]
  try dsimp only [cx_K,cx_K2]
  have iL_many:FldOk K CL "many" := ⟨T.clL,T.aL_many⟩
  have iL_rows:FldOk K CL "rows" := ⟨T.clL,T.aL_rows⟩
  have o_hl:=Old.mk (M:=[]) hl nm0
  have o_hm:=Old.mk (M:=[]) hm nm0
  have o_hc:=Old.mk (M:=[]) hc nm0
  have o_tp:=OldP.mk tp
  have F:SH H [] H [] []:=SH.nil
  obtain ⟨gT,grs,few,s240,gl_⟩:=side
  have yl:zs.length=rs.length:=by rw [tp.1,rowsV_len]
  repeat k_meth
  rw [show (g:Int) + 1=((g + 1:Nat):Int) by omega,cut_take] at F
  rename Addr=>tb
  rw [show ((zs.length:Int) - (g:Int)).toNat=rs.length - g by omega]
  have ls1:LsAt H_ (ys.take (g + 1)) (T_.take (g + 1)):=(ls0.kept fun q u _ e=>F.sm _ _ e).take (g + 1)
  have fr1:V.ref tb ∉ ys.take (g + 1):=fun hh=>by
   obtain ⟨u,hu⟩:=ls0.has (List.mem_of_mem_take hh)
   exact F.fresh (LkL.m (o:=.lst _)) nm0 tb u hu rfl
  refine forR_by (fun j σ' H'=>∃(o5:Option V) (us:List V),σ'=[some (.ref l),some (.int (g:Nat)),some (.ref m),some (.ref c),some (.ref tb),o5]∧LsAt H' us (carN rs gs s T_ g j)∧(∀a u,H a=some u→V.ref a∈us→V.ref a∈ys)∧V.ref tb ∉ us∧SH H [] H' [(tb,.lst us)] []) ⟨_,ys.take (g + 1),rfl,ls1,fun a u _ hh=>List.mem_of_mem_take hh,fr1,F.sub SbC.s (by simp)⟩ ?_ ?_
  ·clear F ls1 fr1
   rintro j σ' H' hj ⟨_,us,rfl,ls,fr,nt,F⟩
   have ix:(g:Int) + (j:Int)=((g + j:Nat):Int):=by omega
   obtain ⟨v,hv⟩:∃v,zs[g + j]?=some v:=⟨_,List.getElem?_eq_getElem (by omega)⟩
   obtain ⟨r,q1,e1,rfl,e2⟩:=rowsV_at tp hv
   have cl:=carN_len (rs:=rs) (gs:=gs) (s:=s) gT j (by omega)
   obtain ⟨b,hb⟩:∃b,(carN rs gs s T_ g j)[g + j]?=some b:=⟨_,List.getElem?_eq_getElem (by omega)⟩
   obtain ⟨ql,hql,eql⟩:=ls.2 (g + j) _ hb
   have bl1:b.length=s + 1:=carN_row rl j b (List.mem_of_getElem? hb)
   have sm0:=F.sm
   have usl:us.length < sizeLine:=by rw [ls.1,cl,sizeLine_eq];omega
   have htb:H' tb=some (.lst us):=hatC
   have e3:=F.sm _ _ e2
   have hm2:=F.sm _ _ hm
   have hc2:=F.sm _ _ hc
   have ne1:m≠tb:=fun z=>F.fresh (LkL.m (o:=.lst _)) nm0 m _ hm z
   have ne4:c≠tb:=fun z=>F.fresh (LkL.m (o:=.lst _)) nm0 c _ hc z
   have ne2:q1≠tb:=fun z=>by rw [z,htb] at e3;cases e3
   have ne3:ql≠tb:=fun z=>nt (by rw [← z];exact List.mem_of_getElem? hql)
   have back:∀(H4:Hp) (zs2:List V),Kp tb H' H4→H4 tb=some (.lst zs2)→SH H [] H4 [(tb,.lst zs2)] []:=fun H4 zs2 kp e=>F.kpL kp e LkU.u
   clear F
   have F:SH H' [tb] H' [(tb,.lst us)] []:=SH.nil.addM List.mem_cons_self htb rfl (by simp)
   have o_m:=Old.mk (M:=[tb]) hm2 (nm1 ne1)
   have o_c:=Old.mk (M:=[tb]) hc2 (nm1 ne4)
   have o_q1:=Old.mk (M:=[tb]) e3 (nm1 ne2)
   have o_ql:=Old.mk (M:=[tb]) eql (nm1 ne3)
   have at_b:AtI zs ((g:Int) + (j:Int)) (.ref q1):=⟨by rw [ix];exact atI_nat hv⟩
   have at_r:AtI us ((g:Int) + (j:Int)) (.ref ql):=⟨by rw [ix];exact atI_nat hql⟩
   obtain ⟨gv,hgv⟩:∃gv,gs[g + j]?=some gv:=⟨_,List.getElem?_eq_getElem (by omega)⟩
   have at_g:AtI (gs.map V.int) ((g:Int) + (j:Int)) (.int gv):=⟨by rw [ix];exact atI_nat (by rw [List.getElem?_map,hgv];rfl)⟩
   have sd1:s≤240∧0≤gv:=⟨s240,gpos gv (List.mem_of_getElem? hgv)⟩
   repeat k_meth
   refine ⟨q1,ql,r,b,gv,s,rfl,hatC,hatC,bl1,sd1,fun z H2 nw=>?_⟩
   replace F:=F.newL nw
   repeat k_meth
   refine ⟨_,us++[.ref z],rfl,?_,fun a u e hh=>?_,fun hh=>?_,back _ _ F.kpo hatC⟩
   ·rw [carN,e1]
    dsimp only
    rw [List.getD_eq_getElem?_getD,hb,List.getD_eq_getElem?_getD,hgv]
    exact LsAt.snoc (ls.kept fun q u hh e=>F.fr q u (nm1 fun z=>nt (z▸hh)) e) hatC
   ·rcases List.mem_append.mp hh with hh | hh
    ·exact fr a u e hh
    ·exact absurd (by simpa using hh) (F.fresh (LkL.m (a:=z) (o:=.lst _)) (nm1 (SH.neC (F:=F))) a u (sm0 _ _ e))
   ·rcases List.mem_append.mp hh with hh | hh
    ·exact nt hh
    ·exact SH.neC (F:=F) (a:=tb) (b:=z) (by simpa using hh)
  ·clear F ls1 fr1
   rintro σ' H' ⟨_,us,rfl,ls,fr,nt,F⟩
   repeat k_meth
   exact k tb us _ F.sm hatC ls (fun a u e=>⟨F.fresh (LkL.m (o:=.lst _)) nm0 a u e,fr a u e⟩) nt
theorem D_lside (T:Txt K mg c R CL ct_Linit pt_Linit):Def P w K mg base CX0 4 "_law_side" ["_law_blocks", "_law_gaps_here", "_law_size"] sp_lsideS:=by
 have D_lcarried:=D_lcarried (P:=P) (w:=w) (base:=base) T
 have D_lfirst:=D_lfirst (P:=P) (w:=w) (base:=base) T
 refine def_of T.d_lside sc_lside (fun vs H Q E h=>?_) (fun _ _ _ _ _ _ us hl=>match us,hl with | [_,_,_],_=>rfl) (fun f cdv A outer s H vs Q E hr h=>?_)
 ·obtain ⟨m,c,zs,rs,gs,s,rfl,_⟩:=h
  rfl
 ·obtain ⟨m,c,zs,rs,gs,s,rfl,hm,tp,hc,side,gpos,k⟩:=h
  have nd:=sc_lside.nd
  refine ⟨_,(pss_one (ps_ret (pe_def D_lcarried hr (pa_cons (pe_lstA (pa_cons (pe_def D_lfirst hr (pa_cons (pv 2) pa_nil)) pa_nil)) (pa_cons pe_int (pa_cons (pv 0) (pa_cons (pv 1) pa_nil))))))),?_⟩
  clear nd D_lcarried D_lfirst
  rw [show start ["_law_blocks", "_law_gaps_here", "_law_size"] [.ref m,.ref c,.int (s:Nat)]=[some (.ref m),some (.ref c),some (.int (s:Nat))] from rfl]
  try dsimp only [cx_K,cx_K2]
  have iL_many:FldOk K CL "many" := ⟨T.clL,T.aL_many⟩
  have iL_rows:FldOk K CL "rows" := ⟨T.clL,T.aL_rows⟩
  have o_hm:=Old.mk (M:=[]) hm nm0
  have o_hc:=Old.mk (M:=[]) hc nm0
  have o_tp:=OldP.mk tp
  have F:SH H [] H [] []:=SH.nil
  obtain ⟨few,s240,gl_⟩:=side
  repeat k_meth
  rename_i er
  refine ⟨p_,m,c,[.ref er],zs,[endR s],rs,gs,s,0,rfl,hatC,LsAt.snoc LsAt.nil hatC,hatC,TpA.e,hatC,⟨by simp,by omega,few,s240,gl_⟩,gpos,fun r hr=>by rw [List.mem_singleton.mp hr];exact endR_len s,fun q us H2 s2 hq ls fr nq=>?_⟩
  rw [Nat.sub_zero,carN_left _ (Nat.le_refl _)] at ls
  have fre:∀a u,H a=some u→a≠er:=fun a u e z=>F.fresh (LkL.m (a:=er) (o:=.lst _)) nm0 a u e z
  have sm0:=F.sm
  repeat k_meth
  exact k q us _ (sm0.trans s2) hq ls (fun a u e=>⟨(fr a u (sm0 _ _ e)).1,fun hh=>fre a u e (by simpa using (fr a u (sm0 _ _ e)).2 hh)⟩) nq
end
def sp_cp (n:Nat):Sp:=fun vs H Q _=>∃(v:V) (d:Dt),vs=[v]∧TrH H d v∧depD d≤n∧widD d∧∀v' H',Cp H H' d v v'→Q v' H'
theorem cp_lst {H H':Hp} {ds:List Dt} {p z:Addr} {xs ys:List V} (s:Same H H') (hp:H p=some (.lst xs)) (hz:H' z=some (.lst ys)) (fz:∀b u,H b=some u→b≠z) (av:∀B,Al H B→TrsH (hides B H) ds xs→TrsH (hides (z::B) H') ds ys):Cp H H' (.lst ds) (.ref p) (.ref z):=⟨s,fun B al t=>by
 simp only [TrH] at t ⊢
 obtain ⟨p',xs',e,hp',ts⟩:=t
 cases e
 have h2:=(hides_at.mp hp').2
 rw [hp] at h2
 cases h2
 refine ⟨z,ys,rfl,hides_at.mpr ⟨fun hm=>?_,hz⟩,(av B al ts).same (hides_less fun a ha=>List.mem_cons_of_mem _ ha)⟩
 obtain ⟨us,hu⟩:=al z hm
 exact fz z _ hu rfl⟩
theorem cp_tup {H H':Hp} {ds:List Dt} {p z q:Addr} {xs ys:List V} (s:Same H H') (hp:H p=some (.tup xs)) (hz:H' z=some (.tup ys)) (av:∀B,Al H B→TrsH (hides B H) ds xs→TrsH (hides (q::B) H') ds ys):Cp H H' (.tup ds) (.ref p) (.ref z):=⟨s,fun B al t=>by
 simp only [TrH] at t ⊢
 obtain ⟨p',xs',e,hp',ts⟩:=t
 cases e
 have h2:=(hides_at.mp hp').2
 rw [hp] at h2
 cases h2
 refine ⟨z,ys,rfl,hides_at.mpr ⟨fun hm=>?_,hz⟩,(av B al ts).same (hides_less fun a ha=>List.mem_cons_of_mem _ ha)⟩
 obtain ⟨us,hu⟩:=al z hm
 rw [s _ _ hu] at hz
 cases hz⟩
section
variable {P:Program} {w:World} {K:W.Frag} {mg:Str→Option Value} {base:Heap} {c:Nat→Addr} {ct_Linit pt_Linit R CL:Addr}
theorem D_lcopiedZ (T:Txt K mg c R CL ct_Linit pt_Linit):Def P w K mg base CX0 1 "_law_copied" ["_law_thing"] sp_no:=by
 refine def_of T.d_lcopied sc_lcopied (fun vs H Q E h=>h.elim) (fun _ _ _ _ _ _ us hl=>match us,hl with | [_],_=>rfl) (fun f cdv A outer s H vs Q E hr h=>h.elim)
theorem D_lcopied0 (T:Txt K mg c R CL ct_Linit pt_Linit):Def P w K mg base CX0 2 "_law_copied" ["_law_thing"] (sp_cp 0):=by
 refine def_of T.d_lcopied sc_lcopied (fun vs H Q E h=>?_) (fun _ _ _ _ _ _ us hl=>match us,hl with | [_],_=>rfl) (fun f cdv A outer s H vs Q E hr h=>?_)
 ·obtain ⟨v,d,rfl,_⟩:=h
  rfl
 ·obtain ⟨v,d,rfl,tr,dp,wd,k⟩:=h
  have nd:=sc_lcopied.nd
  refine ⟨_,(pss_cons (ps_if (pt_val (pe_callB call_isT rfl T.n_isinstance boot_isinstance (pa_cons (pv 0) (pa_cons (pe_ty (T := "list") rfl T.n_list boot_list) pa_nil)))) (pss_one (ps_ret (pe_comp (N:=["_law_one"]) (nt:=1) (fr:=[]) (pi_or (pi_list (pv 0)) (pi_tup (pv 0))) (fun _ _ _ _=>(pg_name (i:=0) (show (["_law_one"]:List Str).Nodup from by decide +kernel) rfl (Or.inl rfl))) (fun _ _ _ _=>pif_nil) (fun _ _ _ _=>(pe_def (D_lcopiedZ (P:=P) (w:=w) (base:=base) T) hr (pa_cons (pv 0) pa_nil)))))) pss_nil)
   (pss_cons (ps_if (pt_val (pe_callB call_isT rfl T.n_isinstance boot_isinstance (pa_cons (pv 0) (pa_cons (pe_ty (T := "tuple") rfl T.n_tuple boot_tuple) pa_nil)))) (pss_one (ps_ret (pe_callTy call_tuple_ofA rfl T.n_tuple boot_tuple (pa_cons (pe_comp (N:=["_law_one"]) (nt:=1) (fr:=[]) (pi_or (pi_list (pv 0)) (pi_tup (pv 0))) (fun _ _ _ _=>(pg_name (i:=0) (show (["_law_one"]:List Str).Nodup from by decide +kernel) rfl (Or.inl rfl))) (fun _ _ _ _=>pif_nil) (fun _ _ _ _=>(pe_def (D_lcopiedZ (P:=P) (w:=w) (base:=base) T) hr (pa_cons (pv 0) pa_nil)))) pa_nil)))) pss_nil)
   (pss_one (ps_ret (pv 0))))),?_⟩
  clear nd 
  rw [show start ["_law_thing"] [v]=[some (v)] from rfl]
  try dsimp only [cx_K,cx_K2]
  have iL_many:FldOk K CL "many" := ⟨T.clL,T.aL_many⟩
  have iL_rows:FldOk K CL "rows" := ⟨T.clL,T.aL_rows⟩
  have F:SH H [] H [] []:=SH.nil
  cases d with
  | non =>
   simp only [TrH] at tr
   subst tr
   repeat k_meth
   rw [if_neg (by simp)]
   repeat k_meth
   rw [if_neg (by simp)]
   repeat k_meth
   exact k _ _ (Cp.refl F.sm)
  | bl b =>
   simp only [TrH] at tr
   subst tr
   repeat k_meth
   rw [if_neg (by simp)]
   repeat k_meth
   rw [if_neg (by simp)]
   repeat k_meth
   exact k _ _ (Cp.refl F.sm)
  | int i =>
   simp only [TrH] at tr
   subst tr
   repeat k_meth
   rw [if_neg (by simp)]
   repeat k_meth
   rw [if_neg (by simp)]
   repeat k_meth
   exact k _ _ (Cp.refl F.sm)
  | str x =>
   simp only [TrH] at tr
   subst tr
   repeat k_meth
   rw [if_neg (by simp)]
   repeat k_meth
   rw [if_neg (by simp)]
   repeat k_meth
   exact k _ _ (Cp.refl F.sm)
  | lst ds=>simp [depD] at dp
  | tup ds=>simp [depD] at dp
theorem D_lcopied1 (T:Txt K mg c R CL ct_Linit pt_Linit):Def P w K mg base CX0 3 "_law_copied" ["_law_thing"] (sp_cp 1):=by
 refine def_of T.d_lcopied sc_lcopied (fun vs H Q E h=>?_) (fun _ _ _ _ _ _ us hl=>match us,hl with | [_],_=>rfl) (fun f cdv A outer s H vs Q E hr h=>?_)
 ·obtain ⟨v,d,rfl,_⟩:=h
  rfl
 ·obtain ⟨v,d,rfl,tr,dp,wd,k⟩:=h
  have nd:=sc_lcopied.nd
  refine ⟨_,(pss_cons (ps_if (pt_val (pe_callB call_isT rfl T.n_isinstance boot_isinstance (pa_cons (pv 0) (pa_cons (pe_ty (T := "list") rfl T.n_list boot_list) pa_nil)))) (pss_one (ps_ret (pe_comp (N:=["_law_one"]) (nt:=1) (fr:=[]) (pi_or (pi_list (pv 0)) (pi_tup (pv 0))) (fun _ _ _ _=>(pg_name (i:=0) (show (["_law_one"]:List Str).Nodup from by decide +kernel) rfl (Or.inl rfl))) (fun _ _ _ _=>pif_nil) (fun _ _ _ _=>(pe_def (D_lcopied0 (P:=P) (w:=w) (base:=base) T) hr (pa_cons (pv 0) pa_nil)))))) pss_nil)
   (pss_cons (ps_if (pt_val (pe_callB call_isT rfl T.n_isinstance boot_isinstance (pa_cons (pv 0) (pa_cons (pe_ty (T := "tuple") rfl T.n_tuple boot_tuple) pa_nil)))) (pss_one (ps_ret (pe_callTy call_tuple_ofA rfl T.n_tuple boot_tuple (pa_cons (pe_comp (N:=["_law_one"]) (nt:=1) (fr:=[]) (pi_or (pi_list (pv 0)) (pi_tup (pv 0))) (fun _ _ _ _=>(pg_name (i:=0) (show (["_law_one"]:List Str).Nodup from by decide +kernel) rfl (Or.inl rfl))) (fun _ _ _ _=>pif_nil) (fun _ _ _ _=>(pe_def (D_lcopied0 (P:=P) (w:=w) (base:=base) T) hr (pa_cons (pv 0) pa_nil)))) pa_nil)))) pss_nil)
   (pss_one (ps_ret (pv 0))))),?_⟩
  clear nd 
  rw [show start ["_law_thing"] [v]=[some (v)] from rfl]
  try dsimp only [cx_K,cx_K2]
  have iL_many:FldOk K CL "many" := ⟨T.clL,T.aL_many⟩
  have iL_rows:FldOk K CL "rows" := ⟨T.clL,T.aL_rows⟩
  have F:SH H [] H [] []:=SH.nil
  cases d with
  | non =>
   simp only [TrH] at tr
   subst tr
   repeat k_meth
   rw [if_neg (by simp)]
   repeat k_meth
   rw [if_neg (by simp)]
   repeat k_meth
   exact k _ _ (Cp.refl F.sm)
  | bl b =>
   simp only [TrH] at tr
   subst tr
   repeat k_meth
   rw [if_neg (by simp)]
   repeat k_meth
   rw [if_neg (by simp)]
   repeat k_meth
   exact k _ _ (Cp.refl F.sm)
  | int i =>
   simp only [TrH] at tr
   subst tr
   repeat k_meth
   rw [if_neg (by simp)]
   repeat k_meth
   rw [if_neg (by simp)]
   repeat k_meth
   exact k _ _ (Cp.refl F.sm)
  | str x =>
   simp only [TrH] at tr
   subst tr
   repeat k_meth
   rw [if_neg (by simp)]
   repeat k_meth
   rw [if_neg (by simp)]
   repeat k_meth
   exact k _ _ (Cp.refl F.sm)
  | lst ds =>
   simp only [TrH] at tr
   obtain ⟨p,xs,rfl,hp,ts⟩:=tr
   simp only [depD] at dp
   simp only [widD] at wd
   have ln:=ts.len
   have o_p:=Old.mk (M:=[]) hp nm0
   repeat k_meth
   try rw [if_pos (by simp)]
   repeat k_meth
   refine comp_inl ?_
   repeat k_meth
   refine comp_trees (ds:=ds) (items_list (xs:=xs)) (by omega) rfl (fun H' s=>s.seq SqA.e) ln (fun i v d H' R hv hd s kk=>?_) fun z H2 ys nw av=>?_
   ·obtain ⟨d',hd',td⟩:=ts.at hv
    rw [hd] at hd'
    cases hd'
    have td2:=td.same (F.sm.trans s)
    have dd:=depDs_at hd
    have wd2:=widDs_at wd.2 hd
    clear F
    have F:SH H' [] H' [] []:=SH.nil
    repeat k_meth
    exact ⟨v,d,rfl,td2,by omega,wd2,fun v' H2 cp=>kk _ _ cp⟩
   ·have nw1:=nw.s
    have nw2:=nw.n
    have al2:=TrsH.len (av [] (by simp [Al]) (by rw [hides_nil];exact ts))
    replace F:=F.newL nw
    repeat k_meth
    exact k _ _ (cp_lst F.sm hp hatC (fun b u e=>nw2 b u e) av)
  | tup ds =>
   simp only [TrH] at tr
   obtain ⟨p,xs,rfl,hp,ts⟩:=tr
   simp only [depD] at dp
   simp only [widD] at wd
   have ln:=ts.len
   have o_p:=Old.mk (M:=[]) hp nm0
   repeat k_meth
   try rw [if_neg (by simp)]
   repeat k_meth
   try rw [if_pos (by simp)]
   repeat k_meth
   refine comp_inr ?_
   repeat k_meth
   refine comp_trees (ds:=ds) (items_tup (xs:=xs)) (by omega) rfl (fun H' s=>s.tup (SqT.of hatC)) ln (fun i v d H' R hv hd s kk=>?_) fun z H2 ys nw av=>?_
   ·obtain ⟨d',hd',td⟩:=ts.at hv
    rw [hd] at hd'
    cases hd'
    have td2:=td.same (F.sm.trans s)
    have dd:=depDs_at hd
    have wd2:=widDs_at wd.2 hd
    clear F
    have F:SH H' [] H' [] []:=SH.nil
    repeat k_meth
    exact ⟨v,d,rfl,td2,by omega,wd2,fun v' H2 cp=>kk _ _ cp⟩
   ·have nw1:=nw.s
    have nw2:=nw.n
    have al2:=TrsH.len (av [] (by simp [Al]) (by rw [hides_nil];exact ts))
    replace F:=F.newL nw
    have sm2:=F.sm
    clear F
    have F:SH H2 [] H2 [] []:=SH.nil
    have o_z:=Old.mk (M:=[]) nw.e nm0
    repeat k_meth
    exact k _ _ (cp_tup (q:=z) (sm2.trans F.sm) hp hatC fun B al ts2=>(av B al ts2).same (hides_same F.sm))
theorem D_lcopied2 (T:Txt K mg c R CL ct_Linit pt_Linit):Def P w K mg base CX0 4 "_law_copied" ["_law_thing"] (sp_cp 2):=by
 refine def_of T.d_lcopied sc_lcopied (fun vs H Q E h=>?_) (fun _ _ _ _ _ _ us hl=>match us,hl with | [_],_=>rfl) (fun f cdv A outer s H vs Q E hr h=>?_)
 ·obtain ⟨v,d,rfl,_⟩:=h
  rfl
 ·obtain ⟨v,d,rfl,tr,dp,wd,k⟩:=h
  have nd:=sc_lcopied.nd
  refine ⟨_,(pss_cons (ps_if (pt_val (pe_callB call_isT rfl T.n_isinstance boot_isinstance (pa_cons (pv 0) (pa_cons (pe_ty (T := "list") rfl T.n_list boot_list) pa_nil)))) (pss_one (ps_ret (pe_comp (N:=["_law_one"]) (nt:=1) (fr:=[]) (pi_or (pi_list (pv 0)) (pi_tup (pv 0))) (fun _ _ _ _=>(pg_name (i:=0) (show (["_law_one"]:List Str).Nodup from by decide +kernel) rfl (Or.inl rfl))) (fun _ _ _ _=>pif_nil) (fun _ _ _ _=>(pe_def (D_lcopied1 (P:=P) (w:=w) (base:=base) T) hr (pa_cons (pv 0) pa_nil)))))) pss_nil)
   (pss_cons (ps_if (pt_val (pe_callB call_isT rfl T.n_isinstance boot_isinstance (pa_cons (pv 0) (pa_cons (pe_ty (T := "tuple") rfl T.n_tuple boot_tuple) pa_nil)))) (pss_one (ps_ret (pe_callTy call_tuple_ofA rfl T.n_tuple boot_tuple (pa_cons (pe_comp (N:=["_law_one"]) (nt:=1) (fr:=[]) (pi_or (pi_list (pv 0)) (pi_tup (pv 0))) (fun _ _ _ _=>(pg_name (i:=0) (show (["_law_one"]:List Str).Nodup from by decide +kernel) rfl (Or.inl rfl))) (fun _ _ _ _=>pif_nil) (fun _ _ _ _=>(pe_def (D_lcopied1 (P:=P) (w:=w) (base:=base) T) hr (pa_cons (pv 0) pa_nil)))) pa_nil)))) pss_nil)
   (pss_one (ps_ret (pv 0))))),?_⟩
  clear nd 
  rw [show start ["_law_thing"] [v]=[some (v)] from rfl]
  try dsimp only [cx_K,cx_K2]
  have iL_many:FldOk K CL "many" := ⟨T.clL,T.aL_many⟩
  have iL_rows:FldOk K CL "rows" := ⟨T.clL,T.aL_rows⟩
  have F:SH H [] H [] []:=SH.nil
  cases d with
  | non =>
   simp only [TrH] at tr
   subst tr
   repeat k_meth
   rw [if_neg (by simp)]
   repeat k_meth
   rw [if_neg (by simp)]
   repeat k_meth
   exact k _ _ (Cp.refl F.sm)
  | bl b =>
   simp only [TrH] at tr
   subst tr
   repeat k_meth
   rw [if_neg (by simp)]
   repeat k_meth
   rw [if_neg (by simp)]
   repeat k_meth
   exact k _ _ (Cp.refl F.sm)
  | int i =>
   simp only [TrH] at tr
   subst tr
   repeat k_meth
   rw [if_neg (by simp)]
   repeat k_meth
   rw [if_neg (by simp)]
   repeat k_meth
   exact k _ _ (Cp.refl F.sm)
  | str x =>
   simp only [TrH] at tr
   subst tr
   repeat k_meth
   rw [if_neg (by simp)]
   repeat k_meth
   rw [if_neg (by simp)]
   repeat k_meth
   exact k _ _ (Cp.refl F.sm)
  | lst ds =>
   simp only [TrH] at tr
   obtain ⟨p,xs,rfl,hp,ts⟩:=tr
   simp only [depD] at dp
   simp only [widD] at wd
   have ln:=ts.len
   have o_p:=Old.mk (M:=[]) hp nm0
   repeat k_meth
   try rw [if_pos (by simp)]
   repeat k_meth
   refine comp_inl ?_
   repeat k_meth
   refine comp_trees (ds:=ds) (items_list (xs:=xs)) (by omega) rfl (fun H' s=>s.seq SqA.e) ln (fun i v d H' R hv hd s kk=>?_) fun z H2 ys nw av=>?_
   ·obtain ⟨d',hd',td⟩:=ts.at hv
    rw [hd] at hd'
    cases hd'
    have td2:=td.same (F.sm.trans s)
    have dd:=depDs_at hd
    have wd2:=widDs_at wd.2 hd
    clear F
    have F:SH H' [] H' [] []:=SH.nil
    repeat k_meth
    exact ⟨v,d,rfl,td2,by omega,wd2,fun v' H2 cp=>kk _ _ cp⟩
   ·have nw1:=nw.s
    have nw2:=nw.n
    have al2:=TrsH.len (av [] (by simp [Al]) (by rw [hides_nil];exact ts))
    replace F:=F.newL nw
    repeat k_meth
    exact k _ _ (cp_lst F.sm hp hatC (fun b u e=>nw2 b u e) av)
  | tup ds =>
   simp only [TrH] at tr
   obtain ⟨p,xs,rfl,hp,ts⟩:=tr
   simp only [depD] at dp
   simp only [widD] at wd
   have ln:=ts.len
   have o_p:=Old.mk (M:=[]) hp nm0
   repeat k_meth
   try rw [if_neg (by simp)]
   repeat k_meth
   try rw [if_pos (by simp)]
   repeat k_meth
   refine comp_inr ?_
   repeat k_meth
   refine comp_trees (ds:=ds) (items_tup (xs:=xs)) (by omega) rfl (fun H' s=>s.tup (SqT.of hatC)) ln (fun i v d H' R hv hd s kk=>?_) fun z H2 ys nw av=>?_
   ·obtain ⟨d',hd',td⟩:=ts.at hv
    rw [hd] at hd'
    cases hd'
    have td2:=td.same (F.sm.trans s)
    have dd:=depDs_at hd
    have wd2:=widDs_at wd.2 hd
    clear F
    have F:SH H' [] H' [] []:=SH.nil
    repeat k_meth
    exact ⟨v,d,rfl,td2,by omega,wd2,fun v' H2 cp=>kk _ _ cp⟩
   ·have nw1:=nw.s
    have nw2:=nw.n
    have al2:=TrsH.len (av [] (by simp [Al]) (by rw [hides_nil];exact ts))
    replace F:=F.newL nw
    have sm2:=F.sm
    clear F
    have F:SH H2 [] H2 [] []:=SH.nil
    have o_z:=Old.mk (M:=[]) nw.e nm0
    repeat k_meth
    exact k _ _ (cp_tup (q:=z) (sm2.trans F.sm) hp hatC fun B al ts2=>(av B al ts2).same (hides_same F.sm))
theorem D_lcopied3 (T:Txt K mg c R CL ct_Linit pt_Linit):Def P w K mg base CX0 5 "_law_copied" ["_law_thing"] (sp_cp 3):=by
 refine def_of T.d_lcopied sc_lcopied (fun vs H Q E h=>?_) (fun _ _ _ _ _ _ us hl=>match us,hl with | [_],_=>rfl) (fun f cdv A outer s H vs Q E hr h=>?_)
 ·obtain ⟨v,d,rfl,_⟩:=h
  rfl
 ·obtain ⟨v,d,rfl,tr,dp,wd,k⟩:=h
  have nd:=sc_lcopied.nd
  refine ⟨_,(pss_cons (ps_if (pt_val (pe_callB call_isT rfl T.n_isinstance boot_isinstance (pa_cons (pv 0) (pa_cons (pe_ty (T := "list") rfl T.n_list boot_list) pa_nil)))) (pss_one (ps_ret (pe_comp (N:=["_law_one"]) (nt:=1) (fr:=[]) (pi_or (pi_list (pv 0)) (pi_tup (pv 0))) (fun _ _ _ _=>(pg_name (i:=0) (show (["_law_one"]:List Str).Nodup from by decide +kernel) rfl (Or.inl rfl))) (fun _ _ _ _=>pif_nil) (fun _ _ _ _=>(pe_def (D_lcopied2 (P:=P) (w:=w) (base:=base) T) hr (pa_cons (pv 0) pa_nil)))))) pss_nil)
   (pss_cons (ps_if (pt_val (pe_callB call_isT rfl T.n_isinstance boot_isinstance (pa_cons (pv 0) (pa_cons (pe_ty (T := "tuple") rfl T.n_tuple boot_tuple) pa_nil)))) (pss_one (ps_ret (pe_callTy call_tuple_ofA rfl T.n_tuple boot_tuple (pa_cons (pe_comp (N:=["_law_one"]) (nt:=1) (fr:=[]) (pi_or (pi_list (pv 0)) (pi_tup (pv 0))) (fun _ _ _ _=>(pg_name (i:=0) (show (["_law_one"]:List Str).Nodup from by decide +kernel) rfl (Or.inl rfl))) (fun _ _ _ _=>pif_nil) (fun _ _ _ _=>(pe_def (D_lcopied2 (P:=P) (w:=w) (base:=base) T) hr (pa_cons (pv 0) pa_nil)))) pa_nil)))) pss_nil)
   (pss_one (ps_ret (pv 0))))),?_⟩
  clear nd 
  rw [show start ["_law_thing"] [v]=[some (v)] from rfl]
  try dsimp only [cx_K,cx_K2]
  have iL_many:FldOk K CL "many" := ⟨T.clL,T.aL_many⟩
  have iL_rows:FldOk K CL "rows" := ⟨T.clL,T.aL_rows⟩
  have F:SH H [] H [] []:=SH.nil
  cases d with
  | non =>
   simp only [TrH] at tr
   subst tr
   repeat k_meth
   rw [if_neg (by simp)]
   repeat k_meth
   rw [if_neg (by simp)]
   repeat k_meth
   exact k _ _ (Cp.refl F.sm)
  | bl b =>
   simp only [TrH] at tr
   subst tr
   repeat k_meth
   rw [if_neg (by simp)]
   repeat k_meth
   rw [if_neg (by simp)]
   repeat k_meth
   exact k _ _ (Cp.refl F.sm)
  | int i =>
   simp only [TrH] at tr
   subst tr
   repeat k_meth
   rw [if_neg (by simp)]
   repeat k_meth
   rw [if_neg (by simp)]
   repeat k_meth
   exact k _ _ (Cp.refl F.sm)
  | str x =>
   simp only [TrH] at tr
   subst tr
   repeat k_meth
   rw [if_neg (by simp)]
   repeat k_meth
   rw [if_neg (by simp)]
   repeat k_meth
   exact k _ _ (Cp.refl F.sm)
  | lst ds =>
   simp only [TrH] at tr
   obtain ⟨p,xs,rfl,hp,ts⟩:=tr
   simp only [depD] at dp
   simp only [widD] at wd
   have ln:=ts.len
   have o_p:=Old.mk (M:=[]) hp nm0
   repeat k_meth
   try rw [if_pos (by simp)]
   repeat k_meth
   refine comp_inl ?_
   repeat k_meth
   refine comp_trees (ds:=ds) (items_list (xs:=xs)) (by omega) rfl (fun H' s=>s.seq SqA.e) ln (fun i v d H' R hv hd s kk=>?_) fun z H2 ys nw av=>?_
   ·obtain ⟨d',hd',td⟩:=ts.at hv
    rw [hd] at hd'
    cases hd'
    have td2:=td.same (F.sm.trans s)
    have dd:=depDs_at hd
    have wd2:=widDs_at wd.2 hd
    clear F
    have F:SH H' [] H' [] []:=SH.nil
    repeat k_meth
    exact ⟨v,d,rfl,td2,by omega,wd2,fun v' H2 cp=>kk _ _ cp⟩
   ·have nw1:=nw.s
    have nw2:=nw.n
    have al2:=TrsH.len (av [] (by simp [Al]) (by rw [hides_nil];exact ts))
    replace F:=F.newL nw
    repeat k_meth
    exact k _ _ (cp_lst F.sm hp hatC (fun b u e=>nw2 b u e) av)
  | tup ds =>
   simp only [TrH] at tr
   obtain ⟨p,xs,rfl,hp,ts⟩:=tr
   simp only [depD] at dp
   simp only [widD] at wd
   have ln:=ts.len
   have o_p:=Old.mk (M:=[]) hp nm0
   repeat k_meth
   try rw [if_neg (by simp)]
   repeat k_meth
   try rw [if_pos (by simp)]
   repeat k_meth
   refine comp_inr ?_
   repeat k_meth
   refine comp_trees (ds:=ds) (items_tup (xs:=xs)) (by omega) rfl (fun H' s=>s.tup (SqT.of hatC)) ln (fun i v d H' R hv hd s kk=>?_) fun z H2 ys nw av=>?_
   ·obtain ⟨d',hd',td⟩:=ts.at hv
    rw [hd] at hd'
    cases hd'
    have td2:=td.same (F.sm.trans s)
    have dd:=depDs_at hd
    have wd2:=widDs_at wd.2 hd
    clear F
    have F:SH H' [] H' [] []:=SH.nil
    repeat k_meth
    exact ⟨v,d,rfl,td2,by omega,wd2,fun v' H2 cp=>kk _ _ cp⟩
   ·have nw1:=nw.s
    have nw2:=nw.n
    have al2:=TrsH.len (av [] (by simp [Al]) (by rw [hides_nil];exact ts))
    replace F:=F.newL nw
    have sm2:=F.sm
    clear F
    have F:SH H2 [] H2 [] []:=SH.nil
    have o_z:=Old.mk (M:=[]) nw.e nm0
    repeat k_meth
    exact k _ _ (cp_tup (q:=z) (sm2.trans F.sm) hp hatC fun B al ts2=>(av B al ts2).same (hides_same F.sm))
theorem D_lcopied (T:Txt K mg c R CL ct_Linit pt_Linit):Def P w K mg base CX0 6 "_law_copied" ["_law_thing"] (sp_cp 4):=by
 refine def_of T.d_lcopied sc_lcopied (fun vs H Q E h=>?_) (fun _ _ _ _ _ _ us hl=>match us,hl with | [_],_=>rfl) (fun f cdv A outer s H vs Q E hr h=>?_)
 ·obtain ⟨v,d,rfl,_⟩:=h
  rfl
 ·obtain ⟨v,d,rfl,tr,dp,wd,k⟩:=h
  have nd:=sc_lcopied.nd
  refine ⟨_,(pss_cons (ps_if (pt_val (pe_callB call_isT rfl T.n_isinstance boot_isinstance (pa_cons (pv 0) (pa_cons (pe_ty (T := "list") rfl T.n_list boot_list) pa_nil)))) (pss_one (ps_ret (pe_comp (N:=["_law_one"]) (nt:=1) (fr:=[]) (pi_or (pi_list (pv 0)) (pi_tup (pv 0))) (fun _ _ _ _=>(pg_name (i:=0) (show (["_law_one"]:List Str).Nodup from by decide +kernel) rfl (Or.inl rfl))) (fun _ _ _ _=>pif_nil) (fun _ _ _ _=>(pe_def (D_lcopied3 (P:=P) (w:=w) (base:=base) T) hr (pa_cons (pv 0) pa_nil)))))) pss_nil)
   (pss_cons (ps_if (pt_val (pe_callB call_isT rfl T.n_isinstance boot_isinstance (pa_cons (pv 0) (pa_cons (pe_ty (T := "tuple") rfl T.n_tuple boot_tuple) pa_nil)))) (pss_one (ps_ret (pe_callTy call_tuple_ofA rfl T.n_tuple boot_tuple (pa_cons (pe_comp (N:=["_law_one"]) (nt:=1) (fr:=[]) (pi_or (pi_list (pv 0)) (pi_tup (pv 0))) (fun _ _ _ _=>(pg_name (i:=0) (show (["_law_one"]:List Str).Nodup from by decide +kernel) rfl (Or.inl rfl))) (fun _ _ _ _=>pif_nil) (fun _ _ _ _=>(pe_def (D_lcopied3 (P:=P) (w:=w) (base:=base) T) hr (pa_cons (pv 0) pa_nil)))) pa_nil)))) pss_nil)
   (pss_one (ps_ret (pv 0))))),?_⟩
  clear nd 
  rw [show start ["_law_thing"] [v]=[some (v)] from rfl]
  try dsimp only [cx_K,cx_K2]
  have iL_many:FldOk K CL "many" := ⟨T.clL,T.aL_many⟩
  have iL_rows:FldOk K CL "rows" := ⟨T.clL,T.aL_rows⟩
  have F:SH H [] H [] []:=SH.nil
  cases d with
  | non =>
   simp only [TrH] at tr
   subst tr
   repeat k_meth
   rw [if_neg (by simp)]
   repeat k_meth
   rw [if_neg (by simp)]
   repeat k_meth
   exact k _ _ (Cp.refl F.sm)
  | bl b =>
   simp only [TrH] at tr
   subst tr
   repeat k_meth
   rw [if_neg (by simp)]
   repeat k_meth
   rw [if_neg (by simp)]
   repeat k_meth
   exact k _ _ (Cp.refl F.sm)
  | int i =>
   simp only [TrH] at tr
   subst tr
   repeat k_meth
   rw [if_neg (by simp)]
   repeat k_meth
   rw [if_neg (by simp)]
   repeat k_meth
   exact k _ _ (Cp.refl F.sm)
  | str x =>
   simp only [TrH] at tr
   subst tr
   repeat k_meth
   rw [if_neg (by simp)]
   repeat k_meth
   rw [if_neg (by simp)]
   repeat k_meth
   exact k _ _ (Cp.refl F.sm)
  | lst ds =>
   simp only [TrH] at tr
   obtain ⟨p,xs,rfl,hp,ts⟩:=tr
   simp only [depD] at dp
   simp only [widD] at wd
   have ln:=ts.len
   have o_p:=Old.mk (M:=[]) hp nm0
   repeat k_meth
   try rw [if_pos (by simp)]
   repeat k_meth
   refine comp_inl ?_
   repeat k_meth
   refine comp_trees (ds:=ds) (items_list (xs:=xs)) (by omega) rfl (fun H' s=>s.seq SqA.e) ln (fun i v d H' R hv hd s kk=>?_) fun z H2 ys nw av=>?_
   ·obtain ⟨d',hd',td⟩:=ts.at hv
    rw [hd] at hd'
    cases hd'
    have td2:=td.same (F.sm.trans s)
    have dd:=depDs_at hd
    have wd2:=widDs_at wd.2 hd
    clear F
    have F:SH H' [] H' [] []:=SH.nil
    repeat k_meth
    exact ⟨v,d,rfl,td2,by omega,wd2,fun v' H2 cp=>kk _ _ cp⟩
   ·have nw1:=nw.s
    have nw2:=nw.n
    have al2:=TrsH.len (av [] (by simp [Al]) (by rw [hides_nil];exact ts))
    replace F:=F.newL nw
    repeat k_meth
    exact k _ _ (cp_lst F.sm hp hatC (fun b u e=>nw2 b u e) av)
  | tup ds =>
   simp only [TrH] at tr
   obtain ⟨p,xs,rfl,hp,ts⟩:=tr
   simp only [depD] at dp
   simp only [widD] at wd
   have ln:=ts.len
   have o_p:=Old.mk (M:=[]) hp nm0
   repeat k_meth
   try rw [if_neg (by simp)]
   repeat k_meth
   try rw [if_pos (by simp)]
   repeat k_meth
   refine comp_inr ?_
   repeat k_meth
   refine comp_trees (ds:=ds) (items_tup (xs:=xs)) (by omega) rfl (fun H' s=>s.tup (SqT.of hatC)) ln (fun i v d H' R hv hd s kk=>?_) fun z H2 ys nw av=>?_
   ·obtain ⟨d',hd',td⟩:=ts.at hv
    rw [hd] at hd'
    cases hd'
    have td2:=td.same (F.sm.trans s)
    have dd:=depDs_at hd
    have wd2:=widDs_at wd.2 hd
    clear F
    have F:SH H' [] H' [] []:=SH.nil
    repeat k_meth
    exact ⟨v,d,rfl,td2,by omega,wd2,fun v' H2 cp=>kk _ _ cp⟩
   ·have nw1:=nw.s
    have nw2:=nw.n
    have al2:=TrsH.len (av [] (by simp [Al]) (by rw [hides_nil];exact ts))
    replace F:=F.newL nw
    have sm2:=F.sm
    clear F
    have F:SH H2 [] H2 [] []:=SH.nil
    have o_z:=Old.mk (M:=[]) nw.e nm0
    repeat k_meth
    exact k _ _ (cp_tup (q:=z) (sm2.trans F.sm) hp hatC fun B al ts2=>(av B al ts2).same (hides_same F.sm))
end
theorem LsAt.set {H:Hp} {ys:List V} {T:List PR} {g:Nat} {q:Addr} {r:PR} (h:LsAt H ys T) (e:H q=some (.lst (r.map pV))):LsAt H (ys.set g (.ref q)) (T.set g r):=by
 refine ⟨by rw [List.length_set,List.length_set,h.1],fun j r' e'=>?_⟩
 rw [List.getElem?_set] at e' ⊢
 by_cases hj:g=j
 ·subst hj
  rw [if_pos rfl] at e' ⊢
  by_cases hl:g < T.length
  ·rw [if_pos hl] at e'
   cases e'
   exact ⟨q,by rw [if_pos (by rw [h.1];exact hl)],e⟩
  ·rw [if_neg hl] at e'
   cases e'
 ·rw [if_neg hj] at e' ⊢
  exact h.2 j r' e'
def sp_lent:Sp:=fun vs H Q _=>∃(bx l m c:Addr) (x y z:Int) (ys zs:List V) (T:List PR) (rs:List Rw) (gs:List Int) (s:Nat),vs=[.ref bx,.ref l,.ref m,.ref c]∧H bx=some (.lst [.int x,.int y,.int z])∧H l=some (.lst ys)∧LsAt H ys T∧H m=some (.lst zs)∧TupsAt H zs (rowsV rs)∧H c=some (.lst (gs.map V.int)) ∧
 (l≠bx∧m≠bx∧c≠bx∧V.ref bx ∉ ys)∧(T.length=rs.length + 1∧rs.length≤40∧s≤240∧gs.length=rs.length + 1)∧(∀x∈gs,0≤x)∧(∀r∈T,List.length r=s + 1) ∧
 ∀q us T' (x' y' z':Int) H',Kp bx H H'→H' bx=some (.lst [.int x',.int y',.int z'])→H' q=some (.lst us)→LsAt H' us T'→T'.length=T.length→(∀r∈T',List.length r=s + 1)→(∀a u,H a=some u→a≠q∧(V.ref a∈us→V.ref a∈ys))→Q (.ref q) H'
section
variable {P:Program} {w:World} {K:W.Frag} {mg:Str→Option Value} {base:Heap} {c:Nat→Addr} {ct_Linit pt_Linit R CL:Addr}
theorem D_lentry (T:Txt K mg c R CL ct_Linit pt_Linit):Def P w K mg base CX0 4 "_law_spoilt_entry" ["_law_box_here", "_law_side_here", "_law_blocks", "_law_gaps_here"] sp_lent:=by
 have D_take:=D_take (P:=P) (w:=w) (base:=base) T
 have D_lcarried:=D_lcarried (P:=P) (w:=w) (base:=base) T
 refine def_of T.d_lentry sc_lentry (fun vs H Q E h=>?_) (fun _ _ _ _ _ _ us hl=>match us,hl with | [_,_,_,_],_=>rfl) (fun f cdv A outer s H vs Q E hr h=>?_)
 ·obtain ⟨bx,l,m,c,x,y,z,ys,zs,T_,rs,gs,s,rfl,_⟩:=h
  rfl
 ·obtain ⟨bx,l,m,c,x,y,z,ys,zs,T_,rs,gs,s,rfl,hbx,hl,ls,hm,tp,hc,ap,side,gpos,rl,k⟩:=h
  have nd:=sc_lentry.nd
  refine ⟨_,(pss_cons (ps_set (i:=4) nd rfl (Or.inl rfl) (pe_def D_take hr (pa_cons (pv 0) (pa_cons (pe_callB call_lenN rfl T.n_len boot_len (pa_cons (pv 1) pa_nil)) pa_nil))))
   (pss_cons (ps_set (i:=5) nd rfl (Or.inl rfl) (pe_def D_take hr (pa_cons (pv 0) (pa_cons (pe_callB call_lenN rfl T.n_len boot_len (pa_cons (pe_ix ix_list (pv 1) (pv 4) (fun _ _=>rfl)) pa_nil)) pa_nil))))
   (pss_cons (ps_set (i:=6) nd rfl (Or.inl rfl) (pe_ix ix_list (pe_ix ix_list (pv 1) (pv 4) (fun _ _=>rfl)) (pv 5) (fun _ _=>rfl)))
   (pss_cons (ps_set (i:=7) nd rfl (Or.inl rfl) (pe_lstA (pa_cons pe_non (pa_cons pe_int (pa_cons pe_int (pa_cons pe_int pa_nil))))))
   (pss_cons (ps_if (pt_cmpR op_notNN (pv 6) pe_non (nomark _)) (pss_one (ps_set (i:=7) nd rfl (Or.inl rfl) (pe_lstA (pa_cons (pe_op op_add (pv 6) pe_int) (pa_cons (pe_op op_sub (pv 6) pe_int) (pa_cons pe_non (pa_cons (pe_op op_add (pv 6) pe_int) pa_nil))))))) pss_nil)
   (pss_cons (ps_set (i:=8) nd rfl (Or.inl rfl) (pe_callTy call_list_ofA rfl T.n_list boot_list (pa_cons (pe_ix ix_list (pv 1) (pv 4) (fun _ _=>rfl)) pa_nil)))
   (pss_cons (ps_asg (pe_ix ix_list (pv 7) (pe_def D_take hr (pa_cons (pv 0) (pa_cons pe_int pa_nil))) (fun _ _=>rfl)) (pg_sub (pv 8) (pv 5) set_listA))
   (pss_cons (ps_set (i:=9) nd rfl (Or.inl rfl) (pe_op op_catA (pe_op op_catA (pe_slice sl_listA (pv 1) po_none (po_some (pv 4))) (pe_lstA (pa_cons (pv 8) pa_nil))) (pe_slice sl_listA (pv 1) (po_some (pe_op op_add (pv 4) pe_int)) po_none)))
   (pss_cons (ps_if (pt_cmpR op_eq (pe_def D_take hr (pa_cons (pv 0) (pa_cons pe_int pa_nil))) pe_int (nomark _)) (pss_one (ps_set (i:=9) nd rfl (Or.inl rfl) (pe_def D_lcarried hr (pa_cons (pv 9) (pa_cons (pv 4) (pa_cons (pv 2) (pa_cons (pv 3) pa_nil))))))) pss_nil)
   (pss_one (ps_ret (pv 9)))))))))))),?_⟩
  clear nd D_take D_lcarried
  rw [show start ["_law_box_here", "_law_side_here", "_law_blocks", "_law_gaps_here", "_law_g", "_law_x", "_law_price", "_law_some", "_law_row", "_law_found"] [.ref bx,.ref l,.ref m,.ref c]=[some (.ref bx),some (.ref l),some (.ref m),some (.ref c),none,none,none,none,none,none] from rfl]
  try dsimp only [cx_K,cx_K2]
  have iL_many:FldOk K CL "many" := ⟨T.clL,T.aL_many⟩
  have iL_rows:FldOk K CL "rows" := ⟨T.clL,T.aL_rows⟩
  obtain ⟨nl,nm,nc,nb⟩:=ap
  obtain ⟨Tl,few,s240,gl_⟩:=side
  have yl:ys.length=rs.length + 1:=by rw [ls.1,Tl]
  have F:SH H [bx] H [(bx,.lst [.int x,.int y,.int z])] [.tps zs (rowsV rs)]:=(SH.nil.addM (M:=[bx]) (by simp) hbx rfl (by simp)).addP tp
  have o_l:=Old.mk (M:=[bx]) hl (nm1 nl)
  have o_m:=Old.mk (M:=[bx]) hm (nm1 nm)
  have o_c:=Old.mk (M:=[bx]) hc (nm1 nc)
  repeat k_meth
  obtain ⟨g,rfl⟩:∃g:Nat,r_=(g:Int):=⟨r_.toNat,by omega⟩
  have hg:g < T_.length:=by omega
  obtain ⟨row,hrow⟩:∃row,T_[g]?=some row:=⟨_,List.getElem?_eq_getElem hg⟩
  obtain ⟨qg,hqg,eqg⟩:=ls.2 g _ hrow
  have rl1:=rl row (List.mem_of_getElem? hrow)
  have ngb:qg≠bx:=fun z=>nb (by rw [← z];exact List.mem_of_getElem? hqg)
  have o_g:=Old.mk (M:=[bx]) eqg (nm1 ngb)
  have at_g:AtI ys (g:Int) (.ref qg):=⟨atI_nat hqg⟩
  have rml:(row.map pV).length=s + 1:=by rw [List.length_map,rl1]
  repeat k_meth
  obtain ⟨x1,rfl⟩:∃g:Nat,r_=(g:Int):=⟨r_.toNat,by omega⟩
  obtain ⟨o,ho⟩:∃o,row[x1]?=some o:=⟨_,List.getElem?_eq_getElem (by omega)⟩
  have at_x:AtI (row.map pV) (x1:Int) (pV o):=⟨atI_nat (by rw [List.getElem?_map,ho];rfl)⟩
  cases o with
  | none =>
   have at_y:AtI (row.map pV) (x1:Int) .non:=at_x
   repeat k_meth
   obtain ⟨o2,at_2⟩:∃o2:Option Int,AtI [V.non,V.int 0,V.int 1,V.int 5] r_ (pV o2):=by
    rcases (show r_=0∨r_=1∨r_=2∨r_=3 by omega) with rfl | rfl | rfl | rfl
    ·exact ⟨none,⟨rfl⟩⟩
    ·exact ⟨some 0,⟨rfl⟩⟩
    ·exact ⟨some 1,⟨rfl⟩⟩
    ·exact ⟨some 5,⟨rfl⟩⟩
   rename Addr=>rw_
   have cf:cutV ys (some ((g:Int) + 1)) none=ys.drop (g + 1):=by rw [show (g:Int) + 1=((g + 1:Nat):Int) by omega,cut_from]
   have sz1:(cutV ys none (some (g:Int))).length + [V.ref rw_].length≤sizeLine:=by
    rw [cut_take,List.length_take,sizeLine_eq]
    simp only [List.length_cons,List.length_nil]
    omega
   have sz2:(cutV ys none (some (g:Int))++[V.ref rw_]).length + (cutV ys (some ((g:Int) + 1)) none).length≤sizeLine:=by
    rw [cf,cut_take,List.length_append,List.length_take,List.length_drop,sizeLine_eq]
    simp only [List.length_cons,List.length_nil]
    omega
   repeat k_meth
   obtain ⟨fd,e_⟩:∃q,q=p_:=⟨_,rfl⟩
   subst e_
   have ev:cutV ys none (some (g:Int))++[V.ref rw_]++cutV ys (some ((g:Int) + 1)) none=ys.set g (.ref rw_):=by
    rw [cf,cut_take,List.set_eq_take_append_cons_drop,if_pos (by omega)]
    simp
   have er:(row.map pV).set (x1:Int).toNat (pV o2)=(row.set x1 o2).map pV:=by rw [Int.toNat_natCast,List.map_set]
   have hfd:H_ fd=some (.lst (ys.set g (.ref rw_))):=by rw [← ev];exact hatC
   have hrw:H_ rw_=some (.lst ((row.set x1 o2).map pV)):=by rw [← er];exact hatC
   have ls2:LsAt H_ (ys.set g (.ref rw_)) (T_.set g (row.set x1 o2)):=LsAt.set (ls.kept fun q u hm e=>F.fr q u (nm1 fun z=>nb (z▸hm)) e) hrw
   have rl2:∀r∈T_.set g (row.set x1 o2),List.length r=s + 1:=fun r hr=>by
    rcases List.mem_or_eq_of_mem_set hr with h | h
    ·exact rl r h
    ·rw [h,List.length_set]
     exact rl1
   have fr2:∀a u,H a=some u→a≠fd∧(V.ref a∈ys.set g (.ref rw_)→V.ref a∈ys):=fun a u e=>⟨F.fresh (LkL.m (a:=fd) (o:=.lst _)) (nm1 (SH.neC (F:=F))) a u e,fun hm=>by
    rcases List.mem_or_eq_of_mem_set hm with h | h
    ·exact h
    ·exact absurd (V.ref.inj h) (F.fresh (LkL.m (a:=rw_) (o:=.lst _)) (nm1 (SH.neC (F:=F))) a u e)⟩
   have al:∀a u,H a=some u→∃u',H_ a=some u':=fun a u e=>by
    by_cases h:a=bx
    ·subst h
     exact ⟨_,hatC⟩
    ·exact ⟨_,F.fr a u (nm1 h) e⟩
   refine i_dec (fun h=>?_) (fun h=>?_)
   ·repeat k_meth
    refine ⟨fd,m,c,_,zs,_,rs,gs,s,g,rfl,hfd,ls2,hatC,TpA.e,hatC,⟨by rw [List.length_set];omega,by omega,few,s240,gl_⟩,gpos,rl2,fun q us H2 s2 hq lq fq _=>?_⟩
    replace F:=F.same s2
    repeat k_meth
    refine k q us _ _ _ _ _ F.kpo hatC hq lq (by rw [carN_len (by rw [List.length_set];omega) _ (by omega)];omega) (carN_row rl2 _) fun a u e=>?_
    obtain ⟨u',e'⟩:=al a u e
    exact ⟨(fq a u' e').1,fun hm=>(fr2 a u e).2 ((fq a u' e').2 hm)⟩
   ·repeat k_meth
    exact k fd _ _ _ _ _ _ F.kpo hatC hfd ls2 (by rw [List.length_set]) rl2 fr2
  | some w =>
   have at_y:AtI (row.map pV) (x1:Int) (.int w):=at_x
   repeat k_meth
   obtain ⟨o2,at_2⟩:∃o2:Option Int,AtI [V.int (w + 1),V.int (w - 1),V.non,V.int (w + 240)] r_ (pV o2):=by
    rcases (show r_=0∨r_=1∨r_=2∨r_=3 by omega) with rfl | rfl | rfl | rfl
    ·exact ⟨some (w + 1),⟨rfl⟩⟩
    ·exact ⟨some (w - 1),⟨rfl⟩⟩
    ·exact ⟨none,⟨rfl⟩⟩
    ·exact ⟨some (w + 240),⟨rfl⟩⟩
   rename Addr=>rw_
   have cf:cutV ys (some ((g:Int) + 1)) none=ys.drop (g + 1):=by rw [show (g:Int) + 1=((g + 1:Nat):Int) by omega,cut_from]
   have sz1:(cutV ys none (some (g:Int))).length + [V.ref rw_].length≤sizeLine:=by
    rw [cut_take,List.length_take,sizeLine_eq]
    simp only [List.length_cons,List.length_nil]
    omega
   have sz2:(cutV ys none (some (g:Int))++[V.ref rw_]).length + (cutV ys (some ((g:Int) + 1)) none).length≤sizeLine:=by
    rw [cf,cut_take,List.length_append,List.length_take,List.length_drop,sizeLine_eq]
    simp only [List.length_cons,List.length_nil]
    omega
   repeat k_meth
   obtain ⟨fd,e_⟩:∃q,q=p_:=⟨_,rfl⟩
   subst e_
   have ev:cutV ys none (some (g:Int))++[V.ref rw_]++cutV ys (some ((g:Int) + 1)) none=ys.set g (.ref rw_):=by
    rw [cf,cut_take,List.set_eq_take_append_cons_drop,if_pos (by omega)]
    simp
   have er:(row.map pV).set (x1:Int).toNat (pV o2)=(row.set x1 o2).map pV:=by rw [Int.toNat_natCast,List.map_set]
   have hfd:H_ fd=some (.lst (ys.set g (.ref rw_))):=by rw [← ev];exact hatC
   have hrw:H_ rw_=some (.lst ((row.set x1 o2).map pV)):=by rw [← er];exact hatC
   have ls2:LsAt H_ (ys.set g (.ref rw_)) (T_.set g (row.set x1 o2)):=LsAt.set (ls.kept fun q u hm e=>F.fr q u (nm1 fun z=>nb (z▸hm)) e) hrw
   have rl2:∀r∈T_.set g (row.set x1 o2),List.length r=s + 1:=fun r hr=>by
    rcases List.mem_or_eq_of_mem_set hr with h | h
    ·exact rl r h
    ·rw [h,List.length_set]
     exact rl1
   have fr2:∀a u,H a=some u→a≠fd∧(V.ref a∈ys.set g (.ref rw_)→V.ref a∈ys):=fun a u e=>⟨F.fresh (LkL.m (a:=fd) (o:=.lst _)) (nm1 (SH.neC (F:=F))) a u e,fun hm=>by
    rcases List.mem_or_eq_of_mem_set hm with h | h
    ·exact h
    ·exact absurd (V.ref.inj h) (F.fresh (LkL.m (a:=rw_) (o:=.lst _)) (nm1 (SH.neC (F:=F))) a u e)⟩
   have al:∀a u,H a=some u→∃u',H_ a=some u':=fun a u e=>by
    by_cases h:a=bx
    ·subst h
     exact ⟨_,hatC⟩
    ·exact ⟨_,F.fr a u (nm1 h) e⟩
   refine i_dec (fun h=>?_) (fun h=>?_)
   ·repeat k_meth
    refine ⟨fd,m,c,_,zs,_,rs,gs,s,g,rfl,hfd,ls2,hatC,TpA.e,hatC,⟨by rw [List.length_set];omega,by omega,few,s240,gl_⟩,gpos,rl2,fun q us H2 s2 hq lq fq _=>?_⟩
    replace F:=F.same s2
    repeat k_meth
    refine k q us _ _ _ _ _ F.kpo hatC hq lq (by rw [carN_len (by rw [List.length_set];omega) _ (by omega)];omega) (carN_row rl2 _) fun a u e=>?_
    obtain ⟨u',e'⟩:=al a u e
    exact ⟨(fq a u' e').1,fun hm=>(fr2 a u e).2 ((fq a u' e').2 hm)⟩
   ·repeat k_meth
    exact k fd _ _ _ _ _ _ F.kpo hatC hfd ls2 (by rw [List.length_set]) rl2 fr2
end
def sp_lsp:Sp:=fun vs H Q _=>∃(bx l m c:Addr) (x y z:Int) (ys zs:List V) (T:List PR) (rs:List Rw) (gs:List Int) (s:Nat),vs=[.ref bx,.ref l,.ref m,.ref c]∧H bx=some (.lst [.int x,.int y,.int z])∧H l=some (.lst ys)∧LsAt H ys T∧H m=some (.lst zs)∧TupsAt H zs (rowsV rs)∧H c=some (.lst (gs.map V.int)) ∧
 (l≠bx∧m≠bx∧c≠bx∧V.ref bx ∉ ys)∧(T.length=rs.length + 1∧rs.length≤40∧s≤240∧gs.length=rs.length + 1)∧(∀x∈gs,0≤x)∧(∀r∈T,List.length r=s + 1) ∧
 ∀(v:V) (d:Dt) (x' y' z':Int) H',Kp bx H H'→H' bx=some (.lst [.int x',.int y',.int z'])→TrH (hides [bx] H') d v→depD d≤2∧widD d→(∃ds,d=.lst ds∨d=.tup ds)→Q v H'
theorem rowTr {H:Hp} {B:List Addr} {q:Addr} {r:PR} (h:H q=some (.lst (r.map pV))) (hq:q ∉ B):TrH (hides B H) (rowD r) (.ref q):=by
 unfold rowD
 rw [show (r.map fun o=>flatDt (pV o))=(r.map pV).map flatDt by rw [List.map_map];rfl]
 exact TrH.lst (hides_at.mpr ⟨hq,h⟩) (TrsH.flats fun v hv=>by obtain ⟨o,_,rfl⟩:=List.mem_map.mp hv;exact pV_flat o)
theorem row_sm {r:PR} {s:Nat} (h:List.length r=s + 1) (hs:s≤240):depD (rowD r)≤1∧widD (rowD r):=by
 unfold rowD
 rw [show (r.map fun o=>flatDt (pV o))=(r.map pV).map flatDt by rw [List.map_map];rfl]
 exact sm_lst (sm_flats _) (by rw [List.length_map,List.length_map,h];omega)
theorem lsTr {H:Hp} {B:List Addr} {ys:List V} {T:List PR} (h:LsAt H ys T) (hb:∀b∈B,V.ref b ∉ ys):TrsH (hides B H) (T.map rowD) ys:=TrsH.of (by rw [List.length_map,h.1]) fun i v e=>by
 have hi:i < T.length:=by rw [← h.1];exact (List.getElem?_eq_some_iff.mp e).1
 obtain ⟨q,a,b⟩:=h.2 i _ (List.getElem?_eq_getElem hi)
 rw [e] at a
 cases a
 exact ⟨rowD T[i],by rw [List.getElem?_map,List.getElem?_eq_getElem hi];rfl,rowTr b fun hm=>hb q hm (List.mem_of_getElem? e)⟩
theorem rows_sm {T:List PR} {s:Nat} (h:∀r∈T,List.length r=s + 1) (hs:s≤240):Sm 1 (T.map rowD):=fun d hd=>by
 obtain ⟨r,hr,rfl⟩:=List.mem_map.mp hd
 exact row_sm (h r hr) hs
section
variable {P:Program} {w:World} {K:W.Frag} {mg:Str→Option Value} {base:Heap} {c:Nat→Addr} {ct_Linit pt_Linit R CL:Addr}
theorem D_lspoilt (T:Txt K mg c R CL ct_Linit pt_Linit):Def P w K mg base CX0 5 "_law_spoilt_side" ["_law_box_here", "_law_side_here", "_law_blocks", "_law_gaps_here"] sp_lsp:=by
 have D_take:=D_take (P:=P) (w:=w) (base:=base) T
 have D_lentry:=D_lentry (P:=P) (w:=w) (base:=base) T
 refine def_of T.d_lspoilt sc_lspoilt (fun vs H Q E h=>?_) (fun _ _ _ _ _ _ us hl=>match us,hl with | [_,_,_,_],_=>rfl) (fun f cdv A outer s H vs Q E hr h=>?_)
 ·obtain ⟨bx,l,m,c,x,y,z,ys,zs,T_,rs,gs,s,rfl,_⟩:=h
  rfl
 ·obtain ⟨bx,l,m,c,x,y,z,ys,zs,T_,rs,gs,s,rfl,hbx,hl,ls,hm,tp,hc,ap,side,gpos,rl,k⟩:=h
  have nd:=sc_lspoilt.nd
  refine ⟨_,(pss_cons (ps_set (i:=4) nd rfl (Or.inl rfl) (pe_def D_take hr (pa_cons (pv 0) (pa_cons pe_int pa_nil))))
   (pss_cons (ps_set (i:=5) nd rfl (Or.inl rfl) (pe_def D_take hr (pa_cons (pv 0) (pa_cons (pe_callB call_lenN rfl T.n_len boot_len (pa_cons (pv 1) pa_nil)) pa_nil))))
   (pss_cons (ps_set (i:=6) nd rfl (Or.inl rfl) (pe_callTy call_list_ofA rfl T.n_list boot_list (pa_cons (pe_ix ix_list (pv 1) (pv 5) (fun _ _=>rfl)) pa_nil)))
   (pss_cons (ps_if (pt_cmpR op_lt (pv 4) pe_int (nomark _)) (pss_one (ps_ret (pe_def D_lentry hr (pa_cons (pv 0) (pa_cons (pv 1) (pa_cons (pv 2) (pa_cons (pv 3) pa_nil))))))) pss_nil)
   (pss_cons (ps_if (pt_cmpR op_eq (pv 4) pe_int (nomark _)) (pss_one (ps_asg pe_bl (pg_sub (pv 6) pe_int set_listA))) pss_nil)
   (pss_cons (ps_if (pt_cmpR op_eq (pv 4) pe_int (nomark _)) (pss_one (ps_expr (pe_appendA (pv 6) (pe_ix ix_list (pe_lstA (pa_cons pe_non (pa_cons pe_int (pa_cons (pe_ix ix_list (pv 6) (pe_un un_neg pe_int) (fun _ _=>rfl)) pa_nil)))) (pe_def D_take hr (pa_cons (pv 0) (pa_cons pe_int pa_nil))) (fun _ _=>rfl))))) pss_nil)
   (pss_cons (ps_if (pt_cmpR op_eq (pv 4) pe_int (nomark _)) (pss_one (ps_expr (pe_popA (pv 6) (pe_def D_take hr (pa_cons (pv 0) (pa_cons (pe_callB call_lenN rfl T.n_len boot_len (pa_cons (pv 6) pa_nil)) pa_nil)))))) pss_nil)
   (pss_cons (ps_if (pt_cmpR op_eq (pv 4) pe_int (nomark _)) (pss_one (ps_ret (pe_ix ix_list (pe_lstA (pa_cons (pe_op op_catA (pe_slice sl_listA (pv 1) po_none (po_some (pv 5))) (pe_slice sl_listA (pv 1) (po_some (pe_op op_add (pv 5) pe_int)) po_none)) (pa_cons (pe_op op_catA (pv 1) (pe_lstA (pa_cons (pv 6) pa_nil))) (pa_cons (pe_revSl (pv 1) (pe_un un_neg pe_int)) (pa_cons (pe_callTy call_tuple_ofA rfl T.n_tuple boot_tuple (pa_cons (pv 1) pa_nil)) (pa_cons (pe_op op_catA (pe_op op_catA (pe_slice sl_listA (pv 1) po_none (po_some (pv 5))) (pe_lstA (pa_cons (pe_callTy call_tuple_ofA rfl T.n_tuple boot_tuple (pa_cons (pv 6) pa_nil)) pa_nil))) (pe_slice sl_listA (pv 1) (po_some (pe_op op_add (pv 5) pe_int)) po_none)) pa_nil)))))) (pe_def D_take hr (pa_cons (pv 0) (pa_cons pe_int pa_nil))) (fun _ _=>rfl)))) pss_nil)
   (pss_one (ps_ret (pe_op op_catA (pe_op op_catA (pe_slice sl_listA (pv 1) po_none (po_some (pv 5))) (pe_lstA (pa_cons (pv 6) pa_nil))) (pe_slice sl_listA (pv 1) (po_some (pe_op op_add (pv 5) pe_int)) po_none)))))))))))),?_⟩
  clear nd D_take D_lentry
  rw [show start ["_law_box_here", "_law_side_here", "_law_blocks", "_law_gaps_here", "_law_way", "_law_g", "_law_row"] [.ref bx,.ref l,.ref m,.ref c]=[some (.ref bx),some (.ref l),some (.ref m),some (.ref c),none,none,none] from rfl]
  try dsimp only [cx_K,cx_K2]
  have iL_many:FldOk K CL "many" := ⟨T.clL,T.aL_many⟩
  have iL_rows:FldOk K CL "rows" := ⟨T.clL,T.aL_rows⟩
  obtain ⟨nl,nm,nc,nb⟩:=ap
  obtain ⟨Tl,few,s240,gl_⟩:=side
  have yl:ys.length=rs.length + 1:=by rw [ls.1,Tl]
  have F:SH H [bx] H [(bx,.lst [.int x,.int y,.int z])] [.tps zs (rowsV rs)]:=(SH.nil.addM (M:=[bx]) (by simp) hbx rfl (by simp)).addP tp
  have o_l:=Old.mk (M:=[bx]) hl (nm1 nl)
  have o_m:=Old.mk (M:=[bx]) hm (nm1 nm)
  have o_c:=Old.mk (M:=[bx]) hc (nm1 nc)
  repeat k_meth
  rename_i wy _ _ _ wlo whi _
  obtain ⟨g,rfl⟩:∃g:Nat,r_=(g:Int):=⟨r_.toNat,by omega⟩
  have hg:g < T_.length:=by omega
  obtain ⟨row,hrow⟩:∃row,T_[g]?=some row:=⟨_,List.getElem?_eq_getElem hg⟩
  obtain ⟨qg,hqg,eqg⟩:=ls.2 g _ hrow
  have rl1:=rl row (List.mem_of_getElem? hrow)
  have ngb:qg≠bx:=fun z=>nb (by rw [← z];exact List.mem_of_getElem? hqg)
  have o_g:=Old.mk (M:=[bx]) eqg (nm1 ngb)
  have at_g:AtI ys (g:Int) (.ref qg):=⟨atI_nat hqg⟩
  have rml:(row.map pV).length=s + 1:=by rw [List.length_map,rl1]
  repeat k_meth
  refine i_dec (fun h=>?_) (fun h=>?_)
  ·repeat k_meth
   refine ⟨bx,l,m,c,_,_,_,ys,zs,T_,rs,gs,s,rfl,hatC,hatC,ls.kept fun q u hm e=>F.fr q u (nm1 fun z=>nb (z▸hm)) e,hatC,TpA.e,hatC,⟨nl,nm,nc,nb⟩,⟨Tl,few,s240,gl_⟩,gpos,rl,fun q us T' x' y' z' H2 kp hb hq lq Tl' rl' fq=>?_⟩
   have hbx1:H_ bx=some (.lst [.int x_,.int y_,.int z_]):=hatC
   have fb:=fq bx _ hbx1
   have kp2:=F.kpo
   clear F
   have F:SH H2 [bx] H2 [(bx,.lst [.int x',.int y',.int z'])] []:=SH.nil.addM (M:=[bx]) (by simp) hb rfl (by simp)
   repeat k_meth
   exact k _ (.lst (T'.map rowD)) _ _ _ _ (kp2.trans kp) hatC (TrH.lst (hides_at.mpr ⟨nm1 (Ne.symm fb.1),hq⟩) (lsTr lq fun b hb' hm=>nb (fb.2 (by rw [← List.mem_singleton.mp hb'];exact hm)))) (sm_lst (rows_sm rl' s240) (by rw [List.length_map];omega)) ⟨_,.inl rfl⟩
  rename Addr=>rw_
  have cf:cutV ys (some ((g:Int) + 1)) none=ys.drop (g + 1):=by rw [show (g:Int) + 1=((g + 1:Nat):Int) by omega,cut_from]
  have sz1:∀v:V,(cutV ys none (some (g:Int))).length + [v].length≤sizeLine:=fun v=>by
   rw [cut_take,List.length_take,sizeLine_eq]
   simp only [List.length_cons,List.length_nil]
   omega
  have sz2:∀v:V,(cutV ys none (some (g:Int))++[v]).length + (cutV ys (some ((g:Int) + 1)) none).length≤sizeLine:=fun v=>by
   rw [cf,cut_take,List.length_append,List.length_take,List.length_drop,sizeLine_eq]
   simp only [List.length_cons,List.length_nil]
   omega
  have sa:=sz1 (.ref rw_)
  have sb:=sz2 (.ref rw_)
  have rfl1:∀v∈row.map pV,isFlat v=true:=fun v hv=>by obtain ⟨o,_,rfl⟩:=List.mem_map.mp hv;exact pV_flat o
  have fin:∀(H3:Hp) (fd:Addr) (rv:List V) (x' y' z':Int),Kp bx H H3→H3 bx=some (.lst [.int x',.int y',.int z'])→H3 fd=some (.lst (cutV ys none (some (g:Int))++[V.ref rw_]++cutV ys (some ((g:Int) + 1)) none))→H3 rw_=some (.lst rv)→rw_≠bx→fd≠bx→(∀v∈rv,isFlat v=true)→rv.length≤300→Q (.ref fd) H3:=fun H3 fd rv x' y' z' kp hb hf hr nr nf fl rvl=>by
   rw [cf,cut_take] at hf
   have ts:=lsTr (B:=[bx]) (ls.kept fun q u hm e=>kp q u (fun z=>nb (z▸hm)) e) (fun b hb' hm=>nb (by rw [← List.mem_singleton.mp hb'];exact hm))
   have sm1:=rows_sm rl s240
   have s2:=sm_lst (sm_flats rv) (by rw [List.length_map];omega)
   exact k _ (.lst (((T_.map rowD).take g++[.lst (rv.map flatDt)])++(T_.map rowD).drop (g + 1))) _ _ _ _ kp hb (TrH.lst (hides_at.mpr ⟨nm1 nf,hf⟩) (((ts.take g).append (TrsH.one (TrH.lst (hides_at.mpr ⟨nm1 nr,hr⟩) (TrsH.flats fl)))).append (ts.drop (g + 1))))
    (sm_lst (((sm1.take g).append (Sm.one s2.1 s2.2)).append (sm1.drop (g + 1))) (by simp;omega)) ⟨_,.inl rfl⟩
  rcases (show wy=3∨wy=4∨wy=5∨wy=6 by omega) with rfl | rfl | rfl | rfl
  ·repeat k_meth
   exact fin _ _ _ _ _ _ F.kpo hatC hatC hatC (SH.neC (F:=F)) (SH.neC (F:=F)) (fun v hv=>by
    rcases List.mem_or_eq_of_mem_set hv with h | h
    ·exact rfl1 v h
    ·rw [h];rfl) (by rw [List.length_set];omega)
  ·obtain ⟨o,ho⟩:∃o,row[s]?=some o:=⟨_,List.getElem?_eq_getElem (by omega)⟩
   have at_l:AtI (row.map pV) (-1) (pV o):=at_last rml (by rw [List.getElem?_map,ho];rfl)
   have rsl:(row.map pV).length < sizeLine:=by rw [sizeLine_eq];omega
   repeat k_meth
   obtain ⟨v2,f2,at_2⟩:∃v2:V,isFlat v2=true∧AtI [V.non,V.int 0,pV o] r_ v2:=by
    rcases (show r_=0∨r_=1∨r_=2 by omega) with rfl | rfl | rfl
    ·exact ⟨_,rfl,⟨rfl⟩⟩
    ·exact ⟨_,rfl,⟨rfl⟩⟩
    ·exact ⟨_,pV_flat o,⟨rfl⟩⟩
   repeat k_meth
   exact fin _ _ _ _ _ _ F.kpo hatC hatC hatC (SH.neC (F:=F)) (SH.neC (F:=F)) (fun v hv=>by
    rcases List.mem_append.mp hv with h | h
    ·exact rfl1 v h
    ·rw [List.mem_singleton.mp h];exact f2) (by rw [List.length_append];simp only [List.length_cons,List.length_nil];omega)
  ·repeat k_meth
   intro y hy
   repeat k_meth
   exact fin _ _ _ _ _ _ F.kpo hatC hatC hatC (SH.neC (F:=F)) (SH.neC (F:=F)) (fun v hv=>rfl1 v (List.mem_of_mem_eraseIdx hv)) (by have:=List.length_eraseIdx_le (row.map pV) r_.toNat;omega)
  ·have sc:(cutV ys none (some (g:Int))).length + (cutV ys (some ((g:Int) + 1)) none).length≤sizeLine:=by
    rw [cf,cut_take,List.length_take,List.length_drop,sizeLine_eq]
    omega
   have sd:ys.length + [V.ref rw_].length≤sizeLine:=by
    rw [sizeLine_eq]
    simp only [List.length_cons,List.length_nil]
    omega
   repeat k_meth
   refine ⟨sc,fun p1 H1 n1=>?_⟩
   replace F:=F.newL n1
   have se:∀v:V,[v].length≤sizeLine:=fun v=>by rw [sizeLine_eq];simp only [List.length_cons,List.length_nil];omega
   repeat k_meth
   refine ⟨se _,fun p2 H2 n2=>?_⟩
   replace F:=F.newL n2
   repeat k_meth
   refine ⟨sd,fun p3 H3 n3=>?_⟩
   replace F:=F.newL n3
   repeat k_meth
   refine ⟨l,ys,rfl,rfl,SqA.e,fun p4 H4 n4=>?_⟩
   replace F:=F.newL n4
   repeat k_meth
   rename Addr=>tr_
   rename_i tsd _
   have sf:=sz1 (.ref tr_)
   have sg:=sz2 (.ref tr_)
   refine ⟨se _,fun p5 H5 n5=>?_⟩
   replace F:=F.newL n5
   repeat k_meth
   refine ⟨sf,fun p6 H6 n6=>?_⟩
   replace F:=F.newL n6
   repeat k_meth
   refine ⟨sg,fun p7 H7 n7=>?_⟩
   replace F:=F.newL n7
   repeat k_meth
   try refine ⟨by rw [sizeLine_eq];simp only [List.length_cons,List.length_nil];omega,fun p8 H8 n8=>?_⟩
   try replace F:=F.newL n8
   repeat k_meth
   refine ⟨by omega,?_⟩
   repeat k_meth
   have lsk:LsAt H_ ys T_:=ls.kept fun q u hm e=>F.fr q u (nm1 fun z=>nb (z▸hm)) e
   have ts:=lsTr (B:=[bx]) lsk (fun b hb' hm=>nb (by rw [← List.mem_singleton.mp hb'];exact hm))
   have sm1:=rows_sm rl s240
   have s2:=row_sm rl1 s240
   have s3:=sm_tup (sm_flats (row.map pV)) (by rw [List.length_map];omega)
   have hrw:H_ rw_=some (.lst (row.map pV)):=hatC
   have hts:H_ tsd=some (.tup ys):=hatC
   have htr:H_ tr_=some (.tup (row.map pV)):=hatC
   have hbb:H_ bx=some (.lst [.int x_,.int y_,.int z_]):=hatC
   have nts:tsd≠bx:=fun z=>by rw [z,hbb] at hts;cases hts
   have ntr:tr_≠bx:=fun z=>by rw [z,hbb] at htr;cases htr
   have tw:=rowTr (B:=[bx]) hrw (nm1 (SH.neC (F:=F)))
   have tt:=TrH.tup (hides_at.mpr ⟨nm1 ntr,htr⟩) (TrsH.flats rfl1)
   have h1:H_ p1=some (.lst (ys.take g++ys.drop (g + 1))):=by
    have h:H_ p1=some (.lst (cutV ys none (some (g:Int))++cutV ys (some ((g:Int) + 1)) none)):=hatC
    rw [cf,cut_take] at h
    exact h
   have h3:H_ p3=some (.lst (ys++[.ref rw_])):=hatC
   have h4:H_ p4=some (.lst ys.reverse):=hatC
   have h7:H_ p7=some (.lst (ys.take g++[.ref tr_]++ys.drop (g + 1))):=by
    have h:H_ p7=some (.lst (cutV ys none (some (g:Int))++[V.ref tr_]++cutV ys (some ((g:Int) + 1)) none)):=hatC
    rw [cf,cut_take] at h
    exact h
   rcases (show r_=0∨r_=1∨r_=2∨r_=3∨r_=4 by omega) with rfl | rfl | rfl | rfl | rfl
   ·have at_9:AtI [V.ref p1,V.ref p3,V.ref p4,V.ref tsd,V.ref p7] 0 (.ref p1):=⟨rfl⟩
    repeat k_meth
    exact k _ (.lst ((T_.map rowD).take g++(T_.map rowD).drop (g + 1))) _ _ _ _ F.kpo hatC (TrH.lst (hides_at.mpr ⟨nm1 (SH.neC (F:=F)),h1⟩) ((ts.take g).append (ts.drop (g + 1)))) (sm_lst ((sm1.take g).append (sm1.drop (g + 1))) (by simp;omega)) ⟨_,.inl rfl⟩
   ·have at_9:AtI [V.ref p1,V.ref p3,V.ref p4,V.ref tsd,V.ref p7] 1 (.ref p3):=⟨rfl⟩
    repeat k_meth
    exact k _ (.lst (T_.map rowD++[rowD row])) _ _ _ _ F.kpo hatC (TrH.lst (hides_at.mpr ⟨nm1 (SH.neC (F:=F)),h3⟩) (ts.append (TrsH.one tw))) (sm_lst (sm1.append (Sm.one s2.1 s2.2)) (by simp;omega)) ⟨_,.inl rfl⟩
   ·have at_9:AtI [V.ref p1,V.ref p3,V.ref p4,V.ref tsd,V.ref p7] 2 (.ref p4):=⟨rfl⟩
    repeat k_meth
    exact k _ (.lst (T_.map rowD).reverse) _ _ _ _ F.kpo hatC (TrH.lst (hides_at.mpr ⟨nm1 (SH.neC (F:=F)),h4⟩) ts.rev) (sm_lst (sm1.rev) (by simp;omega)) ⟨_,.inl rfl⟩
   ·have at_9:AtI [V.ref p1,V.ref p3,V.ref p4,V.ref tsd,V.ref p7] 3 (.ref tsd):=⟨rfl⟩
    repeat k_meth
    exact k _ (.tup (T_.map rowD)) _ _ _ _ F.kpo hatC (TrH.tup (hides_at.mpr ⟨nm1 nts,hts⟩) ts) (sm_tup (sm1) (by simp;omega)) ⟨_,.inr rfl⟩
   ·have at_9:AtI [V.ref p1,V.ref p3,V.ref p4,V.ref tsd,V.ref p7] 4 (.ref p7):=⟨rfl⟩
    repeat k_meth
    exact k _ (.lst ((T_.map rowD).take g++[.tup ((row.map pV).map flatDt)]++(T_.map rowD).drop (g + 1))) _ _ _ _ F.kpo hatC (TrH.lst (hides_at.mpr ⟨nm1 (SH.neC (F:=F)),h7⟩) (((ts.take g).append (TrsH.one tt)).append (ts.drop (g + 1)))) (sm_lst (((sm1.take g).append (Sm.one s3.1 s3.2)).append (sm1.drop (g + 1))) (by simp;omega)) ⟨_,.inl rfl⟩
end
def isBD:Dt→Bool
 | .bl _=>true
 | _=>false
theorem tr_ty {K:W.Frag} {H:Hp}:∀{d:Dt} {v:V},TrH H d v→∃n,TyOf K H v (.type n)∧isB v=isBD d
 | .non,v,h=>by simp only [TrH] at h;subst h;exact ⟨_,.non,rfl⟩
 | .bl b,v,h=>by simp only [TrH] at h;subst h;exact ⟨_,.bl b,rfl⟩
 | .int i,v,h=>by simp only [TrH] at h;subst h;exact ⟨_,.int i,rfl⟩
 | .str x,v,h=>by simp only [TrH] at h;subst h;exact ⟨_,.str x,rfl⟩
 | .lst ds,v,h=>by
  simp only [TrH] at h
  obtain ⟨p,xs,rfl,hp,_⟩:=h
  exact ⟨_,.lst hp,rfl⟩
 | .tup ds,v,h=>by
  simp only [TrH] at h
  obtain ⟨p,xs,rfl,hp,_⟩:=h
  exact ⟨_,.tup hp,rfl⟩
theorem al_non (d:Dt):alikeD d .non=(decide (isBD d=isB .non) && eqDt d .non):=by cases d <;> simp [alikeD,eqDt,isBD,isB]
theorem al_bl (d:Dt) (b:Bool):alikeD d (.bl b)=(decide (isBD d=true) && eqDt d (.bl b)):=by cases d <;> simp [alikeD,eqDt,isBD]
theorem al_int (d:Dt) (i:Int):alikeD d (.int i)=(decide (isBD d=false) && eqDt d (.int i)):=by cases d <;> simp [alikeD,eqDt,isBD]
theorem al_str (d:Dt) (x:Str):alikeD d (.str x)=(decide (isBD d=isB (.str x)) && eqDt d (.str x)):=by cases d <;> simp [alikeD,eqDt,isBD,isB]
def sp_al (n:Nat):Sp:=fun vs H Q _=>∃(v u:V) (d e:Dt),vs=[v,u]∧TrH H d v∧TrH H e u∧depD e≤n∧depD d≤100∧widD d∧widD e∧∀H',Same H H'→Q (.bl (alikeD d e)) H'
theorem alikeDs_all:∀(ds es:List Dt),ds.length=es.length→((List.range ds.length).map fun i=>alikeD (ds.getD i .non) (es.getD i .non)).all id=alikeDs ds es
 | [],[],_=>rfl
 | [],_::_,h=>by cases h
 | _::_,[],h=>by cases h
 | d::ds,e::es,h=>by
  rw [List.length_cons,List.range_succ_eq_map,List.map_cons,List.map_map,List.all_cons,alikeDs,← alikeDs_all ds es (by simpa using h)]
  rfl
theorem alikeDs_len:∀(ds es:List Dt),ds.length≠es.length→alikeDs ds es=false
 | [],[],h=>absurd rfl h
 | [],_::_,_=>rfl
 | _::_,[],_=>rfl
 | d::ds,e::es,h=>by rw [alikeDs,alikeDs_len ds es (by simpa using h),Bool.and_false]
section
variable {P:Program} {w:World} {K:W.Frag} {mg:Str→Option Value} {base:Heap} {c:Nat→Addr} {ct_Linit pt_Linit R CL:Addr}
theorem D_lalikeZ (T:Txt K mg c R CL ct_Linit pt_Linit):Def P w K mg base CX0 1 "_law_alike" ["_law_thing", "_law_due"] sp_no:=by
 refine def_of T.d_lalike sc_lalike (fun vs H Q E h=>h.elim) (fun _ _ _ _ _ _ us hl=>match us,hl with | [_,_],_=>rfl) (fun f cdv A outer s H vs Q E hr h=>h.elim)
theorem D_lalike0 (T:Txt K mg c R CL ct_Linit pt_Linit):Def P w K mg base CX0 2 "_law_alike" ["_law_thing", "_law_due"] (sp_al 0):=by
 refine def_of T.d_lalike sc_lalike (fun vs H Q E h=>?_) (fun _ _ _ _ _ _ us hl=>match us,hl with | [_,_],_=>rfl) (fun f cdv A outer s H vs Q E hr h=>?_)
 ·obtain ⟨v,u,d,e,rfl,_⟩:=h
  rfl
 ·obtain ⟨v,u,d,e,rfl,tr,tr2,dp,dp1,wd,wd2,k⟩:=h
  have nd:=sc_lalike.nd
  refine ⟨_,(pss_cons (ps_if (pt_val (pe_callB call_isLT rfl T.n_isinstance boot_isinstance (pa_cons (pv 1) (pa_cons (pe_tupA (pa_cons (pe_ty (T := "list") rfl T.n_list boot_list) (pa_cons (pe_ty (T := "tuple") rfl T.n_tuple boot_tuple) pa_nil))) pa_nil)))) (pss_cons (ps_if (PW.pt (pw_or (pt_cmpR op_ne (pe_callB call_isT rfl T.n_isinstance boot_isinstance (pa_cons (pv 0) (pa_cons (pe_ty (T := "list") rfl T.n_list boot_list) pa_nil))) (pe_callB call_isT rfl T.n_isinstance boot_isinstance (pa_cons (pv 1) (pa_cons (pe_ty (T := "list") rfl T.n_list boot_list) pa_nil))) (nomark _)) (pw_or1 (pt_cmpR op_ne (pe_callB call_isT rfl T.n_isinstance boot_isinstance (pa_cons (pv 0) (pa_cons (pe_ty (T := "tuple") rfl T.n_tuple boot_tuple) pa_nil))) (pe_callB call_isT rfl T.n_isinstance boot_isinstance (pa_cons (pv 1) (pa_cons (pe_ty (T := "tuple") rfl T.n_tuple boot_tuple) pa_nil))) (nomark _))))) (pss_one (ps_ret pe_bl)) pss_nil)
    (pss_one (ps_ret (pe_and (pe_cmpR op_eq (pe_callB call_lenN rfl T.n_len boot_len (pa_cons (pv 0) pa_nil)) (pe_callB call_lenN rfl T.n_len boot_len (pa_cons (pv 1) pa_nil)) (nomark _)) (pe_one (pe_callB (call_all rfl) rfl T.n_all boot_all (pa_cons (pe_comp (N:=["_law_one", "_law_other"]) (nt:=2) (fr:=[]) (pi_or (pi_zip rfl T.n_zip (pa_cons (pv 0) (pa_cons (pv 1) pa_nil))) (pi_zt rfl T.n_zip (pa_cons (pv 0) (pa_cons (pv 1) pa_nil)))) (fun _ _ _ _=>(pg_tupK (K:=K) (n:=2) rfl rfl (pgs_cons (pg_name (i:=0) (show (["_law_one", "_law_other"]:List Str).Nodup from by decide +kernel) rfl (Or.inl rfl)) (pgs_cons (pg_name (i:=1) (show (["_law_one", "_law_other"]:List Str).Nodup from by decide +kernel) rfl (Or.inl rfl)) pgs_nil)))) (fun _ _ _ _=>pif_nil) (fun _ _ _ _=>(pe_def (D_lalikeZ (P:=P) (w:=w) (base:=base) T) hr (pa_cons (pv 0) (pa_cons (pv 1) pa_nil))))) pa_nil))))))) pss_nil)
   (pss_one (ps_ret (pe_and (pe_cmpR op_eq (pe_callB call_isT rfl T.n_isinstance boot_isinstance (pa_cons (pv 0) (pa_cons (pe_ty (T := "bool") rfl T.n_bool boot_bool) pa_nil))) (pe_callB call_isT rfl T.n_isinstance boot_isinstance (pa_cons (pv 1) (pa_cons (pe_ty (T := "bool") rfl T.n_bool boot_bool) pa_nil))) (nomark _)) (pe_one (pe_cmpR (op_eqDD (K:=K) rfl hr) (pv 0) (pv 1) (nomark _))))))),?_⟩
  clear nd 
  rw [show start ["_law_thing", "_law_due"] [v,u]=[some (v),some (u)] from rfl]
  try dsimp only [cx_K,cx_K2]
  have iL_many:FldOk K CL "many" := ⟨T.clL,T.aL_many⟩
  have iL_rows:FldOk K CL "rows" := ⟨T.clL,T.aL_rows⟩
  have F:SH H [] H [] []:=SH.nil
  obtain ⟨nv,ty,bv⟩:=tr_ty (K:=K) tr
  cases e with
  | non =>
   simp only [TrH] at tr2
   subst tr2
   have o_v:OldT K H [] v nv:=⟨ty,fun _ _=>nm0⟩
   rw [al_non,← bv] at k
   repeat k_meth
   split
   ·rename_i hb
    rw [hb,Bool.true_and] at k
    repeat k_meth
    refine .inl ⟨d,.non,(tr.same F.sm).rep,by simp [Rep],dp1,?_⟩
    repeat k_meth
    exact k _ F.sm
   ·rename_i hb
    rw [Bool.eq_false_iff.mpr hb,Bool.false_and] at k
    repeat k_meth
    exact k _ F.sm
  | bl b =>
   simp only [TrH] at tr2
   subst tr2
   have o_v:OldT K H [] v nv:=⟨ty,fun _ _=>nm0⟩
   rw [al_bl,← bv] at k
   repeat k_meth
   split
   ·rename_i hb
    rw [hb,Bool.true_and] at k
    repeat k_meth
    refine .inl ⟨d,.bl b,(tr.same F.sm).rep,by simp [Rep],dp1,?_⟩
    repeat k_meth
    exact k _ F.sm
   ·rename_i hb
    rw [Bool.eq_false_iff.mpr hb,Bool.false_and] at k
    repeat k_meth
    exact k _ F.sm
  | int i =>
   simp only [TrH] at tr2
   subst tr2
   have o_v:OldT K H [] v nv:=⟨ty,fun _ _=>nm0⟩
   rw [al_int,← bv] at k
   repeat k_meth
   split
   ·rename_i hb
    rw [hb,Bool.true_and] at k
    repeat k_meth
    refine .inl ⟨d,.int i,(tr.same F.sm).rep,by simp [Rep],dp1,?_⟩
    repeat k_meth
    exact k _ F.sm
   ·rename_i hb
    rw [Bool.eq_false_iff.mpr hb,Bool.false_and] at k
    repeat k_meth
    exact k _ F.sm
  | str x =>
   simp only [TrH] at tr2
   subst tr2
   have o_v:OldT K H [] v nv:=⟨ty,fun _ _=>nm0⟩
   rw [al_str,← bv] at k
   repeat k_meth
   split
   ·rename_i hb
    rw [hb,Bool.true_and] at k
    repeat k_meth
    refine .inl ⟨d,.str x,(tr.same F.sm).rep,by simp [Rep],dp1,?_⟩
    repeat k_meth
    exact k _ F.sm
   ·rename_i hb
    rw [Bool.eq_false_iff.mpr hb,Bool.false_and] at k
    repeat k_meth
    exact k _ F.sm
  | lst es=>simp [depD] at dp
  | tup es=>simp [depD] at dp
theorem D_lalike1 (T:Txt K mg c R CL ct_Linit pt_Linit):Def P w K mg base CX0 3 "_law_alike" ["_law_thing", "_law_due"] (sp_al 1):=by
 refine def_of T.d_lalike sc_lalike (fun vs H Q E h=>?_) (fun _ _ _ _ _ _ us hl=>match us,hl with | [_,_],_=>rfl) (fun f cdv A outer s H vs Q E hr h=>?_)
 ·obtain ⟨v,u,d,e,rfl,_⟩:=h
  rfl
 ·obtain ⟨v,u,d,e,rfl,tr,tr2,dp,dp1,wd,wd2,k⟩:=h
  have nd:=sc_lalike.nd
  refine ⟨_,(pss_cons (ps_if (pt_val (pe_callB call_isLT rfl T.n_isinstance boot_isinstance (pa_cons (pv 1) (pa_cons (pe_tupA (pa_cons (pe_ty (T := "list") rfl T.n_list boot_list) (pa_cons (pe_ty (T := "tuple") rfl T.n_tuple boot_tuple) pa_nil))) pa_nil)))) (pss_cons (ps_if (PW.pt (pw_or (pt_cmpR op_ne (pe_callB call_isT rfl T.n_isinstance boot_isinstance (pa_cons (pv 0) (pa_cons (pe_ty (T := "list") rfl T.n_list boot_list) pa_nil))) (pe_callB call_isT rfl T.n_isinstance boot_isinstance (pa_cons (pv 1) (pa_cons (pe_ty (T := "list") rfl T.n_list boot_list) pa_nil))) (nomark _)) (pw_or1 (pt_cmpR op_ne (pe_callB call_isT rfl T.n_isinstance boot_isinstance (pa_cons (pv 0) (pa_cons (pe_ty (T := "tuple") rfl T.n_tuple boot_tuple) pa_nil))) (pe_callB call_isT rfl T.n_isinstance boot_isinstance (pa_cons (pv 1) (pa_cons (pe_ty (T := "tuple") rfl T.n_tuple boot_tuple) pa_nil))) (nomark _))))) (pss_one (ps_ret pe_bl)) pss_nil)
    (pss_one (ps_ret (pe_and (pe_cmpR op_eq (pe_callB call_lenN rfl T.n_len boot_len (pa_cons (pv 0) pa_nil)) (pe_callB call_lenN rfl T.n_len boot_len (pa_cons (pv 1) pa_nil)) (nomark _)) (pe_one (pe_callB (call_all rfl) rfl T.n_all boot_all (pa_cons (pe_comp (N:=["_law_one", "_law_other"]) (nt:=2) (fr:=[]) (pi_or (pi_zip rfl T.n_zip (pa_cons (pv 0) (pa_cons (pv 1) pa_nil))) (pi_zt rfl T.n_zip (pa_cons (pv 0) (pa_cons (pv 1) pa_nil)))) (fun _ _ _ _=>(pg_tupK (K:=K) (n:=2) rfl rfl (pgs_cons (pg_name (i:=0) (show (["_law_one", "_law_other"]:List Str).Nodup from by decide +kernel) rfl (Or.inl rfl)) (pgs_cons (pg_name (i:=1) (show (["_law_one", "_law_other"]:List Str).Nodup from by decide +kernel) rfl (Or.inl rfl)) pgs_nil)))) (fun _ _ _ _=>pif_nil) (fun _ _ _ _=>(pe_def (D_lalike0 (P:=P) (w:=w) (base:=base) T) hr (pa_cons (pv 0) (pa_cons (pv 1) pa_nil))))) pa_nil))))))) pss_nil)
   (pss_one (ps_ret (pe_and (pe_cmpR op_eq (pe_callB call_isT rfl T.n_isinstance boot_isinstance (pa_cons (pv 0) (pa_cons (pe_ty (T := "bool") rfl T.n_bool boot_bool) pa_nil))) (pe_callB call_isT rfl T.n_isinstance boot_isinstance (pa_cons (pv 1) (pa_cons (pe_ty (T := "bool") rfl T.n_bool boot_bool) pa_nil))) (nomark _)) (pe_one (pe_cmpR (op_eqDD (K:=K) rfl hr) (pv 0) (pv 1) (nomark _))))))),?_⟩
  clear nd 
  rw [show start ["_law_thing", "_law_due"] [v,u]=[some (v),some (u)] from rfl]
  try dsimp only [cx_K,cx_K2]
  have iL_many:FldOk K CL "many" := ⟨T.clL,T.aL_many⟩
  have iL_rows:FldOk K CL "rows" := ⟨T.clL,T.aL_rows⟩
  have F:SH H [] H [] []:=SH.nil
  obtain ⟨nv,ty,bv⟩:=tr_ty (K:=K) tr
  cases e with
  | non =>
   simp only [TrH] at tr2
   subst tr2
   have o_v:OldT K H [] v nv:=⟨ty,fun _ _=>nm0⟩
   rw [al_non,← bv] at k
   repeat k_meth
   split
   ·rename_i hb
    rw [hb,Bool.true_and] at k
    repeat k_meth
    refine .inl ⟨d,.non,(tr.same F.sm).rep,by simp [Rep],dp1,?_⟩
    repeat k_meth
    exact k _ F.sm
   ·rename_i hb
    rw [Bool.eq_false_iff.mpr hb,Bool.false_and] at k
    repeat k_meth
    exact k _ F.sm
  | bl b =>
   simp only [TrH] at tr2
   subst tr2
   have o_v:OldT K H [] v nv:=⟨ty,fun _ _=>nm0⟩
   rw [al_bl,← bv] at k
   repeat k_meth
   split
   ·rename_i hb
    rw [hb,Bool.true_and] at k
    repeat k_meth
    refine .inl ⟨d,.bl b,(tr.same F.sm).rep,by simp [Rep],dp1,?_⟩
    repeat k_meth
    exact k _ F.sm
   ·rename_i hb
    rw [Bool.eq_false_iff.mpr hb,Bool.false_and] at k
    repeat k_meth
    exact k _ F.sm
  | int i =>
   simp only [TrH] at tr2
   subst tr2
   have o_v:OldT K H [] v nv:=⟨ty,fun _ _=>nm0⟩
   rw [al_int,← bv] at k
   repeat k_meth
   split
   ·rename_i hb
    rw [hb,Bool.true_and] at k
    repeat k_meth
    refine .inl ⟨d,.int i,(tr.same F.sm).rep,by simp [Rep],dp1,?_⟩
    repeat k_meth
    exact k _ F.sm
   ·rename_i hb
    rw [Bool.eq_false_iff.mpr hb,Bool.false_and] at k
    repeat k_meth
    exact k _ F.sm
  | str x =>
   simp only [TrH] at tr2
   subst tr2
   have o_v:OldT K H [] v nv:=⟨ty,fun _ _=>nm0⟩
   rw [al_str,← bv] at k
   repeat k_meth
   split
   ·rename_i hb
    rw [hb,Bool.true_and] at k
    repeat k_meth
    refine .inl ⟨d,.str x,(tr.same F.sm).rep,by simp [Rep],dp1,?_⟩
    repeat k_meth
    exact k _ F.sm
   ·rename_i hb
    rw [Bool.eq_false_iff.mpr hb,Bool.false_and] at k
    repeat k_meth
    exact k _ F.sm
  | lst es =>
   simp only [TrH] at tr2
   obtain ⟨q,ys,rfl,hq,ts2⟩:=tr2
   simp only [depD] at dp
   simp only [widD] at wd2
   have ln2:=ts2.len
   have o_q:=Old.mk (M:=[]) hq nm0
   cases d with
   | non =>
    simp only [TrH] at tr
    subst tr
    repeat k_meth
    exact k _ F.sm
   | bl b =>
    simp only [TrH] at tr
    subst tr
    repeat k_meth
    exact k _ F.sm
   | int i =>
    simp only [TrH] at tr
    subst tr
    repeat k_meth
    exact k _ F.sm
   | str x =>
    simp only [TrH] at tr
    subst tr
    repeat k_meth
    exact k _ F.sm
   | tup ds =>
    simp only [TrH] at tr
    obtain ⟨p,xs,rfl,hp,ts⟩:=tr
    have o_p:=Old.mk (M:=[]) hp nm0
    repeat k_meth
    exact k _ F.sm
   | lst ds =>
    simp only [TrH] at tr
    obtain ⟨p,xs,rfl,hp,ts⟩:=tr
    simp only [depD] at dp1
    simp only [widD] at wd
    have ln:=ts.len
    have o_p:=Old.mk (M:=[]) hp nm0
    repeat k_meth
    split
    ·rename_i hl
     have hl:xs.length=ys.length:=by have:=of_decide_eq_true hl;omega
     repeat k_meth
     refine comp_inl ?_
     repeat k_meth
     refine comp_zipB (fun i=>alikeD (ds.getD i .non) (es.getD i .non)) (itemsZ_list (by omega)) rfl (by omega) rfl (fun H' s=>⟨s.seq SqA.e,s.seq SqA.e⟩) (fun i v u H' R hv hu s kk=>?_) fun z H2 nw=>?_
     ·obtain ⟨d,hd,td⟩:=ts.at hv
      obtain ⟨e,he,te⟩:=ts2.at hu
      have td2:=td.same (F.sm.trans s)
      have te2:=te.same (F.sm.trans s)
      have dd:=depDs_at hd
      have de:=depDs_at he
      have wa:=widDs_at wd.2 hd
      have wb:=widDs_at wd2.2 he
      clear F
      have F:SH H' [] H' [] []:=SH.nil
      repeat k_meth
      refine ⟨v,u,d,e,rfl,td2,te2,by omega,by omega,wa,wb,fun H2 s2=>?_⟩
      have kk:=kk H2 s2
      rw [List.getD_eq_getElem?_getD,hd,List.getD_eq_getElem?_getD,he] at kk
      exact kk
     ·rw [ln] at nw
      replace F:=F.newL nw
      repeat k_meth
      rw [alikeDs_all _ _ (by omega)]
      exact k _ F.sm
    ·rename_i hl
     have hl:xs.length≠ys.length:=fun z=>hl (decide_eq_true (by omega))
     have e:alikeD (.lst ds) (.lst es)=false:=alikeDs_len ds es (by omega)
     rw [e] at k
     exact k _ F.sm
  | tup es =>
   simp only [TrH] at tr2
   obtain ⟨q,ys,rfl,hq,ts2⟩:=tr2
   simp only [depD] at dp
   simp only [widD] at wd2
   have ln2:=ts2.len
   have o_q:=Old.mk (M:=[]) hq nm0
   cases d with
   | non =>
    simp only [TrH] at tr
    subst tr
    repeat k_meth
    exact k _ F.sm
   | bl b =>
    simp only [TrH] at tr
    subst tr
    repeat k_meth
    exact k _ F.sm
   | int i =>
    simp only [TrH] at tr
    subst tr
    repeat k_meth
    exact k _ F.sm
   | str x =>
    simp only [TrH] at tr
    subst tr
    repeat k_meth
    exact k _ F.sm
   | lst ds =>
    simp only [TrH] at tr
    obtain ⟨p,xs,rfl,hp,ts⟩:=tr
    have o_p:=Old.mk (M:=[]) hp nm0
    repeat k_meth
    exact k _ F.sm
   | tup ds =>
    simp only [TrH] at tr
    obtain ⟨p,xs,rfl,hp,ts⟩:=tr
    simp only [depD] at dp1
    simp only [widD] at wd
    have ln:=ts.len
    have o_p:=Old.mk (M:=[]) hp nm0
    repeat k_meth
    split
    ·rename_i hl
     have hl:xs.length=ys.length:=by have:=of_decide_eq_true hl;omega
     repeat k_meth
     refine comp_inr ?_
     repeat k_meth
     refine comp_zipB (fun i=>alikeD (ds.getD i .non) (es.getD i .non)) (itemsZ_tup (by omega)) rfl (by omega) rfl (fun H' s=>⟨s _ _ hatC,s _ _ hatC⟩) (fun i v u H' R hv hu s kk=>?_) fun z H2 nw=>?_
     ·obtain ⟨d,hd,td⟩:=ts.at hv
      obtain ⟨e,he,te⟩:=ts2.at hu
      have td2:=td.same (F.sm.trans s)
      have te2:=te.same (F.sm.trans s)
      have dd:=depDs_at hd
      have de:=depDs_at he
      have wa:=widDs_at wd.2 hd
      have wb:=widDs_at wd2.2 he
      clear F
      have F:SH H' [] H' [] []:=SH.nil
      repeat k_meth
      refine ⟨v,u,d,e,rfl,td2,te2,by omega,by omega,wa,wb,fun H2 s2=>?_⟩
      have kk:=kk H2 s2
      rw [List.getD_eq_getElem?_getD,hd,List.getD_eq_getElem?_getD,he] at kk
      exact kk
     ·rw [ln] at nw
      replace F:=F.newL nw
      repeat k_meth
      rw [alikeDs_all _ _ (by omega)]
      exact k _ F.sm
    ·rename_i hl
     have hl:xs.length≠ys.length:=fun z=>hl (decide_eq_true (by omega))
     have e:alikeD (.tup ds) (.tup es)=false:=alikeDs_len ds es (by omega)
     rw [e] at k
     exact k _ F.sm
theorem D_lalike2 (T:Txt K mg c R CL ct_Linit pt_Linit):Def P w K mg base CX0 4 "_law_alike" ["_law_thing", "_law_due"] (sp_al 2):=by
 refine def_of T.d_lalike sc_lalike (fun vs H Q E h=>?_) (fun _ _ _ _ _ _ us hl=>match us,hl with | [_,_],_=>rfl) (fun f cdv A outer s H vs Q E hr h=>?_)
 ·obtain ⟨v,u,d,e,rfl,_⟩:=h
  rfl
 ·obtain ⟨v,u,d,e,rfl,tr,tr2,dp,dp1,wd,wd2,k⟩:=h
  have nd:=sc_lalike.nd
  refine ⟨_,(pss_cons (ps_if (pt_val (pe_callB call_isLT rfl T.n_isinstance boot_isinstance (pa_cons (pv 1) (pa_cons (pe_tupA (pa_cons (pe_ty (T := "list") rfl T.n_list boot_list) (pa_cons (pe_ty (T := "tuple") rfl T.n_tuple boot_tuple) pa_nil))) pa_nil)))) (pss_cons (ps_if (PW.pt (pw_or (pt_cmpR op_ne (pe_callB call_isT rfl T.n_isinstance boot_isinstance (pa_cons (pv 0) (pa_cons (pe_ty (T := "list") rfl T.n_list boot_list) pa_nil))) (pe_callB call_isT rfl T.n_isinstance boot_isinstance (pa_cons (pv 1) (pa_cons (pe_ty (T := "list") rfl T.n_list boot_list) pa_nil))) (nomark _)) (pw_or1 (pt_cmpR op_ne (pe_callB call_isT rfl T.n_isinstance boot_isinstance (pa_cons (pv 0) (pa_cons (pe_ty (T := "tuple") rfl T.n_tuple boot_tuple) pa_nil))) (pe_callB call_isT rfl T.n_isinstance boot_isinstance (pa_cons (pv 1) (pa_cons (pe_ty (T := "tuple") rfl T.n_tuple boot_tuple) pa_nil))) (nomark _))))) (pss_one (ps_ret pe_bl)) pss_nil)
    (pss_one (ps_ret (pe_and (pe_cmpR op_eq (pe_callB call_lenN rfl T.n_len boot_len (pa_cons (pv 0) pa_nil)) (pe_callB call_lenN rfl T.n_len boot_len (pa_cons (pv 1) pa_nil)) (nomark _)) (pe_one (pe_callB (call_all rfl) rfl T.n_all boot_all (pa_cons (pe_comp (N:=["_law_one", "_law_other"]) (nt:=2) (fr:=[]) (pi_or (pi_zip rfl T.n_zip (pa_cons (pv 0) (pa_cons (pv 1) pa_nil))) (pi_zt rfl T.n_zip (pa_cons (pv 0) (pa_cons (pv 1) pa_nil)))) (fun _ _ _ _=>(pg_tupK (K:=K) (n:=2) rfl rfl (pgs_cons (pg_name (i:=0) (show (["_law_one", "_law_other"]:List Str).Nodup from by decide +kernel) rfl (Or.inl rfl)) (pgs_cons (pg_name (i:=1) (show (["_law_one", "_law_other"]:List Str).Nodup from by decide +kernel) rfl (Or.inl rfl)) pgs_nil)))) (fun _ _ _ _=>pif_nil) (fun _ _ _ _=>(pe_def (D_lalike1 (P:=P) (w:=w) (base:=base) T) hr (pa_cons (pv 0) (pa_cons (pv 1) pa_nil))))) pa_nil))))))) pss_nil)
   (pss_one (ps_ret (pe_and (pe_cmpR op_eq (pe_callB call_isT rfl T.n_isinstance boot_isinstance (pa_cons (pv 0) (pa_cons (pe_ty (T := "bool") rfl T.n_bool boot_bool) pa_nil))) (pe_callB call_isT rfl T.n_isinstance boot_isinstance (pa_cons (pv 1) (pa_cons (pe_ty (T := "bool") rfl T.n_bool boot_bool) pa_nil))) (nomark _)) (pe_one (pe_cmpR (op_eqDD (K:=K) rfl hr) (pv 0) (pv 1) (nomark _))))))),?_⟩
  clear nd 
  rw [show start ["_law_thing", "_law_due"] [v,u]=[some (v),some (u)] from rfl]
  try dsimp only [cx_K,cx_K2]
  have iL_many:FldOk K CL "many" := ⟨T.clL,T.aL_many⟩
  have iL_rows:FldOk K CL "rows" := ⟨T.clL,T.aL_rows⟩
  have F:SH H [] H [] []:=SH.nil
  obtain ⟨nv,ty,bv⟩:=tr_ty (K:=K) tr
  cases e with
  | non =>
   simp only [TrH] at tr2
   subst tr2
   have o_v:OldT K H [] v nv:=⟨ty,fun _ _=>nm0⟩
   rw [al_non,← bv] at k
   repeat k_meth
   split
   ·rename_i hb
    rw [hb,Bool.true_and] at k
    repeat k_meth
    refine .inl ⟨d,.non,(tr.same F.sm).rep,by simp [Rep],dp1,?_⟩
    repeat k_meth
    exact k _ F.sm
   ·rename_i hb
    rw [Bool.eq_false_iff.mpr hb,Bool.false_and] at k
    repeat k_meth
    exact k _ F.sm
  | bl b =>
   simp only [TrH] at tr2
   subst tr2
   have o_v:OldT K H [] v nv:=⟨ty,fun _ _=>nm0⟩
   rw [al_bl,← bv] at k
   repeat k_meth
   split
   ·rename_i hb
    rw [hb,Bool.true_and] at k
    repeat k_meth
    refine .inl ⟨d,.bl b,(tr.same F.sm).rep,by simp [Rep],dp1,?_⟩
    repeat k_meth
    exact k _ F.sm
   ·rename_i hb
    rw [Bool.eq_false_iff.mpr hb,Bool.false_and] at k
    repeat k_meth
    exact k _ F.sm
  | int i =>
   simp only [TrH] at tr2
   subst tr2
   have o_v:OldT K H [] v nv:=⟨ty,fun _ _=>nm0⟩
   rw [al_int,← bv] at k
   repeat k_meth
   split
   ·rename_i hb
    rw [hb,Bool.true_and] at k
    repeat k_meth
    refine .inl ⟨d,.int i,(tr.same F.sm).rep,by simp [Rep],dp1,?_⟩
    repeat k_meth
    exact k _ F.sm
   ·rename_i hb
    rw [Bool.eq_false_iff.mpr hb,Bool.false_and] at k
    repeat k_meth
    exact k _ F.sm
  | str x =>
   simp only [TrH] at tr2
   subst tr2
   have o_v:OldT K H [] v nv:=⟨ty,fun _ _=>nm0⟩
   rw [al_str,← bv] at k
   repeat k_meth
   split
   ·rename_i hb
    rw [hb,Bool.true_and] at k
    repeat k_meth
    refine .inl ⟨d,.str x,(tr.same F.sm).rep,by simp [Rep],dp1,?_⟩
    repeat k_meth
    exact k _ F.sm
   ·rename_i hb
    rw [Bool.eq_false_iff.mpr hb,Bool.false_and] at k
    repeat k_meth
    exact k _ F.sm
  | lst es =>
   simp only [TrH] at tr2
   obtain ⟨q,ys,rfl,hq,ts2⟩:=tr2
   simp only [depD] at dp
   simp only [widD] at wd2
   have ln2:=ts2.len
   have o_q:=Old.mk (M:=[]) hq nm0
   cases d with
   | non =>
    simp only [TrH] at tr
    subst tr
    repeat k_meth
    exact k _ F.sm
   | bl b =>
    simp only [TrH] at tr
    subst tr
    repeat k_meth
    exact k _ F.sm
   | int i =>
    simp only [TrH] at tr
    subst tr
    repeat k_meth
    exact k _ F.sm
   | str x =>
    simp only [TrH] at tr
    subst tr
    repeat k_meth
    exact k _ F.sm
   | tup ds =>
    simp only [TrH] at tr
    obtain ⟨p,xs,rfl,hp,ts⟩:=tr
    have o_p:=Old.mk (M:=[]) hp nm0
    repeat k_meth
    exact k _ F.sm
   | lst ds =>
    simp only [TrH] at tr
    obtain ⟨p,xs,rfl,hp,ts⟩:=tr
    simp only [depD] at dp1
    simp only [widD] at wd
    have ln:=ts.len
    have o_p:=Old.mk (M:=[]) hp nm0
    repeat k_meth
    split
    ·rename_i hl
     have hl:xs.length=ys.length:=by have:=of_decide_eq_true hl;omega
     repeat k_meth
     refine comp_inl ?_
     repeat k_meth
     refine comp_zipB (fun i=>alikeD (ds.getD i .non) (es.getD i .non)) (itemsZ_list (by omega)) rfl (by omega) rfl (fun H' s=>⟨s.seq SqA.e,s.seq SqA.e⟩) (fun i v u H' R hv hu s kk=>?_) fun z H2 nw=>?_
     ·obtain ⟨d,hd,td⟩:=ts.at hv
      obtain ⟨e,he,te⟩:=ts2.at hu
      have td2:=td.same (F.sm.trans s)
      have te2:=te.same (F.sm.trans s)
      have dd:=depDs_at hd
      have de:=depDs_at he
      have wa:=widDs_at wd.2 hd
      have wb:=widDs_at wd2.2 he
      clear F
      have F:SH H' [] H' [] []:=SH.nil
      repeat k_meth
      refine ⟨v,u,d,e,rfl,td2,te2,by omega,by omega,wa,wb,fun H2 s2=>?_⟩
      have kk:=kk H2 s2
      rw [List.getD_eq_getElem?_getD,hd,List.getD_eq_getElem?_getD,he] at kk
      exact kk
     ·rw [ln] at nw
      replace F:=F.newL nw
      repeat k_meth
      rw [alikeDs_all _ _ (by omega)]
      exact k _ F.sm
    ·rename_i hl
     have hl:xs.length≠ys.length:=fun z=>hl (decide_eq_true (by omega))
     have e:alikeD (.lst ds) (.lst es)=false:=alikeDs_len ds es (by omega)
     rw [e] at k
     exact k _ F.sm
  | tup es =>
   simp only [TrH] at tr2
   obtain ⟨q,ys,rfl,hq,ts2⟩:=tr2
   simp only [depD] at dp
   simp only [widD] at wd2
   have ln2:=ts2.len
   have o_q:=Old.mk (M:=[]) hq nm0
   cases d with
   | non =>
    simp only [TrH] at tr
    subst tr
    repeat k_meth
    exact k _ F.sm
   | bl b =>
    simp only [TrH] at tr
    subst tr
    repeat k_meth
    exact k _ F.sm
   | int i =>
    simp only [TrH] at tr
    subst tr
    repeat k_meth
    exact k _ F.sm
   | str x =>
    simp only [TrH] at tr
    subst tr
    repeat k_meth
    exact k _ F.sm
   | lst ds =>
    simp only [TrH] at tr
    obtain ⟨p,xs,rfl,hp,ts⟩:=tr
    have o_p:=Old.mk (M:=[]) hp nm0
    repeat k_meth
    exact k _ F.sm
   | tup ds =>
    simp only [TrH] at tr
    obtain ⟨p,xs,rfl,hp,ts⟩:=tr
    simp only [depD] at dp1
    simp only [widD] at wd
    have ln:=ts.len
    have o_p:=Old.mk (M:=[]) hp nm0
    repeat k_meth
    split
    ·rename_i hl
     have hl:xs.length=ys.length:=by have:=of_decide_eq_true hl;omega
     repeat k_meth
     refine comp_inr ?_
     repeat k_meth
     refine comp_zipB (fun i=>alikeD (ds.getD i .non) (es.getD i .non)) (itemsZ_tup (by omega)) rfl (by omega) rfl (fun H' s=>⟨s _ _ hatC,s _ _ hatC⟩) (fun i v u H' R hv hu s kk=>?_) fun z H2 nw=>?_
     ·obtain ⟨d,hd,td⟩:=ts.at hv
      obtain ⟨e,he,te⟩:=ts2.at hu
      have td2:=td.same (F.sm.trans s)
      have te2:=te.same (F.sm.trans s)
      have dd:=depDs_at hd
      have de:=depDs_at he
      have wa:=widDs_at wd.2 hd
      have wb:=widDs_at wd2.2 he
      clear F
      have F:SH H' [] H' [] []:=SH.nil
      repeat k_meth
      refine ⟨v,u,d,e,rfl,td2,te2,by omega,by omega,wa,wb,fun H2 s2=>?_⟩
      have kk:=kk H2 s2
      rw [List.getD_eq_getElem?_getD,hd,List.getD_eq_getElem?_getD,he] at kk
      exact kk
     ·rw [ln] at nw
      replace F:=F.newL nw
      repeat k_meth
      rw [alikeDs_all _ _ (by omega)]
      exact k _ F.sm
    ·rename_i hl
     have hl:xs.length≠ys.length:=fun z=>hl (decide_eq_true (by omega))
     have e:alikeD (.tup ds) (.tup es)=false:=alikeDs_len ds es (by omega)
     rw [e] at k
     exact k _ F.sm
theorem D_lalike3 (T:Txt K mg c R CL ct_Linit pt_Linit):Def P w K mg base CX0 5 "_law_alike" ["_law_thing", "_law_due"] (sp_al 3):=by
 refine def_of T.d_lalike sc_lalike (fun vs H Q E h=>?_) (fun _ _ _ _ _ _ us hl=>match us,hl with | [_,_],_=>rfl) (fun f cdv A outer s H vs Q E hr h=>?_)
 ·obtain ⟨v,u,d,e,rfl,_⟩:=h
  rfl
 ·obtain ⟨v,u,d,e,rfl,tr,tr2,dp,dp1,wd,wd2,k⟩:=h
  have nd:=sc_lalike.nd
  refine ⟨_,(pss_cons (ps_if (pt_val (pe_callB call_isLT rfl T.n_isinstance boot_isinstance (pa_cons (pv 1) (pa_cons (pe_tupA (pa_cons (pe_ty (T := "list") rfl T.n_list boot_list) (pa_cons (pe_ty (T := "tuple") rfl T.n_tuple boot_tuple) pa_nil))) pa_nil)))) (pss_cons (ps_if (PW.pt (pw_or (pt_cmpR op_ne (pe_callB call_isT rfl T.n_isinstance boot_isinstance (pa_cons (pv 0) (pa_cons (pe_ty (T := "list") rfl T.n_list boot_list) pa_nil))) (pe_callB call_isT rfl T.n_isinstance boot_isinstance (pa_cons (pv 1) (pa_cons (pe_ty (T := "list") rfl T.n_list boot_list) pa_nil))) (nomark _)) (pw_or1 (pt_cmpR op_ne (pe_callB call_isT rfl T.n_isinstance boot_isinstance (pa_cons (pv 0) (pa_cons (pe_ty (T := "tuple") rfl T.n_tuple boot_tuple) pa_nil))) (pe_callB call_isT rfl T.n_isinstance boot_isinstance (pa_cons (pv 1) (pa_cons (pe_ty (T := "tuple") rfl T.n_tuple boot_tuple) pa_nil))) (nomark _))))) (pss_one (ps_ret pe_bl)) pss_nil)
    (pss_one (ps_ret (pe_and (pe_cmpR op_eq (pe_callB call_lenN rfl T.n_len boot_len (pa_cons (pv 0) pa_nil)) (pe_callB call_lenN rfl T.n_len boot_len (pa_cons (pv 1) pa_nil)) (nomark _)) (pe_one (pe_callB (call_all rfl) rfl T.n_all boot_all (pa_cons (pe_comp (N:=["_law_one", "_law_other"]) (nt:=2) (fr:=[]) (pi_or (pi_zip rfl T.n_zip (pa_cons (pv 0) (pa_cons (pv 1) pa_nil))) (pi_zt rfl T.n_zip (pa_cons (pv 0) (pa_cons (pv 1) pa_nil)))) (fun _ _ _ _=>(pg_tupK (K:=K) (n:=2) rfl rfl (pgs_cons (pg_name (i:=0) (show (["_law_one", "_law_other"]:List Str).Nodup from by decide +kernel) rfl (Or.inl rfl)) (pgs_cons (pg_name (i:=1) (show (["_law_one", "_law_other"]:List Str).Nodup from by decide +kernel) rfl (Or.inl rfl)) pgs_nil)))) (fun _ _ _ _=>pif_nil) (fun _ _ _ _=>(pe_def (D_lalike2 (P:=P) (w:=w) (base:=base) T) hr (pa_cons (pv 0) (pa_cons (pv 1) pa_nil))))) pa_nil))))))) pss_nil)
   (pss_one (ps_ret (pe_and (pe_cmpR op_eq (pe_callB call_isT rfl T.n_isinstance boot_isinstance (pa_cons (pv 0) (pa_cons (pe_ty (T := "bool") rfl T.n_bool boot_bool) pa_nil))) (pe_callB call_isT rfl T.n_isinstance boot_isinstance (pa_cons (pv 1) (pa_cons (pe_ty (T := "bool") rfl T.n_bool boot_bool) pa_nil))) (nomark _)) (pe_one (pe_cmpR (op_eqDD (K:=K) rfl hr) (pv 0) (pv 1) (nomark _))))))),?_⟩
  clear nd 
  rw [show start ["_law_thing", "_law_due"] [v,u]=[some (v),some (u)] from rfl]
  try dsimp only [cx_K,cx_K2]
  have iL_many:FldOk K CL "many" := ⟨T.clL,T.aL_many⟩
  have iL_rows:FldOk K CL "rows" := ⟨T.clL,T.aL_rows⟩
  have F:SH H [] H [] []:=SH.nil
  obtain ⟨nv,ty,bv⟩:=tr_ty (K:=K) tr
  cases e with
  | non =>
   simp only [TrH] at tr2
   subst tr2
   have o_v:OldT K H [] v nv:=⟨ty,fun _ _=>nm0⟩
   rw [al_non,← bv] at k
   repeat k_meth
   split
   ·rename_i hb
    rw [hb,Bool.true_and] at k
    repeat k_meth
    refine .inl ⟨d,.non,(tr.same F.sm).rep,by simp [Rep],dp1,?_⟩
    repeat k_meth
    exact k _ F.sm
   ·rename_i hb
    rw [Bool.eq_false_iff.mpr hb,Bool.false_and] at k
    repeat k_meth
    exact k _ F.sm
  | bl b =>
   simp only [TrH] at tr2
   subst tr2
   have o_v:OldT K H [] v nv:=⟨ty,fun _ _=>nm0⟩
   rw [al_bl,← bv] at k
   repeat k_meth
   split
   ·rename_i hb
    rw [hb,Bool.true_and] at k
    repeat k_meth
    refine .inl ⟨d,.bl b,(tr.same F.sm).rep,by simp [Rep],dp1,?_⟩
    repeat k_meth
    exact k _ F.sm
   ·rename_i hb
    rw [Bool.eq_false_iff.mpr hb,Bool.false_and] at k
    repeat k_meth
    exact k _ F.sm
  | int i =>
   simp only [TrH] at tr2
   subst tr2
   have o_v:OldT K H [] v nv:=⟨ty,fun _ _=>nm0⟩
   rw [al_int,← bv] at k
   repeat k_meth
   split
   ·rename_i hb
    rw [hb,Bool.true_and] at k
    repeat k_meth
    refine .inl ⟨d,.int i,(tr.same F.sm).rep,by simp [Rep],dp1,?_⟩
    repeat k_meth
    exact k _ F.sm
   ·rename_i hb
    rw [Bool.eq_false_iff.mpr hb,Bool.false_and] at k
    repeat k_meth
    exact k _ F.sm
  | str x =>
   simp only [TrH] at tr2
   subst tr2
   have o_v:OldT K H [] v nv:=⟨ty,fun _ _=>nm0⟩
   rw [al_str,← bv] at k
   repeat k_meth
   split
   ·rename_i hb
    rw [hb,Bool.true_and] at k
    repeat k_meth
    refine .inl ⟨d,.str x,(tr.same F.sm).rep,by simp [Rep],dp1,?_⟩
    repeat k_meth
    exact k _ F.sm
   ·rename_i hb
    rw [Bool.eq_false_iff.mpr hb,Bool.false_and] at k
    repeat k_meth
    exact k _ F.sm
  | lst es =>
   simp only [TrH] at tr2
   obtain ⟨q,ys,rfl,hq,ts2⟩:=tr2
   simp only [depD] at dp
   simp only [widD] at wd2
   have ln2:=ts2.len
   have o_q:=Old.mk (M:=[]) hq nm0
   cases d with
   | non =>
    simp only [TrH] at tr
    subst tr
    repeat k_meth
    exact k _ F.sm
   | bl b =>
    simp only [TrH] at tr
    subst tr
    repeat k_meth
    exact k _ F.sm
   | int i =>
    simp only [TrH] at tr
    subst tr
    repeat k_meth
    exact k _ F.sm
   | str x =>
    simp only [TrH] at tr
    subst tr
    repeat k_meth
    exact k _ F.sm
   | tup ds =>
    simp only [TrH] at tr
    obtain ⟨p,xs,rfl,hp,ts⟩:=tr
    have o_p:=Old.mk (M:=[]) hp nm0
    repeat k_meth
    exact k _ F.sm
   | lst ds =>
    simp only [TrH] at tr
    obtain ⟨p,xs,rfl,hp,ts⟩:=tr
    simp only [depD] at dp1
    simp only [widD] at wd
    have ln:=ts.len
    have o_p:=Old.mk (M:=[]) hp nm0
    repeat k_meth
    split
    ·rename_i hl
     have hl:xs.length=ys.length:=by have:=of_decide_eq_true hl;omega
     repeat k_meth
     refine comp_inl ?_
     repeat k_meth
     refine comp_zipB (fun i=>alikeD (ds.getD i .non) (es.getD i .non)) (itemsZ_list (by omega)) rfl (by omega) rfl (fun H' s=>⟨s.seq SqA.e,s.seq SqA.e⟩) (fun i v u H' R hv hu s kk=>?_) fun z H2 nw=>?_
     ·obtain ⟨d,hd,td⟩:=ts.at hv
      obtain ⟨e,he,te⟩:=ts2.at hu
      have td2:=td.same (F.sm.trans s)
      have te2:=te.same (F.sm.trans s)
      have dd:=depDs_at hd
      have de:=depDs_at he
      have wa:=widDs_at wd.2 hd
      have wb:=widDs_at wd2.2 he
      clear F
      have F:SH H' [] H' [] []:=SH.nil
      repeat k_meth
      refine ⟨v,u,d,e,rfl,td2,te2,by omega,by omega,wa,wb,fun H2 s2=>?_⟩
      have kk:=kk H2 s2
      rw [List.getD_eq_getElem?_getD,hd,List.getD_eq_getElem?_getD,he] at kk
      exact kk
     ·rw [ln] at nw
      replace F:=F.newL nw
      repeat k_meth
      rw [alikeDs_all _ _ (by omega)]
      exact k _ F.sm
    ·rename_i hl
     have hl:xs.length≠ys.length:=fun z=>hl (decide_eq_true (by omega))
     have e:alikeD (.lst ds) (.lst es)=false:=alikeDs_len ds es (by omega)
     rw [e] at k
     exact k _ F.sm
  | tup es =>
   simp only [TrH] at tr2
   obtain ⟨q,ys,rfl,hq,ts2⟩:=tr2
   simp only [depD] at dp
   simp only [widD] at wd2
   have ln2:=ts2.len
   have o_q:=Old.mk (M:=[]) hq nm0
   cases d with
   | non =>
    simp only [TrH] at tr
    subst tr
    repeat k_meth
    exact k _ F.sm
   | bl b =>
    simp only [TrH] at tr
    subst tr
    repeat k_meth
    exact k _ F.sm
   | int i =>
    simp only [TrH] at tr
    subst tr
    repeat k_meth
    exact k _ F.sm
   | str x =>
    simp only [TrH] at tr
    subst tr
    repeat k_meth
    exact k _ F.sm
   | lst ds =>
    simp only [TrH] at tr
    obtain ⟨p,xs,rfl,hp,ts⟩:=tr
    have o_p:=Old.mk (M:=[]) hp nm0
    repeat k_meth
    exact k _ F.sm
   | tup ds =>
    simp only [TrH] at tr
    obtain ⟨p,xs,rfl,hp,ts⟩:=tr
    simp only [depD] at dp1
    simp only [widD] at wd
    have ln:=ts.len
    have o_p:=Old.mk (M:=[]) hp nm0
    repeat k_meth
    split
    ·rename_i hl
     have hl:xs.length=ys.length:=by have:=of_decide_eq_true hl;omega
     repeat k_meth
     refine comp_inr ?_
     repeat k_meth
     refine comp_zipB (fun i=>alikeD (ds.getD i .non) (es.getD i .non)) (itemsZ_tup (by omega)) rfl (by omega) rfl (fun H' s=>⟨s _ _ hatC,s _ _ hatC⟩) (fun i v u H' R hv hu s kk=>?_) fun z H2 nw=>?_
     ·obtain ⟨d,hd,td⟩:=ts.at hv
      obtain ⟨e,he,te⟩:=ts2.at hu
      have td2:=td.same (F.sm.trans s)
      have te2:=te.same (F.sm.trans s)
      have dd:=depDs_at hd
      have de:=depDs_at he
      have wa:=widDs_at wd.2 hd
      have wb:=widDs_at wd2.2 he
      clear F
      have F:SH H' [] H' [] []:=SH.nil
      repeat k_meth
      refine ⟨v,u,d,e,rfl,td2,te2,by omega,by omega,wa,wb,fun H2 s2=>?_⟩
      have kk:=kk H2 s2
      rw [List.getD_eq_getElem?_getD,hd,List.getD_eq_getElem?_getD,he] at kk
      exact kk
     ·rw [ln] at nw
      replace F:=F.newL nw
      repeat k_meth
      rw [alikeDs_all _ _ (by omega)]
      exact k _ F.sm
    ·rename_i hl
     have hl:xs.length≠ys.length:=fun z=>hl (decide_eq_true (by omega))
     have e:alikeD (.tup ds) (.tup es)=false:=alikeDs_len ds es (by omega)
     rw [e] at k
     exact k _ F.sm
theorem D_lalike (T:Txt K mg c R CL ct_Linit pt_Linit):Def P w K mg base CX0 6 "_law_alike" ["_law_thing", "_law_due"] (sp_al 4):=by
 refine def_of T.d_lalike sc_lalike (fun vs H Q E h=>?_) (fun _ _ _ _ _ _ us hl=>match us,hl with | [_,_],_=>rfl) (fun f cdv A outer s H vs Q E hr h=>?_)
 ·obtain ⟨v,u,d,e,rfl,_⟩:=h
  rfl
 ·obtain ⟨v,u,d,e,rfl,tr,tr2,dp,dp1,wd,wd2,k⟩:=h
  have nd:=sc_lalike.nd
  refine ⟨_,(pss_cons (ps_if (pt_val (pe_callB call_isLT rfl T.n_isinstance boot_isinstance (pa_cons (pv 1) (pa_cons (pe_tupA (pa_cons (pe_ty (T := "list") rfl T.n_list boot_list) (pa_cons (pe_ty (T := "tuple") rfl T.n_tuple boot_tuple) pa_nil))) pa_nil)))) (pss_cons (ps_if (PW.pt (pw_or (pt_cmpR op_ne (pe_callB call_isT rfl T.n_isinstance boot_isinstance (pa_cons (pv 0) (pa_cons (pe_ty (T := "list") rfl T.n_list boot_list) pa_nil))) (pe_callB call_isT rfl T.n_isinstance boot_isinstance (pa_cons (pv 1) (pa_cons (pe_ty (T := "list") rfl T.n_list boot_list) pa_nil))) (nomark _)) (pw_or1 (pt_cmpR op_ne (pe_callB call_isT rfl T.n_isinstance boot_isinstance (pa_cons (pv 0) (pa_cons (pe_ty (T := "tuple") rfl T.n_tuple boot_tuple) pa_nil))) (pe_callB call_isT rfl T.n_isinstance boot_isinstance (pa_cons (pv 1) (pa_cons (pe_ty (T := "tuple") rfl T.n_tuple boot_tuple) pa_nil))) (nomark _))))) (pss_one (ps_ret pe_bl)) pss_nil)
    (pss_one (ps_ret (pe_and (pe_cmpR op_eq (pe_callB call_lenN rfl T.n_len boot_len (pa_cons (pv 0) pa_nil)) (pe_callB call_lenN rfl T.n_len boot_len (pa_cons (pv 1) pa_nil)) (nomark _)) (pe_one (pe_callB (call_all rfl) rfl T.n_all boot_all (pa_cons (pe_comp (N:=["_law_one", "_law_other"]) (nt:=2) (fr:=[]) (pi_or (pi_zip rfl T.n_zip (pa_cons (pv 0) (pa_cons (pv 1) pa_nil))) (pi_zt rfl T.n_zip (pa_cons (pv 0) (pa_cons (pv 1) pa_nil)))) (fun _ _ _ _=>(pg_tupK (K:=K) (n:=2) rfl rfl (pgs_cons (pg_name (i:=0) (show (["_law_one", "_law_other"]:List Str).Nodup from by decide +kernel) rfl (Or.inl rfl)) (pgs_cons (pg_name (i:=1) (show (["_law_one", "_law_other"]:List Str).Nodup from by decide +kernel) rfl (Or.inl rfl)) pgs_nil)))) (fun _ _ _ _=>pif_nil) (fun _ _ _ _=>(pe_def (D_lalike3 (P:=P) (w:=w) (base:=base) T) hr (pa_cons (pv 0) (pa_cons (pv 1) pa_nil))))) pa_nil))))))) pss_nil)
   (pss_one (ps_ret (pe_and (pe_cmpR op_eq (pe_callB call_isT rfl T.n_isinstance boot_isinstance (pa_cons (pv 0) (pa_cons (pe_ty (T := "bool") rfl T.n_bool boot_bool) pa_nil))) (pe_callB call_isT rfl T.n_isinstance boot_isinstance (pa_cons (pv 1) (pa_cons (pe_ty (T := "bool") rfl T.n_bool boot_bool) pa_nil))) (nomark _)) (pe_one (pe_cmpR (op_eqDD (K:=K) rfl hr) (pv 0) (pv 1) (nomark _))))))),?_⟩
  clear nd 
  rw [show start ["_law_thing", "_law_due"] [v,u]=[some (v),some (u)] from rfl]
  try dsimp only [cx_K,cx_K2]
  have iL_many:FldOk K CL "many" := ⟨T.clL,T.aL_many⟩
  have iL_rows:FldOk K CL "rows" := ⟨T.clL,T.aL_rows⟩
  have F:SH H [] H [] []:=SH.nil
  obtain ⟨nv,ty,bv⟩:=tr_ty (K:=K) tr
  cases e with
  | non =>
   simp only [TrH] at tr2
   subst tr2
   have o_v:OldT K H [] v nv:=⟨ty,fun _ _=>nm0⟩
   rw [al_non,← bv] at k
   repeat k_meth
   split
   ·rename_i hb
    rw [hb,Bool.true_and] at k
    repeat k_meth
    refine .inl ⟨d,.non,(tr.same F.sm).rep,by simp [Rep],dp1,?_⟩
    repeat k_meth
    exact k _ F.sm
   ·rename_i hb
    rw [Bool.eq_false_iff.mpr hb,Bool.false_and] at k
    repeat k_meth
    exact k _ F.sm
  | bl b =>
   simp only [TrH] at tr2
   subst tr2
   have o_v:OldT K H [] v nv:=⟨ty,fun _ _=>nm0⟩
   rw [al_bl,← bv] at k
   repeat k_meth
   split
   ·rename_i hb
    rw [hb,Bool.true_and] at k
    repeat k_meth
    refine .inl ⟨d,.bl b,(tr.same F.sm).rep,by simp [Rep],dp1,?_⟩
    repeat k_meth
    exact k _ F.sm
   ·rename_i hb
    rw [Bool.eq_false_iff.mpr hb,Bool.false_and] at k
    repeat k_meth
    exact k _ F.sm
  | int i =>
   simp only [TrH] at tr2
   subst tr2
   have o_v:OldT K H [] v nv:=⟨ty,fun _ _=>nm0⟩
   rw [al_int,← bv] at k
   repeat k_meth
   split
   ·rename_i hb
    rw [hb,Bool.true_and] at k
    repeat k_meth
    refine .inl ⟨d,.int i,(tr.same F.sm).rep,by simp [Rep],dp1,?_⟩
    repeat k_meth
    exact k _ F.sm
   ·rename_i hb
    rw [Bool.eq_false_iff.mpr hb,Bool.false_and] at k
    repeat k_meth
    exact k _ F.sm
  | str x =>
   simp only [TrH] at tr2
   subst tr2
   have o_v:OldT K H [] v nv:=⟨ty,fun _ _=>nm0⟩
   rw [al_str,← bv] at k
   repeat k_meth
   split
   ·rename_i hb
    rw [hb,Bool.true_and] at k
    repeat k_meth
    refine .inl ⟨d,.str x,(tr.same F.sm).rep,by simp [Rep],dp1,?_⟩
    repeat k_meth
    exact k _ F.sm
   ·rename_i hb
    rw [Bool.eq_false_iff.mpr hb,Bool.false_and] at k
    repeat k_meth
    exact k _ F.sm
  | lst es =>
   simp only [TrH] at tr2
   obtain ⟨q,ys,rfl,hq,ts2⟩:=tr2
   simp only [depD] at dp
   simp only [widD] at wd2
   have ln2:=ts2.len
   have o_q:=Old.mk (M:=[]) hq nm0
   cases d with
   | non =>
    simp only [TrH] at tr
    subst tr
    repeat k_meth
    exact k _ F.sm
   | bl b =>
    simp only [TrH] at tr
    subst tr
    repeat k_meth
    exact k _ F.sm
   | int i =>
    simp only [TrH] at tr
    subst tr
    repeat k_meth
    exact k _ F.sm
   | str x =>
    simp only [TrH] at tr
    subst tr
    repeat k_meth
    exact k _ F.sm
   | tup ds =>
    simp only [TrH] at tr
    obtain ⟨p,xs,rfl,hp,ts⟩:=tr
    have o_p:=Old.mk (M:=[]) hp nm0
    repeat k_meth
    exact k _ F.sm
   | lst ds =>
    simp only [TrH] at tr
    obtain ⟨p,xs,rfl,hp,ts⟩:=tr
    simp only [depD] at dp1
    simp only [widD] at wd
    have ln:=ts.len
    have o_p:=Old.mk (M:=[]) hp nm0
    repeat k_meth
    split
    ·rename_i hl
     have hl:xs.length=ys.length:=by have:=of_decide_eq_true hl;omega
     repeat k_meth
     refine comp_inl ?_
     repeat k_meth
     refine comp_zipB (fun i=>alikeD (ds.getD i .non) (es.getD i .non)) (itemsZ_list (by omega)) rfl (by omega) rfl (fun H' s=>⟨s.seq SqA.e,s.seq SqA.e⟩) (fun i v u H' R hv hu s kk=>?_) fun z H2 nw=>?_
     ·obtain ⟨d,hd,td⟩:=ts.at hv
      obtain ⟨e,he,te⟩:=ts2.at hu
      have td2:=td.same (F.sm.trans s)
      have te2:=te.same (F.sm.trans s)
      have dd:=depDs_at hd
      have de:=depDs_at he
      have wa:=widDs_at wd.2 hd
      have wb:=widDs_at wd2.2 he
      clear F
      have F:SH H' [] H' [] []:=SH.nil
      repeat k_meth
      refine ⟨v,u,d,e,rfl,td2,te2,by omega,by omega,wa,wb,fun H2 s2=>?_⟩
      have kk:=kk H2 s2
      rw [List.getD_eq_getElem?_getD,hd,List.getD_eq_getElem?_getD,he] at kk
      exact kk
     ·rw [ln] at nw
      replace F:=F.newL nw
      repeat k_meth
      rw [alikeDs_all _ _ (by omega)]
      exact k _ F.sm
    ·rename_i hl
     have hl:xs.length≠ys.length:=fun z=>hl (decide_eq_true (by omega))
     have e:alikeD (.lst ds) (.lst es)=false:=alikeDs_len ds es (by omega)
     rw [e] at k
     exact k _ F.sm
  | tup es =>
   simp only [TrH] at tr2
   obtain ⟨q,ys,rfl,hq,ts2⟩:=tr2
   simp only [depD] at dp
   simp only [widD] at wd2
   have ln2:=ts2.len
   have o_q:=Old.mk (M:=[]) hq nm0
   cases d with
   | non =>
    simp only [TrH] at tr
    subst tr
    repeat k_meth
    exact k _ F.sm
   | bl b =>
    simp only [TrH] at tr
    subst tr
    repeat k_meth
    exact k _ F.sm
   | int i =>
    simp only [TrH] at tr
    subst tr
    repeat k_meth
    exact k _ F.sm
   | str x =>
    simp only [TrH] at tr
    subst tr
    repeat k_meth
    exact k _ F.sm
   | lst ds =>
    simp only [TrH] at tr
    obtain ⟨p,xs,rfl,hp,ts⟩:=tr
    have o_p:=Old.mk (M:=[]) hp nm0
    repeat k_meth
    exact k _ F.sm
   | tup ds =>
    simp only [TrH] at tr
    obtain ⟨p,xs,rfl,hp,ts⟩:=tr
    simp only [depD] at dp1
    simp only [widD] at wd
    have ln:=ts.len
    have o_p:=Old.mk (M:=[]) hp nm0
    repeat k_meth
    split
    ·rename_i hl
     have hl:xs.length=ys.length:=by have:=of_decide_eq_true hl;omega
     repeat k_meth
     refine comp_inr ?_
     repeat k_meth
     refine comp_zipB (fun i=>alikeD (ds.getD i .non) (es.getD i .non)) (itemsZ_tup (by omega)) rfl (by omega) rfl (fun H' s=>⟨s _ _ hatC,s _ _ hatC⟩) (fun i v u H' R hv hu s kk=>?_) fun z H2 nw=>?_
     ·obtain ⟨d,hd,td⟩:=ts.at hv
      obtain ⟨e,he,te⟩:=ts2.at hu
      have td2:=td.same (F.sm.trans s)
      have te2:=te.same (F.sm.trans s)
      have dd:=depDs_at hd
      have de:=depDs_at he
      have wa:=widDs_at wd.2 hd
      have wb:=widDs_at wd2.2 he
      clear F
      have F:SH H' [] H' [] []:=SH.nil
      repeat k_meth
      refine ⟨v,u,d,e,rfl,td2,te2,by omega,by omega,wa,wb,fun H2 s2=>?_⟩
      have kk:=kk H2 s2
      rw [List.getD_eq_getElem?_getD,hd,List.getD_eq_getElem?_getD,he] at kk
      exact kk
     ·rw [ln] at nw
      replace F:=F.newL nw
      repeat k_meth
      rw [alikeDs_all _ _ (by omega)]
      exact k _ F.sm
    ·rename_i hl
     have hl:xs.length≠ys.length:=fun z=>hl (decide_eq_true (by omega))
     have e:alikeD (.tup ds) (.tup es)=false:=alikeDs_len ds es (by omega)
     rw [e] at k
     exact k _ F.sm
end
mutual
theorem alike_refl:∀d:Dt,alikeD d d=true
 | .non=>by simp [alikeD,eqDt]
 | .bl b=>by simp [alikeD]
 | .int i=>by simp [alikeD,eqDt]
 | .str x=>by simp [alikeD,eqDt]
 | .lst ds=>by simp only [alikeD];exact alikes_refl ds
 | .tup ds=>by simp only [alikeD];exact alikes_refl ds
theorem alikes_refl:∀ds:List Dt,alikeDs ds ds=true
 | []=>rfl
 | d::ds=>by simp only [alikeDs,alike_refl d,alikes_refl ds];rfl
end
def sp_cpD:Sp:=fun vs H Q _=>∃p:Addr,vs=[.ref p]∧H p=some (.dK [])∧∀H',Same H H'→Q (.ref p) H'
def sp_alD:Sp:=fun vs H Q _=>∃(p q:Addr) (ys:List V),vs=[.ref p,.ref q]∧H p=some (.dK [])∧H q=some (.tup ys)∧∀H',Same H H'→Q (.bl false) H'
def sp_alS:Sp:=fun vs H Q _=>∃(p:Addr),vs=[.ref p,.ref p]∧H p=some (.dK [])∧∀H',Same H H'→Q (.bl true) H'
def sp_ispD (CL:Addr):Sp:=fun vs H Q _=>∃(x p dx:Addr) (n:Nat) (zs:List V) (rs:List Rw) (s:Nat) (v:Addr),vs=[.ref x,.int (s:Nat),.ref v]∧LayS CL H x p dx n zs rs s∧H v=some (.dK [])∧∀H',Same H H'→Q (.bl false) H'
section
variable {P:Program} {w:World} {K:W.Frag} {mg:Str→Option Value} {base:Heap} {c:Nat→Addr} {ct_Linit pt_Linit R CL:Addr}
theorem D_lcopiedD (T:Txt K mg c R CL ct_Linit pt_Linit):Def P w K mg base CX0 3 "_law_copied" ["_law_thing"] sp_cpD:=by
 refine def_of T.d_lcopied sc_lcopied (fun vs H Q E h=>?_) (fun _ _ _ _ _ _ us hl=>match us,hl with | [_],_=>rfl) (fun f cdv A outer s H vs Q E hr h=>?_)
 ·obtain ⟨p,rfl,_⟩:=h
  rfl
 ·obtain ⟨p,rfl,hp,k⟩:=h
  have nd:=sc_lcopied.nd
  refine ⟨_,(pss_cons (ps_if (pt_val (pe_callB call_isT rfl T.n_isinstance boot_isinstance (pa_cons (pv 0) (pa_cons (pe_ty (T := "list") rfl T.n_list boot_list) pa_nil)))) (pss_one (ps_ret (pe_comp (N:=["_law_one"]) (nt:=1) (fr:=[]) (pi_or (pi_list (pv 0)) (pi_tup (pv 0))) (fun _ _ _ _=>(pg_name (i:=0) (show (["_law_one"]:List Str).Nodup from by decide +kernel) rfl (Or.inl rfl))) (fun _ _ _ _=>pif_nil) (fun _ _ _ _=>(pe_def (D_lcopiedZ (P:=P) (w:=w) (base:=base) T) hr (pa_cons (pv 0) pa_nil)))))) pss_nil)
   (pss_cons (ps_if (pt_val (pe_callB call_isT rfl T.n_isinstance boot_isinstance (pa_cons (pv 0) (pa_cons (pe_ty (T := "tuple") rfl T.n_tuple boot_tuple) pa_nil)))) (pss_one (ps_ret (pe_callTy call_tuple_ofA rfl T.n_tuple boot_tuple (pa_cons (pe_comp (N:=["_law_one"]) (nt:=1) (fr:=[]) (pi_or (pi_list (pv 0)) (pi_tup (pv 0))) (fun _ _ _ _=>(pg_name (i:=0) (show (["_law_one"]:List Str).Nodup from by decide +kernel) rfl (Or.inl rfl))) (fun _ _ _ _=>pif_nil) (fun _ _ _ _=>(pe_def (D_lcopiedZ (P:=P) (w:=w) (base:=base) T) hr (pa_cons (pv 0) pa_nil)))) pa_nil)))) pss_nil)
   (pss_one (ps_ret (pv 0))))),?_⟩
  clear nd 
  rw [show start ["_law_thing"] [.ref p]=[some (.ref p)] from rfl]
  try dsimp only [cx_K,cx_K2]
  have iL_many:FldOk K CL "many" := ⟨T.clL,T.aL_many⟩
  have iL_rows:FldOk K CL "rows" := ⟨T.clL,T.aL_rows⟩
  have o_hp:=Old.mk (M:=[]) hp nm0
  have F:SH H [] H [] []:=SH.nil
  repeat k_meth
  rw [if_neg (by simp)]
  repeat k_meth
  rw [if_neg (by simp)]
  repeat k_meth
  exact k _ F.sm
theorem D_lalikeD (T:Txt K mg c R CL ct_Linit pt_Linit):Def P w K mg base CX0 3 "_law_alike" ["_law_thing", "_law_due"] sp_alD:=by
 refine def_of T.d_lalike sc_lalike (fun vs H Q E h=>?_) (fun _ _ _ _ _ _ us hl=>match us,hl with | [_,_],_=>rfl) (fun f cdv A outer s H vs Q E hr h=>?_)
 ·obtain ⟨p,q,ys,rfl,_⟩:=h
  rfl
 ·obtain ⟨p,q,ys,rfl,hp,hq,k⟩:=h
  have nd:=sc_lalike.nd
  refine ⟨_,(pss_cons (ps_if (pt_val (pe_callB call_isLT rfl T.n_isinstance boot_isinstance (pa_cons (pv 1) (pa_cons (pe_tupA (pa_cons (pe_ty (T := "list") rfl T.n_list boot_list) (pa_cons (pe_ty (T := "tuple") rfl T.n_tuple boot_tuple) pa_nil))) pa_nil)))) (pss_cons (ps_if (PW.pt (pw_or (pt_cmpR op_ne (pe_callB call_isT rfl T.n_isinstance boot_isinstance (pa_cons (pv 0) (pa_cons (pe_ty (T := "list") rfl T.n_list boot_list) pa_nil))) (pe_callB call_isT rfl T.n_isinstance boot_isinstance (pa_cons (pv 1) (pa_cons (pe_ty (T := "list") rfl T.n_list boot_list) pa_nil))) (nomark _)) (pw_or1 (pt_cmpR op_ne (pe_callB call_isT rfl T.n_isinstance boot_isinstance (pa_cons (pv 0) (pa_cons (pe_ty (T := "tuple") rfl T.n_tuple boot_tuple) pa_nil))) (pe_callB call_isT rfl T.n_isinstance boot_isinstance (pa_cons (pv 1) (pa_cons (pe_ty (T := "tuple") rfl T.n_tuple boot_tuple) pa_nil))) (nomark _))))) (pss_one (ps_ret pe_bl)) pss_nil)
    (pss_one (ps_ret (pe_and (pe_cmpR op_eq (pe_callB call_lenN rfl T.n_len boot_len (pa_cons (pv 0) pa_nil)) (pe_callB call_lenN rfl T.n_len boot_len (pa_cons (pv 1) pa_nil)) (nomark _)) (pe_one (pe_callB (call_all rfl) rfl T.n_all boot_all (pa_cons (pe_comp (N:=["_law_one", "_law_other"]) (nt:=2) (fr:=[]) (pi_or (pi_zip rfl T.n_zip (pa_cons (pv 0) (pa_cons (pv 1) pa_nil))) (pi_zt rfl T.n_zip (pa_cons (pv 0) (pa_cons (pv 1) pa_nil)))) (fun _ _ _ _=>(pg_tupK (K:=K) (n:=2) rfl rfl (pgs_cons (pg_name (i:=0) (show (["_law_one", "_law_other"]:List Str).Nodup from by decide +kernel) rfl (Or.inl rfl)) (pgs_cons (pg_name (i:=1) (show (["_law_one", "_law_other"]:List Str).Nodup from by decide +kernel) rfl (Or.inl rfl)) pgs_nil)))) (fun _ _ _ _=>pif_nil) (fun _ _ _ _=>(pe_def (D_lalikeZ (P:=P) (w:=w) (base:=base) T) hr (pa_cons (pv 0) (pa_cons (pv 1) pa_nil))))) pa_nil))))))) pss_nil)
   (pss_one (ps_ret (pe_and (pe_cmpR op_eq (pe_callB call_isT rfl T.n_isinstance boot_isinstance (pa_cons (pv 0) (pa_cons (pe_ty (T := "bool") rfl T.n_bool boot_bool) pa_nil))) (pe_callB call_isT rfl T.n_isinstance boot_isinstance (pa_cons (pv 1) (pa_cons (pe_ty (T := "bool") rfl T.n_bool boot_bool) pa_nil))) (nomark _)) (pe_one (pe_cmpR (op_eqDD (K:=K) rfl hr) (pv 0) (pv 1) (nomark _))))))),?_⟩
  clear nd 
  rw [show start ["_law_thing", "_law_due"] [.ref p,.ref q]=[some (.ref p),some (.ref q)] from rfl]
  try dsimp only [cx_K,cx_K2]
  have iL_many:FldOk K CL "many" := ⟨T.clL,T.aL_many⟩
  have iL_rows:FldOk K CL "rows" := ⟨T.clL,T.aL_rows⟩
  have o_hp:=Old.mk (M:=[]) hp nm0
  have o_hq:=Old.mk (M:=[]) hq nm0
  have F:SH H [] H [] []:=SH.nil
  repeat k_meth
  exact k _ F.sm
theorem D_lalikeS (T:Txt K mg c R CL ct_Linit pt_Linit):Def P w K mg base CX0 3 "_law_alike" ["_law_thing", "_law_due"] sp_alS:=by
 refine def_of T.d_lalike sc_lalike (fun vs H Q E h=>?_) (fun _ _ _ _ _ _ us hl=>match us,hl with | [_,_],_=>rfl) (fun f cdv A outer s H vs Q E hr h=>?_)
 ·obtain ⟨p,rfl,_⟩:=h
  rfl
 ·obtain ⟨p,rfl,hp,k⟩:=h
  have nd:=sc_lalike.nd
  refine ⟨_,(pss_cons (ps_if (pt_val (pe_callB call_isLTd rfl T.n_isinstance boot_isinstance (pa_cons (pv 1) (pa_cons (pe_tupA (pa_cons (pe_ty (T := "list") rfl T.n_list boot_list) (pa_cons (pe_ty (T := "tuple") rfl T.n_tuple boot_tuple) pa_nil))) pa_nil)))) (pss_cons (ps_if (PW.pt (pw_or (pt_cmpR op_ne (pe_callB call_isT rfl T.n_isinstance boot_isinstance (pa_cons (pv 0) (pa_cons (pe_ty (T := "list") rfl T.n_list boot_list) pa_nil))) (pe_callB call_isT rfl T.n_isinstance boot_isinstance (pa_cons (pv 1) (pa_cons (pe_ty (T := "list") rfl T.n_list boot_list) pa_nil))) (nomark _)) (pw_or1 (pt_cmpR op_ne (pe_callB call_isT rfl T.n_isinstance boot_isinstance (pa_cons (pv 0) (pa_cons (pe_ty (T := "tuple") rfl T.n_tuple boot_tuple) pa_nil))) (pe_callB call_isT rfl T.n_isinstance boot_isinstance (pa_cons (pv 1) (pa_cons (pe_ty (T := "tuple") rfl T.n_tuple boot_tuple) pa_nil))) (nomark _))))) (pss_one (ps_ret pe_bl)) pss_nil)
    (pss_one (ps_ret (pe_and (pe_cmpR op_eq (pe_callB call_lenN rfl T.n_len boot_len (pa_cons (pv 0) pa_nil)) (pe_callB call_lenN rfl T.n_len boot_len (pa_cons (pv 1) pa_nil)) (nomark _)) (pe_one (pe_callB (call_all rfl) rfl T.n_all boot_all (pa_cons (pe_comp (N:=["_law_one", "_law_other"]) (nt:=2) (fr:=[]) (pi_or (pi_zip rfl T.n_zip (pa_cons (pv 0) (pa_cons (pv 1) pa_nil))) (pi_zt rfl T.n_zip (pa_cons (pv 0) (pa_cons (pv 1) pa_nil)))) (fun _ _ _ _=>(pg_tupK (K:=K) (n:=2) rfl rfl (pgs_cons (pg_name (i:=0) (show (["_law_one", "_law_other"]:List Str).Nodup from by decide +kernel) rfl (Or.inl rfl)) (pgs_cons (pg_name (i:=1) (show (["_law_one", "_law_other"]:List Str).Nodup from by decide +kernel) rfl (Or.inl rfl)) pgs_nil)))) (fun _ _ _ _=>pif_nil) (fun _ _ _ _=>(pe_def (D_lalikeZ (P:=P) (w:=w) (base:=base) T) hr (pa_cons (pv 0) (pa_cons (pv 1) pa_nil))))) pa_nil))))))) pss_nil)
   (pss_one (ps_ret (pe_and (pe_cmpR op_eq (pe_callB call_isT rfl T.n_isinstance boot_isinstance (pa_cons (pv 0) (pa_cons (pe_ty (T := "bool") rfl T.n_bool boot_bool) pa_nil))) (pe_callB call_isT rfl T.n_isinstance boot_isinstance (pa_cons (pv 1) (pa_cons (pe_ty (T := "bool") rfl T.n_bool boot_bool) pa_nil))) (nomark _)) (pe_one (pe_cmpR (op_eqDD (K:=K) rfl hr) (pv 0) (pv 1) (nomark _))))))),?_⟩
  clear nd 
  rw [show start ["_law_thing", "_law_due"] [.ref p,.ref p]=[some (.ref p),some (.ref p)] from rfl]
  try dsimp only [cx_K,cx_K2]
  have iL_many:FldOk K CL "many" := ⟨T.clL,T.aL_many⟩
  have iL_rows:FldOk K CL "rows" := ⟨T.clL,T.aL_rows⟩
  have o_hp:=Old.mk (M:=[]) hp nm0
  have F:SH H [] H [] []:=SH.nil
  repeat k_meth
  rw [if_pos (by simp)]
  repeat k_meth
  exact k _ F.sm
theorem D_ispricesD (T:Txt K mg c R CL ct_Linit pt_Linit):Def P w K mg base CX0 7 "is_prices" ["layout", "size", "told"] (sp_ispD CL):=by
 have D_prices:=D_prices (P:=P) (w:=w) (base:=base) T
 have D_truth:=D_truth (P:=P) (w:=w) (base:=base) T
 refine def_of T.d_isprices sc_isprices (fun vs H Q E h=>?_) (fun _ _ _ _ _ _ us hl=>match us,hl with | [_,_,_],_=>rfl) (fun f cdv A outer s H vs Q E hr h=>?_)
 ·obtain ⟨x,p,dx,n,zs,rs,s,v,rfl,_⟩:=h
  rfl
 ·obtain ⟨x,p,dx,n,zs,rs,s,v,rfl,ly,hv,k⟩:=h
  have nd:=sc_isprices.nd
  refine ⟨_,(pss_one (ps_ret (pe_and (pe_cmpR (op_eqDD (K:=K) rfl hr) (pv 2) (pe_def D_prices hr (pa_cons (pv 0) (pa_cons (pv 1) pa_nil))) (nomark _)) (pe_one (pe_not (pe_def D_truth hr (pa_cons (pv 2) pa_nil))))))),?_⟩
  clear nd D_prices D_truth
  rw [show start ["layout", "size", "told"] [.ref x,.int (s:Nat),.ref v]=[some (.ref x),some (.int (s:Nat)),some (.ref v)] from rfl]
  try dsimp only [cx_K,cx_K2]
  have iL_many:FldOk K CL "many" := ⟨T.clL,T.aL_many⟩
  have iL_rows:FldOk K CL "rows" := ⟨T.clL,T.aL_rows⟩
  have o_hv:=Old.mk (M:=[]) hv nm0
  have F:SH H [] H [] []:=SH.nil
  have sd1:=ly.few
  have sd2:=ly.s2
  repeat k_meth
  refine ⟨x,p,dx,n,zs,rs,s,rfl,ly,fun t2 l2 m2 ys2 us2 H2 s2 tb2 _ _=>?_⟩
  replace F:=F.same s2
  repeat k_meth
  refine .inr ⟨v,rfl,hatC,.inl ⟨t2,_,rfl,SqT.of tb2.t,?_⟩⟩
  repeat k_meth
  exact k _ F.sm
end
def ThO (B:List Addr) (H:Hp) (o:Option Dt) (v:V):Prop:=match o with
 | some d=>TrH (hides B H) d v∧depD d≤4∧widD d
 | none=>∃p,v=.ref p∧H p=some (.dK [])
abbrev tabOf (rs:List Rw) (gs:List Int) (s:Nat):Dt:=tabD (leftT rs gs s rs.length) (rightT rs gs s rs.length).reverse
theorem hasT_row (r:PR):hasT (rowD r)=false:=by
 simp only [rowD,hasT]
 induction r with
 | nil=>rfl
 | cons o r ih=>simp only [List.map_cons,hasTs,ih,Bool.or_false];cases o <;> simp [pV,flatDt,hasT]
theorem hasT_rows:∀T:List PR,hasTs (T.map rowD)=false
 | []=>rfl
 | r::T=>by simp only [List.map_cons,hasTs,hasT_row,hasT_rows T];rfl
theorem hasT_tab (T U:List PR):hasT (tabD T U)=false:=by simp [tabD,hasT,hasTs,hasT_rows]
def sp_j (CL:Addr):Sp:=fun vs H Q _=>∃(x p dx:Addr) (n:Nat) (zs:List V) (rs:List Rw) (s:Nat) (v u:V) (d:Dt),vs=[.ref x,.int (s:Nat),v,u]∧LayS CL H x p dx n zs rs s∧TrH H d v∧TrH H (tabOf rs (gapsOf n rs) s) u∧(depD d≤4∧widD d∧depD (tabOf rs (gapsOf n rs) s)≤4∧widD (tabOf rs (gapsOf n rs) s))∧∀H',Same H H'→Q (.bl true) H'
def sp_jD (CL:Addr):Sp:=fun vs H Q _=>∃(x p dx:Addr) (n:Nat) (zs ys:List V) (rs:List Rw) (s:Nat) (v u:Addr),vs=[.ref x,.int (s:Nat),.ref v,.ref u]∧LayS CL H x p dx n zs rs s∧H v=some (.dK [])∧H u=some (.tup ys)∧∀H',Same H H'→Q (.bl true) H'
section
variable {P:Program} {w:World} {K:W.Frag} {mg:Str→Option Value} {base:Heap} {c:Nat→Addr} {ct_Linit pt_Linit R CL:Addr}
theorem D_ljudged (T:Txt K mg c R CL ct_Linit pt_Linit):Def P w K mg base CX0 8 "_law_judged" ["_law_layout", "_law_size", "_law_thing", "_law_due"] (sp_j CL):=by
 have D_lcopied:=D_lcopied (P:=P) (w:=w) (base:=base) T
 have D_isprices:=D_isprices (P:=P) (w:=w) (base:=base) T
 have D_lalike:=D_lalike (P:=P) (w:=w) (base:=base) T
 refine def_of T.d_ljudged sc_ljudged (fun vs H Q E h=>?_) (fun _ _ _ _ _ _ us hl=>match us,hl with | [_,_,_,_],_=>rfl) (fun f cdv A outer s H vs Q E hr h=>?_)
 ·obtain ⟨x,p,dx,n,zs,rs,s,v,u,d,rfl,_⟩:=h
  rfl
 ·obtain ⟨x,p,dx,n,zs,rs,s,v,u,d,rfl,ly,tr,tr2,side,k⟩:=h
  have nd:=sc_ljudged.nd
  refine ⟨_,(pss_cons (ps_set (i:=4) nd rfl (Or.inl rfl) (pe_def D_lcopied hr (pa_cons (pv 2) pa_nil)))
   (pss_cons (ps_set (i:=5) nd rfl (Or.inl rfl) (pe_def D_isprices hr (pa_cons (pv 0) (pa_cons (pv 1) (pa_cons (pv 4) pa_nil)))))
   (pss_cons (ps_if (PW.pt (pw_or (pt_not (pt_val (pe_callB call_isT rfl T.n_isinstance boot_isinstance (pa_cons (pv 5) (pa_cons (pe_ty (T := "bool") rfl T.n_bool boot_bool) pa_nil))))) (pw_or1 (pt_cmpR op_ne (pv 5) (pe_def D_lalike hr (pa_cons (pv 2) (pa_cons (pv 3) pa_nil))) (nomark _))))) (pss_one (ps_ret pe_bl)) pss_nil)
   (pss_one (ps_ret (pe_def D_lalike hr (pa_cons (pv 4) (pa_cons (pv 2) pa_nil)))))))),?_⟩
  clear nd D_lcopied D_isprices D_lalike
  rw [show start ["_law_layout", "_law_size", "_law_thing", "_law_due", "_law_handed", "_law_found"] [.ref x,.int (s:Nat),v,u]=[some (.ref x),some (.int (s:Nat)),some (v),some (u),none,none] from rfl]
  try dsimp only [cx_K,cx_K2]
  have iL_many:FldOk K CL "many" := ⟨T.clL,T.aL_many⟩
  have iL_rows:FldOk K CL "rows" := ⟨T.clL,T.aL_rows⟩
  have F:SH H [] H [] []:=SH.nil
  obtain ⟨dp,wd,dp2,wd2⟩:=side
  repeat k_meth
  refine ⟨v,d,rfl,tr,dp,wd,fun v' H1 cp=>?_⟩
  have tr1:=cp.tr tr
  have F:=F.same cp.1
  repeat k_meth
  refine ⟨x,p,dx,n,zs,rs,s,v',d,rfl,ly.same cp.1,tr1,dp,wd,fun H2 s2=>?_⟩
  have F:=F.same s2
  repeat k_meth
  refine ⟨v,u,d,_,rfl,tr.same (cp.1.trans s2),tr2.same (cp.1.trans s2),dp2,by omega,wd,wd2,fun H3 s3=>?_⟩
  rw [alike_eq _ _ (hasT_tab _ _)]
  have F:=F.same s3
  repeat k_meth
  rw [if_neg (by simp)]
  repeat k_meth
  refine ⟨v',v,d,d,rfl,tr1.same (s2.trans s3),tr.same ((cp.1.trans s2).trans s3),dp,by omega,wd,wd,fun H4 s4=>?_⟩
  rw [alike_refl]
  have F:=F.same s4
  repeat k_meth
  exact k _ F.sm
theorem D_ljudgedD (T:Txt K mg c R CL ct_Linit pt_Linit):Def P w K mg base CX0 8 "_law_judged" ["_law_layout", "_law_size", "_law_thing", "_law_due"] (sp_jD CL):=by
 have D_lcopied:=D_lcopied (P:=P) (w:=w) (base:=base) T
 have D_isprices:=D_isprices (P:=P) (w:=w) (base:=base) T
 have D_lalike:=D_lalike (P:=P) (w:=w) (base:=base) T
 refine def_of T.d_ljudged sc_ljudged (fun vs H Q E h=>?_) (fun _ _ _ _ _ _ us hl=>match us,hl with | [_,_,_,_],_=>rfl) (fun f cdv A outer s H vs Q E hr h=>?_)
 ·obtain ⟨x,p,dx,n,zs,ys,rs,s,v,u,rfl,_⟩:=h
  rfl
 ·obtain ⟨x,p,dx,n,zs,ys,rs,s,v,u,rfl,ly,hv,hu,k⟩:=h
  have nd:=sc_ljudged.nd
  refine ⟨_,(pss_cons (ps_set (i:=4) nd rfl (Or.inl rfl) (pe_def (D_lcopiedD (P:=P) (w:=w) (base:=base) T) hr (pa_cons (pv 2) pa_nil)))
   (pss_cons (ps_set (i:=5) nd rfl (Or.inl rfl) (pe_def (D_ispricesD (P:=P) (w:=w) (base:=base) T) hr (pa_cons (pv 0) (pa_cons (pv 1) (pa_cons (pv 4) pa_nil)))))
   (pss_cons (ps_if (PW.pt (pw_or (pt_not (pt_val (pe_callB call_isT rfl T.n_isinstance boot_isinstance (pa_cons (pv 5) (pa_cons (pe_ty (T := "bool") rfl T.n_bool boot_bool) pa_nil))))) (pw_or1 (pt_cmpR op_ne (pv 5) (pe_def (D_lalikeD (P:=P) (w:=w) (base:=base) T) hr (pa_cons (pv 2) (pa_cons (pv 3) pa_nil))) (nomark _))))) (pss_one (ps_ret pe_bl)) pss_nil)
   (pss_one (ps_ret (pe_def (D_lalikeS (P:=P) (w:=w) (base:=base) T) hr (pa_cons (pv 4) (pa_cons (pv 2) pa_nil)))))))),?_⟩
  clear nd D_lcopied D_isprices D_lalike
  rw [show start ["_law_layout", "_law_size", "_law_thing", "_law_due", "_law_handed", "_law_found"] [.ref x,.int (s:Nat),.ref v,.ref u]=[some (.ref x),some (.int (s:Nat)),some (.ref v),some (.ref u),none,none] from rfl]
  try dsimp only [cx_K,cx_K2]
  have iL_many:FldOk K CL "many" := ⟨T.clL,T.aL_many⟩
  have iL_rows:FldOk K CL "rows" := ⟨T.clL,T.aL_rows⟩
  have o_hv:=Old.mk (M:=[]) hv nm0
  have o_hu:=Old.mk (M:=[]) hu nm0
  have F:SH H [] H [] []:=SH.nil
  repeat k_meth
  refine ⟨v,rfl,hatC,fun H1 s1=>?_⟩
  have F:=F.same s1
  repeat k_meth
  refine ⟨x,p,dx,n,zs,rs,s,v,rfl,ly.same s1,hatC,fun H2 s2=>?_⟩
  have F:=F.same s2
  repeat k_meth
  refine ⟨v,u,ys,rfl,hatC,hatC,fun H3 s3=>?_⟩
  have F:=F.same s3
  repeat k_meth
  refine ⟨v,rfl,hatC,fun H4 s4=>?_⟩
  have F:=F.same s4
  repeat k_meth
  exact k _ F.sm
end
instance go_rev1 {K:W.Frag} {H:Hp} {a:Addr} {xs:List V} {Z:Addr→Hp→Prop} [h:SqA K H a xs]:Go (∃a' xs',V.ref a=.ref a'∧V.int (-1)=.int (-1)∧SqL K H a' xs'∧∀p H',New H H' p (.lst xs'.reverse)→Z p H') (∀p H',New H H' p (.lst xs.reverse)→Z p H'):=⟨fun k=>⟨a,xs,rfl,rfl,h.e,k⟩⟩
theorem sm_mem {n:Nat}:∀{ds:List Dt} {d:Dt},depDs ds + 1≤n + 1→widDs ds→d∈ds→depD d≤n∧widD d
 | [],d,_,_,h=>by cases h
 | e::ds,d,h1,h2,h=>by
  simp only [depDs] at h1
  simp only [widDs] at h2
  rcases List.mem_cons.mp h with rfl | h
  ·exact ⟨by omega,h2.1⟩
  ·exact sm_mem (n:=n) (ds:=ds) (by omega) h2.2 h
theorem tupsR {H:Hp} {ys:List V} {rs:List Rw} (h:TupsAt H ys (rowsV rs)):TupsAt H ys.reverse (rowsV rs.reverse):=by
 have e:rowsV rs.reverse=(rowsV rs).reverse:=by unfold rowsV;rw [List.map_reverse]
 rw [e]
 exact h.reverse
def sp_lfo:Sp:=fun vs H Q _=>∃(bx t l1 l2 m c:Addr) (x y z:Int) (ys us zs:List V) (T U:List PR) (rs:List Rw) (gs:List Int) (s:Nat),vs=[.ref bx,.ref t,.ref m,.ref c]∧H bx=some (.lst [.int x,.int y,.int z])∧Tab H t l1 l2 ys us T U∧H m=some (.lst zs)∧TupsAt H zs (rowsV rs)∧H c=some (.lst (gs.map V.int)) ∧
 (l1≠bx∧l2≠bx∧m≠bx∧c≠bx∧V.ref bx ∉ ys∧V.ref bx ∉ us)∧(T.length=rs.length + 1∧U.length=rs.length + 1∧rs.length≤40∧s≤240∧gs.length=rs.length + 1)∧(∀x∈gs,0≤x)∧(∀r∈T,List.length r=s + 1)∧(∀r∈U,List.length r=s + 1) ∧
 ∀(v:V) (o:Option Dt) (x' y' z':Int) H',Kp bx H H'→H' bx=some (.lst [.int x',.int y',.int z'])→ThO [bx] H' o v→Q v H'
section
variable {P:Program} {w:World} {K:W.Frag} {mg:Str→Option Value} {base:Heap} {c:Nat→Addr} {ct_Linit pt_Linit R CL:Addr}
theorem D_lforged (T:Txt K mg c R CL ct_Linit pt_Linit):Def P w K mg base CX0 6 "_law_forged" ["_law_box_here", "_law_due", "_law_rows_here", "_law_gaps_here"] sp_lfo:=by
 have D_take:=D_take (P:=P) (w:=w) (base:=base) T
 have D_lspoilt:=D_lspoilt (P:=P) (w:=w) (base:=base) T
 refine def_of T.d_lforged sc_lforged (fun vs H Q E h=>?_) (fun _ _ _ _ _ _ us hl=>match us,hl with | [_,_,_,_],_=>rfl) (fun f cdv A outer s H vs Q E hr h=>?_)
 ·obtain ⟨bx,t,l1,l2,m,c,x,y,z,ys,us,zs,T_,U_,rs,gs,s,rfl,_⟩:=h
  rfl
 ·obtain ⟨bx,t,l1,l2,m,c,x,y,z,ys,us,zs,T_,U_,rs,gs,s,rfl,hbx,tb,hm,tp,hc,ap,side,gpos,rl,ru,k⟩:=h
  have nd:=sc_lforged.nd
  refine' ⟨_,(pss_cons (ps_set (i:=4) nd rfl (Or.inl rfl) (pe_def D_take hr (pa_cons (pv 0) (pa_cons pe_int pa_nil))))
   (pss_cons (ps_asg (pv 1) (pg_tup rfl (pgs_cons (pg_name (i:=5) nd rfl (Or.inl rfl)) (pgs_cons (pg_name (i:=6) nd rfl (Or.inl rfl)) pgs_nil))))
   (pss_cons (ps_if (pt_cmpR op_lt (pv 4) pe_int (nomark _)) (pss_one (ps_ret (pe_tupA (pa_cons (pe_def D_lspoilt hr (pa_cons (pv 0) (pa_cons (pv 5) (pa_cons (pv 2) (pa_cons (pv 3) pa_nil))))) (pa_cons (pv 6) pa_nil))))) pss_nil)
   (pss_cons (ps_if (pt_cmpR op_lt (pv 4) pe_int (nomark _)) (pss_one (ps_ret (pe_tupA (pa_cons (pv 5) (pa_cons (pe_revAny (pe_def D_lspoilt hr (pa_cons (pv 0) (pa_cons (pe_revSl (pv 6) (pe_un un_neg pe_int)) (pa_cons (pe_revSl (pv 2) (pe_un un_neg pe_int)) (pa_cons (pe_revSl (pv 3) (pe_un un_neg pe_int)) pa_nil))))) (pe_un un_neg pe_int)) pa_nil))))) pss_nil)
   (pss_cons (ps_if (pt_cmpR op_eq (pv 4) pe_int (nomark _)) ?st0 pss_nil)
   ?st1))))),?main⟩
  case st0 =>
   refine' pss_one ?r0
   case r0 =>
    refine' ps_ret ?r1
    case r1 =>
     refine' pe_ix ?x_ ?l_ ?i_ ?h_
     case x_=>exact ix_list
     case i_=>exact (pe_def D_take hr (pa_cons (pv 0) (pa_cons pe_int pa_nil)))
     case h_=>exact fun _ _=>rfl
     case l_ =>
      refine' pe_lstA ?pa
      case pa =>
       refine' pa_cons ?a0 ?b0 ?c0
       case a0=>exact (pe_tupA (pa_cons (pv 6) (pa_cons (pv 5) pa_nil)))
       case c0=>rfl
       case b0 =>
        refine' pa_cons ?a1 ?b1 ?c1
        case a1=>exact (pe_tupA (pa_cons (pv 5) (pa_cons (pv 6) (pa_cons (pv 5) pa_nil))))
        case c1=>rfl
        case b1 =>
         refine' pa_cons ?a2 ?b2 ?c2
         case a2=>exact (pe_lstA (pa_cons (pv 5) (pa_cons (pv 6) pa_nil)))
         case c2=>rfl
         case b2 =>
          refine' pa_cons ?a3 ?b3 ?c3
          case a3=>exact (pe_tupA (pa_cons (pv 5) pa_nil))
          case c3=>rfl
          case b3 =>
           refine' pa_cons ?a4 ?b4 ?c4
           case a4=>exact (pe_tupA (pa_cons (pv 5) (pa_cons (pv 5) pa_nil)))
           case c4=>rfl
           case b4 =>
            exact pa_nil
  case st1 =>
   refine' pss_one ?r0
   case r0 =>
    refine' ps_ret ?r1
    case r1 =>
     refine' pe_ix ?x_ ?l_ ?i_ ?h_
     case x_=>exact ix_list
     case i_=>exact (pe_def D_take hr (pa_cons (pv 0) (pa_cons pe_int pa_nil)))
     case h_=>exact fun _ _=>rfl
     case l_ =>
      refine' pe_lstA ?pa
      case pa =>
       refine' pa_cons ?a0 ?b0 ?c0
       case a0=>exact pe_non
       case c0=>rfl
       case b0 =>
        refine' pa_cons ?a1 ?b1 ?c1
        case a1=>exact pe_int
        case c1=>rfl
        case b1 =>
         refine' pa_cons ?a2 ?b2 ?c2
         case a2=>exact pe_str
         case c2=>rfl
         case b2 =>
          refine' pa_cons ?a3 ?b3 ?c3
          case a3=>exact pe_dnewK
          case c3=>rfl
          case b3 =>
           refine' pa_cons ?a4 ?b4 ?c4
           case a4=>exact (pe_lstA pa_nil)
           case c4=>rfl
           case b4 =>
            refine' pa_cons ?a5 ?b5 ?c5
            case a5=>exact (pe_tupA pa_nil)
            case c5=>rfl
            case b5 =>
             refine' pa_cons ?a6 ?b6 ?c6
             case a6=>exact pe_bl
             case c6=>rfl
             case b6 =>
              refine' pa_cons ?a7 ?b7 ?c7
              case a7=>exact (pe_tupA (pa_cons pe_non (pa_cons pe_non pa_nil)))
              case c7=>rfl
              case b7 =>
               refine' pa_cons ?a8 ?b8 ?c8
               case a8=>exact (pe_tupA (pa_cons (pe_lstA pa_nil) (pa_cons (pe_lstA pa_nil) pa_nil)))
               case c8=>rfl
               case b8 =>
                refine' pa_cons ?a9 ?b9 ?c9
                case a9=>exact (pe_tupA (pa_cons pe_int (pa_cons (pv 5) pa_nil)))
                case c9=>rfl
                case b9 =>
                 exact pa_nil
  clear nd D_take D_lspoilt
  rw [show start ["_law_box_here", "_law_due", "_law_rows_here", "_law_gaps_here", "_law_way", "_law_left", "_law_right"] [.ref bx,.ref t,.ref m,.ref c]=[some (.ref bx),some (.ref t),some (.ref m),some (.ref c),none,none,none] from rfl]
  try dsimp only [cx_K,cx_K2]
  have iL_many:FldOk K CL "many" := ⟨T.clL,T.aL_many⟩
  have iL_rows:FldOk K CL "rows" := ⟨T.clL,T.aL_rows⟩
  obtain ⟨n1,n2,nm,nc,nb1,nb2⟩:=ap
  obtain ⟨Tl,Ul,few,s240,gl_⟩:=side
  have htb:=tb.t
  have nt:t≠bx:=fun e=>by rw [e,hbx] at htb;cases htb
  have F:SH H [bx] H [(bx,.lst [.int x,.int y,.int z])] [.tps zs (rowsV rs)]:=(SH.nil.addM (M:=[bx]) (by simp) hbx rfl (by simp)).addP tp
  have o_t:=Old.mk (M:=[bx]) tb.t (nm1 nt)
  have o_l:=Old.mk (M:=[bx]) tb.l (nm1 n1)
  have o_r:=Old.mk (M:=[bx]) tb.m (nm1 n2)
  have o_m:=Old.mk (M:=[bx]) hm (nm1 nm)
  have o_c:=Old.mk (M:=[bx]) hc (nm1 nc)
  have kt:∀{d:Dt} {v:V} {H1 H2:Hp},Kp bx H1 H2→TrH (hides [bx] H1) d v→TrH (hides [bx] H2) d v:=fun kp tt=>tt.same (hides_off fun a u h e=>kp a u (fun z=>h (by simp [z])) e)
  have tL:TrH (hides [bx] H) (.lst (T_.map rowD)) (.ref l1):=TrH.lst (hides_at.mpr ⟨nm1 n1,tb.l⟩) (lsTr tb.a fun b hb' hm=>nb1 (by rw [← List.mem_singleton.mp hb'];exact hm))
  have tR:TrH (hides [bx] H) (.lst (U_.map rowD)) (.ref l2):=TrH.lst (hides_at.mpr ⟨nm1 n2,tb.m⟩) (lsTr tb.b fun b hb' hm=>nb2 (by rw [← List.mem_singleton.mp hb'];exact hm))
  have sL:=sm_lst (rows_sm rl s240) (by rw [List.length_map];omega)
  have sR:=sm_lst (rows_sm ru s240) (by rw [List.length_map];omega)
  have nbt:∀{H':Hp} {p:Addr} {xs:List V} {x' y' z':Int},H' bx=some (.lst [.int x',.int y',.int z'])→H' p=some (.tup xs)→p≠bx:=fun e1 e2 z=>by rw [z,e1] at e2;cases e2
  have two:∀{d e:Dt},depD d≤2∧widD d→depD e≤2∧widD e→depD (.tup [d,e])≤4∧widD (.tup [d,e]):=fun h1 h2=>by
   have:=sm_tup (n:=2) (ds:=[_]++[_]) ((Sm.one h1.1 h1.2).append (Sm.one h2.1 h2.2)) (by simp)
   exact ⟨Nat.le_trans this.1 (by omega),this.2⟩
  repeat k_meth
  refine i_dec (fun h=>?_) (fun h=>?_)
  ·repeat k_meth
   refine ⟨bx,l1,m,c,_,_,_,ys,zs,T_,rs,gs,s,rfl,hatC,hatC,tb.a.kept (fun q u hm e=>F.fr q u (nm1 fun z=>nb1 (z▸hm)) e),hatC,TpA.e,hatC,⟨n1,nm,nc,nb1⟩,⟨Tl,few,s240,gl_⟩,gpos,rl,fun v d x' y' z' H2 kp hb tv sm_ sh=>?_⟩
   have kp1:Kp bx H H2:=F.kpo.trans kp
   clear F
   have F:SH H2 [bx] H2 [(bx,.lst [.int x',.int y',.int z'])] []:=SH.nil.addM (M:=[bx]) (by simp) hb rfl (by simp)
   repeat k_meth
   have hb2:H_ bx=some (.lst [.int x',.int y',.int z']):=hatC
   have hp2:H_ p_=some (.tup [v,.ref l2]):=hatC
   exact k _ (some (.tup [d,.lst (U_.map rowD)])) _ _ _ _ (kp1.trans F.kpo) hb2 ⟨TrH.tup (hides_at.mpr ⟨nm1 (nbt hb2 hp2),hp2⟩) ((TrsH.one (kt F.kpo tv)).append (TrsH.one (kt (kp1.trans F.kpo) tR))),two sm_ sR⟩
  repeat k_meth
  refine i_dec (fun h2=>?_) (fun h2=>?_)
  ·repeat k_meth
   rename_i pr _ pm
   obtain ⟨pg,e_⟩:∃q,q=p_:=⟨_,rfl⟩
   subst e_
   have hpr:H_ pr=some (.lst us.reverse):=hatC
   have hpm:H_ pm=some (.lst zs.reverse):=hatC
   have hpg:H_ pg=some (.lst (gs.reverse.map V.int)):=by rw [List.map_reverse];exact hatC
   have lsr:LsAt H_ us.reverse U_.reverse:=(tb.b.kept fun q u hm e=>F.fr q u (nm1 fun z=>nb2 (z▸hm)) e).rev
   have tpr:TupsAt H_ zs.reverse (rowsV rs.reverse):=tupsR TpA.e
   refine ⟨bx,pr,pm,pg,_,_,_,us.reverse,zs.reverse,U_.reverse,rs.reverse,gs.reverse,s,rfl,hatC,hpr,lsr,hpm,tpr,hpg,⟨SH.neC (F:=F),SH.neC (F:=F),SH.neC (F:=F),fun hm=>nb2 (List.mem_reverse.mp hm)⟩,⟨by rw [List.length_reverse,List.length_reverse];exact Ul,by rw [List.length_reverse];exact few,s240,by rw [List.length_reverse,List.length_reverse];exact gl_⟩,fun x hx=>gpos x (List.mem_reverse.mp hx),fun r hr=>ru r (List.mem_reverse.mp hr),fun v d x' y' z' H2 kp hb tv sm_ sh=>?_⟩
   have kp1:Kp bx H H2:=F.kpo.trans kp
   clear F
   have F:SH H2 [bx] H2 [(bx,.lst [.int x',.int y',.int z'])] []:=SH.nil.addM (M:=[bx]) (by simp) hb rfl (by simp)
   obtain ⟨ds,rfl | rfl⟩:=sh
   ·simp only [TrH] at tv
    obtain ⟨q,xs,rfl,hq,ts⟩:=tv
    have hq2:=(hides_at.mp hq).2
    have hq1:=(hides_at.mp hq).1
    have o_q:=Old.mk (M:=[bx]) hq2 hq1
    repeat k_meth
    refine ⟨q,xs,rfl,rfl,.inl ⟨SqA.e,fun p9 H9 n9=>?_⟩⟩
    replace F:=F.newL n9
    repeat k_meth
    have hb2:H_ bx=some (.lst [.int x',.int y',.int z']):=hatC
    have hp2:H_ p_=some (.tup [.ref l1,.ref p9]):=hatC
    have hp9:H_ p9=some (.lst xs.reverse):=hatC
    simp only [depD,widD] at sm_
    refine k _ (some (.tup [.lst (T_.map rowD),.lst ds.reverse])) _ _ _ _ (kp1.trans F.kpo) hb2 ⟨TrH.tup (hides_at.mpr ⟨nm1 (nbt hb2 hp2),hp2⟩) ((TrsH.one (kt (kp1.trans F.kpo) tL)).append (TrsH.one (TrH.lst (hides_at.mpr ⟨nm1 (SH.neC (F:=F)),hp9⟩) (ts.same (hides_off fun a u h e=>F.kpo a u (fun z=>h (by simp [z])) e)).rev))),two sL ?_⟩
    have e1:Sm 1 ds:=fun d hd=>sm_mem sm_.1 sm_.2.2 hd
    exact sm_lst e1.rev (by rw [List.length_reverse];exact sm_.2.1)
   ·simp only [TrH] at tv
    obtain ⟨q,xs,rfl,hq,ts⟩:=tv
    have hq2:=(hides_at.mp hq).2
    have hq1:=(hides_at.mp hq).1
    have o_q:=Old.mk (M:=[bx]) hq2 hq1
    repeat k_meth
    refine ⟨q,xs,rfl,rfl,.inr ⟨SqT.of hatC,fun p9 H9 n9=>?_⟩⟩
    replace F:=F.newT n9
    repeat k_meth
    have hb2:H_ bx=some (.lst [.int x',.int y',.int z']):=hatC
    have hp2:H_ p_=some (.tup [.ref l1,.ref p9]):=hatC
    have hp9:H_ p9=some (.tup xs.reverse):=hatC
    simp only [depD,widD] at sm_
    refine k _ (some (.tup [.lst (T_.map rowD),.tup ds.reverse])) _ _ _ _ (kp1.trans F.kpo) hb2 ⟨TrH.tup (hides_at.mpr ⟨nm1 (nbt hb2 hp2),hp2⟩) ((TrsH.one (kt (kp1.trans F.kpo) tL)).append (TrsH.one (TrH.tup (hides_at.mpr ⟨nm1 (nbt hb2 hp9),hp9⟩) (ts.same (hides_off fun a u h e=>F.kpo a u (fun z=>h (by simp [z])) e)).rev))),two sL ?_⟩
    have e1:Sm 1 ds:=fun d hd=>sm_mem sm_.1 sm_.2.2 hd
    exact sm_tup e1.rev (by rw [List.length_reverse];exact sm_.2.1)
  repeat k_meth
  refine i_dec (fun h3=>?_) (fun h3=>?_)
  ·repeat k_meth
   rename_i q0 _ q1 _ q2 _ q3 _ q4 _
   have hb2:H_ bx=some (.lst [.int x_,.int y_,.int z_]):=hatC
   have h0:H_ q0=some (.tup [.ref l2,.ref l1]):=hatC
   have h1:H_ q1=some (.tup [.ref l1,.ref l2,.ref l1]):=hatC
   have h4:H_ q2=some (.lst [.ref l1,.ref l2]):=hatC
   have h5:H_ q3=some (.tup [.ref l1]):=hatC
   have h6:H_ q4=some (.tup [.ref l1,.ref l1]):=hatC
   have tl:=TrsH.one (kt F.kpo tL)
   have tr:=TrsH.one (kt F.kpo tR)
   have s1:=Sm.one sL.1 sL.2
   have s2:=Sm.one sR.1 sR.2
   have up:∀{d:Dt},depD d≤2 + 1∧widD d→depD d≤4∧widD d:=fun h=>⟨Nat.le_trans h.1 (by omega),h.2⟩
   rcases (show r_=0∨r_=1∨r_=2∨r_=3∨r_=4 by omega) with rfl | rfl | rfl | rfl | rfl
   ·have at_9:AtI [V.ref q0,V.ref q1,V.ref q2,V.ref q3,V.ref q4] 0 (.ref q0):=⟨rfl⟩
    repeat k_meth
    exact k _ (some (.tup ([_]++[_]))) _ _ _ _ F.kpo hb2 ⟨TrH.tup (hides_at.mpr ⟨nm1 (nbt hb2 h0),h0⟩) (tr.append tl),up (sm_tup (s2.append s1) (by simp))⟩
   ·have at_9:AtI [V.ref q0,V.ref q1,V.ref q2,V.ref q3,V.ref q4] 1 (.ref q1):=⟨rfl⟩
    repeat k_meth
    exact k _ (some (.tup ([_]++([_]++[_])))) _ _ _ _ F.kpo hb2 ⟨TrH.tup (hides_at.mpr ⟨nm1 (nbt hb2 h1),h1⟩) (tl.append (tr.append tl)),up (sm_tup (s1.append (s2.append s1)) (by simp))⟩
   ·have at_9:AtI [V.ref q0,V.ref q1,V.ref q2,V.ref q3,V.ref q4] 2 (.ref q2):=⟨rfl⟩
    repeat k_meth
    exact k _ (some (.lst ([_]++[_]))) _ _ _ _ F.kpo hb2 ⟨TrH.lst (hides_at.mpr ⟨nm1 (SH.neC (F:=F)),h4⟩) (tl.append tr),up (sm_lst (s1.append s2) (by simp))⟩
   ·have at_9:AtI [V.ref q0,V.ref q1,V.ref q2,V.ref q3,V.ref q4] 3 (.ref q3):=⟨rfl⟩
    repeat k_meth
    exact k _ (some (.tup [_])) _ _ _ _ F.kpo hb2 ⟨TrH.tup (hides_at.mpr ⟨nm1 (nbt hb2 h5),h5⟩) tl,up (sm_tup s1 (by simp))⟩
   ·have at_9:AtI [V.ref q0,V.ref q1,V.ref q2,V.ref q3,V.ref q4] 4 (.ref q4):=⟨rfl⟩
    repeat k_meth
    exact k _ (some (.tup ([_]++[_]))) _ _ _ _ F.kpo hb2 ⟨TrH.tup (hides_at.mpr ⟨nm1 (nbt hb2 h6),h6⟩) (tl.append tl),up (sm_tup (s1.append s1) (by simp))⟩
  repeat k_meth
  rename_i d3 _ l4 _ t5 _ t7 _ a8 _ b8 _ t8 _ t9 _
  have hb2:H_ bx=some (.lst [.int x_,.int y_,.int z_]):=hatC
  have h3:H_ d3=some (.dK []):=hatC
  have h4:H_ l4=some (.lst []):=hatC
  have h5:H_ t5=some (.tup []):=hatC
  have h7:H_ t7=some (.tup [.non,.non]):=hatC
  have h8:H_ t8=some (.tup [.ref a8,.ref b8]):=hatC
  have ha:H_ a8=some (.lst []):=hatC
  have hb:H_ b8=some (.lst []):=hatC
  have h9:H_ t9=some (.tup [.int 0,.ref l1]):=hatC
  have na:a8≠bx:=SH.neC (F:=F)
  have nb:b8≠bx:=SH.neC (F:=F)
  have n4:l4≠bx:=SH.neC (F:=F)
  have tl:=kt F.kpo tL
  have e0:∀{d:Dt},depD d≤0∧widD d→depD d≤4∧widD d:=fun h=>⟨Nat.le_trans h.1 (by omega),h.2⟩
  rcases (show r_=0∨r_=1∨r_=2∨r_=3∨r_=4∨r_=5∨r_=6∨r_=7∨r_=8∨r_=9 by omega) with rfl | rfl | rfl | rfl | rfl | rfl | rfl | rfl | rfl | rfl
  ·have at_9:AtI [V.non,V.int 5,V.str (Str.ofString "prices"),V.ref d3,V.ref l4,V.ref t5,V.bl true,V.ref t7,V.ref t8,V.ref t9] 0 (.non):=⟨rfl⟩
   repeat k_meth
   exact k _ (some (.non)) _ _ _ _ F.kpo hb2 ⟨by simp [TrH],by simp [depD],by simp [widD]⟩
  ·have at_9:AtI [V.non,V.int 5,V.str (Str.ofString "prices"),V.ref d3,V.ref l4,V.ref t5,V.bl true,V.ref t7,V.ref t8,V.ref t9] 1 (.int 5):=⟨rfl⟩
   repeat k_meth
   exact k _ (some ((.int 5))) _ _ _ _ F.kpo hb2 ⟨by simp [TrH],by simp [depD],by simp [widD]⟩
  ·have at_9:AtI [V.non,V.int 5,V.str (Str.ofString "prices"),V.ref d3,V.ref l4,V.ref t5,V.bl true,V.ref t7,V.ref t8,V.ref t9] 2 (.str (Str.ofString "prices")):=⟨rfl⟩
   repeat k_meth
   exact k _ (some ((.str (Str.ofString "prices")))) _ _ _ _ F.kpo hb2 ⟨by simp [TrH],by simp [depD],by simp [widD]⟩
  ·have at_9:AtI [V.non,V.int 5,V.str (Str.ofString "prices"),V.ref d3,V.ref l4,V.ref t5,V.bl true,V.ref t7,V.ref t8,V.ref t9] 3 (.ref d3):=⟨rfl⟩
   repeat k_meth
   exact k _ none _ _ _ _ F.kpo hb2 ⟨d3,rfl,h3⟩
  ·have at_9:AtI [V.non,V.int 5,V.str (Str.ofString "prices"),V.ref d3,V.ref l4,V.ref t5,V.bl true,V.ref t7,V.ref t8,V.ref t9] 4 (.ref l4):=⟨rfl⟩
   repeat k_meth
   exact k _ (some ((.lst []))) _ _ _ _ F.kpo hb2 ⟨TrH.lst (hides_at.mpr ⟨nm1 n4,h4⟩) rfl,by simp [depD,depDs],by simp [widD,widDs]⟩
  ·have at_9:AtI [V.non,V.int 5,V.str (Str.ofString "prices"),V.ref d3,V.ref l4,V.ref t5,V.bl true,V.ref t7,V.ref t8,V.ref t9] 5 (.ref t5):=⟨rfl⟩
   repeat k_meth
   exact k _ (some ((.tup []))) _ _ _ _ F.kpo hb2 ⟨TrH.tup (hides_at.mpr ⟨nm1 (nbt hb2 h5),h5⟩) rfl,by simp [depD,depDs],by simp [widD,widDs]⟩
  ·have at_9:AtI [V.non,V.int 5,V.str (Str.ofString "prices"),V.ref d3,V.ref l4,V.ref t5,V.bl true,V.ref t7,V.ref t8,V.ref t9] 6 (.bl true):=⟨rfl⟩
   repeat k_meth
   exact k _ (some ((.bl true))) _ _ _ _ F.kpo hb2 ⟨by simp [TrH],by simp [depD],by simp [widD]⟩
  ·have at_9:AtI [V.non,V.int 5,V.str (Str.ofString "prices"),V.ref d3,V.ref l4,V.ref t5,V.bl true,V.ref t7,V.ref t8,V.ref t9] 7 (.ref t7):=⟨rfl⟩
   repeat k_meth
   exact k _ (some ((.tup [.non,.non]))) _ _ _ _ F.kpo hb2 ⟨TrH.tup (hides_at.mpr ⟨nm1 (nbt hb2 h7),h7⟩) (by simp [TrsH,TrH]),by simp [depD,depDs],by simp [widD,widDs]⟩
  ·have at_9:AtI [V.non,V.int 5,V.str (Str.ofString "prices"),V.ref d3,V.ref l4,V.ref t5,V.bl true,V.ref t7,V.ref t8,V.ref t9] 8 (.ref t8):=⟨rfl⟩
   repeat k_meth
   exact k _ (some ((.tup [.lst [],.lst []]))) _ _ _ _ F.kpo hb2 ⟨TrH.tup (hides_at.mpr ⟨nm1 (nbt hb2 h8),h8⟩) ((TrsH.one (TrH.lst (ds:=[]) (hides_at.mpr ⟨nm1 na,ha⟩) rfl)).append (TrsH.one (TrH.lst (ds:=[]) (hides_at.mpr ⟨nm1 nb,hb⟩) rfl))),by simp [depD,depDs],by simp [widD,widDs]⟩
  ·have at_9:AtI [V.non,V.int 5,V.str (Str.ofString "prices"),V.ref d3,V.ref l4,V.ref t5,V.bl true,V.ref t7,V.ref t8,V.ref t9] 9 (.ref t9):=⟨rfl⟩
   repeat k_meth
   exact k _ (some ((.tup [.int 0,.lst (T_.map rowD)]))) _ _ _ _ F.kpo hb2 ⟨TrH.tup (hides_at.mpr ⟨nm1 (nbt hb2 h9),h9⟩) ((TrsH.one (d:=.int 0) (by simp [TrH])).append (TrsH.one tl)),two (d:=.int 0) (by simp [depD,widD]) sL⟩
end
theorem gp_nn {n:Nat}:∀(rs:List Rw) (g:List Int×Int),Asc rs→(∀r∈rs,g.2≤(r.st:Int)∧r.st + r.sz≤n)→(∀x∈g.1,0≤x)→g.2≤(n:Int) →
  (∀x∈(rs.foldl (fun g r=>(g.1++[(r.st:Int) - g.2],(r.st:Int) + (r.sz:Int))) g).1,0≤x)∧(rs.foldl (fun g r=>(g.1++[(r.st:Int) - g.2],(r.st:Int) + (r.sz:Int))) g).2≤(n:Int)
 | [],g,_,_,h1,h2=>⟨h1,h2⟩
 | r::t,g,as,hr,h1,h2=>by
  rw [List.foldl_cons]
  obtain ⟨a1,a2⟩:=List.pairwise_cons.mp as
  obtain ⟨b1,b2⟩:=hr r List.mem_cons_self
  refine gp_nn t _ a2 (fun s hs=>⟨?_,(hr s (List.mem_cons_of_mem _ hs)).2⟩) (fun x hx=>?_) ?_
  ·have:=a1 s hs
   show (r.st:Int) + r.sz≤s.st
   omega
  ·rcases List.mem_append.mp hx with hx | hx
   ·exact h1 x hx
   ·rw [List.mem_singleton.mp hx]
    omega
  ·show (r.st:Int) + r.sz≤n
   omega
theorem gaps_nn {n:Nat} {rs:List Rw} (ly:Lay n rs) (as:Asc rs):∀g∈gapsOf n rs,0≤g:=by
 obtain ⟨h1,h2⟩:=gp_nn (n:=n) rs ([],0) as (fun r hr=>⟨Int.natCast_nonneg _,(ly.good r hr).le⟩) (by simp) (Int.natCast_nonneg _)
 intro g hg
 unfold gapsOf at hg
 rcases List.mem_append.mp hg with hg | hg
 ·exact h1 g hg
 ·rw [List.mem_singleton.mp hg]
  unfold gp
  omega
theorem gaps_len (n:Nat) (rs:List Rw):(gapsOf n rs).length=rs.length + 1:=by unfold gapsOf;rw [List.length_append,gp_len];rfl
theorem Tab.off {H H':Hp} {t l m:Addr} {ys zs:List V} {T U:List PR} (h:Tab H t l m ys zs T U) (k:∀q u,q=t∨q=l∨q=m∨V.ref q∈ys∨V.ref q∈zs→H q=some u→H' q=some u):Tab H' t l m ys zs T U :=
 ⟨k _ _ (.inl rfl) h.t,k _ _ (.inr (.inl rfl)) h.l,h.a.kept fun q u hm e=>k q u (.inr (.inr (.inr (.inl hm)))) e,k _ _ (.inr (.inr (.inl rfl))) h.m,h.b.kept fun q u hm e=>k q u (.inr (.inr (.inr (.inr hm)))) e⟩
theorem lay_take {n:Nat} {rs:List Rw} (h:Lay n rs) (k:Nat):Lay n (rs.take k):=⟨fun r hr=>h.good r (List.mem_of_mem_take hr),h.ap.sublist (List.take_sublist ..),by have:=h.few;rw [List.length_take];omega⟩
theorem asc_take {rs:List Rw} (h:Asc rs) (k:Nat):Asc (rs.take k):=List.Pairwise.sublist (List.take_sublist ..) h
theorem left_rev {rs:List Rw} {gs:List Int} {s:Nat} (hl:gs.length=rs.length + 1):∀i,i≤rs.length→leftR rs.reverse gs.reverse s i=rightR rs gs s i
 | 0,_=>rfl
 | i + 1,h=>by
  have e:gs.reverse.getD i 0=gs.getD (rs.length - i) 0:=by
   rw [List.getD_eq_getElem?_getD,List.getD_eq_getElem?_getD,List.getElem?_reverse (by omega),show gs.length - 1 - i=rs.length - i by omega]
  rw [leftR,rightR,List.getElem?_reverse (by omega),left_rev hl i (by omega),e]
  all_goals (cases rs[rs.length - 1 - i]? <;> rfl)
theorem leftT_rev {rs:List Rw} {gs:List Int} {s:Nat} (hl:gs.length=rs.length + 1):leftT rs.reverse gs.reverse s rs.reverse.length=rightT rs gs s rs.length:=by
 unfold leftT rightT
 rw [List.length_reverse]
 exact List.map_congr_left fun i hi=>left_rev hl i (by have:=List.mem_range.mp hi;omega)
theorem tups_take {H:Hp} {ys:List V} {rs:List (List V)} (h:TupsAt H ys rs) (k:Nat):TupsAt H (ys.take k) (rs.take k):=by
 refine ⟨by rw [List.length_take,List.length_take,h.1],fun j r e=>?_⟩
 rw [List.getElem?_take] at e ⊢
 split at e
 ·rw [if_pos (by assumption)]
  exact h.2 j r e
 ·cases e
theorem tups_kp {H H':Hp} {b:Addr} {l:List V} {ys:List V} {rs:List (List V)} (h:TupsAt H ys rs) (kp:Kp b H H') (hb:H b=some (.lst l)):TupsAt H' ys rs:=⟨h.1,fun j r e=>by
 obtain ⟨q,a,c⟩:=h.2 j r e
 exact ⟨q,a,kp q _ (fun z=>by rw [z,hb] at c;cases c) c⟩⟩
theorem tho_kp {H H':Hp} {b:Addr} {l:List V} {o:Option Dt} {v:V} (h:ThO [b] H o v) (kp:Kp b H H') (hb:H b=some (.lst l)):ThO [b] H' o v:=by
 cases o with
 | some d=>exact ⟨h.1.same (hides_off fun a u n e=>kp a u (fun z=>n (by simp [z])) e),h.2⟩
 | none =>
  obtain ⟨p,e,hp⟩:=h
  exact ⟨p,e,kp p _ (fun z=>by rw [z,hb] at hp;cases hp) hp⟩
theorem tho_any {H H':Hp} {B:List Addr} {o:Option Dt} {v:V} (h:ThO B H o v) (s:Same H H'):(∃d,TrH H' d v∧depD d≤4∧widD d)∨∃p,v=.ref p∧H' p=some (.dK []):=by
 cases o with
 | some d=>exact .inl ⟨d,(h.1.same hides_sub).same s,h.2⟩
 | none =>
  obtain ⟨p,e,hp⟩:=h
  exact .inr ⟨p,e,s _ _ hp⟩
theorem lays_kp {CL:Addr} {H H':Hp} {x p dx:Addr} {n:Nat} {zs:List V} {rs:List Rw} {s:Nat} {b:Addr} {l:List V} (h:LayS CL H x p dx n zs rs s) (kp:Kp b H H') (hb:H b=some (.lst l)) (hp:p≠b):LayS CL H' x p dx n zs rs s :=
 ⟨kp _ _ (fun z=>by have:=h.x;rw [z,hb] at this;cases this) h.x,kp _ _ hp h.p,tups_kp h.t kp hb,h.few,h.s1,h.s2,h.g⟩
theorem tab_kp {H H':Hp} {t l m b:Addr} {ys zs xs:List V} {T U:List PR} (h:Tab H t l m ys zs T U) (kp:Kp b H H') (hb:H b=some (.lst xs)) (n1:l≠b) (n2:m≠b) (n3:V.ref b ∉ ys) (n4:V.ref b ∉ zs):Tab H' t l m ys zs T U:=h.off fun q u hq e=>kp q u (fun z=>by
 subst z
 rcases hq with h1 | h1 | h1 | h1 | h1
 ·have h2:=h.t
  rw [← h1,hb] at h2
  cases h2
 ·exact n1 h1.symm
 ·exact n2 h1.symm
 ·exact n3 h1
 ·exact n4 h1) e
theorem tab_tr {H:Hp} {t l m:Addr} {ys zs:List V} {T U:List PR} (h:Tab H t l m ys zs T U):TrH H (tabD T U) (.ref t):=by
 have a:=lsTr (B:=[]) h.a (by simp)
 have b:=lsTr (B:=[]) h.b (by simp)
 rw [hides_nil] at a b
 exact TrH.tup h.t ((TrsH.one (TrH.lst h.l a)).append (TrsH.one (TrH.lst h.m b)))
theorem tab_sm {T U:List PR} {s:Nat} (h1:∀r∈T,List.length r=s + 1) (h2:∀r∈U,List.length r=s + 1) (l1:T.length≤1000) (l2:U.length≤1000) (hs:s≤240):depD (tabD T U)≤4∧widD (tabD T U):=by
 have a:=sm_lst (rows_sm h1 hs) (by rw [List.length_map];exact l1)
 have b:=sm_lst (rows_sm h2 hs) (by rw [List.length_map];exact l2)
 have:=sm_tup (n:=2) (ds:=[_]++[_]) ((Sm.one a.1 a.2).append (Sm.one b.1 b.2)) (by simp)
 exact ⟨Nat.le_trans this.1 (by omega),this.2⟩
def sp_law (P:Addr) (K:W.Frag):Sp:=fun vs H Q _=>∃(a:Addr) (ns:List Int),vs=[.ref a]∧SqL K H a (ns.map V.int)∧ns.length≤63∧H P=some (.tbl #[])∧a≠P∧∀H',Q (.bl true) H'
section
variable {P:Program} {w:World} {K:W.Frag} {mg:Str→Option Value} {base:Heap} {c:Nat→Addr} {ct_Linit pt_Linit R CL:Addr}
theorem ok_law (T:Txt K mg c R CL ct_Linit pt_Linit) (B:Bm mg base) {f:Addr} {fd:FuncData} (F:Fun K "law" "law" s_law f fd):FnOk P w K mg base CX0 9 f fd ["_law_script"] (sp_law pt_Linit K):=by
 have D_box:=D_box (P:=P) (w:=w) (base:=base) T
 have D_lgaps:=D_lgaps (P:=P) (w:=w) (base:=base) T
 have MK_Linit:=MK_Linit (P:=P) (w:=w) (base:=base) T B
 have D_cell_at:=D_cell_at (P:=P) (w:=w) (base:=base) T
 have D_take:=D_take (P:=P) (w:=w) (base:=base) T
 have D_rows:=D_rows (P:=P) (w:=w) (base:=base) T
 have D_lside:=D_lside (P:=P) (w:=w) (base:=base) T
 have D_lforged:=D_lforged (P:=P) (w:=w) (base:=base) T
 have D_ljudged:=D_ljudged (P:=P) (w:=w) (base:=base) T
 refine fnok_of F sc_law (fun vs H Q E h=>?_) (fun cdv A outer s H vs Q E hr h=>?_)
 ·obtain ⟨a,ns,rfl,_⟩:=h
  rfl
 ·obtain ⟨a,ns,rfl,hS,hl,hP,hne,k⟩:=h
  have nd:=sc_law.nd
  refine' ⟨_,(pss_cons (ps_for PassesOwn.never rfl (pi_range1 rfl T.n_range (pa_cons (pe_callB (call_maxN rfl) rfl T.n_max boot_max (pa_cons pe_int (pa_cons (pe_callB (call_minN rfl) rfl T.n_min boot_min (pa_cons pe_int (pa_cons (pe_callB call_lenN rfl T.n_len boot_len (pa_cons (pv 0) pa_nil)) pa_nil))) pa_nil))) pa_nil)) (pg_name (i:=1) nd rfl (Or.inl rfl)) (pss_cons (ps_set (i:=2) nd rfl (Or.inl rfl) (pe_def D_box hr (pa_cons (pe_def D_cell_at hr (pa_cons (pv 0) (pa_cons (pv 1) pa_nil))) pa_nil)))
    (pss_cons (ps_set (i:=3) nd rfl (Or.inl rfl) (pe_op op_add pe_int (pe_def D_take hr (pa_cons (pv 2) (pa_cons pe_int pa_nil)))))
    (pss_cons (ps_set (i:=4) nd rfl (Or.inl rfl) (pe_slice sl_listA (pe_def D_rows hr (pa_cons (pv 2) (pa_cons (pv 3) pa_nil))) po_none (po_some pe_int)))
    (pss_cons (ps_set (i:=5) nd rfl (Or.inl rfl) (pe_op op_add pe_int (pe_def D_take hr (pa_cons (pv 2) (pa_cons pe_int pa_nil)))))
    (pss_cons (ps_set (i:=6) nd rfl (Or.inl rfl) (pe_def D_lgaps hr (pa_cons (pv 3) (pa_cons (pv 4) pa_nil))))
    (pss_cons (ps_set (i:=7) nd rfl (Or.inl rfl) (pe_makB MK_Linit hr (pa_cons (pv 3) (pa_cons (pv 4) pa_nil))))
    (pss_cons (ps_set (i:=8) nd rfl (Or.inl rfl) (pe_tupA (pa_cons (pe_def D_lside hr (pa_cons (pv 4) (pa_cons (pv 6) (pa_cons (pv 5) pa_nil)))) (pa_cons (pe_revSl (pe_def D_lside hr (pa_cons (pe_revSl (pv 4) (pe_un un_neg pe_int)) (pa_cons (pe_revSl (pv 6) (pe_un un_neg pe_int)) (pa_cons (pv 5) pa_nil)))) (pe_un un_neg pe_int)) pa_nil))))
    (pss_cons (ps_set (i:=9) nd rfl (Or.inl rfl) (pe_tupA (pa_cons (pe_def D_lside hr (pa_cons (pv 4) (pa_cons (pv 6) (pa_cons (pe_op op_add (pv 5) pe_int) pa_nil)))) (pa_cons (pe_revSl (pe_def D_lside hr (pa_cons (pe_revSl (pv 4) (pe_un un_neg pe_int)) (pa_cons (pe_revSl (pv 6) (pe_un un_neg pe_int)) (pa_cons (pe_op op_add (pv 5) pe_int) pa_nil)))) (pe_un un_neg pe_int)) pa_nil))))
    (pss_one (ps_for PassesOwn.never rfl (pi_list (pe_lstA ?pa0)) (pg_name (i:=10) nd rfl (Or.inl rfl)) (pss_one (ps_if (pt_not (pt_val (pe_ei (pe_def D_ljudged hr (pa_cons (pv 7) (pa_cons (pv 5) (pa_cons (pv 10) (pa_cons (pv 8) pa_nil))))) (pe_def (D_ljudgedD (P:=P) (w:=w) (base:=base) T) hr (pa_cons (pv 7) (pa_cons (pv 5) (pa_cons (pv 10) (pa_cons (pv 8) pa_nil)))))))) (pss_one (ps_ret pe_bl)) pss_nil)))))))))))))
   (pss_one (ps_ret pe_bl))),?main⟩
  case pa0 =>
   refine' pa_cons ?a0 ?b0 ?c0
   case a0=>exact (pe_def D_lforged hr (pa_cons (pv 2) (pa_cons (pv 8) (pa_cons (pv 4) (pa_cons (pv 6) pa_nil)))))
   case c0=>rfl
   case b0 =>
    refine' pa_cons ?a1 ?b1 ?c1
    case a1=>exact (pv 8)
    case c1=>rfl
    case b1 =>
     refine' pa_cons ?a2 ?b2 ?c2
     case a2=>exact (pv 9)
     case c2=>rfl
     case b2 =>
      refine' pa_cons ?a3 ?b3 ?c3
      case a3=>exact (pe_def D_lforged hr (pa_cons (pv 2) (pa_cons (pv 8) (pa_cons (pv 4) (pa_cons (pv 6) pa_nil)))))
      case c3=>rfl
      case b3 =>
       refine' pa_cons ?a4 ?b4 ?c4
       case a4=>exact (pv 8)
       case c4=>rfl
       case b4 =>
        exact pa_nil
  clear nd D_box D_lgaps MK_Linit D_cell_at D_take D_rows D_lside D_lforged D_ljudged
  rw [show start ["_law_script", "_law_k", "_law_box_here", "_law_many_here", "_law_rows_here", "_law_size", "_law_gaps_here", "_law_layout", "_law_due", "_law_more", "_law_thing"] [.ref a]=[some (.ref a),none,none,none,none,none,none,none,none,none,none] from rfl]
  try dsimp only [cx_K,cx_K2]
  have iL_many:FldOk K CL "many" := ⟨T.clL,T.aL_many⟩
  have iL_rows:FldOk K CL "rows" := ⟨T.clL,T.aL_rows⟩
  have F:SH H [pt_Linit] H [(pt_Linit,.tbl #[])] [TabI lamPos lamQual #[]]:=(SH.nil.addM List.mem_cons_self hP rfl (by simp)).addF (.inl rfl)
  have o_hS:=OldQ.mk (M:=[pt_Linit]) hS (nm1 hne)
  repeat k_meth
  generalize hN:(max 1 (min 8 ((ns.map V.int).length:Int))).toNat=N
  clear hN
  refine forR0_by (fun i σ' H'=>∃(o1 o2 o3 o4 o5 o6 o7 o8 o9 o10:Option V) (ps:Array Value),σ'=[some (.ref a),o1,o2,o3,o4,o5,o6,o7,o8,o9,o10]∧SH H [pt_Linit] H' [(pt_Linit,.tbl ps)] [TabI lamPos lamQual ps]) ⟨_,_,_,_,_,_,_,_,_,_,_,rfl,F⟩ ?_ ?_
  ·clear F
   rintro i σ' H' hi ⟨_,_,_,_,_,_,_,_,_,_,ps,rfl,F⟩
   repeat k_meth
   obtain ⟨m,em,hm1,hm2⟩:∃m:Nat,16 + r_=(m:Int)∧16≤m∧m≤240:=⟨(16 + r_).toNat,by omega,by omega,by omega⟩
   rw [em]
   repeat k_meth
   intro rs0 ly0 as0
   repeat k_meth
   have tz0:TupsAt H_ ys_ (rowsV rs0):=TpA.e
   rw [show (12:Int)=((12:Nat):Int) from rfl,cut_take] at F
   obtain ⟨zs,ez⟩:∃zs,zs=ys_.take 12:=⟨_,rfl⟩
   obtain ⟨rs,er⟩:∃rs,rs=rs0.take 12:=⟨_,rfl⟩
   have ly:Lay m rs:=er▸lay_take ly0 12
   have as:Asc rs:=er▸asc_take as0 12
   have tz:TupsAt H_ zs (rowsV rs):=by
    rw [ez,er,show rowsV (rs0.take 12)=(rowsV rs0).take 12 by unfold rowsV;rw [List.map_take]]
    exact tups_take tz0 12
   rw [← ez] at F
   have few:=ly.few
   have la:LayA m rs rs:=⟨List.Perm.refl _,ly,as⟩
   replace F:=F.addP tz
   obtain ⟨s,es,hs1,hs2⟩:∃s:Nat,1 + r_=(s:Int)∧1≤s∧s≤40:=⟨(1 + r_).toNat,by omega,by omega,by omega⟩
   rw [es]
   repeat k_meth
   intro ps2
   repeat k_meth
   rename_i bx _ _ _ _ _ _ _ _ _ _ _ l0 y0 _ _ rl bv1 _ _ gl _ _ _
   obtain ⟨H2,e_⟩:∃q,q=H_:=⟨_,rfl⟩
   subst e_
   obtain ⟨lx,e_⟩:∃q,q=x_:=⟨_,rfl⟩
   subst e_
   obtain ⟨ld,e_⟩:∃q,q=dx_:=⟨_,rfl⟩
   subst e_
   obtain ⟨pl,e_⟩:∃q,q=p_:=⟨_,rfl⟩
   subst e_
   obtain ⟨lz,e_⟩:∃q,q=ys_:=⟨_,rfl⟩
   subst e_
   obtain ⟨bv2,e_⟩:∃q,q=y_:=⟨_,rfl⟩
   subst e_
   obtain ⟨bv3,e_⟩:∃q,q=z_:=⟨_,rfl⟩
   subst e_
   have hg:=gaps_nn ly as
   have gll:=gaps_len m rs
   have hb:H2 bx=some (.lst [.int bv1,.int bv2,.int bv3]):=hatC
   have hb2:=hb
   have hrl:H2 rl=some (.lst zs):=hatC
   have trl:TupsAt H2 zs (rowsV rs):=TpA.e
   have hgl:H2 gl=some (.lst ((gapsOf m rs).map V.int)):=hatC
   have lys:LayS CL H2 lx pl ld m lz rs s:=⟨hatC,hatC,TpA.e,few,hs1,by omega,hg⟩
   have n2:pl≠bx:=SH.neC (F:=F)
   have nr:rl≠bx:=SH.neC (F:=F)
   have ng:gl≠bx:=SH.neC (F:=F)
   have back:∀H6 b1 b2 b3,SH H2 [bx] H6 [(bx,.lst [.int b1,.int b2,.int b3])] []→SH H [pt_Linit] H6 [(pt_Linit,.tbl ps2)] [TabI lamPos lamQual ps2]:=fun H6 b1 b2 b3 G=>by
    have F0:SH H [pt_Linit] H2 ([(bx,.lst [.int bv1,.int bv2,.int bv3])]++[(pt_Linit,.tbl ps2)]) [TabI lamPos lamQual ps2]:=F.sub (L':=[(bx,.lst [.int bv1,.int bv2,.int bv3]),(pt_Linit,.tbl ps2)]) SbC.s (by simp)
    have F1:SH H [pt_Linit] H6 [(bx,.lst [.int b1,.int b2,.int b3]),(pt_Linit,.tbl ps2)] ([]++[TabI lamPos lamQual ps2]):=SH.over F0 G rfl
    exact F1.sub SbC.s (by simp)
   clear F
   have F:SH H2 [] H2 [] [.tps zs (rowsV rs)]:=SH.nil.addP trl
   have o_rl:=Old.mk (M:=[]) hrl nm0
   have o_gl:=Old.mk (M:=[]) hgl nm0
   refine ⟨rl,gl,zs,rs,gapsOf m rs,s,rfl,hatC,TpA.e,hatC,⟨few,by omega,gll⟩,hg,fun q1 us1 Ha1 sa1 hq1 ls1 fr1 _=>?_⟩
   have ba1:Same H2 Ha1:=F.sm.trans sa1
   clear F o_rl o_gl
   replace hrl:=ba1 _ _ hrl
   replace hgl:=ba1 _ _ hgl
   replace trl:=trl.same ba1
   have F:SH Ha1 [] Ha1 [] [.tps zs (rowsV rs)]:=SH.nil.addP trl
   have o_rl:=Old.mk (M:=[]) hrl nm0
   have o_gl:=Old.mk (M:=[]) hgl nm0
   repeat k_meth
   rename_i pr1
   obtain ⟨pg1,e_⟩:∃q,q=p_:=⟨_,rfl⟩
   subst e_
   refine ⟨pr1,pg1,zs.reverse,rs.reverse,(gapsOf m rs).reverse,s,rfl,hatC,tupsR TpA.e,by rw [List.map_reverse];exact hatC,⟨by rw [List.length_reverse];exact few,by omega,by rw [List.length_reverse,List.length_reverse];exact gll⟩,fun x hx=>hg x (List.mem_reverse.mp hx),fun r1 vs1 Hb1 sb1 hr1 lr1 gr1 _=>?_⟩
   rw [leftT_rev gll] at lr1
   have bb1:Same Ha1 Hb1:=F.sm.trans sb1
   have fb1:∀a u,Ha1 a=some u→V.ref a ∉ vs1:=fun a u e=>(gr1 a u (F.sm _ _ e)).2
   clear F o_rl o_gl
   replace hrl:=bb1 _ _ hrl
   replace hgl:=bb1 _ _ hgl
   replace trl:=trl.same bb1
   have F:SH Hb1 [] Hb1 [] [.tps zs (rowsV rs)]:=SH.nil.addP trl
   have o_rl:=Old.mk (M:=[]) hrl nm0
   have o_gl:=Old.mk (M:=[]) hgl nm0
   have o_r:=Old.mk (M:=[]) hr1 nm0
   repeat k_meth
   clear o_r
   rename_i c1
   obtain ⟨t1,e_⟩:∃q,q=p_:=⟨_,rfl⟩
   subst e_
   obtain ⟨H5,e_⟩:∃q,q=H_:=⟨_,rfl⟩
   subst e_
   have sc1:Same Hb1 H5:=F.sm
   have tab1:Tab H5 t1 q1 c1 us1 vs1.reverse (leftT rs (gapsOf m rs) s rs.length) (rightT rs (gapsOf m rs) s rs.length).reverse:=⟨hatC,sc1 _ _ (bb1 _ _ hq1),ls1.kept fun q u _ e=>sc1 _ _ (bb1 _ _ e),hatC,(lr1.kept fun q u _ e=>sc1 _ _ e).rev⟩
   have bH1:Same H2 H5:=(ba1.trans bb1).trans sc1
   have na1:q1≠bx:=Ne.symm (fr1 bx _ hb).1
   have nb1:V.ref bx ∉ us1:=(fr1 bx _ hb).2
   have nd1:V.ref bx ∉ vs1.reverse:=fun z=>fb1 bx _ (ba1 _ _ hb) (List.mem_reverse.mp z)
   have nc1:c1≠bx:=fun z=>F.fresh (LkL.m (o:=.lst _)) nm0 bx _ (bb1 _ _ (ba1 _ _ hb)) z.symm
   replace hb:=bH1 _ _ hb
   replace lys:=lys.same bH1
   replace hrl:=sc1 _ _ hrl
   replace hgl:=sc1 _ _ hgl
   replace trl:=trl.same sc1
   clear F o_rl o_gl hq1 ls1 fr1 hr1 lr1 gr1 fb1
   have F:SH H5 [] H5 [] [.tps zs (rowsV rs)]:=SH.nil.addP trl
   have o_rl:=Old.mk (M:=[]) hrl nm0
   have o_gl:=Old.mk (M:=[]) hgl nm0
   rw [show (s:Int) + 1=((s + 1:Nat):Int) by omega]
   refine ⟨rl,gl,zs,rs,gapsOf m rs,(s + 1),rfl,hatC,TpA.e,hatC,⟨few,by omega,gll⟩,hg,fun q2 us2 Ha2 sa2 hq2 ls2 fr2 _=>?_⟩
   have ba2:Same H5 Ha2:=F.sm.trans sa2
   clear F o_rl o_gl
   replace hrl:=ba2 _ _ hrl
   replace hgl:=ba2 _ _ hgl
   replace trl:=trl.same ba2
   have F:SH Ha2 [] Ha2 [] [.tps zs (rowsV rs)]:=SH.nil.addP trl
   have o_rl:=Old.mk (M:=[]) hrl nm0
   have o_gl:=Old.mk (M:=[]) hgl nm0
   repeat k_meth
   rename_i pr2
   obtain ⟨pg2,e_⟩:∃q,q=p_:=⟨_,rfl⟩
   subst e_
   rw [show (s:Int) + 1=((s + 1:Nat):Int) by omega]
   refine ⟨pr2,pg2,zs.reverse,rs.reverse,(gapsOf m rs).reverse,(s + 1),rfl,hatC,tupsR TpA.e,by rw [List.map_reverse];exact hatC,⟨by rw [List.length_reverse];exact few,by omega,by rw [List.length_reverse,List.length_reverse];exact gll⟩,fun x hx=>hg x (List.mem_reverse.mp hx),fun r2 vs2 Hb2 sb2 hr2 lr2 gr2 _=>?_⟩
   rw [leftT_rev gll] at lr2
   have bb2:Same Ha2 Hb2:=F.sm.trans sb2
   have fb2:∀a u,Ha2 a=some u→V.ref a ∉ vs2:=fun a u e=>(gr2 a u (F.sm _ _ e)).2
   clear F o_rl o_gl
   replace hrl:=bb2 _ _ hrl
   replace hgl:=bb2 _ _ hgl
   replace trl:=trl.same bb2
   have F:SH Hb2 [] Hb2 [] [.tps zs (rowsV rs)]:=SH.nil.addP trl
   have o_rl:=Old.mk (M:=[]) hrl nm0
   have o_gl:=Old.mk (M:=[]) hgl nm0
   have o_r:=Old.mk (M:=[]) hr2 nm0
   repeat k_meth
   clear o_r
   rename_i c2
   obtain ⟨t2,e_⟩:∃q,q=p_:=⟨_,rfl⟩
   subst e_
   obtain ⟨H8,e_⟩:∃q,q=H_:=⟨_,rfl⟩
   subst e_
   have sc2:Same Hb2 H8:=F.sm
   have tab2:Tab H8 t2 q2 c2 us2 vs2.reverse (leftT rs (gapsOf m rs) (s + 1) rs.length) (rightT rs (gapsOf m rs) (s + 1) rs.length).reverse:=⟨hatC,sc2 _ _ (bb2 _ _ hq2),ls2.kept fun q u _ e=>sc2 _ _ (bb2 _ _ e),hatC,(lr2.kept fun q u _ e=>sc2 _ _ e).rev⟩
   have bH2:Same H5 H8:=(ba2.trans bb2).trans sc2
   have na2:q2≠bx:=Ne.symm (fr2 bx _ hb).1
   have nb2:V.ref bx ∉ us2:=(fr2 bx _ hb).2
   have nd2:V.ref bx ∉ vs2.reverse:=fun z=>fb2 bx _ (ba2 _ _ hb) (List.mem_reverse.mp z)
   have nc2:c2≠bx:=fun z=>F.fresh (LkL.m (o:=.lst _)) nm0 bx _ (bb2 _ _ (ba2 _ _ hb)) z.symm
   replace hb:=bH2 _ _ hb
   replace lys:=lys.same bH2
   replace hrl:=sc2 _ _ hrl
   replace hgl:=sc2 _ _ hgl
   replace trl:=trl.same sc2
   clear F o_rl o_gl hq2 ls2 fr2 hr2 lr2 gr2 fb2
   replace tab1:=tab1.same bH2
   have kp8:Kp bx H2 H8:=fun a u _ e=>bH2 _ _ (bH1 _ _ e)
   refine ⟨bx,t1,q1,c1,rl,gl,bv1,bv2,bv3,us1,vs1.reverse,zs,_,_,rs,gapsOf m rs,s,rfl,hb,tab1,hrl,trl,hgl,⟨na1,nc1,nr,ng,nb1,nd1⟩,⟨leftT_len.1,rightT_len.1,few,by omega,gll⟩,hg,leftT_len.2,rightT_len.2,fun v1 o1 x1 y1 z1 H9 kp9 hb9 th1=>?_⟩
   replace tab1:=tab_kp tab1 kp9 hb na1 nc1 nb1 nd1
   replace tab2:=tab_kp tab2 kp9 hb na2 nc2 nb2 nd2
   replace lys:=lays_kp lys kp9 hb n2
   replace hrl:=kp9 _ _ nr hrl
   replace hgl:=kp9 _ _ ng hgl
   replace trl:=tups_kp trl kp9 hb
   clear hb
   have F:SH H9 [bx] H9 [(bx,.lst [.int x1,.int y1,.int z1])] []:=SH.nil.addM (M:=[bx]) (by simp) hb9 rfl (by simp)
   repeat k_meth
   refine ⟨bx,t1,q1,c1,rl,gl,x1,y1,z1,us1,vs1.reverse,zs,_,_,rs,gapsOf m rs,s,rfl,hb9,tab1,hrl,trl,hgl,⟨na1,nc1,nr,ng,nb1,nd1⟩,⟨leftT_len.1,rightT_len.1,few,by omega,gll⟩,hg,leftT_len.2,rightT_len.2,fun v2 o2 x2 y2 z2 H10 kp10 hb10 th2=>?_⟩
   replace tab1:=tab_kp tab1 kp10 hb9 na1 nc1 nb1 nd1
   replace tab2:=tab_kp tab2 kp10 hb9 na2 nc2 nb2 nd2
   replace lys:=lays_kp lys kp10 hb9 n2
   replace th1:=tho_kp th1 kp10 hb9
   have kpA:Kp bx H2 H10:=(kp8.trans kp9).trans kp10
   clear F
   have F:SH H10 [bx] H10 [(bx,.lst [.int x2,.int y2,.int z2])] []:=SH.nil.addM (M:=[bx]) (by simp) hb10 rfl (by simp)
   repeat k_meth
   obtain ⟨dl,e_⟩:∃q,q=p_:=⟨_,rfl⟩
   subst e_
   obtain ⟨Hc,e_⟩:∃q,q=H_:=⟨_,rfl⟩
   subst e_
   have kpB:Kp bx H10 Hc:=F.kpo
   have hbc:Hc bx=some (.lst [.int x2,.int y2,.int z2]):=hatC
   have hdl:Hc dl=some (.lst [v1,.ref t1,.ref t2,v2,.ref t1]):=hatC
   replace tab1:=tab_kp tab1 kpB hb10 na1 nc1 nb1 nd1
   replace tab2:=tab_kp tab2 kpB hb10 na2 nc2 nb2 nd2
   replace lys:=lays_kp lys kpB hb10 n2
   replace th1:=tho_kp th1 kpB hb10
   replace th2:=tho_kp th2 kpB hb10
   have kpC:Kp bx H2 Hc:=kpA.trans kpB
   have sm1:=tab_sm (s:=s) (leftT_len (rs:=rs) (gs:=gapsOf m rs) (s:=s) (m:=rs.length)).2 (rightT_len (rs:=rs) (gs:=gapsOf m rs) (s:=s) (m:=rs.length)).2 (by rw [leftT_len.1];omega) (by rw [rightT_len.1];omega) (by omega)
   have sm2:=tab_sm (s:=s + 1) (leftT_len (rs:=rs) (gs:=gapsOf m rs) (s:=s + 1) (m:=rs.length)).2 (rightT_len (rs:=rs) (gs:=gapsOf m rs) (s:=s + 1) (m:=rs.length)).2 (by rw [leftT_len.1];omega) (by rw [rightT_len.1];omega) (by omega)
   have thing:∀v∈[v1,.ref t1,.ref t2,v2,.ref t1],∀H',Same Hc H'→(∃d,TrH H' d v∧depD d≤4∧widD d)∨∃p,v=.ref p∧H' p=some (.dK []):=fun v hv H' sm=>by
    simp only [List.mem_cons,List.not_mem_nil,or_false] at hv
    rcases hv with rfl | rfl | rfl | rfl | rfl
    ·exact tho_any th1 sm
    ·exact .inl ⟨_,(tab_tr tab1).same sm,sm1⟩
    ·exact .inl ⟨_,(tab_tr tab2).same sm,sm2⟩
    ·exact tho_any th2 sm
    ·exact .inl ⟨_,(tab_tr tab1).same sm,sm1⟩
   clear F
   refine forL_by (xs:=[v1,.ref t1,.ref t2,v2,.ref t1]) (fun j σ' H'=>∃o10:Option V,σ'=[some (.ref a),some (.int (i:Nat)),some (.ref bx),some (.int (m:Nat)),some (.ref rl),some (.int (s:Nat)),some (.ref gl),some (.ref lx),some (.ref t1),some (.ref t2),o10]∧Same Hc H') ⟨_,rfl,fun _ _ e=>e⟩ (fun j σ' H' hj ⟨_,_,sm⟩=>SqL.of (sm _ _ hdl)) ?_ ?_
   ·rintro j v σ' H' hv ⟨_,rfl,sm⟩
    have F:SH H' [] H' [] []:=SH.nil
    repeat k_meth
    rcases thing v (List.mem_of_getElem? hv) _ sm with ⟨d,td,dd,wd⟩ | ⟨p,rfl,hp⟩
    ·refine ei_l ?_
     repeat k_meth
     refine ⟨lx,pl,ld,m,lz,rs,s,v,.ref t1,d,rfl,lys.same sm,td,(tab_tr tab1).same sm,⟨dd,wd,sm1.1,sm1.2⟩,fun H3 s3=>?_⟩
     replace F:=F.same s3
     repeat k_meth
     exact ⟨_,rfl,sm.trans F.sm⟩
    ·refine ei_r ?_
     repeat k_meth
     refine ⟨lx,pl,ld,m,lz,_,rs,s,p,t1,rfl,lys.same sm,hp,sm _ _ tab1.t,fun H3 s3=>?_⟩
     replace F:=F.same s3
     repeat k_meth
     exact ⟨_,rfl,sm.trans F.sm⟩
   ·rintro σ' H' ⟨_,rfl,sm⟩
    have G:SH H2 [bx] H' [(bx,.lst [.int x2,.int y2,.int z2])] []:=(SH.nil.addM (M:=[bx]) (by simp) hb2 rfl (by simp)).kpL (fun a u n e=>sm _ _ (kpC a u n e)) (sm _ _ hbc) LkU.u
    exact ⟨_,_,_,_,_,_,_,_,_,_,ps2,rfl,back _ _ _ _ G⟩
  ·clear F
   rintro σ' H' ⟨_,_,_,_,_,_,_,_,_,_,ps,rfl,F⟩
   repeat k_meth
   exact k _
end
end K73
namespace K73
open PySem L2 PyProof.Rows
theorem all_mk {ct_Linit pt_Linit:Addr} {l:W.OpenLaw} {w:World} {K:W.Frag} {h:Heap} {mg:Str→Option Value} {fa g0_ g1_ g2_ g3_ g4_ g5_ g6_ g7_ g8_ g9_ g10_ g11_ g12_ g13_ g14_ g15_ g16_ g17_ g18_ g19_ g20_ g21_ g22_ g23_ g24_ g25_ g26_ g27_ g28_ g29_ g30_ g31_ g32_ g33_ g34_ g35_:Addr} (X:K.In h) (G:h.Ns mainGlobals mg) (hfa:mg "law" = some (.ref fa))
  {R:Addr}
  (eR:W.nsIn K mainGlobals "RoomError" = some (some (.ref R)))
  (eh:W.specialIn K (.builtin "object.__class__") "__get__" = some (some (.builtin "getset_descriptor.__get__")))
  (et:W.takesIn K (.builtin "object.__class__")=some true)
  {od0_ an0_:Option Addr} {sl0_:Array (Option Value)} {oc0_ kV0_ dc0_ pm0_ cd0_ ct0_:Value}
  {od1_ an1_:Option Addr} {sl1_:Array (Option Value)} {oc1_ kV1_ dc1_ pm1_ cd1_ ct1_:Value}
  {od2_ an2_:Option Addr} {sl2_:Array (Option Value)} {oc2_ kV2_ dc2_ pm2_ cd2_ ct2_:Value}
  {od3_ an3_:Option Addr} {sl3_:Array (Option Value)} {oc3_ kV3_ dc3_ pm3_ cd3_ ct3_:Value}
  {od4_ an4_:Option Addr} {sl4_:Array (Option Value)} {oc4_ kV4_ dc4_ pm4_ cd4_ ct4_:Value}
  {od5_ an5_:Option Addr} {sl5_:Array (Option Value)} {oc5_ kV5_ dc5_ pm5_ cd5_ ct5_:Value}
  {od6_ an6_:Option Addr} {sl6_:Array (Option Value)} {oc6_ kV6_ dc6_ pm6_ cd6_ ct6_:Value}
  {od7_ an7_:Option Addr} {sl7_:Array (Option Value)} {oc7_ kV7_ dc7_ pm7_ cd7_ ct7_:Value}
  {od8_ an8_:Option Addr} {sl8_:Array (Option Value)} {oc8_ kV8_ dc8_ pm8_ cd8_ ct8_:Value}
  {od9_ an9_:Option Addr} {sl9_:Array (Option Value)} {oc9_ kV9_ dc9_ pm9_ cd9_ ct9_:Value}
  {od10_ an10_:Option Addr} {sl10_:Array (Option Value)} {oc10_ kV10_ dc10_ pm10_ cd10_ ct10_:Value}
  {od11_ an11_:Option Addr} {sl11_:Array (Option Value)} {oc11_ kV11_ dc11_ pm11_ cd11_ ct11_:Value}
  {od12_ an12_:Option Addr} {sl12_:Array (Option Value)} {oc12_ kV12_ dc12_ pm12_ cd12_ ct12_:Value}
  {od13_ an13_:Option Addr} {sl13_:Array (Option Value)} {oc13_ kV13_ dc13_ pm13_ cd13_ ct13_:Value}
  {od14_ an14_:Option Addr} {sl14_:Array (Option Value)} {oc14_ kV14_ dc14_ pm14_ cd14_ ct14_:Value}
  {od15_ an15_:Option Addr} {sl15_:Array (Option Value)} {oc15_ kV15_ dc15_ pm15_ cd15_ ct15_:Value}
  {od16_ an16_:Option Addr} {sl16_:Array (Option Value)} {oc16_ kV16_ dc16_ pm16_ cd16_ ct16_:Value}
  {od17_ an17_:Option Addr} {sl17_:Array (Option Value)} {oc17_ kV17_ dc17_ pm17_ cd17_ ct17_:Value}
  {od18_ an18_:Option Addr} {sl18_:Array (Option Value)} {oc18_ kV18_ dc18_ pm18_ cd18_ ct18_:Value}
  {od19_ an19_:Option Addr} {sl19_:Array (Option Value)} {oc19_ kV19_ dc19_ pm19_ cd19_ ct19_:Value}
  {od20_ an20_:Option Addr} {sl20_:Array (Option Value)} {oc20_ kV20_ dc20_ pm20_ cd20_ ct20_:Value}
  {od21_ an21_:Option Addr} {sl21_:Array (Option Value)} {oc21_ kV21_ dc21_ pm21_ cd21_ ct21_:Value}
  {od22_ an22_:Option Addr} {sl22_:Array (Option Value)} {oc22_ kV22_ dc22_ pm22_ cd22_ ct22_:Value}
  {od23_ an23_:Option Addr} {sl23_:Array (Option Value)} {oc23_ kV23_ dc23_ pm23_ cd23_ ct23_:Value}
  {od24_ an24_:Option Addr} {sl24_:Array (Option Value)} {oc24_ kV24_ dc24_ pm24_ cd24_ ct24_:Value}
  {od25_ an25_:Option Addr} {sl25_:Array (Option Value)} {oc25_ kV25_ dc25_ pm25_ cd25_ ct25_:Value}
  {od26_ an26_:Option Addr} {sl26_:Array (Option Value)} {oc26_ kV26_ dc26_ pm26_ cd26_ ct26_:Value}
  {od27_ an27_:Option Addr} {sl27_:Array (Option Value)} {oc27_ kV27_ dc27_ pm27_ cd27_ ct27_:Value}
  {od28_ an28_:Option Addr} {sl28_:Array (Option Value)} {oc28_ kV28_ dc28_ pm28_ cd28_ ct28_:Value}
  {od29_ an29_:Option Addr} {sl29_:Array (Option Value)} {oc29_ kV29_ dc29_ pm29_ cd29_ ct29_:Value}
  {od30_ an30_:Option Addr} {sl30_:Array (Option Value)} {oc30_ kV30_ dc30_ pm30_ cd30_ ct30_:Value}
  {od31_ an31_:Option Addr} {sl31_:Array (Option Value)} {oc31_ kV31_ dc31_ pm31_ cd31_ ct31_:Value}
  {od32_ an32_:Option Addr} {sl32_:Array (Option Value)} {oc32_ kV32_ dc32_ pm32_ cd32_ ct32_:Value}
  {od33_ an33_:Option Addr} {sl33_:Array (Option Value)} {oc33_ kV33_ dc33_ pm33_ cd33_ ct33_:Value}
  {od34_ an34_:Option Addr} {sl34_:Array (Option Value)} {oc34_ kV34_ dc34_ pm34_ cd34_ ct34_:Value}
  {od35_ an35_:Option Addr} {sl35_:Array (Option Value)} {oc35_ kV35_ dc35_ pm35_ cd35_ ct35_:Value}
  (a0_:W.nsIn K mainGlobals "is_whole" = some (some (.ref g0_))) (l0_:K.lookup g0_=some ⟨oc0_,od0_,.func (W.fnOf "is_whole" "is_whole" (defArgs s_is_whole) (defBody s_is_whole) (defScope s_is_whole) .none kV0_ dc0_ pm0_ an0_ cd0_ ct0_),sl0_⟩) (c0_:W.codeIn K cd0_ "is_whole" = true) (k0_:W.keepIn K (.ref g0_)=true)
  (a1_:W.nsIn K mainGlobals "is_from" = some (some (.ref g1_))) (l1_:K.lookup g1_=some ⟨oc1_,od1_,.func (W.fnOf "is_from" "is_from" (defArgs s_is_from) (defBody s_is_from) (defScope s_is_from) .none kV1_ dc1_ pm1_ an1_ cd1_ ct1_),sl1_⟩) (c1_:W.codeIn K cd1_ "is_from" = true) (k1_:W.keepIn K (.ref g1_)=true)
  (a2_:W.nsIn K mainGlobals "is_within" = some (some (.ref g2_))) (l2_:K.lookup g2_=some ⟨oc2_,od2_,.func (W.fnOf "is_within" "is_within" (defArgs s_is_within) (defBody s_is_within) (defScope s_is_within) .none kV2_ dc2_ pm2_ an2_ cd2_ ct2_),sl2_⟩) (c2_:W.codeIn K cd2_ "is_within" = true) (k2_:W.keepIn K (.ref g2_)=true)
  (a3_:W.nsIn K mainGlobals "is_many" = some (some (.ref g3_))) (l3_:K.lookup g3_=some ⟨oc3_,od3_,.func (W.fnOf "is_many" "is_many" (defArgs s_is_many) (defBody s_is_many) (defScope s_is_many) .none kV3_ dc3_ pm3_ an3_ cd3_ ct3_),sl3_⟩) (c3_:W.codeIn K cd3_ "is_many" = true) (k3_:W.keepIn K (.ref g3_)=true)
  (a4_:W.nsIn K mainGlobals "is_name" = some (some (.ref g4_))) (l4_:K.lookup g4_=some ⟨oc4_,od4_,.func (W.fnOf "is_name" "is_name" (defArgs s_is_name) (defBody s_is_name) (defScope s_is_name) .none kV4_ dc4_ pm4_ an4_ cd4_ ct4_),sl4_⟩) (c4_:W.codeIn K cd4_ "is_name" = true) (k4_:W.keepIn K (.ref g4_)=true)
  (a5_:W.nsIn K mainGlobals "end_of" = some (some (.ref g5_))) (l5_:K.lookup g5_=some ⟨oc5_,od5_,.func (W.fnOf "end_of" "end_of" (defArgs s_end_of) (defBody s_end_of) (defScope s_end_of) .none kV5_ dc5_ pm5_ an5_ cd5_ ct5_),sl5_⟩) (c5_:W.codeIn K cd5_ "end_of" = true) (k5_:W.keepIn K (.ref g5_)=true)
  (a6_:W.nsIn K mainGlobals "is_row" = some (some (.ref g6_))) (l6_:K.lookup g6_=some ⟨oc6_,od6_,.func (W.fnOf "is_row" "is_row" (defArgs s_is_row) (defBody s_is_row) (defScope s_is_row) .none kV6_ dc6_ pm6_ an6_ cd6_ ct6_),sl6_⟩) (c6_:W.codeIn K cd6_ "is_row" = true) (k6_:W.keepIn K (.ref g6_)=true)
  (a7_:W.nsIn K mainGlobals "cells_of" = some (some (.ref g7_))) (l7_:K.lookup g7_=some ⟨oc7_,od7_,.func (W.fnOf "cells_of" "cells_of" (defArgs s_cells_of) (defBody s_cells_of) (defScope s_cells_of) .none kV7_ dc7_ pm7_ an7_ cd7_ ct7_),sl7_⟩) (c7_:W.codeIn K cd7_ "cells_of" = true) (k7_:W.keepIn K (.ref g7_)=true)
  (a8_:W.nsIn K mainGlobals "need_row" = some (some (.ref g8_))) (l8_:K.lookup g8_=some ⟨oc8_,od8_,.func (W.fnOf "need_row" "need_row" (defArgs s_need_row) (defBody s_need_row) (defScope s_need_row) .none kV8_ dc8_ pm8_ an8_ cd8_ ct8_),sl8_⟩) (c8_:W.codeIn K cd8_ "need_row" = true) (k8_:W.keepIn K (.ref g8_)=true)
  (a9_:W.nsIn K mainGlobals "need_rows" = some (some (.ref g9_))) (l9_:K.lookup g9_=some ⟨oc9_,od9_,.func (W.fnOf "need_rows" "need_rows" (defArgs s_need_rows) (defBody s_need_rows) (defScope s_need_rows) .none kV9_ dc9_ pm9_ an9_ cd9_ ct9_),sl9_⟩) (c9_:W.codeIn K cd9_ "need_rows" = true) (k9_:W.keepIn K (.ref g9_)=true)
  (a10_:W.nsIn K mainGlobals "share_cells" = some (some (.ref g10_))) (l10_:K.lookup g10_=some ⟨oc10_,od10_,.func (W.fnOf "share_cells" "share_cells" (defArgs s_share) (defBody s_share) (defScope s_share) .none kV10_ dc10_ pm10_ an10_ cd10_ ct10_),sl10_⟩) (c10_:W.codeIn K cd10_ "share_cells" = true) (k10_:W.keepIn K (.ref g10_)=true)
  (a11_:W.nsIn K mainGlobals "_law_cell_at" = some (some (.ref g11_))) (l11_:K.lookup g11_=some ⟨oc11_,od11_,.func (W.fnOf "_law_cell_at" "_law_cell_at" (defArgs s_cell_at) (defBody s_cell_at) (defScope s_cell_at) .none kV11_ dc11_ pm11_ an11_ cd11_ ct11_),sl11_⟩) (c11_:W.codeIn K cd11_ "_law_cell_at" = true) (k11_:W.keepIn K (.ref g11_)=true)
  (a12_:W.nsIn K mainGlobals "_law_box" = some (some (.ref g12_))) (l12_:K.lookup g12_=some ⟨oc12_,od12_,.func (W.fnOf "_law_box" "_law_box" (defArgs s_box) (defBody s_box) (defScope s_box) .none kV12_ dc12_ pm12_ an12_ cd12_ ct12_),sl12_⟩) (c12_:W.codeIn K cd12_ "_law_box" = true) (k12_:W.keepIn K (.ref g12_)=true)
  (a13_:W.nsIn K mainGlobals "_law_take" = some (some (.ref g13_))) (l13_:K.lookup g13_=some ⟨oc13_,od13_,.func (W.fnOf "_law_take" "_law_take" (defArgs s_take) (defBody s_take) (defScope s_take) .none kV13_ dc13_ pm13_ an13_ cd13_ ct13_),sl13_⟩) (c13_:W.codeIn K cd13_ "_law_take" = true) (k13_:W.keepIn K (.ref g13_)=true)
  (a14_:W.nsIn K mainGlobals "_law_names" = some (some (.ref g14_))) (l14_:K.lookup g14_=some ⟨oc14_,od14_,.func (W.fnOf "_law_names" "_law_names" (defArgs s_names) (defBody s_names) (defScope s_names) .none kV14_ dc14_ pm14_ an14_ cd14_ ct14_),sl14_⟩) (c14_:W.codeIn K cd14_ "_law_names" = true) (k14_:W.keepIn K (.ref g14_)=true)
  (a15_:W.nsIn K mainGlobals "_law_rows" = some (some (.ref g15_))) (l15_:K.lookup g15_=some ⟨oc15_,od15_,.func (W.fnOf "_law_rows" "_law_rows" (defArgs s_rows) (defBody s_rows) (defScope s_rows) .none kV15_ dc15_ pm15_ an15_ cd15_ ct15_),sl15_⟩) (c15_:W.codeIn K cd15_ "_law_rows" = true) (k15_:W.keepIn K (.ref g15_)=true)
  (a16_:W.nsIn K mainGlobals "gaps_of" = some (some (.ref g16_))) (l16_:K.lookup g16_=some ⟨oc16_,od16_,.func (W.fnOf "gaps_of" "gaps_of" (defArgs s_gapsof) (defBody s_gapsof) (defScope s_gapsof) .none kV16_ dc16_ pm16_ an16_ cd16_ ct16_),sl16_⟩) (c16_:W.codeIn K cd16_ "gaps_of" = true) (k16_:W.keepIn K (.ref g16_)=true)
  (a17_:W.nsIn K mainGlobals "has_truth" = some (some (.ref g17_))) (l17_:K.lookup g17_=some ⟨oc17_,od17_,.func (W.fnOf "has_truth" "has_truth" (defArgs s_truth) (defBody s_truth) (defScope s_truth) .none kV17_ dc17_ pm17_ an17_ cd17_ ct17_),sl17_⟩) (c17_:W.codeIn K cd17_ "has_truth" = true) (k17_:W.keepIn K (.ref g17_)=true)
  (a18_:W.nsIn K mainGlobals "row_at_end" = some (some (.ref g18_))) (l18_:K.lookup g18_=some ⟨oc18_,od18_,.func (W.fnOf "row_at_end" "row_at_end" (defArgs s_atend) (defBody s_atend) (defScope s_atend) .none kV18_ dc18_ pm18_ an18_ cd18_ ct18_),sl18_⟩) (c18_:W.codeIn K cd18_ "row_at_end" = true) (k18_:W.keepIn K (.ref g18_)=true)
  (a19_:W.nsIn K mainGlobals "row_beside" = some (some (.ref g19_))) (l19_:K.lookup g19_=some ⟨oc19_,od19_,.func (W.fnOf "row_beside" "row_beside" (defArgs s_beside) (defBody s_beside) (defScope s_beside) .none kV19_ dc19_ pm19_ an19_ cd19_ ct19_),sl19_⟩) (c19_:W.codeIn K cd19_ "row_beside" = true) (k19_:W.keepIn K (.ref g19_)=true)
  (a20_:W.nsIn K mainGlobals "left_prices" = some (some (.ref g20_))) (l20_:K.lookup g20_=some ⟨oc20_,od20_,.func (W.fnOf "left_prices" "left_prices" (defArgs s_left) (defBody s_left) (defScope s_left) .none kV20_ dc20_ pm20_ an20_ cd20_ ct20_),sl20_⟩) (c20_:W.codeIn K cd20_ "left_prices" = true) (k20_:W.keepIn K (.ref g20_)=true)
  (a21_:W.nsIn K mainGlobals "right_prices" = some (some (.ref g21_))) (l21_:K.lookup g21_=some ⟨oc21_,od21_,.func (W.fnOf "right_prices" "right_prices" (defArgs s_right) (defBody s_right) (defScope s_right) .none kV21_ dc21_ pm21_ an21_ cd21_ ct21_),sl21_⟩) (c21_:W.codeIn K cd21_ "right_prices" = true) (k21_:W.keepIn K (.ref g21_)=true)
  (a22_:W.nsIn K mainGlobals "prices" = some (some (.ref g22_))) (l22_:K.lookup g22_=some ⟨oc22_,od22_,.func (W.fnOf "prices" "prices" (defArgs s_prices) (defBody s_prices) (defScope s_prices) .none kV22_ dc22_ pm22_ an22_ cd22_ ct22_),sl22_⟩) (c22_:W.codeIn K cd22_ "prices" = true) (k22_:W.keepIn K (.ref g22_)=true)
  (a23_:W.nsIn K mainGlobals "is_prices" = some (some (.ref g23_))) (l23_:K.lookup g23_=some ⟨oc23_,od23_,.func (W.fnOf "is_prices" "is_prices" (defArgs s_isprices) (defBody s_isprices) (defScope s_isprices) .none kV23_ dc23_ pm23_ an23_ cd23_ ct23_),sl23_⟩) (c23_:W.codeIn K cd23_ "is_prices" = true) (k23_:W.keepIn K (.ref g23_)=true)
  (a24_:W.nsIn K mainGlobals "_law_gaps" = some (some (.ref g24_))) (l24_:K.lookup g24_=some ⟨oc24_,od24_,.func (W.fnOf "_law_gaps" "_law_gaps" (defArgs s_lgaps) (defBody s_lgaps) (defScope s_lgaps) .none kV24_ dc24_ pm24_ an24_ cd24_ ct24_),sl24_⟩) (c24_:W.codeIn K cd24_ "_law_gaps" = true) (k24_:W.keepIn K (.ref g24_)=true)
  (a25_:W.nsIn K mainGlobals "_law_first" = some (some (.ref g25_))) (l25_:K.lookup g25_=some ⟨oc25_,od25_,.func (W.fnOf "_law_first" "_law_first" (defArgs s_lfirst) (defBody s_lfirst) (defScope s_lfirst) .none kV25_ dc25_ pm25_ an25_ cd25_ ct25_),sl25_⟩) (c25_:W.codeIn K cd25_ "_law_first" = true) (k25_:W.keepIn K (.ref g25_)=true)
  (a26_:W.nsIn K mainGlobals "_law_row_behind" = some (some (.ref g26_))) (l26_:K.lookup g26_=some ⟨oc26_,od26_,.func (W.fnOf "_law_row_behind" "_law_row_behind" (defArgs s_lbehind) (defBody s_lbehind) (defScope s_lbehind) .none kV26_ dc26_ pm26_ an26_ cd26_ ct26_),sl26_⟩) (c26_:W.codeIn K cd26_ "_law_row_behind" = true) (k26_:W.keepIn K (.ref g26_)=true)
  (a27_:W.nsIn K mainGlobals "_law_carried_on" = some (some (.ref g27_))) (l27_:K.lookup g27_=some ⟨oc27_,od27_,.func (W.fnOf "_law_carried_on" "_law_carried_on" (defArgs s_lcarried) (defBody s_lcarried) (defScope s_lcarried) .none kV27_ dc27_ pm27_ an27_ cd27_ ct27_),sl27_⟩) (c27_:W.codeIn K cd27_ "_law_carried_on" = true) (k27_:W.keepIn K (.ref g27_)=true)
  (a28_:W.nsIn K mainGlobals "_law_side" = some (some (.ref g28_))) (l28_:K.lookup g28_=some ⟨oc28_,od28_,.func (W.fnOf "_law_side" "_law_side" (defArgs s_lside) (defBody s_lside) (defScope s_lside) .none kV28_ dc28_ pm28_ an28_ cd28_ ct28_),sl28_⟩) (c28_:W.codeIn K cd28_ "_law_side" = true) (k28_:W.keepIn K (.ref g28_)=true)
  (a29_:W.nsIn K mainGlobals "_law_spoilt_entry" = some (some (.ref g29_))) (l29_:K.lookup g29_=some ⟨oc29_,od29_,.func (W.fnOf "_law_spoilt_entry" "_law_spoilt_entry" (defArgs s_lentry) (defBody s_lentry) (defScope s_lentry) .none kV29_ dc29_ pm29_ an29_ cd29_ ct29_),sl29_⟩) (c29_:W.codeIn K cd29_ "_law_spoilt_entry" = true) (k29_:W.keepIn K (.ref g29_)=true)
  (a30_:W.nsIn K mainGlobals "_law_spoilt_side" = some (some (.ref g30_))) (l30_:K.lookup g30_=some ⟨oc30_,od30_,.func (W.fnOf "_law_spoilt_side" "_law_spoilt_side" (defArgs s_lspoilt) (defBody s_lspoilt) (defScope s_lspoilt) .none kV30_ dc30_ pm30_ an30_ cd30_ ct30_),sl30_⟩) (c30_:W.codeIn K cd30_ "_law_spoilt_side" = true) (k30_:W.keepIn K (.ref g30_)=true)
  (a31_:W.nsIn K mainGlobals "_law_alike" = some (some (.ref g31_))) (l31_:K.lookup g31_=some ⟨oc31_,od31_,.func (W.fnOf "_law_alike" "_law_alike" (defArgs s_lalike) (defBody s_lalike) (defScope s_lalike) .none kV31_ dc31_ pm31_ an31_ cd31_ ct31_),sl31_⟩) (c31_:W.codeIn K cd31_ "_law_alike" = true) (k31_:W.keepIn K (.ref g31_)=true)
  (a32_:W.nsIn K mainGlobals "_law_copied" = some (some (.ref g32_))) (l32_:K.lookup g32_=some ⟨oc32_,od32_,.func (W.fnOf "_law_copied" "_law_copied" (defArgs s_lcopied) (defBody s_lcopied) (defScope s_lcopied) .none kV32_ dc32_ pm32_ an32_ cd32_ ct32_),sl32_⟩) (c32_:W.codeIn K cd32_ "_law_copied" = true) (k32_:W.keepIn K (.ref g32_)=true)
  (a33_:W.nsIn K mainGlobals "_law_forged" = some (some (.ref g33_))) (l33_:K.lookup g33_=some ⟨oc33_,od33_,.func (W.fnOf "_law_forged" "_law_forged" (defArgs s_lforged) (defBody s_lforged) (defScope s_lforged) .none kV33_ dc33_ pm33_ an33_ cd33_ ct33_),sl33_⟩) (c33_:W.codeIn K cd33_ "_law_forged" = true) (k33_:W.keepIn K (.ref g33_)=true)
  (a34_:W.nsIn K mainGlobals "_law_judged" = some (some (.ref g34_))) (l34_:K.lookup g34_=some ⟨oc34_,od34_,.func (W.fnOf "_law_judged" "_law_judged" (defArgs s_ljudged) (defBody s_ljudged) (defScope s_ljudged) .none kV34_ dc34_ pm34_ an34_ cd34_ ct34_),sl34_⟩) (c34_:W.codeIn K cd34_ "_law_judged" = true) (k34_:W.keepIn K (.ref g34_)=true)
  (a35_:W.nsIn K mainGlobals "law" = some (some (.ref g35_))) (l35_:K.lookup g35_=some ⟨oc35_,od35_,.func (W.fnOf "law" "law" (defArgs s_law) (defBody s_law) (defScope s_law) .none kV35_ dc35_ pm35_ an35_ cd35_ ct35_),sl35_⟩) (c35_:W.codeIn K cd35_ "law" = true) (k35_:W.keepIn K (.ref g35_)=true)
  (nb0:W.nsIn K mainGlobals "isinstance" = some none)
  (nb1:W.nsIn K mainGlobals "int" = some none)
  (nb2:W.nsIn K mainGlobals "bool" = some none)
  (nb3:W.nsIn K mainGlobals "str" = some none)
  (nb4:W.nsIn K mainGlobals "list" = some none)
  (nb5:W.nsIn K mainGlobals "tuple" = some none)
  (nb6:W.nsIn K mainGlobals "len" = some none)
  (nb7:W.nsIn K mainGlobals "all" = some none)
  (nb8:W.nsIn K mainGlobals "range" = some none)
  (nb9:W.nsIn K mainGlobals "sorted" = some none)
  (nb10:W.nsIn K mainGlobals "max" = some none)
  (nb11:W.nsIn K mainGlobals "min" = some none)
  (nb12:W.nsIn K mainGlobals "sum" = some none)
  (nb13:W.nsIn K mainGlobals "enumerate" = some none)
  (nb14:W.nsIn K mainGlobals "zip" = some none)
  (nb15:W.nsIn K mainGlobals "reversed" = some none)
  (nb16:W.nsIn K mainGlobals "any" = some none)
  {tk0:Tok} (con0:W.nsIn K mainGlobals "LETTERS" = some (some (.str LET tk0)))
  {tk1:Tok} (con1:W.nsIn K mainGlobals "NAME_SIGNS" = some (some (.str SGN tk1)))
  {tk2:Tok} (con2:W.nsIn K mainGlobals "MOST_SIGNS" = some (some (.int 8 tk2)))
  {tk3:Tok} (con3:W.nsIn K mainGlobals "FEWEST_CELLS" = some (some (.int 16 tk3)))
  {tk4:Tok} (con4:W.nsIn K mainGlobals "MOST_CELLS" = some (some (.int 240 tk4)))
  {tk5:Tok} (con5:W.nsIn K mainGlobals "MOST_BLOCKS" = some (some (.int 40 tk5)))
  {nmR qR:Str} {NR:Addr} {bsR bmR:List Value} {hdR:Bool} {snR:List Str} {subR:List Value} {abR:Bool} {colR:Option Bool} {ddR:Option Addr} {k0R k1R k2R k3R k5R:Option Value} {newR:String}
  (zc:K.lookup R=some (excClassObj nmR qR R NR bsR bmR hdR snR subR abR colR ddR k0R k1R k2R k3R k5R newR)) (zt:W.typeIn K (.ref R)=some (.type "type")) (zm:W.mroIn K R (.type "BaseException")=some true)
  {CL g_Linit g_Lblocks:Addr}
  (aCL:W.nsIn K mainGlobals "Layout" = some (some (.ref CL)))
  (pgL:W.plainGet K CL Str.empty=true) (hdL:W.hasDictIn K CL=true) (poL:W.plainOver K CL=true) (saL:W.findIn K (.ref CL) "__setattr__" = some (some (.builtin "object.__setattr__"))) (mkL:W.makesIn K CL=true) (kcL:W.keepIn K (.ref CL)=true)
  (naL_many:W.findIn K (.ref CL) "many" = some none)
  (naL_rows:W.findIn K (.ref CL) "rows" = some none)
  {xd_Linit xn_Linit:Option Addr} {xs_Linit:Array (Option Value)} {xo_Linit xk_Linit xe_Linit xp_Linit xt_Linit:Value}
  (at_Linit:W.findIn K (.ref CL) "__init__" = some (some (.ref g_Linit))) (fn_Linit:W.isFn K (.ref g_Linit)=true)
  (lk_Linit:K.lookup g_Linit=some ⟨xo_Linit,xd_Linit,.func (W.fnOf "__init__" "Layout.__init__" (defArgs s_Linit) (defBody s_Linit) (defScope s_Linit) .none xk_Linit xe_Linit xp_Linit xn_Linit (.ref ct_Linit) xt_Linit),xs_Linit⟩) (cd_Linit:W.codeIn K (.ref ct_Linit) "Layout.__init__" = true) (kp_Linit:W.keepIn K (.ref g_Linit)=true) (tb_Linit:W.codeHdIn K ct_Linit pt_Linit=true) (tn_Linit:K.lookup pt_Linit=none)
  {xd_Lblocks xn_Lblocks:Option Addr} {xs_Lblocks:Array (Option Value)} {xo_Lblocks xk_Lblocks xe_Lblocks xp_Lblocks xc_Lblocks xt_Lblocks:Value}
  (at_Lblocks:W.findIn K (.ref CL) "blocks" = some (some (.ref g_Lblocks))) (fn_Lblocks:W.isFn K (.ref g_Lblocks)=true)
  (lk_Lblocks:K.lookup g_Lblocks=some ⟨xo_Lblocks,xd_Lblocks,.func (W.fnOf "blocks" "Layout.blocks" (defArgs s_Lblocks) (defBody s_Lblocks) (defScope s_Lblocks) .none xk_Lblocks xe_Lblocks xp_Lblocks xn_Lblocks xc_Lblocks xt_Lblocks),xs_Lblocks⟩) (cd_Lblocks:W.codeIn K xc_Lblocks "Layout.blocks" = true) (kp_Lblocks:W.keepIn K (.ref g_Lblocks)=true)
  : (∀p∈[pt_Linit],K.lookup p=none∧∃c,W.codeHdIn K c p=true)∧∃fd:FuncData,(∀(s:Shared) (v:Value),BindsTo s fd ⟨[v],[]⟩ [("_law_script", v)])∧∀base:Heap,K.In base→base.Ns mainGlobals mg→Bm mg base→FnOk l.prog w K mg base CX0 9 fa fd ["_law_script"] (sp_law pt_Linit K):=by
 have e:=hfa.symm.trans (W.mg_of X G a35_)
 cases e
 have T:Txt K mg (fun i=>([]:List Addr).getD i 0) R CL ct_Linit pt_Linit:={
  d_is_whole:=HasDef.mk (W.mg_of X G a0_) l0_ c0_ k0_
  d_is_from:=HasDef.mk (W.mg_of X G a1_) l1_ c1_ k1_
  d_is_within:=HasDef.mk (W.mg_of X G a2_) l2_ c2_ k2_
  d_is_many:=HasDef.mk (W.mg_of X G a3_) l3_ c3_ k3_
  d_is_name:=HasDef.mk (W.mg_of X G a4_) l4_ c4_ k4_
  d_end_of:=HasDef.mk (W.mg_of X G a5_) l5_ c5_ k5_
  d_is_row:=HasDef.mk (W.mg_of X G a6_) l6_ c6_ k6_
  d_cells_of:=HasDef.mk (W.mg_of X G a7_) l7_ c7_ k7_
  d_need_row:=HasDef.mk (W.mg_of X G a8_) l8_ c8_ k8_
  d_need_rows:=HasDef.mk (W.mg_of X G a9_) l9_ c9_ k9_
  d_share:=HasDef.mk (W.mg_of X G a10_) l10_ c10_ k10_
  d_cell_at:=HasDef.mk (W.mg_of X G a11_) l11_ c11_ k11_
  d_box:=HasDef.mk (W.mg_of X G a12_) l12_ c12_ k12_
  d_take:=HasDef.mk (W.mg_of X G a13_) l13_ c13_ k13_
  d_names:=HasDef.mk (W.mg_of X G a14_) l14_ c14_ k14_
  d_rows:=HasDef.mk (W.mg_of X G a15_) l15_ c15_ k15_
  d_gapsof:=HasDef.mk (W.mg_of X G a16_) l16_ c16_ k16_
  d_truth:=HasDef.mk (W.mg_of X G a17_) l17_ c17_ k17_
  d_atend:=HasDef.mk (W.mg_of X G a18_) l18_ c18_ k18_
  d_beside:=HasDef.mk (W.mg_of X G a19_) l19_ c19_ k19_
  d_left:=HasDef.mk (W.mg_of X G a20_) l20_ c20_ k20_
  d_right:=HasDef.mk (W.mg_of X G a21_) l21_ c21_ k21_
  d_prices:=HasDef.mk (W.mg_of X G a22_) l22_ c22_ k22_
  d_isprices:=HasDef.mk (W.mg_of X G a23_) l23_ c23_ k23_
  d_lgaps:=HasDef.mk (W.mg_of X G a24_) l24_ c24_ k24_
  d_lfirst:=HasDef.mk (W.mg_of X G a25_) l25_ c25_ k25_
  d_lbehind:=HasDef.mk (W.mg_of X G a26_) l26_ c26_ k26_
  d_lcarried:=HasDef.mk (W.mg_of X G a27_) l27_ c27_ k27_
  d_lside:=HasDef.mk (W.mg_of X G a28_) l28_ c28_ k28_
  d_lentry:=HasDef.mk (W.mg_of X G a29_) l29_ c29_ k29_
  d_lspoilt:=HasDef.mk (W.mg_of X G a30_) l30_ c30_ k30_
  d_lalike:=HasDef.mk (W.mg_of X G a31_) l31_ c31_ k31_
  d_lcopied:=HasDef.mk (W.mg_of X G a32_) l32_ c32_ k32_
  d_lforged:=HasDef.mk (W.mg_of X G a33_) l33_ c33_ k33_
  d_ljudged:=HasDef.mk (W.mg_of X G a34_) l34_ c34_ k34_
  n_isinstance:=W.mg_none_of X G nb0
  n_int:=W.mg_none_of X G nb1
  n_bool:=W.mg_none_of X G nb2
  n_str:=W.mg_none_of X G nb3
  n_list:=W.mg_none_of X G nb4
  n_tuple:=W.mg_none_of X G nb5
  n_len:=W.mg_none_of X G nb6
  n_all:=W.mg_none_of X G nb7
  n_range:=W.mg_none_of X G nb8
  n_sorted:=W.mg_none_of X G nb9
  n_max:=W.mg_none_of X G nb10
  n_min:=W.mg_none_of X G nb11
  n_sum:=W.mg_none_of X G nb12
  n_enumerate:=W.mg_none_of X G nb13
  n_zip:=W.mg_none_of X G nb14
  n_reversed:=W.mg_none_of X G nb15
  n_any:=W.mg_none_of X G nb16
  g_LETTERS:=⟨_,W.mg_of X G con0,⟨_,rfl⟩⟩
  g_NAME_SIGNS:=⟨_,W.mg_of X G con1,⟨_,rfl⟩⟩
  g_MOST_SIGNS:=⟨_,W.mg_of X G con2,⟨_,rfl⟩⟩
  g_FEWEST_CELLS:=⟨_,W.mg_of X G con3,⟨_,rfl⟩⟩
  g_MOST_CELLS:=⟨_,W.mg_of X G con4,⟨_,rfl⟩⟩
  g_MOST_BLOCKS:=⟨_,W.mg_of X G con5,⟨_,rfl⟩⟩
  g_R:=W.mg_of X G eR
  c_R:=by unfold W.clsIn;rw [zc];rfl
  t_R:=zt
  m_R:=zm
  clL:=⟨pgL,hdL,poL,saL⟩
  gc_Layout:=W.mg_of X G aCL
  aL_many:=naL_many
  aL_rows:=naL_rows
  tab_Linit:=tb_Linit
  f_Linit:=⟨g_Linit,⟨_,fun_mk (st:=s_Linit) lk_Linit cd_Linit kp_Linit,rfl⟩,⟨mkL,at_Linit,fn_Linit,kcL⟩⟩
  f_Lblocks:=⟨g_Lblocks,⟨_,fun_mk (st:=s_Lblocks) lk_Lblocks cd_Lblocks kp_Lblocks⟩,⟨at_Lblocks,fn_Lblocks,kp_Lblocks⟩⟩ }
 refine ⟨fun p hp=>?_,W.fnOf "law" "law" (defArgs s_law) (defBody s_law) (defScope s_law) .none kV35_ dc35_ pm35_ an35_ cd35_ ct35_,fun s v=>.of_eq rfl,fun base _ _ Bb=>?_⟩
 ·simp only [List.mem_cons,List.not_mem_nil,or_false] at hp
  rcases hp with rfl
  ·exact ⟨tn_Linit,_,tb_Linit⟩
 exact ok_law T Bb (fun_mk (st:=s_law) l35_ c35_ k35_)
theorem walk {l:W.OpenLaw} {q:Program} {loose:List Str} {XP:(Str→Option Value)→Heap→Prop} {YP:World→Heap→Prop} {d:DefRec} {K:Params→W.Frag} {pt_Linit:Addr} (hn:l.most=some 63) (hdf:d.params.defaults=[])
  (hY:∀(w:World) (h:Heap),YP w h→(K w.params).In h∧∀p∈[pt_Linit],h.get? p=some (W.tabObj #[]))
  (F:∀(w:World) (mg:Str→Option Value) (fa:Addr) (h:Heap),(K w.params).In h→h.Ns mainGlobals mg→mg d.name=some (.ref fa)→(∀p∈[pt_Linit],(K w.params).lookup p=none∧∃c,W.codeHdIn (K w.params) c p=true) ∧ 
   ∃fd:FuncData,(∀(s:Shared) (u:Value),BindsTo s fd ⟨[u],[]⟩ [("_law_script", u)])∧∀base:Heap,(K w.params).In base→base.Ns mainGlobals mg→Bm mg base→FnOk l.prog w (K w.params) mg base CX0 9 fa fd ["_law_script"] (sp_law pt_Linit (K w.params))) :
  W.WalkO q loose XP YP l.row.toRowW d [] (fun f vs=>PySem.call f vs) :=
 L2.walk_ofT (ts:=[pt_Linit]) (n:=63) (k:=9) (x := "_law_script") (CX:=fun _=>CX0) (sp:=fun w=>sp_law pt_Linit (K w.params)) hn (by decide) hdf ⟨rfl,by decide,by decide,rfl⟩ hY F (fun _ _ a ns hl hO hn hS=>⟨a,ns,rfl,hS,hl,hO.1 pt_Linit (by simp),(fun z=>hn (by simp [z])),fun _=>rfl⟩) fun _ _ _ _ _ z=>z
end K73
namespace PySem.W.Fast
def tw16198512071608986582:Unit:=()
def tw2134987503438360475:Unit:=()
def tw3290987577811219102:Unit:=()
def tw10017268389542103191:Unit:=()
def tw10034878877015544462:Unit:=()
def tw10044305192054527219:Unit:=()
def tw1008352850448643055:Unit:=()
def tw10092212289979147710:Unit:=()
def tw10117364959856253290:Unit:=()
def tw10133865396830668579:Unit:=()
def tw10142447594169242383:Unit:=()
def tw10190798486709653915:Unit:=()
def tw1026962853649732638:Unit:=()
def tw10306356142004771487:Unit:=()
def tw10308013731013103327:Unit:=()
def tw10340698766753684425:Unit:=()
def tw10369968911141689317:Unit:=()
def tw10383639373520899748:Unit:=()
def tw10390713092021407555:Unit:=()
def tw10465704776359497943:Unit:=()
def tw10524499671534157725:Unit:=()
def tw10530850744680416968:Unit:=()
def tw10586656384743460430:Unit:=()
def tw10680157922833749278:Unit:=()
def tw106854711471940801:Unit:=()
def tw10688240185241386920:Unit:=()
def tw10692792898654001015:Unit:=()
def tw10726790264407418311:Unit:=()
def tw10743364524078978982:Unit:=()
def tw10838614484452092906:Unit:=()
def tw10903475730170545250:Unit:=()
def tw10911224818073169060:Unit:=()
def tw1093101188407195371:Unit:=()
def tw10951026711197946731:Unit:=()
def tw10961841000321457013:Unit:=()
def tw10964072773811623155:Unit:=()
def tw11007492880310299354:Unit:=()
def tw11019731138554314411:Unit:=()
def tw11074335771556215603:Unit:=()
def tw11273537392816314191:Unit:=()
def tw11297154879245430356:Unit:=()
def tw11315519664669064922:Unit:=()
def tw11327453865106887896:Unit:=()
def tw11352292960202175830:Unit:=()
def tw11401173820794007995:Unit:=()
def tw11423796710581242651:Unit:=()
def tw11446634302484184566:Unit:=()
def tw11468103388452591451:Unit:=()
def tw11474361633742924501:Unit:=()
def tw11480254201814281293:Unit:=()
def tw11485311038401895011:Unit:=()
def tw11506502453130726563:Unit:=()
def tw11510304728585407521:Unit:=()
def tw115500819460403596:Unit:=()
def tw11583517062236490688:Unit:=()
def tw11626597740049939831:Unit:=()
def tw11678587153412300825:Unit:=()
def tw11688856298317666762:Unit:=()
def tw11701697575041072012:Unit:=()
def tw11709743194394503286:Unit:=()
def tw1176151023791011828:Unit:=()
def tw11783009331836926906:Unit:=()
def tw11842892045157757988:Unit:=()
def tw11903318555643629046:Unit:=()
def tw11941703225815247693:Unit:=()
def tw1196489433614887298:Unit:=()
def tw11975938179198665747:Unit:=()
def tw11982324040419988932:Unit:=()
def tw12016338501032287968:Unit:=()
def tw12019703413927154309:Unit:=()
def tw12068149189965404670:Unit:=()
def tw12114603004252583968:Unit:=()
def tw12168392820373282891:Unit:=()
def tw12185071586398698270:Unit:=()
def tw12231969207433815650:Unit:=()
def tw12263547838189260891:Unit:=()
def tw12334315733486966658:Unit:=()
def tw12394087489682425940:Unit:=()
def tw12426753819400298604:Unit:=()
def tw12481722560824747238:Unit:=()
def tw1252736558703502517:Unit:=()
def tw12648116769627235049:Unit:=()
def tw12672725160483371915:Unit:=()
def tw12725176782034351140:Unit:=()
def tw12739178413450490519:Unit:=()
def tw12744929449658965006:Unit:=()
def tw12748839821228964735:Unit:=()
def tw12761868288449491562:Unit:=()
def tw12767472961508507629:Unit:=()
def tw12818501474949721434:Unit:=()
def tw12831547846987743253:Unit:=()
def tw1284357306613228649:Unit:=()
def tw12851798385357005816:Unit:=()
def tw12910308447840693035:Unit:=()
def tw12935770588862133652:Unit:=()
def tw12943913751561926714:Unit:=()
def tw12946508327659165911:Unit:=()
def tw1301724060344370909:Unit:=()
def tw13053576571589429417:Unit:=()
def tw13059503101301982868:Unit:=()
def tw13070541031557847555:Unit:=()
def tw1309079676611517115:Unit:=()
def tw13093252437310263926:Unit:=()
def tw13115617758572584801:Unit:=()
def tw13206382266412184217:Unit:=()
def tw13256084704066890624:Unit:=()
def tw13256797103270441563:Unit:=()
def tw1325724893302250162:Unit:=()
def tw13267708370428558150:Unit:=()
def tw13282321580982701965:Unit:=()
def tw13282708209416473426:Unit:=()
def tw13289346110236094277:Unit:=()
def tw13298695038476725398:Unit:=()
def tw13322522447111356170:Unit:=()
def tw1335281553749602336:Unit:=()
def tw13392026592478409277:Unit:=()
def tw13518117950280700418:Unit:=()
def tw13545096689105040616:Unit:=()
def tw13572334622871495400:Unit:=()
def tw13598664990591495725:Unit:=()
def tw1360561294072556626:Unit:=()
def tw13639127177805490470:Unit:=()
def tw13714141566717190455:Unit:=()
def tw13729984698543633166:Unit:=()
def tw1374766476420086159:Unit:=()
def tw13782336060803882324:Unit:=()
def tw13810380465887230998:Unit:=()
def tw13935697372065609369:Unit:=()
def tw13962047251536055406:Unit:=()
def tw14030778660544616332:Unit:=()
def tw14039058268326355445:Unit:=()
def tw14071932217081321830:Unit:=()
def tw14091332943135303727:Unit:=()
def tw14095892219319566995:Unit:=()
def tw14124271337077043516:Unit:=()
def tw14169879674928822306:Unit:=()
def tw14190533323406532704:Unit:=()
def tw14271719156923020982:Unit:=()
def tw14285339134096926227:Unit:=()
def tw14338929840087112856:Unit:=()
def tw14343264744622303296:Unit:=()
def tw14344078958619104551:Unit:=()
def tw14351061678103369099:Unit:=()
def tw14377587009522382102:Unit:=()
def tw1437783619795000766:Unit:=()
def tw14468517108812810972:Unit:=()
def tw14472781871821427866:Unit:=()
def tw1447709354689126162:Unit:=()
def tw14477422935510145372:Unit:=()
def tw14482012706694426560:Unit:=()
def tw14564303510895503922:Unit:=()
def tw14588588621281690564:Unit:=()
def tw14621758471509663749:Unit:=()
def tw1463666171468633513:Unit:=()
def tw14637892672906350087:Unit:=()
def tw14659707722571155978:Unit:=()
def tw14686103420277477993:Unit:=()
def tw14696576859300788090:Unit:=()
def tw14708041425008904022:Unit:=()
def tw1475696372089194854:Unit:=()
def tw14783599878135037803:Unit:=()
def tw1479644360836709366:Unit:=()
def tw14812817400516002778:Unit:=()
def tw14843253897423711718:Unit:=()
def tw14883009672111482207:Unit:=()
def tw14932601547232650004:Unit:=()
def tw14935841763433684595:Unit:=()
def tw14936483428504741039:Unit:=()
def tw14962339848717308990:Unit:=()
def tw1498130362934619933:Unit:=()
def tw15042408916632186622:Unit:=()
def tw15086538420603513088:Unit:=()
def tw15090619484373594312:Unit:=()
def tw1510890897201768008:Unit:=()
def tw15138221168214299909:Unit:=()
def tw15159403275204131255:Unit:=()
def tw15180255531371836780:Unit:=()
def tw15197403168540934650:Unit:=()
def tw15203812902360249917:Unit:=()
def tw15284483296559780029:Unit:=()
def tw15315377635977979523:Unit:=()
def tw15331556663416635346:Unit:=()
def tw15333657375128717870:Unit:=()
def tw15362476231530383347:Unit:=()
def tw15379671281895539941:Unit:=()
def tw15537486933560286197:Unit:=()
def tw15564213316685599165:Unit:=()
def tw15609836581318399090:Unit:=()
def tw15621642323711145664:Unit:=()
def tw15679882707888846517:Unit:=()
def tw15686805699690510874:Unit:=()
def tw15689607442542579818:Unit:=()
def tw15694300780514302843:Unit:=()
def tw15722466304917400889:Unit:=()
def tw15753966274262713555:Unit:=()
def tw1578093138694550987:Unit:=()
def tw1579555806147550700:Unit:=()
def tw15806476185099941916:Unit:=()
def tw15820791744803020060:Unit:=()
def tw15854812307181180654:Unit:=()
def tw15865041338439857439:Unit:=()
def tw15865421043797632866:Unit:=()
def tw1587779415462529660:Unit:=()
def tw15895730939664820224:Unit:=()
def tw15896055162866884611:Unit:=()
def tw15950890202780257431:Unit:=()
def tw15972352390999272286:Unit:=()
def tw15988432466263881094:Unit:=()
def tw16065812869803677384:Unit:=()
def tw16084819975973066550:Unit:=()
def tw16086305912619980150:Unit:=()
def tw16099556341902704235:Unit:=()
def tw16161906788323886189:Unit:=()
def tw16181199603632366959:Unit:=()
def tw16286529887874492147:Unit:=()
def tw16329188672685897187:Unit:=()
def tw16348145572210776760:Unit:=()
def tw1641023436309336162:Unit:=()
def tw16508435403365849665:Unit:=()
def tw16525307776849209614:Unit:=()
def tw16560236819185258499:Unit:=()
def tw1657024281135665240:Unit:=()
def tw16602247655404383850:Unit:=()
def tw16728195282513500007:Unit:=()
def tw16741096181336106951:Unit:=()
def tw16742940680483671928:Unit:=()
def tw16750680147757512755:Unit:=()
def tw16766571191285811576:Unit:=()
def tw16789629909445681954:Unit:=()
def tw16794355739697442787:Unit:=()
def tw16799249336646769879:Unit:=()
def tw16835688939918031435:Unit:=()
def tw16871370639816643229:Unit:=()
def tw16903922279911038790:Unit:=()
def tw16916669131068246762:Unit:=()
def tw16938429900051057800:Unit:=()
def tw17085184953405004252:Unit:=()
def tw17096621322706534633:Unit:=()
def tw17101655466519546934:Unit:=()
def tw17145197211036428080:Unit:=()
def tw1715933784394993801:Unit:=()
def tw17193751213198535127:Unit:=()
def tw17212498933870759460:Unit:=()
def tw17215487681959825863:Unit:=()
def tw17239197339799636074:Unit:=()
def tw17333708819480776966:Unit:=()
def tw17356401597765560995:Unit:=()
def tw17388515671814318679:Unit:=()
def tw17433482186727933114:Unit:=()
def tw17441254938418757133:Unit:=()
def tw17459074788961627409:Unit:=()
def tw1747847107967318680:Unit:=()
def tw17481735008324477763:Unit:=()
def tw17522693358514491712:Unit:=()
def tw17572753732532890886:Unit:=()
def tw17577493819827372996:Unit:=()
def tw17605025992884965853:Unit:=()
def tw17663719905202132208:Unit:=()
def tw17678209285219034739:Unit:=()
def tw17680237007494892757:Unit:=()
def tw17682788235028030264:Unit:=()
def tw17693425757295250459:Unit:=()
def tw17754956355095125405:Unit:=()
def tw1779516095125022391:Unit:=()
def tw1788670526408477019:Unit:=()
def tw17976040774693791086:Unit:=()
def tw17987419792289532769:Unit:=()
def tw18016491396070023922:Unit:=()
def tw18036445556145493257:Unit:=()
def tw18037932403468630962:Unit:=()
def tw18063202508175178914:Unit:=()
def tw18086277670769811396:Unit:=()
def tw18094089458104491204:Unit:=()
def tw18195814966271004814:Unit:=()
def tw18219781518616380550:Unit:=()
def tw18224532850099239304:Unit:=()
def tw18234884855098264803:Unit:=()
def tw18269895269879550785:Unit:=()
def tw18313569788217486937:Unit:=()
def tw18313940442716157942:Unit:=()
def tw18334936207938424841:Unit:=()
def tw18347993705404019302:Unit:=()
def tw18432193639984584587:Unit:=()
def tw1940201556057313604:Unit:=()
def tw2080943184645458332:Unit:=()
def tw2093582543660008647:Unit:=()
def tw2145823094012020878:Unit:=()
def tw2184712307052387165:Unit:=()
def tw2186810350123208587:Unit:=()
def tw2201765441657309557:Unit:=()
def tw2242012798516033235:Unit:=()
def tw224573032418108539:Unit:=()
def tw2281133282205483684:Unit:=()
def tw2306687332600359928:Unit:=()
def tw2316959473512690551:Unit:=()
def tw2331301481568855713:Unit:=()
def tw2333461067769653186:Unit:=()
def tw2365259281172833879:Unit:=()
def tw2375640972691991368:Unit:=()
def tw2377245517666479312:Unit:=()
def tw2406951604483597191:Unit:=()
def tw240847686574807382:Unit:=()
def tw2447150657442538901:Unit:=()
def tw2543130038323141417:Unit:=()
def tw2571780763643614405:Unit:=()
def tw2609341273723687313:Unit:=()
def tw2627261066701880602:Unit:=()
def tw2666627780023534196:Unit:=()
def tw2705833301462524180:Unit:=()
def tw2773449787673264444:Unit:=()
def tw2790141790240314762:Unit:=()
def tw2832504897648282995:Unit:=()
def tw2849057766556875257:Unit:=()
def tw2850926047719502420:Unit:=()
def tw2887820728636960805:Unit:=()
def tw2995392689780827423:Unit:=()
def tw3032227733040518763:Unit:=()
def tw3080759174171707065:Unit:=()
def tw3081936126841243602:Unit:=()
def tw3253355987533042061:Unit:=()
def tw3307755233473640558:Unit:=()
def tw3346355939221196433:Unit:=()
def tw3408456743805538059:Unit:=()
def tw3411835507321383021:Unit:=()
def tw3443719029644694628:Unit:=()
def tw3478902224986996482:Unit:=()
def tw3489308144202159709:Unit:=()
def tw3499523873137183288:Unit:=()
def tw3510240030521261062:Unit:=()
def tw3540622449396735965:Unit:=()
def tw361744287549792441:Unit:=()
def tw3699658436724967275:Unit:=()
def tw3719349784613985456:Unit:=()
def tw3730885945021086158:Unit:=()
def tw3780107953260412255:Unit:=()
def tw3786434958976902418:Unit:=()
def tw3933349638619982366:Unit:=()
def tw3938287575519653591:Unit:=()
def tw3945721575460551476:Unit:=()
def tw4029665833452169565:Unit:=()
def tw4031539152419088621:Unit:=()
def tw4052259806677938031:Unit:=()
def tw4054968587042961268:Unit:=()
def tw4080517459692918448:Unit:=()
def tw412596936024238698:Unit:=()
def tw4131793939438494162:Unit:=()
def tw4148058331403580046:Unit:=()
def tw4166370645680444221:Unit:=()
def tw4199313174420747290:Unit:=()
def tw4290974864476094783:Unit:=()
def tw4300373888837832045:Unit:=()
def tw440960064091529355:Unit:=()
def tw4414280312651978307:Unit:=()
def tw44556344123391344:Unit:=()
def tw4469902952601518116:Unit:=()
def tw4475214773312807444:Unit:=()
def tw447795228288749619:Unit:=()
def tw4502254973038742364:Unit:=()
def tw4507739823770153730:Unit:=()
def tw452260776152488342:Unit:=()
def tw4594768579154283834:Unit:=()
def tw464682938479835807:Unit:=()
def tw4679468836345845541:Unit:=()
def tw4711527980478175841:Unit:=()
def tw4752758840889167384:Unit:=()
def tw4820733126004270203:Unit:=()
def tw4845165500656654935:Unit:=()
def tw4852439785489010391:Unit:=()
def tw4856002386503929108:Unit:=()
def tw4882391606215994266:Unit:=()
def tw4910412744230669899:Unit:=()
def tw491083318708745551:Unit:=()
def tw4961626182252804081:Unit:=()
def tw4983898502137455139:Unit:=()
def tw499393791400328009:Unit:=()
def tw4998114992617699926:Unit:=()
def tw5004610755811353120:Unit:=()
def tw5064080947423232984:Unit:=()
def tw5181575940452924907:Unit:=()
def tw5227704890007954911:Unit:=()
def tw523000758490257969:Unit:=()
def tw5245279512562098923:Unit:=()
def tw5284420971444179004:Unit:=()
def tw5291260957807426419:Unit:=()
def tw5330206839422408961:Unit:=()
def tw5357872685517808988:Unit:=()
def tw538137128394564707:Unit:=()
def tw5413399485661415913:Unit:=()
def tw5413538183804658840:Unit:=()
def tw5462446933011291250:Unit:=()
def tw5553134079666514101:Unit:=()
def tw5572823466489812206:Unit:=()
def tw557334467669729371:Unit:=()
def tw5596152880316697046:Unit:=()
def tw5599988945783463133:Unit:=()
def tw5600679719932949012:Unit:=()
def tw5636534014214551700:Unit:=()
def tw5657855540629927546:Unit:=()
def tw5741738150168628633:Unit:=()
def tw5742314481987036784:Unit:=()
def tw5762167998919646237:Unit:=()
def tw582279600510124345:Unit:=()
def tw5906409887932908322:Unit:=()
def tw5932573216763310370:Unit:=()
def tw5939477925259933511:Unit:=()
def tw6019134824036191763:Unit:=()
def tw6025030946309257419:Unit:=()
def tw6037799419662868489:Unit:=()
def tw6041589788493720187:Unit:=()
def tw6072902909573695064:Unit:=()
def tw6073049404324156594:Unit:=()
def tw608558999076253030:Unit:=()
def tw6120954358402395605:Unit:=()
def tw6128766148663816135:Unit:=()
def tw6140793447128262884:Unit:=()
def tw6157425044585854893:Unit:=()
def tw6175949508543194563:Unit:=()
def tw6178060018825774874:Unit:=()
def tw6271200504285882896:Unit:=()
def tw6333684209621494690:Unit:=()
def tw6362073075620593099:Unit:=()
def tw6404807649093901782:Unit:=()
def tw6505399422661763618:Unit:=()
def tw6553957881039746001:Unit:=()
def tw6625259696990723402:Unit:=()
def tw6646166394648442525:Unit:=()
def tw665189690506030332:Unit:=()
def tw6675255957447572237:Unit:=()
def tw6833493507977114101:Unit:=()
def tw6842339950134915496:Unit:=()
def tw6852092715632392714:Unit:=()
def tw6857757178528962776:Unit:=()
def tw6871635735448939768:Unit:=()
def tw6896938193621113067:Unit:=()
def tw6902876285248787563:Unit:=()
def tw6909223573728880970:Unit:=()
def tw6917400376286116132:Unit:=()
def tw6925700081679139299:Unit:=()
def tw6933946292722925792:Unit:=()
def tw6945110144565742285:Unit:=()
def tw6960793305651041049:Unit:=()
def tw7004656891994078294:Unit:=()
def tw7076064023272324884:Unit:=()
def tw7090641664802461899:Unit:=()
def tw7117072338123713829:Unit:=()
def tw7152962317471961958:Unit:=()
def tw7166332017234662652:Unit:=()
def tw7168553470236916460:Unit:=()
def tw7195749368004075782:Unit:=()
def tw7197707811418360609:Unit:=()
def tw7215968713786967242:Unit:=()
def tw7225236896562846647:Unit:=()
def tw723348542090073438:Unit:=()
def tw7299101723250516247:Unit:=()
def tw7342419061478623154:Unit:=()
def tw7343063907325638579:Unit:=()
def tw7350794260667292408:Unit:=()
def tw7383523517427082268:Unit:=()
def tw7421515964545957156:Unit:=()
def tw7463634476999086435:Unit:=()
def tw7469370467564421249:Unit:=()
def tw7503997954928558174:Unit:=()
def tw7513166654002203307:Unit:=()
def tw7516905609646079301:Unit:=()
def tw7532842804986072554:Unit:=()
def tw754009332490598490:Unit:=()
def tw7557484124634112582:Unit:=()
def tw7689326736436766754:Unit:=()
def tw7690925952091039385:Unit:=()
def tw7702424872273650784:Unit:=()
def tw7742110782448382030:Unit:=()
def tw7773156307548518680:Unit:=()
def tw7847500199321744362:Unit:=()
def tw7867506898624142226:Unit:=()
def tw7893889789358912659:Unit:=()
def tw7896142743610011165:Unit:=()
def tw7916428671774998570:Unit:=()
def tw8032150259372359712:Unit:=()
def tw805395681773036264:Unit:=()
def tw8061517664483353681:Unit:=()
def tw8093612649354571452:Unit:=()
def tw8183603034663516713:Unit:=()
def tw81904980879904446:Unit:=()
def tw8239764909613807639:Unit:=()
def tw830499977433283633:Unit:=()
def tw8358443965784989905:Unit:=()
def tw8378403938429936771:Unit:=()
def tw8385135797687875036:Unit:=()
def tw8392811689302981426:Unit:=()
def tw8405979698043071147:Unit:=()
def tw8421817437861853873:Unit:=()
def tw8473851797517824925:Unit:=()
def tw8481352130423120619:Unit:=()
def tw8520355833000362889:Unit:=()
def tw852248625697197587:Unit:=()
def tw8555571674670835429:Unit:=()
def tw8568175860789119958:Unit:=()
def tw8604428750104944425:Unit:=()
def tw8679014340258045096:Unit:=()
def tw87545028035222838:Unit:=()
def tw88048587567320429:Unit:=()
def tw8806577121769610664:Unit:=()
def tw8812726049290683536:Unit:=()
def tw8900629082480769168:Unit:=()
def tw8911654294890076983:Unit:=()
def tw8915372780553455337:Unit:=()
def tw8953404559833242447:Unit:=()
def tw9018345521287779096:Unit:=()
def tw9055270846811119871:Unit:=()
def tw9141102251032034376:Unit:=()
def tw9205456038844767881:Unit:=()
def tw9208324363378354162:Unit:=()
def tw9343363325179826253:Unit:=()
def tw9358575376308129136:Unit:=()
def tw9384346423863207251:Unit:=()
def tw9402065641445837361:Unit:=()
def tw9457585566979178576:Unit:=()
def tw9484021254481819053:Unit:=()
def tw9515068106735668061:Unit:=()
def tw9549884202407143167:Unit:=()
def tw9614082338089019493:Unit:=()
def tw961689209588603020:Unit:=()
def tw9633525359339174178:Unit:=()
def tw9652119369603337083:Unit:=()
def tw9679188295738167407:Unit:=()
def tw9706971921815598085:Unit:=()
def tw9720206448436861013:Unit:=()
def tw9736595884115320506:Unit:=()
def tw9815077644208145916:Unit:=()
def tw9832912393431011890:Unit:=()
def tw9834463623810389448:Unit:=()
def tw9943351533153182722:Unit:=()
def tw9970844311114131765:Unit:=()
def tw9995334658142286445:Unit:=()
def tw10089793181729922941:Unit:=()
def tw11784230445122565090:Unit:=()
def tw15764044913165884639:Unit:=()
def tw1697731602836163739:Unit:=()
def tw1733224605725261815:Unit:=()
def tw3484741598842030367:Unit:=()
def tw3517280701328510487:Unit:=()
def tw6089136000138736195:Unit:=()
def tw6789679289860422420:Unit:=()
def tw7506635846609507874:Unit:=()
def tw7723051387994147179:Unit:=()
def tw8863108790806222560:Unit:=()
def tw9163940748071642278:Unit:=()
def tw9648220240132407319:Unit:=()
def tw10878849551399108149:Unit:=()
def tw11424575096746142458:Unit:=()
def tw12325429727602190116:Unit:=()
def tw17682902535102708300:Unit:=()
def tw1769364258353551701:Unit:=()
def tw18389629076928747125:Unit:=()
def tw3688390988490494832:Unit:=()
def tw4239690836698647312:Unit:=()
def tw4434669188722353146:Unit:=()
def tw6218077477311465920:Unit:=()
def tw6437101001928463759:Unit:=()
def tw9003099191254447074:Unit:=()
def tw9403436975403234767:Unit:=()
def tw956417884098443607:Unit:=()
def tw987301793811622969:Unit:=()
def tw17977130869444733051:Unit:=()
end PySem.W.Fast
open PySem PySem.W PyProof.Rows
set_option maxRecDepth 100000 in
set_option maxHeartbeats 0 in
theorem PySem.Challenge.cw_slideroom_k73_forged_prices_holds : PySem.Challenge.rw_slideroom_k73_forged_prices.Holds := by
 w_on;o_law;k_head;(case hw=>w_witness2)
 k_fill
 refine K73.walk (l:=PySem.Challenge.rw_slideroom_k73_forged_prices) rfl rfl (fun w h Y=>⟨PySem.W.km_in_of Y,PySem.W.km_tabs_of Y⟩) ?F
 case F =>
  intro w mg fa h KX G hmg
  refine' K73.all_mk KX G hmg ?eR ?eh ?et ?a0_ ?l0_ ?c0_ ?k0_ ?a1_ ?l1_ ?c1_ ?k1_ ?a2_ ?l2_ ?c2_ ?k2_ ?a3_ ?l3_ ?c3_ ?k3_ ?a4_ ?l4_ ?c4_ ?k4_ ?a5_ ?l5_ ?c5_ ?k5_ ?a6_ ?l6_ ?c6_ ?k6_ ?a7_ ?l7_ ?c7_ ?k7_ ?a8_ ?l8_ ?c8_ ?k8_ ?a9_ ?l9_ ?c9_ ?k9_ ?a10_ ?l10_ ?c10_ ?k10_ ?a11_ ?l11_ ?c11_ ?k11_ ?a12_ ?l12_ ?c12_ ?k12_ ?a13_ ?l13_ ?c13_ ?k13_ ?a14_ ?l14_ ?c14_ ?k14_ ?a15_ ?l15_ ?c15_ ?k15_ ?a16_ ?l16_ ?c16_ ?k16_ ?a17_ ?l17_ ?c17_ ?k17_ ?a18_ ?l18_ ?c18_ ?k18_ ?a19_ ?l19_ ?c19_ ?k19_ ?a20_ ?l20_ ?c20_ ?k20_ ?a21_ ?l21_ ?c21_ ?k21_ ?a22_ ?l22_ ?c22_ ?k22_ ?a23_ ?l23_ ?c23_ ?k23_ ?a24_ ?l24_ ?c24_ ?k24_ ?a25_ ?l25_ ?c25_ ?k25_ ?a26_ ?l26_ ?c26_ ?k26_ ?a27_ ?l27_ ?c27_ ?k27_ ?a28_ ?l28_ ?c28_ ?k28_ ?a29_ ?l29_ ?c29_ ?k29_ ?a30_ ?l30_ ?c30_ ?k30_ ?a31_ ?l31_ ?c31_ ?k31_ ?a32_ ?l32_ ?c32_ ?k32_ ?a33_ ?l33_ ?c33_ ?k33_ ?a34_ ?l34_ ?c34_ ?k34_ ?a35_ ?l35_ ?c35_ ?k35_ ?nb0 ?nb1 ?nb2 ?nb3 ?nb4 ?nb5 ?nb6 ?nb7 ?nb8 ?nb9 ?nb10 ?nb11 ?nb12 ?nb13 ?nb14 ?nb15 ?nb16 ?con0 ?con1 ?con2 ?con3 ?con4 ?con5 ?zc ?zt ?zm ?aCL ?pgL ?hdL ?poL ?saL ?mkL ?kcL ?naL_many ?naL_rows ?at_Linit ?fn_Linit ?lk_Linit ?cd_Linit ?kp_Linit ?tb_Linit ?tn_Linit ?at_Lblocks ?fn_Lblocks ?lk_Lblocks ?cd_Lblocks ?kp_Lblocks
  (case eR=>k_is)
  (case eh=>k_is)
  (case et=>k_is)
  (case a0_=>k_is)
  (case l0_=>k_is)
  (case c0_=>k_is)
  (case k0_=>k_is)
  (case a1_=>k_is)
  (case l1_=>k_is)
  (case c1_=>k_is)
  (case k1_=>k_is)
  (case a2_=>k_is)
  (case l2_=>k_is)
  (case c2_=>k_is)
  (case k2_=>k_is)
  (case a3_=>k_is)
  (case l3_=>k_is)
  (case c3_=>k_is)
  (case k3_=>k_is)
  (case a4_=>k_is)
  (case l4_=>k_is)
  (case c4_=>k_is)
  (case k4_=>k_is)
  (case a5_=>k_is)
  (case l5_=>k_is)
  (case c5_=>k_is)
  (case k5_=>k_is)
  (case a6_=>k_is)
  (case l6_=>k_is)
  (case c6_=>k_is)
  (case k6_=>k_is)
  (case a7_=>k_is)
  (case l7_=>k_is)
  (case c7_=>k_is)
  (case k7_=>k_is)
  (case a8_=>k_is)
  (case l8_=>k_is)
  (case c8_=>k_is)
  (case k8_=>k_is)
  (case a9_=>k_is)
  (case l9_=>k_is)
  (case c9_=>k_is)
  (case k9_=>k_is)
  (case a10_=>k_is)
  (case l10_=>k_is)
  (case c10_=>k_is)
  (case k10_=>k_is)
  (case a11_=>k_is)
  (case l11_=>k_is)
  (case c11_=>k_is)
  (case k11_=>k_is)
  (case a12_=>k_is)
  (case l12_=>k_is)
  (case c12_=>k_is)
  (case k12_=>k_is)
  (case a13_=>k_is)
  (case l13_=>k_is)
  (case c13_=>k_is)
  (case k13_=>k_is)
  (case a14_=>k_is)
  (case l14_=>k_is)
  (case c14_=>k_is)
  (case k14_=>k_is)
  (case a15_=>k_is)
  (case l15_=>k_is)
  (case c15_=>k_is)
  (case k15_=>k_is)
  (case a16_=>k_is)
  (case l16_=>k_is)
  (case c16_=>k_is)
  (case k16_=>k_is)
  (case a17_=>k_is)
  (case l17_=>k_is)
  (case c17_=>k_is)
  (case k17_=>k_is)
  (case a18_=>k_is)
  (case l18_=>k_is)
  (case c18_=>k_is)
  (case k18_=>k_is)
  (case a19_=>k_is)
  (case l19_=>k_is)
  (case c19_=>k_is)
  (case k19_=>k_is)
  (case a20_=>k_is)
  (case l20_=>k_is)
  (case c20_=>k_is)
  (case k20_=>k_is)
  (case a21_=>k_is)
  (case l21_=>k_is)
  (case c21_=>k_is)
  (case k21_=>k_is)
  (case a22_=>k_is)
  (case l22_=>k_is)
  (case c22_=>k_is)
  (case k22_=>k_is)
  (case a23_=>k_is)
  (case l23_=>k_is)
  (case c23_=>k_is)
  (case k23_=>k_is)
  (case a24_=>k_is)
  (case l24_=>k_is)
  (case c24_=>k_is)
  (case k24_=>k_is)
  (case a25_=>k_is)
  (case l25_=>k_is)
  (case c25_=>k_is)
  (case k25_=>k_is)
  (case a26_=>k_is)
  (case l26_=>k_is)
  (case c26_=>k_is)
  (case k26_=>k_is)
  (case a27_=>k_is)
  (case l27_=>k_is)
  (case c27_=>k_is)
  (case k27_=>k_is)
  (case a28_=>k_is)
  (case l28_=>k_is)
  (case c28_=>k_is)
  (case k28_=>k_is)
  (case a29_=>k_is)
  (case l29_=>k_is)
  (case c29_=>k_is)
  (case k29_=>k_is)
  (case a30_=>k_is)
  (case l30_=>k_is)
  (case c30_=>k_is)
  (case k30_=>k_is)
  (case a31_=>k_is)
  (case l31_=>k_is)
  (case c31_=>k_is)
  (case k31_=>k_is)
  (case a32_=>k_is)
  (case l32_=>k_is)
  (case c32_=>k_is)
  (case k32_=>k_is)
  (case a33_=>k_is)
  (case l33_=>k_is)
  (case c33_=>k_is)
  (case k33_=>k_is)
  (case a34_=>k_is)
  (case l34_=>k_is)
  (case c34_=>k_is)
  (case k34_=>k_is)
  (case a35_=>k_is)
  (case l35_=>k_is)
  (case c35_=>k_is)
  (case k35_=>k_is)
  (case nb0=>k_is)
  (case nb1=>k_is)
  (case nb2=>k_is)
  (case nb3=>k_is)
  (case nb4=>k_is)
  (case nb5=>k_is)
  (case nb6=>k_is)
  (case nb7=>k_is)
  (case nb8=>k_is)
  (case nb9=>k_is)
  (case nb10=>k_is)
  (case nb11=>k_is)
  (case nb12=>k_is)
  (case nb13=>k_is)
  (case nb14=>k_is)
  (case nb15=>k_is)
  (case nb16=>k_is)
  (case con0=>k_is)
  (case con1=>k_is)
  (case con2=>k_is)
  (case con3=>k_is)
  (case con4=>k_is)
  (case con5=>k_is)
  (case zc=>k_is)
  (case zt=>k_is)
  (case zm=>k_is)
  (case aCL=>k_is)
  (case pgL=>k_is)
  (case hdL=>k_is)
  (case poL=>k_is)
  (case saL=>k_is)
  (case mkL=>k_is)
  (case kcL=>k_is)
  (case naL_many=>k_is)
  (case naL_rows=>k_is)
  (case at_Linit=>k_is)
  (case fn_Linit=>k_is)
  (case lk_Linit=>k_is)
  (case cd_Linit=>k_is)
  (case kp_Linit=>k_is)
  (case at_Lblocks=>k_is)
  (case fn_Lblocks=>k_is)
  (case lk_Lblocks=>k_is)
  (case cd_Lblocks=>k_is)
  (case kp_Lblocks=>k_is)
  (case tb_Linit=>kernel_rfl)
  (case tn_Linit=>kernel_rfl)

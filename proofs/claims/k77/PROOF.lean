import PyProof.Rows.All
import Wide.All
import OpenK.AllK
import Wide.FinOn
import Lean
import PyProof.EqAt
import PyProof.EqKinds
import PyProof.TupleCall
import PyProof.NeKinds
import PyProof.ExcInit
import PyProof.StationsW
import PyProof.ExcBaseAll.ValueError
import PyProof.ExcArgs
import KE.KIsAll
import PyProof.ReprRoads
import PyProof.CallFns
import PyProof.ExcClass3
import PyProof.StrBlock2
import PyProof.FitsInt
import PyProof.StrLawsRepr
import KE.KTryMore
import PyProof.RulesAs
import KE.KIntText
import PyProof.StrLawsChain
import PyProof.StrCalls2
import PyProof.ZipIter
import PyProof.Conv_bool
import PyProof.CallStr
import PyProof.TupleIter
import KE.KEqDict
import PyProof.AutoListH
import PyProof.FactsAll.range_2
import KE.IntTextLaws
import PyProof.StrCalls
import PySem.Challenge.RW_slideroom_k77_sizes_refused
-- CHANGE: your row's module here, as the last of these rows
set_option compiler.extract_closed false
set_option Elab.async false
set_option linter.all false
set_option maxRecDepth 100000
namespace L2
open PySem PySem.Spec PyProof.Rows
abbrev Key:=Sum Int Str
def keyIs:Key→Value→Bool
 | .inl k,v=>Value.isInt k v
 | .inr x,v=>Value.isStrOf x v
def keyH (w:World):Key→Int
 | .inl k=>hashInt k
 | .inr x=>hashStr w x
theorem keyIs_shape:∀{k:Key} {v:Value},keyIs k v=true→(∃i t,k=Sum.inl i∧v=Value.int i t)∨(∃x t,k=Sum.inr x∧v=Value.str x t)
 | .inl i,v,h=>by
  obtain ⟨t,e⟩:=Value.isInt_shape (k:=i) (v:=v) h
  exact .inl ⟨i,t,rfl,e⟩
 | .inr x,v,h=>by
  obtain ⟨t,e⟩:=Value.isStrOf_shape (x:=x) (v:=v) h
  exact .inr ⟨x,t,rfl,e⟩
theorem key_ll (a b:Int):decide ((Sum.inl a:Key)=Sum.inl b)=(a == b):=by
 by_cases e:a=b
 ·subst e;simp
 ·have h:¬ (Sum.inl a:Key)=Sum.inl b:=fun q=>e (Sum.inl.inj q)
  rw [decide_eq_false h]
  exact (beq_eq_false_iff_ne.mpr e).symm
theorem key_rr (a b:Str):decide ((Sum.inr a:Key)=Sum.inr b)=decide (a=b):=by
 by_cases e:a=b
 ·subst e;simp
 ·have h:¬ (Sum.inr a:Key)=Sum.inr b:=fun q=>e (Sum.inr.inj q)
  rw [decide_eq_false h,decide_eq_false e]
theorem key_lr (a:Int) (b:Str):decide ((Sum.inl a:Key)=Sum.inr b)=false:=decide_eq_false (fun q=>nomatch q)
theorem key_rl (a:Str) (b:Int):decide ((Sum.inr a:Key)=Sum.inl b)=false:=decide_eq_false (fun q=>nomatch q)
def mixKind (prog:Program) (w:World):PySem.KeyKind prog w Key where
 is:=keyIs
 hash:=keyH w
 inj:=fun v a b ha hb=>by
  rcases keyIs_shape ha with ⟨i,t,rfl,rfl⟩ | ⟨x,t,rfl,rfl⟩
  ·rcases keyIs_shape hb with ⟨j,u,rfl,e⟩ | ⟨y,u,rfl,e⟩
   ·injection e with e1 _;rw [e1]
   ·exact nomatch e
  ·rcases keyIs_shape hb with ⟨j,u,rfl,e⟩ | ⟨y,u,rfl,e⟩
   ·exact nomatch e
   ·injection e with e1 _;rw [e1]
 byValue:=fun k v h=>by
  rcases keyIs_shape h with ⟨i,t,rfl,rfl⟩ | ⟨x,t,rfl,rfl⟩ <;> rfl
 pyHash:=fun hv h=>by
  rcases keyIs_shape hv with ⟨i,t,rfl,rfl⟩ | ⟨x,t,rfl,rfl⟩
  ·exact wpAny_pyHash_int h
  ·exact wpAny_pyHash_str h
 eqBool:=fun hu hv h=>by
  rcases keyIs_shape hu with ⟨i,t,rfl,rfl⟩ | ⟨x,t,rfl,rfl⟩
  ·rcases keyIs_shape hv with ⟨j,u,rfl,rfl⟩ | ⟨y,u,rfl,rfl⟩
   ·rw [key_ll] at h;exact wpAny_eqBool_int h
   ·rw [key_lr] at h;exact SeqAt.EqAt.int_str i t y u _ _ _ _ h
  ·rcases keyIs_shape hv with ⟨j,u,rfl,rfl⟩ | ⟨y,u,rfl,rfl⟩
   ·rw [key_rl] at h;exact SeqAt.EqAt.str_int x t j u _ _ _ _ h
   ·rw [key_rr] at h;exact wpAny_eqBool_str h
 «strs»:=fun k x t v h=>by
  rcases keyIs_shape h with ⟨i,u,rfl,e⟩ | ⟨y,u,rfl,e⟩
  ·exact nomatch e
  ·injection e with e1 _
   subst e1
   cases v <;> rfl
inductive V where
 | non | bl (b:Bool) | int (i:Int) | str (x:Str) | byt (b:Array UInt8) | flt (b:UInt64) | ref (a:Addr) | ty (n:String)
 deriving DecidableEq
def RelV:V→Value→Prop
 | .non,u=>u=Value.none
 | .bl b,u=>u=Value.bool b
 | .int i,u=>∃t,u=Value.int i t
 | .str x,u=>∃t,u=Value.str x t
 | .byt b,u=>∃t,u=Value.bytes b t
 | .flt b,u=>∃t,u=Value.float b t
 | .ref a,u=>u=Value.ref a
 | .ty n,u=>u=Value.type n
abbrev Vals:List V→List Value→Prop:=Paired RelV
theorem Vals.length {xs:List V} {us:List Value} (r:Vals xs us):xs.length=us.length:=Paired.length r
theorem Vals.get:∀{xs:List V} {us:List Value} {i:Nat} {x:V},Vals xs us→xs[i]?=some x→∃u,us[i]?=some u∧RelV x u
 | _,_,_,_,.nil,e=>by simp at e
 | _,_,0,_,.cons r _,e=>by simp at e;subst e;exact ⟨_,rfl,r⟩
 | _,_,i + 1,x,.cons _ t,e=>by
  obtain ⟨u,h1,h2⟩:=Vals.get (i:=i) (x:=x) t (by simpa using e)
  exact ⟨u,by simpa using h1,h2⟩
theorem Vals.set {x:V} {u:Value} (r:RelV x u):∀{xs:List V} {us:List Value} (i:Nat),Vals xs us→Vals (xs.set i x) (us.set i u)
 | _,_,_,.nil=>.nil
 | _,_,0,.cons _ t=>.cons r t
 | _,_,i + 1,.cons q t=>.cons q (Vals.set r i t)
theorem Vals.append:∀{xs ys:List V} {us ws:List Value},Vals xs us→Vals ys ws→Vals (xs++ys) (us++ws)
 | _,_,_,_,.nil,s=>s
 | _,_,_,_,.cons r t,s=>.cons r (Vals.append t s)
theorem Vals.take:∀{xs:List V} {us:List Value} (n:Nat),Vals xs us→Vals (xs.take n) (us.take n)
 | _,_,0,_=>.nil
 | _,_,_ + 1,.nil=>.nil
 | _,_,n + 1,.cons r t=>.cons r (Vals.take n t)
theorem Vals.drop:∀{xs:List V} {us:List Value} (n:Nat),Vals xs us→Vals (xs.drop n) (us.drop n)
 | _,_,0,r=>r
 | _,_,_ + 1,.nil=>.nil
 | _,_,n + 1,.cons _ t=>Vals.drop n t
def RelO:Option V→Option Value→Prop
 | some v,some u=>RelV v u
 | none,none=>True
 | _,_=>False
def KV {κ:Type}:List (κ×V)→List (κ×Value)→Prop:=Paired fun (p:κ×V) (q:κ×Value)=>p.1=q.1∧RelV p.2 q.2
def kV:Key→V
 | .inl i=>.int i
 | .inr x=>.str x
inductive HO where
 /-- a list -/
 | lst (xs:List V)
 /-- a tuple (never changes) -/
 | tup (xs:List V)
 /-- a dict whose keys are ints and texts; one whose keys are tuples of ints and texts (the empty one is both) -/
 | dK (kvs:List (Key×V)) | dT (kvs:List (List Key×V))
 /-- a set of ints: its members, its size -/
 | set (S:Int→Bool) (n:Nat)
 /-- an instance of the class at C, its dict at dx, its attributes -/
 | ins (C dx:Addr) (fs:List (Str×V))
 /-- the dict of the instance at x -/
 | own (x:Addr)
 /-- the dict of an exception -/
 | xd (fs:List (Str×V))
 /-- a bound method, f of x -/
 | met (f x:Addr)
 /-- a range object lo, lo + 1, .. below hi -/
 | rng (lo hi:Int)
 /-- a thing that is known to the object (the script; a dict while a loop walks it): read, never written while it is so -/
 | frz (o:Obj) (u:HO)
 /-- a code object's table -/
 | tbl (ps:Array Value)
 /-- any other thing, by what is true of its one object (a def of one's own: SetO a S n := HO.ext fun h => ..) -/
 | ext (φ:Heap→Prop)
abbrev Hp:=Addr→Option HO
def upd (H:Hp) (a:Addr) (o:HO):Hp:=fun b=>if b=a then some o else H b
theorem upd_same {H:Hp} {a:Addr} {o:HO}:upd H a o a=some o:=by unfold upd;rw [if_pos rfl]
theorem upd_ne {H:Hp} {a b:Addr} {o:HO} (h:b≠a):upd H a o b=H b:=by unfold upd;rw [if_neg h]
theorem upd_upd {H:Hp} {a:Addr} {o u:HO}:upd (upd H a o) a u=upd H a u:=by
 funext b;unfold upd;split <;> rfl
theorem ne_of {H:Hp} {a b:Addr} {o u:HO} (h:H a=some o) (h':H b=some u) (d:o≠u):a≠b:=by
 intro e;subst e;rw [h] at h';exact d (Option.some.inj h')
theorem ne_of_none {H:Hp} {a b:Addr} {o:HO} (h:H a=some o) (h':H b=none):a≠b:=by
 intro e;subst e;rw [h] at h';cases h'
section
variable (P:Program) (w:World)
def ObjOk (H:Hp) (h:Heap) (a:Addr):HO→Prop
 | .lst xs=>xs.length≤sizeLine∧∃(its:List Value) (n:Nat),Vals xs its∧h.get? a=some { cls:=.type "list", data:=.seq its.toArray n }
 | .tup xs=>xs.length≤sizeLine∧∃its:List Value,Vals xs its∧IsTup h a its.toArray
 | .dK kvs=>kvs.length≤sizeLine∧(a == sysModules)=false∧∃vs,KV kvs vs∧h.DictOf (mixKind P w) a vs
 | .dT kvs=>kvs.length≤sizeLine∧(a == sysModules)=false∧∃xs:List (List Key×Addr×Value),
   Paired (fun (p:List Key×V) (q:List Key×Addr×Value)=>p.1=q.1∧H q.2.1=some (.tup (p.1.map kV))∧RelV p.2 q.2.2) kvs xs ∧
   ∃o es ep,h.get? a=some o∧o.ExactDict∧o.data=.dict es ep∧es.toList=xs.map (entryOfKey (tupleKind (mixKind P w)))∧(xs.map (·.1)).Nodup
 | .set S n=>h.SetOf (intKind P w) a S n
 | .ins C dx fs=>H dx=some (.own a)∧fs.length≤1000∧dx≠a∧h.get? a=some (W.instObj C dx) ∧
   ∃mA,h.Ns1 dx mA∧(∀f,RelO (fs.lookup f) (mA f))∧PySem.Within mA (fs.map (·.1))
 | .own _=>∃o,h.get? a=some o
 | .xd fs=>∃mA,h.Ns1 a mA∧∀f,RelO (fs.lookup f) (mA f)
 | .rng lo hi=>∃t u v,h.get? a=some { cls:=.type "range", data:=.fields #[.int lo t,.int hi u,.int 1 v] }
 | .frz o u=>h.get? a=some o∧ObjOk H h a u
 | .tbl ps=>h.get? a=some { cls:=.none,data:=.fields ps }
 | .met f x=>h.get? a=some (W.methodObj (.ref f) (.ref x))
 | .ext φ=>φ h∧(∃o,h.get? a=some o)∧∀h1 h2:Heap,φ h1→(∀o,h1.get? a=some o→h2.get? a=some o)→φ h2
def HOk (H:Hp) (h:Heap):Prop:=∀a o,H a=some o→ObjOk P w H h a o
end
section
variable {P:Program} {w:World} {H H':Hp} {h h':Heap} {a:Addr} {o:HO}
theorem ObjOk.lt (x:ObjOk P w H h a o):a < h.objs.size:=by
 cases o with
 | lst xs=>obtain ⟨_,_,_,_,e⟩:=x;exact Heap.lt_size e
 | tup xs=>obtain ⟨_,_,_,p⟩:=x;exact p.lt
 | dK kvs=>obtain ⟨_,_,_,_,o,_,_,e,_⟩:=x;exact Heap.lt_size e
 | dT kvs=>obtain ⟨_,_,_,_,o,_,_,e,_⟩:=x;exact Heap.lt_size e
 | set S n=>obtain ⟨o,_,_,_,e,_⟩:=x;exact Heap.lt_size e
 | ins C dx fs=>obtain ⟨_,_,_,e,_⟩:=x;exact Heap.lt_size e
 | own y=>obtain ⟨_,e⟩:=x;exact Heap.lt_size e
 | xd fs=>obtain ⟨_,⟨_,_,_,e,_⟩,_⟩:=x;exact Heap.lt_size e
 | rng lo hi=>obtain ⟨_,_,_,e⟩:=x;exact Heap.lt_size e
 | frz ob u=>obtain ⟨e,_⟩:=x;exact Heap.lt_size e
 | tbl ps=>exact Heap.lt_size (show h.get? a=some _ from x)
 | met f y=>exact Heap.lt_size (show h.get? a=some _ from x)
 | ext φ=>obtain ⟨_,⟨_,e⟩,_⟩:=x;exact Heap.lt_size e
theorem Paired.mapP {α β:Type} {F G:α→β→Prop}:∀{l₁:List α} {l₂:List β},Paired F l₁ l₂→(∀a b,F a b→G a b)→Paired G l₁ l₂
 | _,_,.nil,_=>.nil
 | _,_,.cons r t,f=>.cons (f _ _ r) (Paired.mapP t f)
theorem ObjOk.stay (x:ObjOk P w H h a o) (k:∀b u,(b=a∨H b=some (.own a))→h.get? b=some u→h'.get? b=some u)
  (ho:∀b,H b=some (.own a)→H' b=some (.own a)) (ht:∀b xs,H b=some (.tup xs)→H' b=some (.tup xs)):ObjOk P w H' h' a o:=by
 induction o with
 | lst xs=>obtain ⟨z,its,n,r,e⟩:=x;exact ⟨z,its,n,r,k _ _ (.inl rfl) e⟩
 | tup xs=>obtain ⟨z,its,r,ob,e,c⟩:=x;exact ⟨z,its,r,ob,k _ _ (.inl rfl) e,c⟩
 | dK kvs=>obtain ⟨z,y,vs,r,ob,es,ep,e,c⟩:=x;exact ⟨z,y,vs,r,ob,es,ep,k _ _ (.inl rfl) e,c⟩
 | dT kvs =>
  obtain ⟨z,y,xs,r,ob,es,ep,e,c⟩:=x
  exact ⟨z,y,xs,Paired.mapP r fun p q z=>⟨z.1,ht _ _ z.2.1,z.2.2⟩,ob,es,ep,k _ _ (.inl rfl) e,c⟩
 | set S n=>obtain ⟨ob,es,ep,t,e,c⟩:=x;exact ⟨ob,es,ep,t,k _ _ (.inl rfl) e,c⟩
 | ins C dx fs =>
  obtain ⟨d,z,ne,e,mA,⟨od,es,ep,e2,c⟩,r⟩:=x
  exact ⟨ho _ d,z,ne,k _ _ (.inl rfl) e,mA,⟨od,es,ep,k _ _ (.inr d) e2,c⟩,r⟩
 | own y=>obtain ⟨ob,e⟩:=x;exact ⟨ob,k _ _ (.inl rfl) e⟩
 | xd fs=>obtain ⟨mA,⟨od,es,ep,e,c⟩,r⟩:=x;exact ⟨mA,⟨od,es,ep,k _ _ (.inl rfl) e,c⟩,r⟩
 | rng lo hi=>obtain ⟨t,u,v,e⟩:=x;exact ⟨t,u,v,k _ _ (.inl rfl) e⟩
 | frz ob u ih=>obtain ⟨e,q⟩:=x;exact ⟨k _ _ (.inl rfl) e,ih q⟩
 | tbl ps =>
  have e:h.get? a=some { cls:=.none,data:=.fields ps }:=x
  show h'.get? a=some { cls:=.none,data:=.fields ps }
  exact k a _ (.inl rfl) e
 | met f y =>
  have e:h.get? a=some (W.methodObj (.ref f) (.ref y)):=x
  show h'.get? a=some (W.methodObj (.ref f) (.ref y))
  exact k a _ (.inl rfl) e
 | ext φ=>obtain ⟨p,⟨o,e⟩,st⟩:=x;exact ⟨st _ _ p fun o q=>k _ _ (.inl rfl) q,⟨o,k _ _ (.inl rfl) e⟩,st⟩
theorem HOk.lt (x:HOk P w H h) (e:H a=some o):a < h.objs.size:=(x a o e).lt
theorem HOk.fresh (x:HOk P w H h) (e:h.objs.size≤a):H a=none:=by
 cases q:H a with
 | none=>rfl
 | some u=>exact absurd (Nat.lt_of_lt_of_le (x.lt q) e) (Nat.lt_irrefl _)
theorem HOk.kept (x:HOk P w H h) (k:∀b u,h.get? b=some u→h'.get? b=some u):HOk P w H h':=fun a o e =>
 (x a o e).stay (fun b u _ q=>k b u q) (fun _ q=>q) fun _ _ q=>q
theorem HOk.laid (x:HOk P w H h) (k:∀b u,h.get? b=some u→h'.get? b=some u) (hp:h.objs.size≤a) (new:ObjOk P w (upd H a o) h' a o):HOk P w (upd H a o) h':=fun b u e=>by
 have hn:=x.fresh hp
 by_cases hb:b=a
 ·subst hb;rw [upd_same] at e;cases e;exact new
 ·rw [upd_ne hb] at e
  exact (x b u e).stay (fun c v _ q=>k c v q) (fun c q=>by rw [upd_ne (ne_of_none q hn)];exact q) fun c xs q=>by rw [upd_ne (ne_of_none q hn)];exact q
end
def Rd (H:Hp) (a:Addr) (u:HO):Prop:=H a=some u∨∃o,H a=some (.frz o u)
theorem Rd.of {H:Hp} {a:Addr} {u:HO} (h:H a=some u):Rd H a u:=.inl h
theorem Rd.ok {P:Program} {w:World} {H:Hp} {h:Heap} {a:Addr} {u:HO} (r:Rd H a u) (x:HOk P w H h):ObjOk P w H h a u:=by
 rcases r with r | ⟨o,r⟩
 ·exact x a u r
 ·obtain ⟨_,q⟩:=x a _ r
  exact q
def Mut:Option HO→Prop
 | some (.lst _)=>True
 | some (.dK _)=>True
 | some (.dT _)=>True
 | some (.set _ _)=>True
 | some (.ins _ _ _)=>True
 | some (.ext _)=>True
 | _=>False
section
variable {P:Program} {w:World} {H:Hp} {h h':Heap} {x e:Addr} {o':HO}
theorem HOk.write (ok:HOk P w H h) (mu:Mut (H x)) (he:e=x∨H e=some (.own x)) (k:∀b u,b≠e→h.get? b=some u→h'.get? b=some u) (heo:∃u,h'.get? e=some u)
  (new:ObjOk P w (upd H x o') h' x o'):HOk P w (upd H x o') h':=fun b u q=>by
 have nown:∀c y,H c=some (.own y)→c≠x:=fun c y r z=>by subst z;rw [r] at mu;exact mu
 have ntup:∀c xs,H c=some (.tup xs)→c≠x:=fun c xs r z=>by subst z;rw [r] at mu;exact mu
 by_cases hb:b=x
 ·subst hb;rw [upd_same] at q;cases q;exact new
 ·rw [upd_ne hb] at q
  by_cases hbe:b=e
  ·have q':H b=some (.own x):=by
    rcases he with z | z
    ·exact absurd (hbe.trans z) hb
    ·rw [hbe];exact z
   rw [q] at q';cases q'
   obtain ⟨v,hv⟩:=heo
   exact ⟨v,by rw [hbe];exact hv⟩
  ·refine (ok b u q).stay (fun c v hc r=>k c v ?_ r) (fun c r=>by rw [upd_ne (nown c b r)];exact r) fun c xs r=>by rw [upd_ne (ntup c xs r)];exact r
   rcases hc with rfl | hc
   ·exact hbe
   ·rintro rfl
    rcases he with z | z
    ·exact nown c b hc z
    ·rw [hc] at z;cases z;exact hb rfl
end
structure Un (fs ex:List Addr) (H H':Hp) (h h':Heap):Prop where
 keep:∀b o,h.get? b=some o→H b=none→b ∉ fs→b ∉ ex→h'.get? b=some o
 slot:∀b o,h.get? b=some o→H b=none→b∈fs→b ∉ ex→∃sl,h'.get? b=some { o with slots:=sl }
 free:∀b o,h.get? b=some o→H b=none→b ∉ ex→H' b=none
 there:∀b o,h.get? b=some o→b ∉ ex→∃o',h'.get? b=some o'
 tups:∀b xs,H b=some (.tup xs)→H' b=some (.tup xs)
 frzs:∀b o u,H b=some (.frz o u)→H' b=some (.frz o u)
 tbls:∀b ps,H b=some (.tbl ps)→∃more,H' b=some (.tbl (ps++more))
section
variable {fs fs' ex ex':List Addr} {H H1 H2:Hp} {h h1 h2 h':Heap} {a x e:Addr} {o:HO}
theorem Un.any (u:Un fs ex H H1 h h1) {b:Addr} {ob:Obj} (q:h.get? b=some ob) (n:H b=none) (hx:b ∉ ex):∃sl,h1.get? b=some { ob with slots:=sl }:=by
 by_cases hb:b∈fs
 ·exact u.slot b ob q n hb hx
 ·exact ⟨ob.slots,u.keep b ob q n hb hx⟩
theorem Un.trans (a:Un fs ex H H1 h h1) (b:Un fs ex H1 H2 h1 h2):Un fs ex H H2 h h2 where
 keep:=fun c ob q n hc hx=>b.keep c ob (a.keep c ob q n hc hx) (a.free c ob q n hx) hc hx
 slot:=fun c ob q n hc hx=>by
  obtain ⟨sl,e1⟩:=a.slot c ob q n hc hx
  obtain ⟨sl',e2⟩:=b.slot c _ e1 (a.free c ob q n hx) hc hx
  exact ⟨sl',e2⟩
 free:=fun c ob q n hx=>by
  obtain ⟨o',e1⟩:=a.there c ob q hx
  exact b.free c o' e1 (a.free c ob q n hx) hx
 there:=fun c ob q hx=>by
  obtain ⟨o',e1⟩:=a.there c ob q hx
  exact b.there c o' e1 hx
 tups:=fun c xs q=>b.tups c xs (a.tups c xs q)
 frzs:=fun c ob xs q=>b.frzs c ob xs (a.frzs c ob xs q)
 tbls:=fun c ps q=>by
  obtain ⟨m1,e1⟩:=a.tbls c ps q
  obtain ⟨m2,e2⟩:=b.tbls c _ e1
  exact ⟨m1++m2,by rw [e2,Array.append_assoc]⟩
theorem Un.kept (k:∀b u,h.get? b=some u→h'.get? b=some u):Un fs ex H H h h' :=
 ⟨fun b ob q _ _ _=>k b ob q,fun b ob q _ _ _=>⟨ob.slots,k b ob q⟩,fun _ _ _ n _=>n,fun b ob q _=>⟨ob,k b ob q⟩,fun _ _ q=>q,fun _ _ _ q=>q,fun _ ps q=>⟨#[],by rw [q];simp⟩⟩
theorem Un.refl:Un fs ex H H h h:=Un.kept fun _ _ q=>q
theorem Un.laid (k:∀b u,h.get? b=some u→h'.get? b=some u) (hp:h.objs.size≤a) (hn:H a=none):Un fs ex H (upd H a o) h h' where
 keep:=fun b u q _ _ _=>k b u q
 slot:=fun b u q _ _ _=>⟨u.slots,k b u q⟩
 free:=fun b u q n _=>by rw [upd_ne (Nat.ne_of_lt (Nat.lt_of_lt_of_le (Heap.lt_size q) hp))];exact n
 there:=fun b u q _=>⟨u,k b u q⟩
 tups:=fun b xs q=>by rw [upd_ne (ne_of_none q hn)];exact q
 frzs:=fun b u xs q=>by rw [upd_ne (ne_of_none q hn)];exact q
 tbls:=fun b ps q=>⟨#[],by rw [upd_ne (ne_of_none q hn),q];simp⟩
theorem Un.write (mu:Mut (H x)) (he:e=x∨H e=some (.own x)) (k:∀b u,b≠e→h.get? b=some u→h'.get? b=some u) (heo:∃u,h'.get? e=some u):Un fs ex H (upd H x o) h h':=by
 have hx:∀b,H b=none→b≠x:=fun b n z=>by subst z;rw [n] at mu;exact mu
 have hb:∀b,H b=none→b≠e:=fun b n z=>by
  subst z
  rcases he with r | r
  ·exact hx b n r
  ·rw [n] at r;cases r
 have hm:∀b u,H b=some u→¬ Mut (some u)→b≠x:=fun b u q nm z=>by subst z;rw [q] at mu;exact nm mu
 refine ⟨fun b u q n _ _=>k b u (hb b n) q,fun b u q n _ _=>⟨u.slots,k b u (hb b n) q⟩,fun b u q n _=>by rw [upd_ne (hx b n)];exact n,fun b u q _=>?_,
  fun b xs q=>by rw [upd_ne (hm b _ q fun z=>z)];exact q,fun b u xs q=>by rw [upd_ne (hm b _ q fun z=>z)];exact q,fun b ps q=>⟨#[],by rw [upd_ne (hm b _ q fun z=>z),q];simp⟩⟩
 by_cases hbe:b=e
 ·subst hbe;exact heo
 ·exact ⟨u,k b u hbe q⟩
end
def trk (h:Heap) (H:Hp):List Addr:=(List.range h.objs.size).filter fun a=>(H a).isSome
def hidT (h:Heap) (H:Hp):Heap:=W.hideAll h (trk h H)
theorem hidT_size (h:Heap) (H:Hp):(hidT h H).objs.size=h.objs.size:=W.hideAll_size _ _
theorem hidT_get {h:Heap} {H:Hp} {b:Addr} {o:Obj} (e:h.get? b=some o) (n:H b=none):(hidT h H).get? b=some o :=
 W.hideAll_get _ e fun hm=>by
  have q:(H b).isSome=true:=(List.mem_filter.mp hm).2
  rw [n] at q;simp at q
theorem of_hidT {h:Heap} {H:Hp} {b:Addr} {o:Obj} (e:(hidT h H).get? b=some o):h.get? b=some o∧H b=none:=by
 have e':h.get? b=some o:=W.of_hideAll (trk h H) e
 refine ⟨e',?_⟩
 cases q:H b with
 | none=>rfl
 | some x =>
  have hm:b∈trk h H:=List.mem_filter.mpr ⟨List.mem_range.mpr (Heap.lt_size e'),by simp [q]⟩
  have z:(hidT h H).get? b=none:=W.hideAll_none (trk h H) hm
  rw [z] at e;cases e
structure Mod (K:W.Frag) (mg:Str→Option Value) (base:Heap):Prop where
 kin:K.In base
 glob:base.Ns mainGlobals mg
 blt:∃mb,base.Ns builtinsNs mb∧∀x:Str,x ≠ "__name__" → mb x=bootBuiltins x
 nolimit:base.NoLimit
/-- the context: a def's body (or a comprehension's block) running. base: fixed through the whole law; s₀, H₀: the entry; outer: the frames whose slots others may change (a def's callers); stack: all frames that run;
   ex: iterators that were made ahead of the entry and are walked here (a comprehension's);fn: the names whose cells were made at the entry (a def: all;a comprehension's block: its own);calm: not within an except suite;pn: pins that every state bears;xe: what is wanted of an exception that leaves the code -/
structure Cx where
 prog:Program
 w:World
 K:W.Frag
 mg:Str→Option Value
 base:Heap
 A:Around
 N:List Str
 s₀:Shared
 H₀:Hp
 env:Env
 outer:List Env
 stack:List Env
 ex:List Addr
 fn:Str→Bool
 calm:Bool
 pn:List (Addr×Obj)
 xe:Value→Shared→Prop
def frs (l:List Env):List Addr:=l.filterMap (·.frame)
abbrev Cx.fs (X:Cx):List Addr:=frs X.outer
def Vis (sc:Scope) (x:Str):Prop:=sc.names.lookup x=some .local∨sc.names.lookup x=some .cell∨sc.names.lookup x=some .free
def Loc (sc:Scope) (x:Str):Prop:=sc.names.lookup x=some .local∨sc.names.lookup x=some .cell
def Look (env:Env) (h:Heap) (m:Str→Option Value) (x:Str) (u:Value):Prop :=
 (env.kindOf x=some .local∧m x=some u)∨((env.kindOf x=some .cell∨env.kindOf x=some .free)∧∃c,env.cells.lookup x=some c∧h.IsCell c (some u))
structure Cx.Ok (X:Cx):Prop where
 mod:Mod X.K X.mg X.base
 kind:X.env.scope.kind=.function
 glob:X.env.globals=mainGlobals
 blt:X.env.builtins=builtinsNs
 above:X.s₀.heap.objs.size≤X.env.locals
 inj:∀x y c,X.env.cells.lookup x=some c→X.env.cells.lookup y=some c→x=y
 has:∀x,(X.env.kindOf x=some .cell∨X.env.kindOf x=some .free)→∃c,X.env.cells.lookup x=some c
 cab:∀x c,X.fn x=true→X.env.cells.lookup x=some c→X.s₀.heap.objs.size≤c
 hd:X.calm=true→X.A.handled=none
 frames:X.A.frames=some X.stack
 stk:X.stack=X.outer∨(X.stack=X.env::X.outer∧X.env.frame=some X.env.locals)
 exf:∀b∈X.ex,b≠X.env.locals∧∀x c,X.env.cells.lookup x=some c→c≠b
 bs:∀b o,X.base.get? b=some o→X.s₀.heap.get? b=some o∧X.H₀ b=none
 bsz:X.base.objs.size≤X.s₀.heap.objs.size
 noex:∀b o,X.base.get? b=some o→b ∉ X.ex
 exfs:∀b∈X.ex,b ∉ X.fs
 funs:X.s₀.heap.FunFrames X.base X.outer
 frf:∀b∈X.fs,X.H₀ b=none
structure Inv (X:Cx) (pins:List (Addr×Obj)) (σ:List (Option V)) (H:Hp) (s:Shared):Prop where
 ok:X.Ok
 os:s.os=X.s₀.os
 bare:AllBare s.gens
 base:Un X.fs X.ex X.H₀ H X.s₀.heap s.heap
 loc:∃m,s.heap.Ns X.env.locals m∧∀(i:Nat) (x:Str) (v:V),X.N[i]?=some x→σ[i]?=some (some v)→Vis X.env.scope x→∃u,RelV v u∧Look X.env s.heap m x u
 cell:∀x c,X.env.cells.lookup x=some c→∃v,s.heap.IsCell c v
 free:H X.env.locals=none
 freeC:∀x c,X.env.cells.lookup x=some c→H c=none
 pin:∀p∈X.pn++pins,s.heap.get? p.1=some p.2∧H p.1=none∧p.1≠X.env.locals∧p.1 ∉ X.fs∧∀v,p.2.data≠.cell v
 hok:HOk X.prog X.w H s.heap
 len:σ.length=X.N.length
section
variable {X:Cx} {pins:List (Addr×Obj)} {σ:List (Option V)} {H H':Hp} {s:Shared} {h':Heap}
theorem Cx.Ok.nofr (ok:X.Ok) {b:Addr} {o:Obj} (e:X.base.get? b=some o):b ∉ X.fs:=fun hb=>by
 have:=(ok.funs.mem hb).1
 rw [e] at this;cases this
theorem Inv.bs (I:Inv X pins σ H s):∀b o,X.base.get? b=some o→s.heap.get? b=some o∧H b=none:=fun b o e =>
 ⟨I.base.keep b o (I.ok.bs b o e).1 (I.ok.bs b o e).2 (I.ok.nofr e) (I.ok.noex b o e),I.base.free b o (I.ok.bs b o e).1 (I.ok.bs b o e).2 (I.ok.noex b o e)⟩
theorem Inv.bk (I:Inv X pins σ H s):∀b o,X.base.get? b=some o→s.heap.get? b=some o:=fun b o e=>(I.bs b o e).1
theorem Inv.mod (I:Inv X pins σ H s):Mod X.K X.mg X.base:=I.ok.mod
theorem Inv.kIn (I:Inv X pins σ H s):X.K.In s.heap:=I.ok.mod.kin.keeps I.bk
theorem Inv.fr (I:Inv X pins σ H s):∃m,Fr X.base X.env.locals s.heap m :=
 let ⟨m,hn,_⟩:=I.loc
 ⟨m,hn,I.bk,Nat.le_trans I.ok.bsz I.ok.above⟩
theorem Inv.lt (I:Inv X pins σ H s):X.env.locals < s.heap.objs.size:=let ⟨_,hn,_⟩:=I.loc;hn.lt
theorem Inv.sz (I:Inv X pins σ H s):X.s₀.heap.objs.size≤s.heap.objs.size:=Nat.le_trans I.ok.above (Nat.le_of_lt I.lt)
theorem Inv.nofs (I:Inv X pins σ H s) {a:Addr} (h:s.heap.objs.size≤a):a ∉ X.fs:=fun hb=>by
 obtain ⟨_,o,ho,_⟩:=I.ok.funs.mem hb
 exact absurd (Nat.lt_of_lt_of_le (Heap.lt_size ho) (Nat.le_trans I.sz h)) (Nat.lt_irrefl _)
theorem Inv.cne (I:Inv X pins σ H s):∀x c,X.env.cells.lookup x=some c→c≠X.env.locals:=fun x c e z=>by
 obtain ⟨v,o,ho,hd⟩:=I.cell x c e
 obtain ⟨m,⟨o',es,ep,ho',hd',_⟩,_⟩:=I.loc
 rw [z,ho'] at ho;cases ho;rw [hd'] at hd;cases hd
theorem Inv.funs (I:Inv X pins σ H s):s.heap.FunFrames X.base X.outer:=by
 have all:∀(l:List Env),(∀b∈frs l,b∈X.fs)→X.s₀.heap.FunFrames X.base l→s.heap.FunFrames X.base l:=by
  intro l
  induction l with
  | nil=>intro _ _;trivial
  | cons env r ih =>
   intro hs hl
   obtain ⟨hk,⟨L,o,hf,hn,ho,hd⟩,hr⟩:=hl
   have hL:L∈X.fs:=hs L (by unfold frs;rw [List.filterMap_cons,hf];exact List.mem_cons_self)
   obtain ⟨sl,e⟩:=I.base.slot L o ho (I.ok.frf L hL) hL fun z=>I.ok.exfs L z hL
   exact ⟨hk,⟨L,_,hf,hn,e,hd⟩,ih (fun b hb=>hs b (by unfold frs;rw [List.filterMap_cons,hf];exact List.mem_cons_of_mem _ hb)) hr⟩
 exact all X.outer (fun _ hb=>hb) I.ok.funs
theorem Inv.stack (I:Inv X pins σ H s):s.heap.FunFrames X.base X.stack:=by
 rcases I.ok.stk with e | ⟨e,hf⟩
 ·rw [e];exact I.funs
 ·rw [e]
  obtain ⟨m,hn,_⟩:=I.loc
  refine .cons (by rw [I.ok.kind];decide) hf hn ?_ I.funs
  exact Heap.get?_none_of_le (Nat.le_trans I.ok.bsz I.ok.above)
theorem Inv.stkSub (I:Inv X pins σ H s):∀b∈frs X.stack,b∈X.env.locals::X.fs:=fun b hb=>by
 rcases I.ok.stk with e | ⟨e,hf⟩
 ·rw [e] at hb;exact List.mem_cons_of_mem _ hb
 ·rw [e] at hb
  unfold frs at hb
  rw [List.filterMap_cons,hf] at hb
  exact hb
theorem Inv.stkFree (I:Inv X pins σ H s):∀b∈frs X.stack,H b=none:=fun b hb=>by
 rcases List.mem_cons.mp (I.stkSub b hb) with e | hb
 ·rw [e];exact I.free
 ·obtain ⟨_,o,ho,_⟩:=I.ok.funs.mem hb
  exact I.base.free b o ho (I.ok.frf b hb) fun z=>I.ok.exfs b z hb
theorem Inv.step {g':Array GenState} {t':Nat} {d':Drawn} {ch:List Addr} (I:Inv X pins σ H s)
  (hch:∀b∈ch,(b∈X.ex∨X.s₀.heap.objs.size≤b)∧b≠X.env.locals∧(∀x c,X.env.cells.lookup x=some c→c≠b)∧∀p∈X.pn++pins,p.1≠b)
  (keep:∀b o,b≠X.env.locals→b ∉ X.fs→b ∉ ch→s.heap.get? b=some o→H b=none→h'.get? b=some o)
  (slot:∀b o,b≠X.env.locals→b∈X.fs→b ∉ ch→s.heap.get? b=some o→H b=none→∃sl,h'.get? b=some { o with slots:=sl }) (free:∀b o,b ∉ ch→s.heap.get? b=some o→H b=none→H' b=none)
  (there:∀b o,b ∉ ch→s.heap.get? b=some o→∃o',h'.get? b=some o')
  (tups:∀b xs,H b=some (.tup xs)→H' b=some (.tup xs)) (frzs:∀b o u,H b=some (.frz o u)→H' b=some (.frz o u)) (tbls:∀b ps,H b=some (.tbl ps)→∃more,H' b=some (.tbl (ps++more)))
  (ns:∀m,s.heap.Ns X.env.locals m→h'.Ns X.env.locals m) (hok:HOk X.prog X.w H' h') (hg:AllBare g') :
  Inv X pins σ H' { s with heap:=h',gens:=g',drawn:=d',toks:=t' }:=by
 have neL:∀b o,X.s₀.heap.get? b=some o→b≠X.env.locals:=fun b o e=>Nat.ne_of_lt (Nat.lt_of_lt_of_le (Heap.lt_size e) I.ok.above)
 have neC:∀b o,X.s₀.heap.get? b=some o→b ∉ X.ex→b ∉ ch:=fun b o e hx hb=>by
  rcases (hch b hb).1 with z | z
  ·exact hx z
  ·exact absurd (Nat.lt_of_lt_of_le (Heap.lt_size e) z) (Nat.lt_irrefl _)
 have cellK:∀x c,X.env.cells.lookup x=some c→∀v,s.heap.IsCell c v→h'.IsCell c v:=fun x c e v ⟨o,ho,hd⟩=>by
  have nch:c ∉ ch:=fun z=>(hch c z).2.2.1 x c e rfl
  by_cases hc:c∈X.fs
  ·obtain ⟨sl,q⟩:=slot c o (I.cne x c e) hc nch ho (I.freeC x c e)
   exact ⟨_,q,hd⟩
  ·exact ⟨o,keep c o (I.cne x c e) hc nch ho (I.freeC x c e),hd⟩
 refine ⟨I.ok,I.os,hg,⟨fun b o e n hb hx=>?_,fun b o e n hb hx=>?_,fun b o e n hx=>?_,fun b o e hx=>?_,fun b xs e=>tups b xs (I.base.tups b xs e),fun b o xs e=>frzs b o xs (I.base.frzs b o xs e),fun b ps e=>?_⟩,?_,fun x c e=>?_,?_,fun x c e=>?_,fun p hp=>?_,hok,I.len⟩
 ·exact keep b o (neL b o e) hb (neC b o e hx) (I.base.keep b o e n hb hx) (I.base.free b o e n hx)
 ·obtain ⟨sl,e1⟩:=I.base.slot b o e n hb hx
  obtain ⟨sl',e2⟩:=slot b _ (neL b o e) hb (neC b o e hx) e1 (I.base.free b o e n hx)
  exact ⟨sl',e2⟩
 ·obtain ⟨o',e1⟩:=I.base.there b o e hx
  exact free b o' (neC b o e hx) e1 (I.base.free b o e n hx)
 ·obtain ⟨o',e1⟩:=I.base.there b o e hx
  exact there b o' (neC b o e hx) e1
 ·obtain ⟨m1,e1⟩:=I.base.tbls b ps e
  obtain ⟨m2,e2⟩:=tbls b _ e1
  exact ⟨m1++m2,by rw [e2,Array.append_assoc]⟩
 ·obtain ⟨m,hn,hl⟩:=I.loc
  refine ⟨m,ns m hn,fun i x v e1 e2 e3=>?_⟩
  obtain ⟨u,r,l⟩:=hl i x v e1 e2 e3
  refine ⟨u,r,?_⟩
  rcases l with l | ⟨k,c,e,z⟩
  ·exact .inl l
  ·exact .inr ⟨k,c,e,cellK x c e _ z⟩
 ·obtain ⟨v,z⟩:=I.cell x c e
  exact ⟨v,cellK x c e v z⟩
 ·obtain ⟨m,⟨o,_,_,ho,_⟩,_⟩:=I.loc
  exact free _ o (fun z=>(hch _ z).2.1 rfl) ho I.free
 ·obtain ⟨v,o,ho,hd⟩:=I.cell x c e
  exact free c o (fun z=>(hch c z).2.2.1 x c e rfl) ho (I.freeC x c e)
 ·obtain ⟨e,n,ne,nf,d⟩:=I.pin p hp
  have nch:p.1 ∉ ch:=fun z=>(hch p.1 z).2.2.2 p hp rfl
  exact ⟨keep p.1 p.2 ne nf nch e n,free p.1 p.2 nch e n,ne,nf,d⟩
theorem Inv.un {t':Nat} (I:Inv X pins σ H s) (u:Un X.fs [] H H' s.heap h') (hok:HOk X.prog X.w H' h'):Inv X pins σ H' { s with heap:=h',toks:=t' }:=by
 obtain ⟨m,⟨o,es,ep,ho,r⟩,_⟩:=id I.loc
 obtain ⟨sl,hL⟩:=u.any ho I.free (by simp)
 exact I.step (g':=s.gens) (d':=s.drawn) (ch:=[]) (fun _ z=>nomatch z) (fun b o _ hb _ e n=>u.keep b o e n hb (by simp)) (fun b o _ hb _ e n=>u.slot b o e n hb (by simp)) (fun b o _ e n=>u.free b o e n (by simp)) (fun b o _ e=>u.there b o e (by simp)) u.tups u.frzs u.tbls (fun m' hm=>by
  obtain ⟨o',es',ep',ho',r'⟩:=hm
  rw [ho] at ho';cases ho'
  exact ⟨_,es',ep',hL,r'⟩) hok I.bare
theorem Inv.call {g':Array GenState} {t':Nat} {d':Drawn} {ch:List Addr} (I:Inv X pins σ H s) (u:Un (frs X.stack) ch H H' s.heap h') (hok:HOk X.prog X.w H' h') (hg:AllBare g')
  (hch:∀b∈ch,(b∈X.ex∨X.s₀.heap.objs.size≤b)∧b≠X.env.locals∧(∀x c,X.env.cells.lookup x=some c→c≠b)∧∀p∈X.pn++pins,p.1≠b) :
  Inv X pins σ H' { s with heap:=h',gens:=g',drawn:=d',toks:=t' }:=by
 obtain ⟨m,⟨o,es,ep,ho,r⟩,_⟩:=id I.loc
 obtain ⟨sl,hL⟩:=u.any ho I.free fun z=>(hch _ z).2.1 rfl
 exact I.step (ch:=ch) hch (fun b o hL hb hc e n=>u.keep b o e n (fun z=>(List.mem_cons.mp (I.stkSub b z)).elim hL hb) hc) (fun b o _ _ hc e n=>u.any e n hc) (fun b o hc e n=>u.free b o e n hc) (fun b o hc e=>u.there b o e hc) u.tups u.frzs u.tbls (fun m' hm=>by
  obtain ⟨o',es',ep',ho',r'⟩:=hm
  rw [ho] at ho';cases ho'
  exact ⟨_,es',ep',hL,r'⟩) hok hg
theorem Inv.turned {t':Nat} {it:Addr} (I:Inv X pins σ H s) (k:∀b o,b≠it→s.heap.get? b=some o→h'.get? b=some o) (hn:H it=none) (hL:it≠X.env.locals)
  (h1:it∈X.ex∨X.s₀.heap.objs.size≤it) (h2:∀x c,X.env.cells.lookup x=some c→c≠it) (h3:∀p∈X.pn++pins,p.1≠it):Inv X pins σ H { s with heap:=h',toks:=t' }:=by
 have nit:∀b u,H b=some u→b≠it:=fun b u e z=>by rw [z,hn] at e;cases e
 refine I.step (g':=s.gens) (d':=s.drawn) (ch:=[it]) (fun b hb=>?_) (fun b o _ _ hc e _=>k b o (fun z=>hc (by simp [z])) e) (fun b o _ _ hc e _=>⟨o.slots,k b o (fun z=>hc (by simp [z])) e⟩) (fun _ _ _ _ n=>n)
  (fun b o hc e=>⟨o,k b o (fun z=>hc (by simp [z])) e⟩) (fun _ _ e=>e) (fun _ _ _ e=>e) (fun b ps e=>⟨#[],by rw [e];simp⟩) (fun m hm=>?_) (fun b u e=>?_) I.bare
 ·have e:b=it:=by simpa using hb
  subst e
  exact ⟨h1,hL,h2,h3⟩
 ·obtain ⟨o,es,ep,ho,r⟩:=hm
  exact ⟨o,es,ep,k _ o (Ne.symm hL) ho,r⟩
 ·refine (I.hok b u e).stay (fun c v hc q=>k c v ?_ q) (fun _ q=>q) fun _ _ q=>q
  rcases hc with z | z
  ·rw [z];exact nit b u e
  ·exact nit c _ z
theorem Inv.tok (I:Inv X pins σ H s) (t:Nat):Inv X pins σ H { s with toks:=t }:=I.un (h':=s.heap) (t':=t) Un.refl I.hok
theorem Inv.kept {t':Nat} (I:Inv X pins σ H s) (k:∀b u,s.heap.get? b=some u→h'.get? b=some u):Inv X pins σ H { s with heap:=h',toks:=t' }:=I.un (Un.kept k) (I.hok.kept k)
theorem Inv.laid {a:Addr} {o:HO} {t':Nat} (I:Inv X pins σ H s) (k:∀b u,s.heap.get? b=some u→h'.get? b=some u) (hp:s.heap.objs.size≤a) (new:ObjOk X.prog X.w (upd H a o) h' a o) :
  Inv X pins σ (upd H a o) { s with heap:=h',toks:=t' }:=I.un (Un.laid k hp (I.hok.fresh hp)) (I.hok.laid k hp new)
theorem Inv.write {x e:Addr} {o:HO} {t':Nat} (I:Inv X pins σ H s) (mu:Mut (H x)) (he:e=x∨H e=some (.own x)) (k:∀b u,b≠e→s.heap.get? b=some u→h'.get? b=some u) (heo:∃u,h'.get? e=some u)
  (new:ObjOk X.prog X.w (upd H x o) h' x o):Inv X pins σ (upd H x o) { s with heap:=h',toks:=t' }:=I.un (Un.write mu he k heo) (I.hok.write mu he k heo new)
theorem Inv.pins_of {pins':List (Addr×Obj)} (I:Inv X pins σ H s) (h:∀p∈pins',s.heap.get? p.1=some p.2∧H p.1=none∧p.1≠X.env.locals∧p.1 ∉ X.fs∧∀v,p.2.data≠.cell v):Inv X pins' σ H s :=
 ⟨I.ok,I.os,I.bare,I.base,I.loc,I.cell,I.free,I.freeC,fun p hp=>(List.mem_append.mp hp).elim (fun z=>I.pin p (List.mem_append_left _ z)) (h p),I.hok,I.len⟩
theorem nodup_ix {N:List Str} (hN:N.Nodup) {i j:Nat} {x:Str} (a:N[i]?=some x) (b:N[j]?=some x):i=j:=by
 obtain ⟨h1,e1⟩:=List.getElem?_eq_some_iff.mp a
 obtain ⟨h2,e2⟩:=List.getElem?_eq_some_iff.mp b
 exact (List.getElem_inj hN).mp (e1.trans e2.symm)
theorem store_ok2 {M:Model} {A:Around} {E:Value→Shared→Prop} {i:Nat} {x:Str} {v:V} {u:Value} {Q:Unit→Shared→Prop} (I:Inv X pins σ H s) (hN:X.N.Nodup) (hi:X.N[i]?=some x) (hx:Loc X.env.scope x) (r:RelV v u)
  (h:∀s',Inv X pins (σ.set i (some v)) H s'→(∃a,Heap.SameBut a s.heap s'.heap∧(a=X.env.locals∨X.env.cells.lookup x=some a))→Q () s') (hf:X.fn x=true∨X.env.scope.names.lookup x=some .local:=by first | exact .inl rfl | exact .inr rfl | assumption):wpAny M A (storeName X.env x u) Q E s:=by
 obtain ⟨m,hn,hl⟩:=id I.loc
 have hcls:(X.env.scope.kind == .class || (X.env.scope.kind == .module && X.env.locals != X.env.globals))=false:=by rw [I.ok.kind];rfl
 have hiσ:i < σ.length:=by rw [I.len];exact (List.getElem?_eq_some_iff.mp hi).1
 have cne:=I.cne
 have tracked:∀{a:Addr} {h':Heap},(∃o,s.heap.get? a=some o∧H a=none)→Heap.SameBut a s.heap h'→HOk X.prog X.w H h':=fun {a h'} ha hs b ob e=>by
  obtain ⟨_,_,hfree⟩:=ha
  refine (I.hok b ob e).stay (fun c w' hc q=>(hs.2 c ?_).trans q) (fun _ q=>q) fun _ _ q=>q
  rintro rfl
  rcases hc with rfl | hc
  ·rw [hfree] at e;cases e
  ·rw [hfree] at hc;cases hc
 rcases hx with hk | hk
 ·refine wpAny_storeName_local hk hn (fun h' hn' hs=>?_) hcls
  obtain ⟨oL,_,_,hoL,_⟩:=id hn
  refine h _ ⟨I.ok,I.os,I.bare,⟨fun b o e n hb hx=>?_,fun b o e n hb hx=>?_,I.base.free,fun b o e hx=>?_,I.base.tups,I.base.frzs,I.base.tbls⟩,⟨_,hn',fun j y v' e1 e2 e3=>?_⟩,fun y c e=>?_,I.free,I.freeC,fun p hp=>?_,tracked ⟨oL,hoL,I.free⟩ hs,by simpa using I.len⟩ ⟨_,hs,.inl rfl⟩
  ·exact (hs.2 b (Nat.ne_of_lt (Nat.lt_of_lt_of_le (Heap.lt_size e) I.ok.above))).trans (I.base.keep b o e n hb hx)
  ·obtain ⟨sl,e1⟩:=I.base.slot b o e n hb hx
   exact ⟨sl,(hs.2 b (Nat.ne_of_lt (Nat.lt_of_lt_of_le (Heap.lt_size e) I.ok.above))).trans e1⟩
  ·obtain ⟨o',e1⟩:=I.base.there b o e hx
   exact ⟨o',(hs.2 b (Nat.ne_of_lt (Nat.lt_of_lt_of_le (Heap.lt_size e) I.ok.above))).trans e1⟩
  ·by_cases hj:j=i
   ·subst hj
    rw [hi] at e1;cases e1
    rw [List.getElem?_set_self hiσ] at e2
    cases e2
    exact ⟨u,r,.inl ⟨hk,by simp⟩⟩
   ·rw [List.getElem?_set_ne (Ne.symm hj)] at e2
    obtain ⟨u',r',q⟩:=hl j y v' e1 e2 e3
    refine ⟨u',r',?_⟩
    rcases q with ⟨k,e⟩ | ⟨k,c,e,z⟩
    ·refine .inl ⟨k,?_⟩
     have:y≠x:=fun e=>hj (nodup_ix hN e1 (e▸hi))
     simp [this,e]
    ·exact .inr ⟨k,c,e,z.sameBut hs (cne y c e)⟩
  ·obtain ⟨w',z⟩:=I.cell y c e
   exact ⟨w',z.sameBut hs (cne y c e)⟩
  ·obtain ⟨e,n,ne,nf,d⟩:=I.pin p hp
   exact ⟨(hs.2 p.1 ne).trans e,n,ne,nf,d⟩
 ·have hfn:X.fn x=true:=by
   rcases hf with z | z
   ·exact z
   ·rw [z] at hk;cases hk
  obtain ⟨c,hc⟩:=I.ok.has x (.inl hk)
  obtain ⟨w',z⟩:=I.cell x c hc
  refine wpAny_storeName_cell I.ok.kind hk hc z (fun h' hc' hs=>?_)
  obtain ⟨oc,hoc,hocd⟩:=id z
  refine h { s with heap:=h' } ⟨I.ok,I.os,I.bare,⟨fun b o e n hb hx=>?_,fun b o e n hb hx=>?_,I.base.free,fun b o e hx=>?_,I.base.tups,I.base.frzs,I.base.tbls⟩,⟨m,hn.sameBut hs (Ne.symm (cne x c hc)),fun j y v' e1 e2 e3=>?_⟩,fun y c' e=>?_,I.free,I.freeC,fun p hp=>?_,tracked ⟨oc,hoc,I.freeC x c hc⟩ hs,by simpa using I.len⟩ ⟨c,hs,.inr hc⟩
  ·exact (hs.2 b (Nat.ne_of_lt (Nat.lt_of_lt_of_le (Heap.lt_size e) (I.ok.cab x c hfn hc)))).trans (I.base.keep b o e n hb hx)
  ·obtain ⟨sl,e1⟩:=I.base.slot b o e n hb hx
   exact ⟨sl,(hs.2 b (Nat.ne_of_lt (Nat.lt_of_lt_of_le (Heap.lt_size e) (I.ok.cab x c hfn hc)))).trans e1⟩
  ·obtain ⟨o',e1⟩:=I.base.there b o e hx
   exact ⟨o',(hs.2 b (Nat.ne_of_lt (Nat.lt_of_lt_of_le (Heap.lt_size e) (I.ok.cab x c hfn hc)))).trans e1⟩
  ·by_cases hj:j=i
   ·subst hj
    rw [hi] at e1;cases e1
    rw [List.getElem?_set_self hiσ] at e2
    cases e2
    exact ⟨u,r,.inr ⟨.inl hk,c,hc,hc'⟩⟩
   ·rw [List.getElem?_set_ne (Ne.symm hj)] at e2
    obtain ⟨u',r',q⟩:=hl j y v' e1 e2 e3
    refine ⟨u',r',?_⟩
    rcases q with q | ⟨k,c',e,z'⟩
    ·exact .inl q
    ·refine .inr ⟨k,c',e,z'.sameBut hs ?_⟩
     rintro rfl
     exact hj (nodup_ix hN e1 (I.ok.inj _ _ _ e hc▸hi))
  ·by_cases hcc:c'=c
   ·subst hcc;exact ⟨_,hc'⟩
   ·obtain ⟨w2,z2⟩:=I.cell y c' e
    exact ⟨w2,z2.sameBut hs hcc⟩
  ·obtain ⟨e,n,ne,nf,d⟩:=I.pin p hp
   refine ⟨(hs.2 p.1 ?_).trans e,n,ne,nf,d⟩
   intro q
   rw [q,hoc] at e
   have q':oc=p.2:=Option.some.inj e
   exact d w' (by rw [← q'];exact hocd)
theorem store_ok {M:Model} {A:Around} {E:Value→Shared→Prop} {i:Nat} {x:Str} {v:V} {u:Value} {Q:Unit→Shared→Prop} (I:Inv X pins σ H s) (hN:X.N.Nodup) (hi:X.N[i]?=some x) (hx:Loc X.env.scope x) (r:RelV v u)
  (h:∀s',Inv X pins (σ.set i (some v)) H s'→Q () s') (hf:X.fn x=true∨X.env.scope.names.lookup x=some .local:=by first | exact .inl rfl | exact .inr rfl | assumption):wpAny M A (storeName X.env x u) Q E s :=
 store_ok2 I hN hi hx r (fun s' I' _=>h s' I') hf
theorem Inv.call' {s':Shared} {ch:List Addr} (I:Inv X pins σ H s) (ho:s'.os=s.os) (u:Un (frs X.stack) ch H H' s.heap s'.heap) (hok:HOk X.prog X.w H' s'.heap) (hg:AllBare s'.gens)
  (hch:∀b∈ch,(b∈X.ex∨X.s₀.heap.objs.size≤b)∧b≠X.env.locals∧(∀x c,X.env.cells.lookup x=some c→c≠b)∧∀p∈X.pn++pins,p.1≠b):Inv X pins σ H' s':=by
 obtain ⟨h',g',d',t',o'⟩:=s'
 have e:o'=s.os:=ho
 subst e
 exact I.call (g':=g') (t':=t') (d':=d') u hok hg hch
end
abbrev XK:=Value→Option Addr→Hp→Prop
abbrev St:=List (Option V)
abbrev VK:=V→Hp→Prop
abbrev TE:=St→Hp→VK→Prop
abbrev TT:=St→Hp→(Bool→Hp→Prop)→Prop
abbrev TA:=St→Hp→(List V→Hp→Prop)→Prop
structure Ends where
 nx:St→Hp→Prop
 rt:VK
 bk:St→Hp→Prop:=fun _ _=>False
 ct:St→Hp→Prop:=fun _ _=>False
abbrev TS:=Ends→St→Hp→Prop
def EP (X:Cx) (pins:List (Addr×Obj)) (σ:St) (Q:VK) (u:Value) (s':Shared):Prop:=∃v H',Inv X pins σ H' s'∧RelV v u∧Q v H'
def TP (X:Cx) (pins:List (Addr×Obj)) (σ:St) (Q:Bool→Hp→Prop) (b:Bool) (s':Shared):Prop:=∃H',Inv X pins σ H' s'∧Q b H'
def AP (X:Cx) (pins:List (Addr×Obj)) (σ:St) (Q:List V→Hp→Prop) (us:List Value) (s':Shared):Prop:=∃vs H',Inv X pins σ H' s'∧Vals vs us∧Q vs H'
def SP (X:Cx) (pins:List (Addr×Obj)) (D:Ends) (f:Flow) (s':Shared):Prop :=
 match f with
 | .next=>∃σ' H',Inv X pins σ' H' s'∧D.nx σ' H'
 | .brk=>∃σ' H',Inv X pins σ' H' s'∧D.bk σ' H'
 | .cont=>∃σ' H',Inv X pins σ' H' s'∧D.ct σ' H'
 | .ret u=>∃v σ' H',Inv X pins σ' H' s'∧RelV v u∧D.rt v H'
def PE (X:Cx) (e:Expr) (t:TE):Prop :=
 ∀(pins:List (Addr×Obj)) (s:Shared) (σ:St) (H:Hp) (Q:VK),Inv X pins σ H s→t σ H Q→wpAny (model X.prog X.w) X.A (eval e X.env) (EP X pins σ Q) X.xe s
def PT (X:Cx) (e:Expr) (t:TT):Prop :=
 ∀(pins:List (Addr×Obj)) (s:Shared) (σ:St) (H:Hp) (Q:Bool→Hp→Prop),Inv X pins σ H s→t σ H Q→wpAny (model X.prog X.w) X.A (isTrue e X.env (eval e X.env)) (TP X pins σ Q) X.xe s
def PW (X:Cx) (e:Expr) (t:TT):Prop :=
 ∀(whole:Sem Value) (pins:List (Addr×Obj)) (s:Shared) (σ:St) (H:Hp) (Q:Bool→Hp→Prop),Inv X pins σ H s→t σ H Q→wpAny (model X.prog X.w) X.A (isTrue e X.env whole) (TP X pins σ Q) X.xe s
theorem PW.pt {X:Cx} {e:Expr} {t:TT} (h:PW X e t):PT X e t:=h _
def PA (X:Cx) (es:List Expr) (t:TA):Prop :=
 ∀(pos:Pos) (pins:List (Addr×Obj)) (s:Shared) (σ:St) (H:Hp) (Q:List V→Hp→Prop),Inv X pins σ H s→t σ H Q→wpAny (model X.prog X.w) X.A (spliced (backTo pos (starEach es X.env))) (AP X pins σ Q) X.xe s
def PS (X:Cx) (st:Stmt) (t:TS):Prop :=
 ∀(pins:List (Addr×Obj)) (s:Shared) (σ:St) (H:Hp) (D:Ends),Inv X pins σ H s→t D σ H→wpAny (model X.prog X.w) X.A (exec st X.env) (SP X pins D) X.xe s
def PSs (X:Cx) (st:List Stmt) (t:TS):Prop :=
 ∀(pins:List (Addr×Obj)) (s:Shared) (σ:St) (H:Hp) (D:Ends),Inv X pins σ H s→t D σ H→wpAny (model X.prog X.w) X.A (execs st X.env) (SP X pins D) X.xe s
theorem thn {α:Type} {t:Sem α} {Q Q':α→Shared→Prop} {M:Model} {A:Around} {E:Value→Shared→Prop} {s:Shared} (h:wpAny M A t Q E s) (hQ:∀a s,Q a s→Q' a s):wpAny M A t Q' E s:=wpAny_mono h hQ fun _ _ x=>x
section
variable {X:Cx}
def tVar (i:Nat):TE:=fun σ H Q=>∃v,σ[i]?=some (some v)∧Q v H
def tC (v:V):TE:=fun _ H Q=>Q v H
theorem pe_var {i:Nat} {x:Str} {pos:Pos} (hN:X.N[i]?=some x) (hv:Vis X.env.scope x) (hd:(x == ("__debug__" : Str))=false:=by decide) (hcd:(x == ("__classdict__" : Str))=false:=by decide):PE X (.Name x pos) (tVar i):=by
 intro pins s σ H Q I h
 obtain ⟨v,e,h⟩:=h
 obtain ⟨m,hn,hl⟩:=I.loc
 obtain ⟨u,r,l⟩:=hl i x v hN e hv
 have fin:EP X pins σ Q u s:=⟨v,H,I,r,h⟩
 rcases l with ⟨hk,hm⟩ | ⟨hk,c,hc,hcell⟩
 ·exact wpAny_Name (wpAny_loadName_local I.ok.kind hk hn hm fin) hd
 ·rcases hk with hk | hk
  ·exact wpAny_Name (wpAny_loadName_cell I.ok.kind hk hc hcell fin) hd
  ·exact wpAny_Name (wpAny_loadName_free I.ok.kind hk hc hcell fin hcd) hd
theorem pe_int {i j pos}:PE X (.Constant (.int i) j pos) (tC (.int i)):=fun _ _ _ H _ I h=>wpAny_Constant_int ⟨.int i,H,I.tok _,⟨_,rfl⟩,h⟩
theorem pe_bl {b j pos}:PE X (.Constant (.bool b) j pos) (tC (.bl b)):=fun _ _ _ H _ I h=>Constant_bool ⟨.bl b,H,I,rfl,h⟩
theorem pe_non {j pos}:PE X (.Constant .none j pos) (tC .non):=fun _ _ _ H _ I h=>Constant_none ⟨.non,H,I,rfl,h⟩
theorem pe_str {x j pos}:PE X (.Constant (.str x) j pos) (tC (.str x)):=fun _ _ _ H _ I h=>Calls.Constant_str ⟨.str x,H,I.tok _,⟨_,rfl⟩,h⟩
def Gl (X:Cx) (x:Str):Prop:=X.env.kindOf x=some .globalImplicit
theorem ld_glob {E:Value→Shared→Prop} {pins:List (Addr×Obj)} {s:Shared} {σ:St} {H:Hp} {x:Str} {u:Value} {pos:Pos} {Q:Value→Shared→Prop} (I:Inv X pins σ H s) (hg:Gl X x) (hm:X.mg x=some u) (h:Q u s)
  (hd:(x == ("__debug__" : Str))=false:=by decide):wpAny (model X.prog X.w) X.A (eval (.Name x pos) X.env) Q E s :=
 Calls.Name_function_global I.ok.kind hg (Calls.loadGlobal_global (by rw [I.ok.glob];exact I.mod.glob.keeps I.bk) hm h) hd
theorem ld_blt {E:Value→Shared→Prop} {pins:List (Addr×Obj)} {s:Shared} {σ:St} {H:Hp} {x:Str} {u:Value} {pos:Pos} {Q:Value→Shared→Prop} (I:Inv X pins σ H s) (hg:Gl X x) (hm:X.mg x=none) (hv:bootBuiltins x=some u) (h:Q u s)
  (hn:x ≠ "__name__" := by decide) (hd:(x == ("__debug__" : Str))=false:=by decide):wpAny (model X.prog X.w) X.A (eval (.Name x pos) X.env) Q E s:=by
 obtain ⟨mb,h1,h2⟩:=I.mod.blt
 exact Calls.Name_function_global I.ok.kind hg (Calls.loadGlobal_builtin (by rw [I.ok.glob];exact I.mod.glob.keeps I.bk) hm (by rw [I.ok.blt];exact h1.keeps I.bk) ((h2 x hn).trans hv) h) hd
theorem pe_glob {x:Str} {v:V} {u:Value} {pos:Pos} (hg:Gl X x) (hm:X.mg x=some u) (r:RelV v u) (hd:(x == ("__debug__" : Str))=false:=by decide):PE X (.Name x pos) (tC v) :=
 fun _ _ _ H _ I h=>ld_glob I hg hm ⟨v,H,I,r,h⟩ hd
theorem pe_bltn {x:Str} {v:V} {u:Value} {pos:Pos} (hg:Gl X x) (hm:X.mg x=none) (hv:bootBuiltins x=some u) (r:RelV v u) (hn:x ≠ "__name__" := by decide) (hd:(x == ("__debug__" : Str))=false:=by decide):PE X (.Name x pos) (tC v) :=
 fun _ _ _ H _ I h=>ld_blt I hg hm hv ⟨v,H,I,r,h⟩ hn hd
variable {a b:Expr} {ta tb:TE} {pos:Pos}
def tB (t:TE):TT:=fun σ H Q=>t σ H fun x H1=>∃c,x=.bl c∧Q c H1
theorem pt_val {e:Expr} {t:TE} (h:PE X e t) (he:∀whole,isTrue e X.env whole=(do let v ← whole;standAt e.pos;holding [v] (truthy v)):=by intro _;rfl):PT X e (tB t):=by
 intro pins s σ H Q I hw
 refine isTrue_plain (thn (h pins s σ H _ I hw) fun v s1 ⟨x,H1,I1,r1,q1⟩=>?_) (he _)
 obtain ⟨d,rfl,q⟩:=q1
 cases r1
 exact wpAny_truthy_bool ⟨H1,I1,q⟩
variable {tA tB':TT} {rest:List Expr}
def tAnd (t u:TT):TT:=fun σ H Q=>t σ H fun c H1=>if c=true then u σ H1 Q else Q false H1
def tOr (t u:TT):TT:=fun σ H Q=>t σ H fun c H1=>if c=true then Q true H1 else u σ H1 Q
def tNot (t:TT):TT:=fun σ H Q=>t σ H fun c H1=>Q (!c) H1
theorem pw_and1 (ha:PT X a tA):PW X (.BoolOp .And [a] pos) tA:=by
 intro wh pins s σ H Q I h
 refine isTrue_and (thn (ha pins s σ H Q I h) fun c s1 e=>?_)
 cases c with
 | true=>exact isTrue_and_nil e
 | false=>exact e
theorem pw_or1 (ha:PT X a tA):PW X (.BoolOp .Or [a] pos) tA:=by
 intro wh pins s σ H Q I h
 refine isTrue_or (thn (ha pins s σ H Q I h) fun c s1 e=>?_)
 cases c with
 | false=>exact isTrue_or_nil e
 | true=>exact e
theorem pw_and (ha:PT X a tA) (hb:PW X (.BoolOp .And (b::rest) pos) tB'):PW X (.BoolOp .And (a::b::rest) pos) (tAnd tA tB'):=by
 intro wh pins s σ H Q I h
 refine isTrue_and (thn (ha pins s σ H _ I h) fun c s1 ⟨H1,I1,q1⟩=>?_)
 cases c with
 | true=>exact hb wh pins s1 σ H1 Q I1 q1
 | false=>exact ⟨H1,I1,q1⟩
theorem pw_or (ha:PT X a tA) (hb:PW X (.BoolOp .Or (b::rest) pos) tB'):PW X (.BoolOp .Or (a::b::rest) pos) (tOr tA tB'):=by
 intro wh pins s σ H Q I h
 refine isTrue_or (thn (ha pins s σ H _ I h) fun c s1 ⟨H1,I1,q1⟩=>?_)
 cases c with
 | true=>exact ⟨H1,I1,q1⟩
 | false=>exact hb wh pins s1 σ H1 Q I1 q1
theorem pt_not (ha:PT X a tA):PT X (.UnaryOp .Not a pos) (tNot tA):=by
 intro pins s σ H Q I h
 exact isTrue_not (ha pins s σ H (fun c H1=>Q (!c) H1) I h)
def tAndV (ta tb:TE):TE:=fun σ H Q=>ta σ H fun x H1=>∃c,x=.bl c∧if c=true then tb σ H1 Q else Q (.bl false) H1
def tNotV (ta:TE):TE:=fun σ H Q=>ta σ H fun x H1=>∃c,x=.bl c∧Q (.bl (!c)) H1
theorem pe_one {op} {t:TE} (h:PE X a t):PE X (.BoolOp op [a] pos) t:=fun pins s σ H Q I hw=>BoolOp_one (h pins s σ H Q I hw)
theorem pe_and (ha:PE X a ta) (hb:PE X (.BoolOp .And (b::rest) pos) tb):PE X (.BoolOp .And (a::b::rest) pos) (tAndV ta tb):=by
 intro pins s σ H Q I h
 refine BoolOp_and (thn (ha pins s σ H _ I h) fun v s1 ⟨x,H1,I1,r1,q1⟩=>?_)
 obtain ⟨c,rfl,q1⟩:=q1
 cases r1
 refine wpAny_truthy_bool ?_
 cases c with
 | true=>exact hb pins s1 σ H1 Q I1 q1
 | false=>exact ⟨.bl false,H1,I1,rfl,q1⟩
theorem pe_not (ha:PE X a ta):PE X (.UnaryOp .Not a pos) (tNotV ta):=by
 intro pins s σ H Q I h
 refine UnaryOp_ (thn (ha pins s σ H _ I h) fun v s1 ⟨x,H1,I1,r1,q1⟩=>?_)
 obtain ⟨c,rfl,q1⟩:=q1
 cases r1
 exact not_of (wpAny_truthy_bool ⟨.bl (!c),H1,I1,rfl,q1⟩)
end
def SqL (K:W.Frag) (H:Hp) (a:Addr) (xs:List V):Prop :=
 Rd H a (.lst xs) ∨
  ∃(o:Obj) (its:Array Value) (n:Nat),K.lookup a=some o∧o.cls=.type "list" ∧ o.dict=none∧o.data=.seq its n∧its.size≤sizeLine∧Vals xs its.toList
def SqT (K:W.Frag) (H:Hp) (a:Addr) (xs:List V):Prop :=
 Rd H a (.tup xs) ∨
  ∃(o:Obj) (its:Array Value) (n:Nat),K.lookup a=some o∧o.cls=.type "tuple" ∧ o.data=.seq its n∧its.size≤sizeLine∧Vals xs its.toList
def absV:Value→Option V
 | .none=>some .non
 | .bool b=>some (.bl b)
 | .int i _=>some (.int i)
 | .str x _=>some (.str x)
 | .bytes b _=>some (.byt b)
 | .float b _=>some (.flt b)
 | .ref a=>some (.ref a)
 | .type n=>some (.ty n)
 | _=>none
theorem RelV.abs {x:V} {u:Value} (r:RelV x u):absV u=some x:=by
 cases x with
 | non=>cases r;rfl
 | bl _=>cases r;rfl
 | int _=>obtain ⟨t,rfl⟩:=r;rfl
 | str _=>obtain ⟨t,rfl⟩:=r;rfl
 | byt _=>obtain ⟨t,rfl⟩:=r;rfl
 | flt _=>obtain ⟨t,rfl⟩:=r;rfl
 | ref _=>cases r;rfl
 | ty _=>cases r;rfl
theorem RelV.inj {x y:V} {u:Value} (r:RelV x u) (q:RelV y u):x=y:=Option.some.inj (r.abs.symm.trans q.abs)
theorem Vals.inj:∀{xs ys:List V} {us:List Value},Vals xs us→Vals ys us→xs=ys
 | _,_,_,.nil,.nil=>rfl
 | _,_,_,.cons r t,.cons r' t'=>by rw [r.inj r',Vals.inj t t']
section
variable {X:Cx} {pins:List (Addr×Obj)} {σ:St} {H:Hp} {s:Shared} {a:Addr} {xs ys:List V}
theorem SqL.of {K:W.Frag} (h:H a=some (.lst xs)):SqL K H a xs:=.inl (.inl h)
theorem SqT.of {K:W.Frag} (h:H a=some (.tup xs)):SqT K H a xs:=.inl (.inl h)
theorem Inv.list (I:Inv X pins σ H s) (h:SqL X.K H a xs):∃its:List Value,Vals xs its∧PlainL s.heap a its.toArray∧xs.length≤sizeLine:=by
 rcases h with h | ⟨o,its,n,hk,hc,hd,hs,hz,r⟩
 ·obtain ⟨z,its,n,r,e⟩:=h.ok I.hok
  exact ⟨its,r,⟨_,n,e,rfl,rfl,rfl⟩,z⟩
 ·refine ⟨its.toList,r,⟨o,n,I.kIn a o hk,hc,hd,by simpa using hs⟩,?_⟩
  have e:=r.length
  simp only [Array.length_toList] at e
  lia
theorem Inv.tuple (I:Inv X pins σ H s) (h:SqT X.K H a xs):∃its:List Value,Vals xs its∧IsTup s.heap a its.toArray∧xs.length≤sizeLine:=by
 rcases h with h | ⟨o,its,n,hk,hc,hs,hz,r⟩
 ·obtain ⟨z,its,r,p⟩:=h.ok I.hok
  exact ⟨its,r,p,z⟩
 ·refine ⟨its.toList,r,⟨o,I.kIn a o hk,hc,n,by simpa using hs⟩,?_⟩
  have e:=r.length
  simp only [Array.length_toList] at e
  lia
theorem Inv.list_inj (I:Inv X pins σ H s) (h:SqL X.K H a xs) (h':SqL X.K H a ys):xs=ys:=by
 obtain ⟨its,r,⟨o,n,e,_,_,d⟩,_⟩:=I.list h
 obtain ⟨its',r',⟨o',n',e',_,_,d'⟩,_⟩:=I.list h'
 rw [e] at e';cases e'
 rw [d] at d'
 injection d' with d1 _
 have:its=its':=by simpa using congrArg Array.toList d1
 subst this
 exact r.inj r'
theorem Inv.tuple_inj (I:Inv X pins σ H s) (h:SqT X.K H a xs) (h':SqT X.K H a ys):xs=ys:=by
 obtain ⟨its,r,⟨o,e,_,n,d⟩,_⟩:=I.tuple h
 obtain ⟨its',r',⟨o',e',_,n',d'⟩,_⟩:=I.tuple h'
 rw [e] at e';cases e'
 rw [d] at d'
 injection d' with d1 _
 have:its=its':=by simpa using congrArg Array.toList d1
 subst this
 exact r.inj r'
end
abbrev Cx.wish (X:Cx) (E:Value→Shared→Prop):Cx:={ X with xe:=E }
abbrev Cx.nox (X:Cx):Cx:=X.wish fun _ _=>False
theorem Cx.Ok.wish {X:Cx} (ok:X.Ok) (E:Value→Shared→Prop):(X.wish E).Ok :=
 ⟨ok.mod,ok.kind,ok.glob,ok.blt,ok.above,ok.inj,ok.has,ok.cab,ok.hd,ok.frames,ok.stk,ok.exf,ok.bs,ok.bsz,ok.noex,ok.exfs,ok.funs,ok.frf⟩
theorem Cx.Ok.unwish {X:Cx} {E:Value→Shared→Prop} (ok:(X.wish E).Ok):X.Ok :=
 ⟨ok.mod,ok.kind,ok.glob,ok.blt,ok.above,ok.inj,ok.has,ok.cab,ok.hd,ok.frames,ok.stk,ok.exf,ok.bs,ok.bsz,ok.noex,ok.exfs,ok.funs,ok.frf⟩
section
variable {X:Cx} {pins:List (Addr×Obj)} {σ:St} {H:Hp} {s:Shared} {E:Value→Shared→Prop}
theorem Inv.wish (I:Inv X pins σ H s) (E:Value→Shared→Prop):Inv (X.wish E) pins σ H s:=⟨I.ok.wish E,I.os,I.bare,I.base,I.loc,I.cell,I.free,I.freeC,I.pin,I.hok,I.len⟩
theorem Inv.unwish (I:Inv (X.wish E) pins σ H s):Inv X pins σ H s:=⟨I.ok.unwish,I.os,I.bare,I.base,I.loc,I.cell,I.free,I.freeC,I.pin,I.hok,I.len⟩
theorem SP.unwish {D:Ends} {f:Flow} {s':Shared} (h:SP (X.wish E) pins D f s'):SP X pins D f s':=by
 cases f with
 | next=>obtain ⟨σ',H',I,q⟩:=h;exact ⟨σ',H',I.unwish,q⟩
 | brk=>obtain ⟨σ',H',I,q⟩:=h;exact ⟨σ',H',I.unwish,q⟩
 | cont=>obtain ⟨σ',H',I,q⟩:=h;exact ⟨σ',H',I.unwish,q⟩
 | ret u=>obtain ⟨v,σ',H',I,r,q⟩:=h;exact ⟨v,σ',H',I.unwish,r,q⟩
theorem PE.nox {e:Expr} {t:TE} (h:PE X.nox e t):PE X e t:=fun pins s σ H Q I hw =>
 wpAny_mono (h pins s σ H Q (I.wish _) hw) (fun _ _ ⟨v,H',I',r,q⟩=>⟨v,H',I'.unwish,r,q⟩) fun _ _ z=>False.elim z
theorem PT.nox {e:Expr} {t:TT} (h:PT X.nox e t):PT X e t:=fun pins s σ H Q I hw =>
 wpAny_mono (h pins s σ H Q (I.wish _) hw) (fun _ _ ⟨H',I',q⟩=>⟨H',I'.unwish,q⟩) fun _ _ z=>False.elim z
theorem PSs.nox {st:List Stmt} {t:TS} (h:PSs X.nox st t):PSs X st t:=fun pins s σ H D I hw =>
 wpAny_mono (h pins s σ H D (I.wish _) hw) (fun _ _ q=>q.unwish) fun _ _ z=>False.elim z
end
section
variable {X:Cx} {st:Stmt} {rest:List Stmt} {t u:TS} {e:Expr} {te:TE} {pos:Pos}
def tNext:TS:=fun D σ H=>D.nx σ H
def tSeq (t u:TS):TS:=fun D σ H=>t { D with nx:=u D } σ H
theorem pss_nil:PSs X [] tNext:=fun _ _ σ H _ I h=>wpAny_execs_nil ⟨σ,H,I,h⟩
theorem pss_cons (h1:PS X st t) (h2:PSs X rest u):PSs X (st::rest) (tSeq t u):=by
 intro pins s σ H D I h
 refine wpAny_execs_cons (thn (h1 pins s σ H { D with nx:=u D } I h) fun f s1 q=>?_)
 cases f with
 | next =>
  obtain ⟨σ',H',I',q⟩:=q
  exact h2 pins s1 σ' H' D I' q
 | ret v=>exact q
 | brk=>exact q
 | cont=>exact q
theorem pss_one (h1:PS X st t):PSs X [st] t:=by
 intro pins s σ H D I h
 refine wpAny_execs_cons (thn (h1 pins s σ H D I h) fun f s1 q=>?_)
 cases f with
 | next=>exact wpAny_execs_nil q
 | ret v=>exact q
 | brk=>exact q
 | cont=>exact q
theorem Inv.quiet {pins:List (Addr×Obj)} {σ:St} {H:Hp} {s:Shared} (I:Inv X pins σ H s):interactive X.env=false:=by simp [interactive,I.ok.kind]
def tDrop (te:TE):TS:=fun D σ H=>te σ H fun _ H1=>D.nx σ H1
theorem ps_expr (he:PE X e te) (hs:swapsWith e none pos.line X.env=pure false:=by rfl):PS X (.Expr e pos) (tDrop te):=by
 intro pins s σ H D I h
 exact wpAny_Expr_any (thn (he pins s σ H _ I h) fun v s1 ⟨x,H1,I1,r1,q1⟩=>⟨σ,H1,I1,q1⟩) I.quiet hs
def tRet (te:TE):TS:=fun D σ H=>te σ H D.rt
theorem ps_ret (he:PE X e te):PS X (.Return (some e) pos) (tRet te):=by
 intro pins s σ H D I h
 exact wpAny_Return_some (thn (he pins s σ H _ I h) fun v s1 ⟨x,H1,I1,r1,q1⟩=>⟨x,σ,H1,I1,r1,q1⟩)
def tIfS (c:TT) (t u:TS):TS:=fun D σ H=>c σ H fun b H1=>if b=true then t D σ H1 else u D σ H1
theorem ps_if {c:Expr} {a b:List Stmt} {tc:TT} (hc:PT X c tc) (ha:PSs X a t) (hb:PSs X b u):PS X (.If c a b pos) (tIfS tc t u):=by
 intro pins s σ H D I h
 refine wpAny_If (thn (hc pins s σ H _ I h) fun d s1 ⟨H1,I1,q1⟩=>?_)
 cases d with
 | true=>exact ha pins s1 σ H1 D I1 q1
 | false=>exact hb pins s1 σ H1 D I1 q1
def tNever:TS:=fun _ _ _=>False
theorem pss_never {sts:List Stmt}:PSs X sts tNever:=fun _ _ _ _ _ _ h=>h.elim
end
abbrev TG:=V→St→Hp→(St→Hp→Prop)→Prop
abbrev TGs:=List V→St→Hp→(St→Hp→Prop)→Prop
def PG (X:Cx) (target:Expr) (t:TG):Prop :=
 ∀(pins:List (Addr×Obj)) (s:Shared) (σ:St) (H:Hp) (v:V) (u:Value) (Q:St→Hp→Prop),Inv X pins σ H s→RelV v u→t v σ H Q →
  wpAny (model X.prog X.w) X.A (assign target X.env u) (fun _ s'=>∃σ' H',Inv X pins σ' H' s'∧Q σ' H') X.xe s
def PGs (X:Cx) (ts:List Expr) (t:TGs):Prop :=
 ∀(pins:List (Addr×Obj)) (s:Shared) (σ:St) (H:Hp) (vs:List V) (us:List Value) (Q:St→Hp→Prop),Inv X pins σ H s→Vals vs us→t vs σ H Q →
  wpAny (model X.prog X.w) X.A (assignInOrder ((assignEach ts X.env).map (·.2)) us) (fun _ s'=>∃σ' H',Inv X pins σ' H' s'∧Q σ' H') X.xe s
abbrev TSet:=V→V→V→Hp→(Hp→Prop)→Prop
def PSet (X:Cx) (t:TSet):Prop :=
 ∀(pins:List (Addr×Obj)) (s:Shared) (σ:St) (H:Hp) (o i v:V) (ov iv u:Value) (Q:Hp→Prop),Inv X pins σ H s→RelV o ov→RelV i iv→RelV v u→t o i v H Q →
  wpAny (model X.prog X.w) X.A (setItem ov iv u) (fun _ s'=>∃H',Inv X pins σ H' s'∧Q H') X.xe s
abbrev TIp:=V→V→Hp→VK→Prop
def PIp (X:Cx) (op:Operator) (t:TIp):Prop :=
 ∀(pins:List (Addr×Obj)) (s:Shared) (σ:St) (H:Hp) (x y:V) (v u:Value) (Q:VK),Inv X pins σ H s→RelV x v→RelV y u→t x y H Q →
  wpAny (model X.prog X.w) X.A (inplaceOp op v u) (EP X pins σ Q) X.xe s
section
variable {X:Cx} {pos:Pos}
def gName (i:Nat):TG:=fun v σ H Q=>Q (σ.set i (some v)) H
theorem pg_name {i:Nat} {x:Str} (hN:X.N.Nodup) (hi:X.N[i]?=some x) (hx:Loc X.env.scope x) (hf:X.fn x=true∨X.env.scope.names.lookup x=some .local:=by first | exact .inl rfl | exact .inr rfl | assumption):PG X (.Name x pos) (gName i):=by
 intro pins s σ H v u Q I r h
 exact wpAny_assign_Name (store_ok I hN hi hx r (fun s' I'=>⟨_,H,I',h⟩) hf)
def gNil:TGs:=fun vs σ H Q=>vs=[]∧Q σ H
def gCons (t:TG) (u:TGs):TGs:=fun vs σ H Q=>∃v r,vs=v::r∧t v σ H fun σ' H'=>u r σ' H' Q
theorem pgs_nil:PGs X [] gNil:=by
 intro pins s σ H vs us Q I r h
 obtain ⟨e,h⟩:=h
 subst e
 cases r
 exact assignInOrder_nil ⟨σ,H,I,h⟩
theorem pgs_cons {e:Expr} {es:List Expr} {t:TG} {u:TGs} (h1:PG X e t) (h2:PGs X es u)
  (hs:(assignEach (e::es) X.env).map (·.2)=assign e X.env::(assignEach es X.env).map (·.2):=by rfl):PGs X (e::es) (gCons t u):=by
 intro pins s σ H vs us Q I r h
 obtain ⟨v,vr,e1,h⟩:=h
 subst e1
 cases r with
 | cons r rr =>
  rw [hs]
  refine assignInOrder_cons (thn (h1 pins s σ H _ _ _ I r h) fun _ s1 ⟨σ1,H1,I1,q1⟩=>?_)
  exact h2 pins s1 σ1 H1 _ _ Q I1 rr q1
def gTup (K:W.Frag) (n:Nat) (t:TGs):TG:=fun v σ H Q=>∃a xs,v=.ref a∧SqT K H a xs∧xs.length=n∧t xs σ H Q
theorem pg_tup {es:List Expr} {k:Nat} {t:TGs} {n:Nat} (hc:X.calm=true) (h:PGs X es t)
  (hn:(assignEach es X.env).length=n:=by rfl) (hst:(assignEach es X.env).findIdx? (·.1)=none:=by rfl):PG X (.Tuple es k pos) (gTup X.K n t):=by
 intro pins s σ H v u Q I r hw
 obtain ⟨a,xs,e1,hq,hl,hw⟩:=hw
 subst e1
 cases r
 obtain ⟨its,rv,ht,hz⟩:=I.tuple hq
 refine assign_Tuple_tuple (I.ok.hd hc) ht (by simp [hn,← hl,rv.length]) hst fun h' hx=>?_
 have I1:Inv X pins σ H { s with heap:=h' }:=I.kept (t':=s.toks) fun b o e=>hx b o (Nat.ne_of_lt (Heap.lt_size e)) e
 exact h pins _ σ H xs _ Q I1 (by simpa using rv) hw
def gSub (to ti:TE) (t:TSet):TG:=fun v σ H Q=>to σ H fun o H1=>ti σ H1 fun i H2=>t o i v H2 fun H3=>Q σ H3
theorem pg_sub {o i:Expr} {to ti:TE} {t:TSet} (ho:PE X o to) (hi:PE X i ti) (hs:PSet X t)
  (ha:∀v,assign (.Subscript o i pos) X.env v=(do
   let ov ← holding [v] (eval o X.env)
   let iv ← holding [v,ov] (eval i X.env)
   standAt pos
   holding [v,ov,iv] (setItem ov iv v)
   release [v,ov,iv] []):=by intro _;rfl):PG X (.Subscript o i pos) (gSub to ti t):=by
 intro pins s σ H v u Q I r h
 rw [ha]
 refine wpAny_bind (wpAny_holding (thn (ho pins s σ H _ I h) fun ov s1 ⟨x,H1,I1,r1,q1⟩=>?_))
 refine wpAny_bind (wpAny_holding (thn (hi pins s1 σ H1 _ I1 q1) fun iv s2 ⟨y,H2,I2,r2,q2⟩=>?_))
 refine wpAny_bind (wpAny_standAt (wpAny_bind (wpAny_holding (thn (hs pins s2 σ H2 x y v ov iv u _ I2 r1 r2 r q2) fun _ s3 ⟨H3,I3,q3⟩=>?_))))
 exact wpAny_release ⟨σ,H3,I3,q3⟩
def tAsg (te:TE) (g:TG):TS:=fun D σ H=>te σ H fun x H1=>g x σ H1 D.nx
theorem ps_asg {tg e:Expr} {te:TE} {g:TG} (he:PE X e te) (hg:PG X tg g) (hs:swapsWithSole [tg] e pos.line X.env=pure false:=by rfl) (hw:swappedStores [tg] e X.env=pure none:=by rfl)
  (h1:(assignEach [tg] X.env).map (·.2)=[assign tg X.env]:=by rfl):PS X (.Assign [tg] e pos) (tAsg te g):=by
 intro pins s σ H D I h
 refine wpAny_Assign_stores (thn (he pins s σ H _ I h) fun v s1 ⟨x,H1,I1,r1,q1⟩=>?_) hs hw
 rw [h1]
 exact thn (hg pins s1 σ H1 x v _ I1 r1 q1) fun _ s2 q=>q
theorem ps_set {i:Nat} {x:Str} {e:Expr} {te:TE} {pos':Pos} (hN:X.N.Nodup) (hi:X.N[i]?=some x) (hx:Loc X.env.scope x) (he:PE X e te) (hs:swapsWith e (some (.Name x pos')) pos.line X.env=pure false:=by rfl) (hf:X.fn x=true∨X.env.scope.names.lookup x=some .local:=by first | exact .inl rfl | exact .inr rfl | assumption) :
  PS X (.Assign [.Name x pos'] e pos) (tAsg te (gName i)):=by
 intro pins s σ H D I h
 refine wpAny_Assign_Name (thn (he pins s σ H _ I h) fun v s1 ⟨y,H1,I1,r1,q1⟩=>?_) hs
 exact store_ok I1 hN hi hx r1 (fun s2 I2=>⟨_,H1,I2,q1⟩) hf
def tAug (i:Nat) (te:TE) (ti:TIp):TS:=fun D σ H=>∃x,σ[i]?=some (some x)∧te σ H fun y H1=>ti x y H1 fun z H2=>D.nx (σ.set i (some z)) H2
theorem ps_aug {i:Nat} {x:Str} {e:Expr} {te:TE} {op:Operator} {ti:TIp} {pos':Pos} (hN:X.N.Nodup) (hi:X.N[i]?=some x) (hx:Loc X.env.scope x) (he:PE X e te) (ho:PIp X op ti) (hf:X.fn x=true∨X.env.scope.names.lookup x=some .local:=by first | exact .inl rfl | exact .inr rfl | assumption) :
  PS X (.AugAssign (.Name x pos') op e pos) (tAug i te ti):=by
 intro pins s σ H D I h
 obtain ⟨v,e1,h⟩:=h
 obtain ⟨m,hn,hl⟩:=I.loc
 have vis:Vis X.env.scope x:=by rcases hx with k | k;exact .inl k;exact .inr (.inl k)
 obtain ⟨u,r,l⟩:=hl i x v hi e1 vis
 refine wpAny_AugAssign_Name ?_
 have go:wpAny (model X.prog X.w) X.A (eval e X.env) (fun w s₂=>wpAny (model X.prog X.w) X.A (inplaceOp op u w) (fun r s₃=>wpAny (model X.prog X.w) X.A (storeName X.env x r) (fun _=>SP X pins D .next) X.xe s₃) X.xe s₂) X.xe s:=by
  refine thn (he pins s σ H _ I h) fun w s1 ⟨y,H1,I1,r1,q1⟩=>?_
  refine thn (ho pins s1 σ H1 v y u w _ I1 r r1 q1) fun z s2 ⟨zv,H2,I2,r2,q2⟩=>?_
  exact store_ok I2 hN hi hx r2 (fun s3 I3=>⟨_,H2,I3,q2⟩) hf
 rcases l with ⟨hk,hm⟩ | ⟨hk,c,hc,hcell⟩
 ·exact wpAny_loadName_local I.ok.kind hk hn hm go
 ·rcases hk with hk | hk
  ·exact wpAny_loadName_cell I.ok.kind hk hc hcell go
  ·rcases hx with k | k
   ·have:X.env.scope.names.lookup x=some .free:=hk
    rw [k] at this;cases this
   ·have:X.env.scope.names.lookup x=some .free:=hk
    rw [k] at this;cases this
end
structure It where
 go:Nat→Hp→Prop
 yld:Nat→Hp→V→Hp→Prop
 stop:Nat→Hp→Prop
def FpOk (X:Cx) (pins:List (Addr×Obj)) (H:Hp) (b:Addr):Prop :=
 H b=none∧b≠X.env.locals∧b ∉ X.fs∧(b∈X.ex∨X.s₀.heap.objs.size≤b)∧(∀x c,X.env.cells.lookup x=some c→c≠b)∧∀p∈X.pn++pins,p.1≠b
theorem Inv.fpOk {X:Cx} {pins:List (Addr×Obj)} {σ:St} {H H':Hp} {s:Shared} {b:Addr} (I:Inv X pins σ H s) (hb:s.heap.objs.size≤b) (hn:H' b=none):FpOk X pins H' b:=by
 refine ⟨hn,Nat.ne_of_gt (Nat.lt_of_lt_of_le I.lt hb),I.nofs hb,.inr (Nat.le_trans I.sz hb),fun x c e z=>?_,fun p hp z=>?_⟩
 ·obtain ⟨v,q⟩:=I.cell x c e
  exact absurd (Nat.lt_of_lt_of_le q.lt (by rw [z];exact hb)) (Nat.lt_irrefl _)
 ·exact absurd (Nat.lt_of_lt_of_le (Heap.lt_size (I.pin p hp).1) (by rw [z];exact hb)) (Nat.lt_irrefl _)
structure Turn (P:Program) (w:World) (K:W.Frag) (tg:Expr) (J:It) (fp:List Addr) (it:Addr) (tn:Nat→Heap→Prop):Prop where
 mem:it∈fp
 obj:∀i h,tn i h→∀b∈fp,∃o,h.get? b=some o∧∀v,o.data≠.cell v
 keep:∀i h h',tn i h→(∀b∈fp,∀o,h.get? b=some o→h'.get? b=some o)→tn i h'
 item:∀(X:Cx),X.prog=P→X.w=w→X.K=K→X.calm=true→∀(i:Nat) (pins:List (Addr×Obj)) (s:Shared) (σ:St) (H:Hp) (E:Value→Shared→Prop),Inv X pins σ H s→(∀b∈fp,FpOk X pins H b)→tn i s.heap→J.go i H →
  wpAny (model P w) X.A (pyNext (.ref it)) (fun r s1=>∃u,r=some u ∧
   wpAny (model P w) X.A (letOwnedTupleGo tg (.ref it) u) (fun _ s2=>∃x H',Inv X pins σ H' s2∧RelV x u∧J.yld i H x H'∧tn (i + 1) s2.heap∧∀b∈fp,H' b=none) E s1) E s
 done:∀(X:Cx),X.prog=P→X.w=w→X.K=K→X.calm=true→∀(i:Nat) (pins:List (Addr×Obj)) (s:Shared) (σ:St) (H:Hp) (E:Value→Shared→Prop),Inv X pins σ H s→(∀b∈fp,FpOk X pins H b)→tn i s.heap→J.stop i H →
  wpAny (model P w) X.A (pyNext (.ref it)) (fun r s1=>r=none∧Inv X pins σ H s1) E s
 self:∀(A:Around) (i:Nat) (s:Shared) (Q:Value→Shared→Prop) (E:Value→Shared→Prop),tn i s.heap→Q (.ref it) s→wpAny (model P w) A (pyIter (.ref it)) Q E s
abbrev TI:=St→Hp→(It→Hp→Prop)→Prop
def PIE (X:Cx) (pins:List (Addr×Obj)) (σ:St) (tg:Expr) (R:It→Hp→Prop) (itv:Value) (s2:Shared):Prop :=
 ∃(it:Addr) (fp:List Addr) (tn:Nat→Heap→Prop) (J:It) (H':Hp),itv=.ref it∧Inv X pins σ H' s2∧Turn X.prog X.w X.K tg J fp it tn∧tn 0 s2.heap∧(∀b∈fp,FpOk X pins H' b)∧R J H'
def PI (X:Cx) (tg iter:Expr) (wi:TI):Prop :=
 ∀(pins:List (Addr×Obj)) (s:Shared) (σ:St) (H:Hp) (R:It→Hp→Prop),Inv X pins σ H s→wi σ H R →
  wpAny (model X.prog X.w) X.A (eval iter X.env) (fun v s1=>wpAny (model X.prog X.w) X.A (pyIter v) (PIE X pins σ tg R) X.xe s1) X.xe s
theorem go_of {M:Model} {A:Around} {E:Value→Shared→Prop} {s:Shared} {tg:Expr} {it:Addr} {u:Value} {o:Obj} {n:String} {vs:Array Value} {Q:Unit→Shared→Prop} (ho:s.heap.get? it=some o) (hc:o.cls=.type n) (hd:o.data=.fields vs)
  (hn:["enumerate", "zip", "dict_itemiterator", "dict_reverseitemiterator", "odict_iterator", "itertools.zip_longest", "itertools.pairwise"].contains n=false) (hQ:Q () s):wpAny M A (letOwnedTupleGo tg (.ref it) u) Q E s:=by
 unfold letOwnedTupleGo
 cases tg <;> first
  | exact wpAny_pure hQ
  | (cases u <;> first
    | exact wpAny_pure hQ
    | (refine wpAny_bind (wpAny_load ho ?_)
       rw [hc,hd]
       show wpAny M A (if (["enumerate", "zip", "dict_itemiterator", "dict_reverseitemiterator", "odict_iterator", "itertools.zip_longest", "itertools.pairwise"].contains n && vs[0]? == some (rawInt _))=true then _ else _) Q E s
       rw [if_neg (by intro h;rw [hn,Bool.false_and] at h;cases h)]
       exact wpAny_pure hQ))
def Itl (K:W.Frag) (a:Addr):It :=
 ⟨fun i H=>∃xs x,SqL K H a xs∧xs[i]?=some x,fun i H x H'=>H'=H∧∀xs,SqL K H a xs→xs[i]?=some x,fun i H=>∃xs,SqL K H a xs∧xs.length≤i⟩
def Itt (K:W.Frag) (a:Addr):It :=
 ⟨fun i H=>∃xs x,SqT K H a xs∧xs[i]?=some x,fun i H x H'=>H'=H∧∀xs,SqT K H a xs→xs[i]?=some x,fun i H=>∃xs,SqT K H a xs∧xs.length≤i⟩
def Itr (lo:Int) (n:Nat):It:=⟨fun i _=>i < n,fun i H x H'=>H'=H∧x=.int (lo + i),fun i _=>n≤i⟩
theorem turn_list {P:Program} {w:World} {K:W.Frag} {tg:Expr} (a it:Addr):Turn P w K tg (Itl K a) [it] it (fun i h=>h.IsListIter it a i) where
 mem:=by simp
 obj:=fun i h st b hb=>by
  have e:b=it:=by simpa using hb
  subst e
  obtain ⟨o,e,c,d⟩:=st
  exact ⟨o,e,fun v z=>by rw [d] at z;cases z⟩
 keep:=fun i h h' st k=>st.at fun o e=>k it (by simp) o e
 item:=by
  intro X hP hw hK hc i pins s σ H E I hf st hg
  subst hP hw hK
  obtain ⟨xs,x,hq,hx⟩:=hg
  obtain ⟨its,rv,p,hz⟩:=I.list hq
  obtain ⟨u,hu,ru⟩:=rv.get hx
  obtain ⟨f0,f1,f2,f3,f4,f5⟩:=hf it (by simp)
  refine wpAny_pyNext_list_item st p.isList (x:=u) (by simpa using hu) fun h' st' sb=>?_
  have I1:Inv X pins σ H { s with heap:=h' }:=I.turned (t':=s.toks) (fun b o hb e=>(sb.2 b hb).trans e) f0 f1 f3 f4 f5
  obtain ⟨o,e,c,d⟩:=id st'
  exact ⟨u,rfl,go_of (s:={ s with heap:=h' }) e c d (by decide) ⟨x,H,I1,ru,⟨rfl,fun ys hy=>by rw [I.list_inj hy hq];exact hx⟩,st',fun b hb=>(hf b hb).1⟩⟩
 done:=by
  intro X hP hw hK hc i pins s σ H E I hf st hg
  subst hP hw hK
  obtain ⟨xs,hq,hx⟩:=hg
  obtain ⟨its,rv,p,hz⟩:=I.list hq
  obtain ⟨f0,f1,f2,f3,f4,f5⟩:=hf it (by simp)
  have hl:=rv.length
  exact wpAny_pyNext_list_end (I.ok.hd hc) st p.isList (by simp;lia) fun h' eb=>⟨rfl,I.turned (t':=s.toks) (fun b o hb e=>eb b o hb e) f0 f1 f3 f4 f5⟩
 self:=fun _ _ _ _ _ st h=>wpAny_pyIter_listiter st h
theorem turn_tuple {P:Program} {w:World} {K:W.Frag} {tg:Expr} (a it:Addr):Turn P w K tg (Itt K a) [it] it (fun i h=>h.IsTupleIter it a i) where
 mem:=by simp
 obj:=fun i h st b hb=>by
  have e:b=it:=by simpa using hb
  subst e
  obtain ⟨o,e,c,d⟩:=st
  exact ⟨o,e,fun v z=>by rw [d] at z;cases z⟩
 keep:=fun i h h' st k=>st.at fun o e=>k it (by simp) o e
 item:=by
  intro X hP hw hK hc i pins s σ H E I hf st hg
  subst hP hw hK
  obtain ⟨xs,x,hq,hx⟩:=hg
  obtain ⟨its,rv,p,hz⟩:=I.tuple hq
  obtain ⟨u,hu,ru⟩:=rv.get hx
  obtain ⟨f0,f1,f2,f3,f4,f5⟩:=hf it (by simp)
  refine wpAny_pyNext_tuple_item st (show s.heap.IsTuple a its.toArray from p) (x:=u) (by simpa using hu) fun h' st' sb=>?_
  have I1:Inv X pins σ H { s with heap:=h' }:=I.turned (t':=s.toks) (fun b o hb e=>(sb.2 b hb).trans e) f0 f1 f3 f4 f5
  obtain ⟨o,e,c,d⟩:=id st'
  exact ⟨u,rfl,go_of (s:={ s with heap:=h' }) e c d (by decide) ⟨x,H,I1,ru,⟨rfl,fun ys hy=>by rw [I.tuple_inj hy hq];exact hx⟩,st',fun b hb=>(hf b hb).1⟩⟩
 done:=by
  intro X hP hw hK hc i pins s σ H E I hf st hg
  subst hP hw hK
  obtain ⟨xs,hq,hx⟩:=hg
  obtain ⟨its,rv,p,hz⟩:=I.tuple hq
  obtain ⟨f0,f1,f2,f3,f4,f5⟩:=hf it (by simp)
  have hl:=rv.length
  exact wpAny_pyNext_tuple_end (I.ok.hd hc) st (show s.heap.IsTuple a its.toArray from p) (by simp;lia) fun h' eb=>⟨rfl,I.turned (t':=s.toks) (fun b o hb e=>eb b o hb e) f0 f1 f3 f4 f5⟩
 self:=fun _ _ _ _ _ st h=>wpAny_pyIter_tupleiter st h
theorem turn_range {P:Program} {w:World} {K:PySem.W.Frag} {tg:Expr} (it:Addr) (lo:Int) (n:Nat):Turn P w K tg (Itr lo n) [it] it (fun i h=>IsRangeIter h it (lo + (i:Nat) * 1) ((n:Int) - (i:Nat)) 1) where
 mem:=by simp
 obj:=fun i h st b hb=>by
  have e:b=it:=by simpa using hb
  subst e
  exact ⟨_,st,fun v z=>by
   have z':Data.fields _=Data.cell v:=z
   cases z'⟩
 keep:=fun i h h' st k=>k it (by simp) _ st
 item:=by
  intro X hP hw hK hc i pins s σ H E I hf st hg
  subst hP hw hK
  obtain ⟨f0,f1,f2,f3,f4,f5⟩:=hf it (by simp)
  have W:=Walks.range (prog:=X.prog) (w:=X.w) (I.ok.hd hc) it lo 1 n
  refine W.item i s _ _ hg st fun v h' tk hv st' kk=>?_
  obtain ⟨t,rfl⟩:=hv
  have I1:Inv X pins σ H { s with heap:=h',toks:=tk }:=I.turned (fun b o hb e=>kk b o (by simpa using hb) e) f0 f1 f3 f4 f5
  refine ⟨_,rfl,go_of (s:={ s with heap:=h',toks:=tk }) (n := "range_iterator") st' rfl rfl (by decide) ⟨.int (lo + i),H,I1,⟨t,?_⟩,⟨rfl,rfl⟩,st',fun b hb=>(hf b hb).1⟩⟩
  rw [Int.mul_one]
 done:=by
  intro X hP hw hK hc i pins s σ H E I hf st hg
  subst hP hw hK
  obtain ⟨f0,f1,f2,f3,f4,f5⟩:=hf it (by simp)
  exact wpAny_pyNext_range_end (I.ok.hd hc) st (by have:n≤i:=hg;lia) fun h' eb=>⟨rfl,I.turned (t':=s.toks) (fun b o hb e=>eb b o hb e) f0 f1 f3 f4 f5⟩
 self:=fun _ _ _ _ _ st h=>wpAny_pyIter_rangeiter st h
section
variable {X:Cx} {tg:Expr}
def iList (K:W.Frag) (tl:TE):TI:=fun σ H R=>tl σ H fun x H1=>∃a,x=.ref a∧(∃xs,SqL K H1 a xs)∧R (Itl K a) H1
def iTup (K:W.Frag) (tl:TE):TI:=fun σ H R=>tl σ H fun x H1=>∃a,x=.ref a∧(∃xs,SqT K H1 a xs)∧R (Itt K a) H1
theorem pi_list {l:Expr} {tl:TE} (hl:PE X l tl):PI X tg l (iList X.K tl):=by
 intro pins s σ H R I h
 refine thn (hl pins s σ H _ I h) fun v s1 ⟨x,H1,I1,r1,q1⟩=>?_
 obtain ⟨a,e,⟨xs,hq⟩,q⟩:=q1
 subst e
 cases r1
 obtain ⟨its,rv,p,hz⟩:=I1.list hq
 refine wpAny_pyIter_list p.isList ?_
 refine ⟨s1.heap.objs.size,[s1.heap.objs.size],_,_,H1,rfl,I1.kept (t':=s1.toks) fun b o e=>Heap.get?_push_of_some _ e,turn_list a _,⟨_,Heap.get?_push_size _ rfl,rfl,rfl⟩,fun b hb=>?_,q⟩
 have e:b=s1.heap.objs.size:=by simpa using hb
 subst e
 exact I1.fpOk (Nat.le_refl _) (I1.hok.fresh (Nat.le_refl _))
theorem pi_tup {l:Expr} {tl:TE} (hl:PE X l tl):PI X tg l (iTup X.K tl):=by
 intro pins s σ H R I h
 refine thn (hl pins s σ H _ I h) fun v s1 ⟨x,H1,I1,r1,q1⟩=>?_
 obtain ⟨a,e,⟨xs,hq⟩,q⟩:=q1
 subst e
 cases r1
 obtain ⟨its,rv,p,hz⟩:=I1.tuple hq
 refine wpAny_pyIter_tuple (show s1.heap.IsTuple a its.toArray from p) ?_
 refine ⟨s1.heap.objs.size,[s1.heap.objs.size],_,_,H1,rfl,I1.kept (t':=s1.toks) fun b o e=>Heap.get?_push_of_some _ e,turn_tuple a _,⟨_,Heap.get?_push_size _ rfl,rfl,rfl⟩,fun b hb=>?_,q⟩
 have e:b=s1.heap.objs.size:=by simpa using hb
 subst e
 exact I1.fpOk (Nat.le_refl _) (I1.hok.fresh (Nat.le_refl _))
theorem range_it {pins:List (Addr×Obj)} {σ:St} {H:Hp} {s:Shared} {R:It→Hp→Prop} {E:Value→Shared→Prop} {lo hi:Int} {t u v:Tok} {tk:Nat} (I:Inv X pins σ H s) (h1:-(2 ^ 62)≤lo) (h2:lo < 2 ^ 62) (h3:-(2 ^ 62)≤hi) (h4:hi < 2 ^ 62)
  (q:R (Itr lo (hi - lo).toNat) H):wpAny (model X.prog X.w) X.A (pyIter (.ref s.heap.objs.size)) (PIE X pins σ tg R) E { s with heap:=s.heap.push { cls:=.type "range", data:=.fields #[.int lo t,.int hi u,.int 1 v] },toks:=tk }:=by
 refine wpAny_pyIter_range (IsRange.new ..) (small_one h1 h2 h3 h4) ?_
 have I1:Inv X pins σ H { s with heap:=s.heap.push { cls:=.type "range", data:=.fields #[.int lo t,.int hi u,.int 1 v] },toks:=tk }:=I.kept fun b o e=>Heap.get?_push_of_some _ e
 refine ⟨(s.heap.push { cls:=.type "range", data:=.fields #[.int lo t,.int hi u,.int 1 v] }).objs.size,[(s.heap.push { cls:=.type "range", data:=.fields #[.int lo t,.int hi u,.int 1 v] }).objs.size],_,_,H,rfl,
  I1.kept (t':=tk) fun b o e=>Heap.get?_push_of_some _ e,turn_range _ lo (hi - lo).toNat,?_,fun b hb=>?_,q⟩
 ·have e1:lo + ((0:Nat):Int) * 1=lo:=by simp
  have e2:(((hi - lo).toNat:Nat):Int) - ((0:Nat):Int)=Builtin.Range.rangeSize lo hi 1:=by rw [rangeSize_one];split <;> lia
  show IsRangeIter _ _ (lo + ((0:Nat):Int) * 1) ((((hi - lo).toNat:Nat):Int) - ((0:Nat):Int)) 1
  rw [e1,e2]
  exact Heap.get?_push_size _ rfl
 ·have e:b=(s.heap.push { cls:=.type "range", data:=.fields #[.int lo t,.int hi u,.int 1 v] }).objs.size:=by simpa using hb
  subst e
  exact I1.fpOk (Nat.le_refl _) (I1.hok.fresh (Nat.le_refl _))
def iRng1 (ta:TA):TI:=fun σ H R=>ta σ H fun vs H1=>∃j:Int,vs=[.int j]∧-(2 ^ 62)≤j∧j < 2 ^ 62∧R (Itr 0 j.toNat) H1
def iRng2 (ta:TA):TI:=fun σ H R=>ta σ H fun vs H1=>∃i j:Int,vs=[.int i,.int j]∧(-(2 ^ 62)≤i∧i < 2 ^ 62∧-(2 ^ 62)≤j∧j < 2 ^ 62)∧R (Itr i (j - i).toNat) H1
theorem pi_range1 {a:Expr} {ta:TA} {p pos:Pos} (hg:Gl X "range") (hm:X.mg "range" = none) (ha:PA X [a] ta) (hs:starEach [a] X.env=[(false,eval a X.env)]:=by rfl):PI X tg (.Call (.Name "range" p) [a] [] pos) (iRng1 ta):=by
 intro pins s σ H R I h
 refine Call_ (ld_blt I hg hm boot_range (PyProof.Rows.callWith_type1 (thn (ha pos pins s σ H _ I h) fun us s1 ⟨vs,H1,I1,r1,q1⟩=>?_) hs rfl))
 obtain ⟨j,e,q1,q2,q⟩:=q1
 subst e
 cases r1 with
 | cons r rr =>
  cases rr
  obtain ⟨t,rfl⟩:=r
  exact call_range_1 (range_it I1 (by lia) (by lia) q1 q2 (by simpa using q))
theorem pi_range2 {a b:Expr} {ta:TA} {p pos:Pos} (hg:Gl X "range") (hm:X.mg "range" = none) (ha:PA X [a,b] ta) (hs:starEach [a,b] X.env=[(false,eval a X.env),(false,eval b X.env)]:=by rfl) (hs2:starEach [b] X.env=[(false,eval b X.env)]:=by rfl) :
  PI X tg (.Call (.Name "range" p) [a,b] [] pos) (iRng2 ta):=by
 intro pins s σ H R I h
 refine Call_ (ld_blt I hg hm boot_range (PyProof.Rows.callWith_type1 (thn (ha pos pins s σ H _ I h) fun us s1 ⟨vs,H1,I1,r1,q1⟩=>?_) (by rw [hs,hs2]) (by rw [hs2];rfl)))
 obtain ⟨i,j,e,⟨q1,q2,q3,q4⟩,q⟩:=q1
 subst e
 cases r1 with
 | cons r rr =>
  cases rr with
  | cons r' rr =>
   cases rr
   obtain ⟨t,rfl⟩:=r
   obtain ⟨t',rfl⟩:=r'
   exact call_range_2 (range_it I1 q1 q2 q3 q4 q)
def tFor (wi:TI) (g:TG) (tb:TS):TS:=fun D σ H=>wi σ H fun J H1=>∃W:Nat→Nat→St→Hp→Prop,(∃m,W 0 m σ H1)∧∀i m σ H,W i m σ H →
 (J.stop i H∧D.nx σ H)∨(J.go i H∧∃N:St→Hp→Prop,(∀σ' H',N σ' H'→∃m',m' < m∧W (i + 1) m' σ' H')∧∀x H',J.yld i H x H'→g x σ H' fun σ2 H2=>tb { D with nx:=N,ct:=N,bk:=D.nx } σ2 H2)
def pinsAt (fp:List Addr) (h:Heap):List (Addr×Obj):=fp.filterMap fun b=>(h.get? b).map fun o=>(b,o)
theorem mem_pinsAt {fp:List Addr} {h:Heap} {b:Addr} {o:Obj} (hb:b∈fp) (e:h.get? b=some o):(b,o)∈pinsAt fp h:=List.mem_filterMap.mpr ⟨b,hb,by rw [e];rfl⟩
theorem of_pinsAt {fp:List Addr} {h:Heap} {p:Addr×Obj} (hp:p∈pinsAt fp h):p.1∈fp∧h.get? p.1=some p.2:=by
 obtain ⟨b,hb,e⟩:=List.mem_filterMap.mp hp
 cases q:h.get? b with
 | none=>rw [q] at e;cases e
 | some o =>
  rw [q] at e
  have e':(b,o)=p:=Option.some.inj e
  subst e'
  exact ⟨hb,q⟩
theorem Inv.pinned {pins:List (Addr×Obj)} {σ:St} {H:Hp} {s:Shared} {fp:List Addr} (I:Inv X pins σ H s) (hf:∀b∈fp,FpOk X pins H b) (ho:∀b∈fp,∃o,s.heap.get? b=some o∧∀v,o.data≠.cell v):Inv X (pins++pinsAt fp s.heap) σ H s :=
 I.pins_of fun p hp=>(List.mem_append.mp hp).elim (fun z=>I.pin p (List.mem_append_right _ z)) fun z=>by
  obtain ⟨hb,e⟩:=of_pinsAt z
  obtain ⟨f0,f1,f2,_⟩:=hf p.1 hb
  obtain ⟨o,e',d⟩:=ho p.1 hb
  rw [e] at e';cases e'
  exact ⟨e,f0,f1,f2,d⟩
theorem Inv.unpinned {pins pl:List (Addr×Obj)} {σ:St} {H:Hp} {s:Shared} (I:Inv X (pins++pl) σ H s):Inv X pins σ H s:=I.pins_of fun p hp=>I.pin p (List.mem_append_right _ (List.mem_append_left _ hp))
theorem ps_for {iter:Expr} {body:List Stmt} {wi:TI} {g:TG} {tb:TS} {pos:Pos} (hp:PassesOwn (model X.prog X.w) X.A X.env X.xe) (hc:X.calm=true) (hi:PI X tg iter wi) (hg:PG X tg g) (hb:PSs X body tb)
  (hs:∀x,foldedSetIterable iter X.env x=pure x:=by intro _;rfl):PS X (.For tg iter body [] pos) (tFor wi g tb):=by
 intro pins s σ H D I h
 refine wpAny_For (thn (hi pins s σ H _ I h) fun v s1 h1=>thn h1 fun itv s2 h2=>?_) hs
 obtain ⟨it,fp,tn,J,H2,e,I2,T,st2,f2,W,⟨m0,w0⟩,turn⟩:=h2
 subst e
 -- what stays true of the iterator's objects through the loop
 have stat:∀{H':Hp},(∀b∈fp,H' b=none)→∀b∈fp,FpOk X pins H' b:=fun hn b hb=>⟨hn b hb,(f2 b hb).2⟩
 refine codeAny_forLoop_any (fun n s'=>∃i σ' H',Inv X pins σ' H' s'∧tn i s'.heap∧(∀b∈fp,H' b=none)∧W i n σ' H') ?_ m0 ⟨0,σ,H2,I2,st2,fun b hb=>(f2 b hb).1,w0⟩
 rintro n s3 ⟨i,σ3,H3,I3,st3,fr3,w3⟩
 rcases turn i n σ3 H3 w3 with ⟨stop,qn⟩ | ⟨go,N,hN,step⟩
 ·refine wpAny_passesOwn hp (thn (T.done X rfl rfl rfl hc i pins s3 σ3 H3 X.xe I3 (stat fr3) st3 stop) fun r s4 ⟨hr,I4⟩=>?_)
  subst hr
  exact wpAny_execs_nil ⟨σ3,H3,I4,qn⟩
 ·refine wpAny_passesOwn hp (thn (T.item X rfl rfl rfl hc i pins s3 σ3 H3 X.xe I3 (stat fr3) st3 go) fun r s4 ⟨u,hr,h4⟩=>?_)
  subst hr
  refine wpAny_passesOwn hp (thn h4 fun _ s5 ⟨x,H5,I5,r5,y5,st5,fr5⟩=>?_)
  have I5':=I5.pinned (stat fr5) (T.obj _ _ st5)
  refine wpAny_passesOwn hp (thn (hg _ s5 σ3 H5 x u _ I5' r5 (step x H5 y5)) fun _ s6 ⟨σ6,H6,I6,q6⟩=>?_)
  refine wpAny_passesOwn hp (thn (hb _ s6 σ6 H6 _ I6 q6) fun f s7 q7=>?_)
  have again:∀{σ7:St} {H7:Hp},Inv X (pins++pinsAt fp s5.heap) σ7 H7 s7→N σ7 H7→∃m,m < n∧∃i σ' H',Inv X pins σ' H' s7∧tn i s7.heap∧(∀b∈fp,H' b=none)∧W i m σ' H':=fun {σ7 H7} I7 n7=>by
   obtain ⟨m',hm,w7⟩:=hN σ7 H7 n7
   refine ⟨m',hm,i + 1,σ7,H7,I7.unpinned,T.keep _ _ _ st5 fun b hb o e=>(I7.pin (b,o) (List.mem_append_right _ (List.mem_append_right _ (mem_pinsAt hb e)))).1,fun b hb=>?_,w7⟩
   obtain ⟨o,e,d⟩:=T.obj _ _ st5 b hb
   exact (I7.pin (b,o) (List.mem_append_right _ (List.mem_append_right _ (mem_pinsAt hb e)))).2.1
  cases f with
  | next=>obtain ⟨σ7,H7,I7,n7⟩:=q7;exact again I7 n7
  | cont=>obtain ⟨σ7,H7,I7,n7⟩:=q7;exact again I7 n7
  | brk=>obtain ⟨σ7,H7,I7,q7⟩:=q7;exact ⟨σ7,H7,I7.unpinned,q7⟩
  | ret v=>obtain ⟨x7,σ7,H7,I7,r7,q7⟩:=q7;exact ⟨x7,σ7,H7,I7.unpinned,r7,q7⟩
end
theorem for_list {K:PySem.W.Frag} {a:Addr} {xs:List V} {g:TG} {tb:TS} {D:Ends} {σ:St} {H:Hp} (Pv:Nat→St→Hp→Prop) (h0:Pv 0 σ H) (hl:∀i σ H,i≤xs.length→Pv i σ H→SqL K H a xs)
  (hs:∀i x σ H,xs[i]?=some x→Pv i σ H→g x σ H fun σ2 H2=>tb { D with nx:=Pv (i + 1),ct:=Pv (i + 1),bk:=D.nx } σ2 H2) (hd:∀σ H,Pv xs.length σ H→D.nx σ H) :
  ∃W:Nat→Nat→St→Hp→Prop,(∃m,W 0 m σ H)∧∀i m σ H,W i m σ H →
   ((Itl K a).stop i H∧D.nx σ H)∨((Itl K a).go i H∧∃N:St→Hp→Prop,(∀σ' H',N σ' H'→∃m',m' < m∧W (i + 1) m' σ' H')∧∀x H',(Itl K a).yld i H x H'→g x σ H' fun σ2 H2=>tb { D with nx:=N,ct:=N,bk:=D.nx } σ2 H2):=by
 refine ⟨fun i m σ H=>m=xs.length - i∧i≤xs.length∧Pv i σ H,⟨xs.length,by simp,Nat.zero_le _,h0⟩,?_⟩
 rintro i m σ H ⟨rfl,hi,p⟩
 have q:=hl i σ H hi p
 by_cases hlt:i < xs.length
 ·refine .inr ⟨⟨xs,xs[i],q,by simp [hlt]⟩,Pv (i + 1),fun σ' H' p'=>⟨xs.length - (i + 1),by lia,rfl,hlt,p'⟩,fun x H' y=>?_⟩
  obtain ⟨e,y⟩:=y
  subst e
  exact hs i x σ _ (y xs q) p
 ·have e:i=xs.length:=by lia
  subst e
  exact .inl ⟨⟨xs,q,Nat.le_refl _⟩,hd σ H p⟩
theorem for_range {lo:Int} {n:Nat} {g:TG} {tb:TS} {D:Ends} {σ:St} {H:Hp} (Pv:Nat→St→Hp→Prop) (h0:Pv 0 σ H)
  (hs:∀i σ H,i < n→Pv i σ H→g (.int (lo + i)) σ H fun σ2 H2=>tb { D with nx:=Pv (i + 1),ct:=Pv (i + 1),bk:=D.nx } σ2 H2) (hd:∀σ H,Pv n σ H→D.nx σ H) :
  ∃W:Nat→Nat→St→Hp→Prop,(∃m,W 0 m σ H)∧∀i m σ H,W i m σ H →
   ((Itr lo n).stop i H∧D.nx σ H)∨((Itr lo n).go i H∧∃N:St→Hp→Prop,(∀σ' H',N σ' H'→∃m',m' < m∧W (i + 1) m' σ' H')∧∀x H',(Itr lo n).yld i H x H'→g x σ H' fun σ2 H2=>tb { D with nx:=N,ct:=N,bk:=D.nx } σ2 H2):=by
 refine ⟨fun i m σ H=>m=n - i∧i≤n∧Pv i σ H,⟨n,by simp,Nat.zero_le _,h0⟩,?_⟩
 rintro i m σ H ⟨rfl,hi,p⟩
 by_cases hlt:i < n
 ·refine .inr ⟨hlt,Pv (i + 1),fun σ' H' p'=>⟨n - (i + 1),by lia,rfl,hlt,p'⟩,fun x H' y=>?_⟩
  obtain ⟨e,y⟩:=y
  subst e y
  exact hs i σ _ hlt p
 ·have e:i=n:=by lia
  subst e
  exact .inl ⟨Nat.le_refl _,hd σ H p⟩
abbrev R2:=V→V→Hp→VK→Prop
def OpR (X:Cx) (f:Value→Value→Sem Value) (r:R2):Prop :=
 ∀(pins:List (Addr×Obj)) (s:Shared) (σ:St) (H:Hp) (x y:V) (v u:Value) (Q:VK),Inv X pins σ H s→RelV x v→RelV y u→r x y H Q →
  wpAny (model X.prog X.w) X.A (f v u) (EP X pins σ Q) X.xe s
def UnR (X:Cx) (f:Value→Sem Value) (r:V→Hp→VK→Prop):Prop :=
 ∀(pins:List (Addr×Obj)) (s:Shared) (σ:St) (H:Hp) (x:V) (v:Value) (Q:VK),Inv X pins σ H s→RelV x v→r x H Q →
  wpAny (model X.prog X.w) X.A (f v) (EP X pins σ Q) X.xe s
def CallR (X:Cx) (f:Value) (r:List V→Hp→VK→Prop):Prop :=
 ∀(pins:List (Addr×Obj)) (s:Shared) (σ:St) (H:Hp) (xs:List V) (us:List Value) (Q:VK),Inv X pins σ H s→Vals xs us→r xs H Q →
  wpAny (model X.prog X.w) X.A (call f us) (EP X pins σ Q) X.xe s
def tOp (r:R2) (ta tb:TE):TE:=fun σ H Q=>ta σ H fun x H1=>tb σ H1 fun y H2=>r x y H2 Q
def tUn (r:V→Hp→VK→Prop) (ta:TE):TE:=fun σ H Q=>ta σ H fun x H1=>r x H1 Q
def rI (C:Int→Int→Prop) (g:Int→Int→V):R2:=fun x y H Q=>∃i j,x=.int i∧y=.int j∧C i j∧Q (g i j) H
def rI0 (g:Int→Int→V):R2:=fun x y H Q=>∃i j,x=.int i∧y=.int j∧Q (g i j) H
def rU (g:Int→V):V→Hp→VK→Prop:=fun x H Q=>∃i,x=.int i∧Q (g i) H
section
variable {X:Cx} {a b c:Expr} {ta tb tc:TE} {pos:Pos}
theorem binT (ha:PE X a ta) (hb:PE X b tb) {pins:List (Addr×Obj)} {s:Shared} {σ:St} {H:Hp} {R:V→V→Hp→Prop} (I:Inv X pins σ H s)
  (h:ta σ H fun x H1=>tb σ H1 fun y H2=>R x y H2) {Q:Value→Shared→Prop} {f:Value→Value→Sem Value}
  (hf:∀v u s2 x y H2,Inv X pins σ H2 s2→RelV x v→RelV y u→R x y H2→wpAny (model X.prog X.w) X.A (f v u) Q X.xe s2) :
  wpAny (model X.prog X.w) X.A (eval a X.env) (fun v s₁=>wpAny (model X.prog X.w) X.A (eval b X.env) (fun u s₂=>wpAny (model X.prog X.w) X.A (f v u) Q X.xe s₂) X.xe s₁) X.xe s:=by
 refine thn (ha pins s σ H _ I h) fun v s1 ⟨x,H1,I1,r1,q1⟩=>?_
 refine thn (hb pins s1 σ H1 _ I1 q1) fun u s2 ⟨y,H2,I2,r2,q2⟩=>?_
 exact hf v u s2 x y H2 I2 r1 r2 q2
theorem pe_op {op:Operator} {r:R2} (ho:OpR X (binaryOp op) r) (ha:PE X a ta) (hb:PE X b tb):PE X (.BinOp a op b pos) (tOp r ta tb):=by
 intro pins s σ H Q I h
 exact wpAny_BinOp (binT ha hb I h fun v u s2 x y H2 I2 rx ry q=>ho pins s2 σ H2 x y v u Q I2 rx ry q)
theorem pe_un {op:UnaryOp} {r:V→Hp→VK→Prop} (ho:UnR X (unaryOp op) r) (ha:PE X a ta):PE X (.UnaryOp op a pos) (tUn r ta):=by
 intro pins s σ H Q I h
 exact UnaryOp_ (thn (ha pins s σ H _ I h) fun v s1 ⟨x,H1,I1,r1,q1⟩=>ho pins s1 σ H1 x v Q I1 r1 q1)
theorem opI {f:Value→Value→Sem Value} {C:Int→Int→Prop} {g:Int→Int→Int}
  (rule:∀(i j:Int) (t u:Tok) (s:Shared) (Q:Value→Shared→Prop) (E:Value→Shared→Prop),C i j→Q (.int (g i j) s.toks) { s with toks:=s.toks + 1 }→wpAny (model X.prog X.w) X.A (f (.int i t) (.int j u)) Q E s) :
  OpR X f (rI C fun i j=>.int (g i j)):=by
 intro pins s σ H x y v u Q I rx ry h
 obtain ⟨i,j,rfl,rfl,hc,q⟩:=h
 obtain ⟨t,rfl⟩:=rx
 obtain ⟨t',rfl⟩:=ry
 exact rule i j t t' s _ _ hc ⟨.int (g i j),H,I.tok _,⟨_,rfl⟩,q⟩
theorem opI0 {f:Value→Value→Sem Value} {g:Int→Int→Int}
  (rule:∀(i j:Int) (t u:Tok) (s:Shared) (Q:Value→Shared→Prop) (E:Value→Shared→Prop),Q (.int (g i j) s.toks) { s with toks:=s.toks + 1 }→wpAny (model X.prog X.w) X.A (f (.int i t) (.int j u)) Q E s) :
  OpR X f (rI0 fun i j=>.int (g i j)):=by
 intro pins s σ H x y v u Q I rx ry h
 obtain ⟨i,j,rfl,rfl,q⟩:=h
 obtain ⟨t,rfl⟩:=rx
 obtain ⟨t',rfl⟩:=ry
 exact rule i j t t' s _ _ ⟨.int (g i j),H,I.tok _,⟨_,rfl⟩,q⟩
theorem opB0 {f:Value→Value→Sem Value} {g:Int→Int→Bool}
  (rule:∀(i j:Int) (t u:Tok) (s:Shared) (Q:Value→Shared→Prop) (E:Value→Shared→Prop),Q (.bool (g i j)) s→wpAny (model X.prog X.w) X.A (f (.int i t) (.int j u)) Q E s) :
  OpR X f (rI0 fun i j=>.bl (g i j)):=by
 intro pins s σ H x y v u Q I rx ry h
 obtain ⟨i,j,rfl,rfl,q⟩:=h
 obtain ⟨t,rfl⟩:=rx
 obtain ⟨t',rfl⟩:=ry
 exact rule i j t t' s _ _ ⟨.bl (g i j),H,I,rfl,q⟩
def CDiv (i j:Int):Prop:=0 < j∧j < 1073741824
def CPow (i j:Int):Prop:=0≤j∧j≤1000000∧i.natAbs < 2 ^ 64
def CMul (i j:Int):Prop:=(-(2 ^ 64) < i∧i < 2 ^ 64)∨(-(2 ^ 64) < j∧j < 2 ^ 64)
theorem CMul.ok {i j:Int} (h:CMul i j):IntMulOk i j:=by
 rcases h with ⟨h1,h2⟩ | ⟨h1,h2⟩
 ·exact .of_left (intBits_le_64 h1 h2)
 ·exact .of_right (intBits_le_64 h1 h2)
theorem op_add:OpR X (binaryOp .Add) (rI0 fun i j=>.int (i + j)):=opI0 fun _ _ _ _ _ _ _ q=>add_int q
theorem op_sub:OpR X (binaryOp .Sub) (rI0 fun i j=>.int (i - j)):=opI0 fun _ _ _ _ _ _ _ q=>sub_int q
theorem op_mul:OpR X (binaryOp .Mult) (rI CMul fun i j=>.int (i * j)):=opI fun _ _ _ _ _ _ _ hc q=>mul_int q hc.ok
theorem op_fdiv:OpR X (binaryOp .FloorDiv) (rI CDiv fun i j=>.int (i / j)):=opI fun i j _ _ _ _ _ hc q=>by
 have h1:(0:Int) < j:=hc.1
 have h2:j < 1073741824:=hc.2
 exact floordiv_int (by lia) (by rw [Int.fdiv_eq_ediv_of_nonneg i (by lia)];exact q) (.inl (PyProof.noPylong_small (by lia)))
theorem op_mod:OpR X (binaryOp .Mod) (rI (fun _ j=>0 < j) fun i j=>.int (i % j)):=opI fun i j _ _ _ _ _ hc q=>by
 have h1:(0:Int) < j:=hc
 exact mod_int' (by lia) (by rw [Int.fmod_eq_emod_of_nonneg i (by lia)];exact q)
theorem op_pow:OpR X (binaryOp .Pow) (rI CPow fun i j=>.int (i ^ j.toNat)):=opI fun _ _ _ _ _ _ _ hc q=>pow_int_small hc.1 hc.2.1 hc.2.2 q
theorem iop_add:OpR X (inplaceOp .Add) (rI0 fun i j=>.int (i + j)):=opI0 fun _ _ _ _ _ _ _ q=>iadd_int q
theorem unI {f:Value→Sem Value} {g:Int→Int}
  (rule:∀(i:Int) (t:Tok) (s:Shared) (Q:Value→Shared→Prop) (E:Value→Shared→Prop),Q (.int (g i) s.toks) { s with toks:=s.toks + 1 }→wpAny (model X.prog X.w) X.A (f (.int i t)) Q E s) :
  UnR X f (rU fun i=>.int (g i)):=by
 intro pins s σ H x v Q I rx h
 obtain ⟨i,rfl,q⟩:=h
 obtain ⟨t,rfl⟩:=rx
 exact rule i t s _ _ ⟨.int (g i),H,I.tok _,⟨_,rfl⟩,q⟩
theorem un_neg:UnR X (unaryOp .USub) (rU fun i=>.int (-i)):=unI fun _ _ _ _ _ q=>neg_int q
end
def scal:V→V→Bool
 | .non,.non=>true | .non,.int _=>true | .int _,.non=>true | .non,.bl _=>true | .bl _,.non=>true | .non,.str _=>true | .str _,.non=>true
 | .int _,.int _=>true | .bl _,.bl _=>true | .str _,.str _=>true | .byt _,.byt _=>true
 | .int _,.str _=>true | .str _,.int _=>true | .bl _,.str _=>true | .str _,.bl _=>true
 | _,_=>false
def rEq:R2:=fun x y H Q=>scal x y=true∧Q (.bl (decide (x=y))) H
def rNe:R2:=fun x y H Q=>scal x y=true∧Q (.bl (!decide (x=y))) H
theorem dec_int {i j:Int}:decide (V.int i=V.int j)=(i == j):=by
 rw [Bool.eq_iff_iff]
 simp
theorem dec_bl {i j:Bool}:decide (V.bl i=V.bl j)=(i == j):=by
 rw [Bool.eq_iff_iff]
 simp
theorem dec_str {i j:Str}:decide (V.str i=V.str j)=(i == j):=by
 rw [Bool.eq_iff_iff]
 simp
theorem dec_byt {i j:Array UInt8}:decide (V.byt i=V.byt j)=(i.toList == j.toList):=by
 rw [Bool.eq_iff_iff]
 cases i
 cases j
 simp
section
variable {X:Cx} {a b c:Expr} {ta tb tc:TE} {pos:Pos}
theorem fin_bl {pins:List (Addr×Obj)} {σ:St} {H:Hp} {s:Shared} {Q:VK} {k k':Bool} (I:Inv X pins σ H s) (q:Q (.bl k) H) (e:k=k'):EP X pins σ Q (.bool k') s:=by
 subst e
 exact ⟨.bl k,H,I,rfl,q⟩
theorem op_eq:OpR X (compareOp .Eq) rEq:=by
 intro pins s σ H x y v u Q I rx ry h
 obtain ⟨hs,q⟩:=h
 cases x with
 | non =>
  cases rx
  cases y with
  | non=>cases ry;exact PySem.EqNone.eq_none_none (fin_bl I q (by simp))
  | bl j=>cases ry;exact PySem.EqNone.eq_none_bool (fin_bl I q (by simp))
  | int j=>obtain ⟨t',rfl⟩:=ry;exact PySem.EqNone.eq_none_int (fin_bl I q (by simp))
  | str j=>obtain ⟨t',rfl⟩:=ry;exact PySem.EqNone.eq_none_str (fin_bl I q (by simp))
  | _=>exact absurd (show false=true from hs) Bool.false_ne_true
 | bl i =>
  cases rx
  cases y with
  | non=>cases ry;exact PySem.EqNone.eq_bool_none (fin_bl I q (by simp))
  | bl j=>cases ry;exact eq_bool (fin_bl I q dec_bl)
  | str j=>obtain ⟨t',rfl⟩:=ry;exact PySem.EqMixed.eq_bool_str (fin_bl I q (by simp))
  | _=>exact absurd (show false=true from hs) Bool.false_ne_true
 | int i =>
  obtain ⟨t,rfl⟩:=rx
  cases y with
  | non=>cases ry;exact PySem.EqNone.eq_int_none (fin_bl I q (by simp))
  | int j=>obtain ⟨t',rfl⟩:=ry;exact eq_int (fin_bl I q dec_int)
  | str j=>obtain ⟨t',rfl⟩:=ry;exact PySem.EqMixed.eq_int_str (fin_bl I q (by simp))
  | _=>exact absurd (show false=true from hs) Bool.false_ne_true
 | str i =>
  obtain ⟨t,rfl⟩:=rx
  cases y with
  | non=>cases ry;exact PySem.EqNone.eq_str_none (fin_bl I q (by simp))
  | bl j=>cases ry;exact PySem.EqMixed.eq_str_bool (fin_bl I q (by simp))
  | int j=>obtain ⟨t',rfl⟩:=ry;exact PySem.EqMixed.eq_str_int (fin_bl I q (by simp))
  | str j=>obtain ⟨t',rfl⟩:=ry;exact eq_str (fin_bl I q dec_str)
  | _=>exact absurd (show false=true from hs) Bool.false_ne_true
 | byt i =>
  obtain ⟨t,rfl⟩:=rx
  cases y with
  | byt j=>obtain ⟨t',rfl⟩:=ry;exact W.eq_bytes (fin_bl I q dec_byt)
  | _=>exact absurd (show false=true from hs) Bool.false_ne_true
 | _=>cases y <;> exact absurd (show false=true from hs) Bool.false_ne_true
theorem op_ne:OpR X (compareOp .NotEq) rNe:=by
 intro pins s σ H x y v u Q I rx ry h
 obtain ⟨hs,q⟩:=h
 cases x with
 | non =>
  cases rx
  cases y with
  | non=>cases ry;exact PySem.EqNone.ne_none_none (fin_bl I q (by simp))
  | bl j=>cases ry;exact PySem.EqNone.ne_none_bool (fin_bl I q (by simp))
  | int j=>obtain ⟨t',rfl⟩:=ry;exact PySem.EqNone.ne_none_int (fin_bl I q (by simp))
  | str j=>obtain ⟨t',rfl⟩:=ry;exact PySem.EqNone.ne_none_str (fin_bl I q (by simp))
  | _=>exact absurd (show false=true from hs) Bool.false_ne_true
 | bl i =>
  cases rx
  cases y with
  | non=>cases ry;exact PySem.EqNone.ne_bool_none (fin_bl I q (by simp))
  | bl j=>cases ry;exact ne_bool (fin_bl I q (congrArg not dec_bl))
  | str j=>obtain ⟨t',rfl⟩:=ry;exact PySem.EqMixed.ne_bool_str (fin_bl I q (by simp))
  | _=>exact absurd (show false=true from hs) Bool.false_ne_true
 | int i =>
  obtain ⟨t,rfl⟩:=rx
  cases y with
  | non=>cases ry;exact PySem.EqNone.ne_int_none (fin_bl I q (by simp))
  | int j=>obtain ⟨t',rfl⟩:=ry;exact ne_int (fin_bl I q (congrArg not dec_int))
  | str j=>obtain ⟨t',rfl⟩:=ry;exact PySem.EqMixed.ne_int_str (fin_bl I q (by simp))
  | _=>exact absurd (show false=true from hs) Bool.false_ne_true
 | str i =>
  obtain ⟨t,rfl⟩:=rx
  cases y with
  | non=>cases ry;exact PySem.EqNone.ne_str_none (fin_bl I q (by simp))
  | bl j=>cases ry;exact PySem.EqMixed.ne_str_bool (fin_bl I q (by simp))
  | int j=>obtain ⟨t',rfl⟩:=ry;exact PySem.EqMixed.ne_str_int (fin_bl I q (by simp))
  | str j=>obtain ⟨t',rfl⟩:=ry;exact ne_str (fin_bl I q (congrArg not dec_str))
  | _=>exact absurd (show false=true from hs) Bool.false_ne_true
 | byt i =>
  obtain ⟨t,rfl⟩:=rx
  cases y with
  | byt j=>obtain ⟨t',rfl⟩:=ry;exact W.ne_bytes (fin_bl I q (congrArg not dec_byt))
  | _=>exact absurd (show false=true from hs) Bool.false_ne_true
 | _=>cases y <;> exact absurd (show false=true from hs) Bool.false_ne_true
theorem op_lt:OpR X (compareOp .Lt) (rI0 fun i j=>.bl (decide (i < j))):=opB0 fun _ _ _ _ _ _ _ q=>lt_int q
theorem op_le:OpR X (compareOp .LtE) (rI0 fun i j=>.bl (decide (i≤j))):=opB0 fun _ _ _ _ _ _ _ q=>le_int q
theorem op_gt:OpR X (compareOp .Gt) (rI0 fun i j=>.bl (decide (j < i))):=opB0 fun _ _ _ _ _ _ _ q=>gt_int q
theorem op_ge:OpR X (compareOp .GtE) (rI0 fun i j=>.bl (decide (j≤i))):=opB0 fun _ _ _ _ _ _ _ q=>ge_int q
theorem op_isN:OpR X (compareOp .Is) (fun x y H Q=>y=.non∧Q (.bl (decide (x=.non))) H):=by
 intro pins s σ H x y v u Q I rx ry h
 obtain ⟨rfl,q⟩:=h
 cases ry
 refine is_none_gen (fin_bl I q ?_)
 cases x <;> first
  | (cases rx;rfl)
  | (obtain ⟨t,rfl⟩:=rx;rfl)
theorem op_notN:OpR X (compareOp .IsNot) (fun x y H Q=>y=.non∧Q (.bl (!decide (x=.non))) H):=by
 intro pins s σ H x y v u Q I rx ry h
 obtain ⟨rfl,q⟩:=h
 cases ry
 refine isnot_none_gen (fin_bl I q ?_)
 cases x <;> first
  | (cases rx;rfl)
  | (obtain ⟨t,rfl⟩:=rx;rfl)
theorem OpR.or {f:Value→Value→Sem Value} {r r':R2} (h:OpR X f r) (h':OpR X f r'):OpR X f (fun x y H Q=>r x y H Q∨r' x y H Q):=by
 intro pins s σ H x y v u Q I rx ry q
 rcases q with q | q
 ·exact h pins s σ H x y v u Q I rx ry q
 ·exact h' pins s σ H x y v u Q I rx ry q
theorem nomark (b:Expr) {op:CmpOp} (h:op≠.In:=by decide) (h2:op≠.NotIn:=by decide):behindInMarks op b=false:=by
 have e1:(op == CmpOp.In)=false:=by cases op <;> first | rfl | exact absurd rfl h
 have e2:(op == CmpOp.NotIn)=false:=by cases op <;> first | rfl | exact absurd rfl h2
 cases b <;> simp [behindInMarks,e1,e2]
theorem pe_cmpR {op:CmpOp} {r:R2} (ho:OpR X (compareOp op) r) (ha:PE X a ta) (hb:PE X b tb) (hm:behindInMarks op b=false):PE X (.Compare a [op] [b] pos) (tOp r ta tb):=by
 intro pins s σ H Q I h
 exact wpAny_Compare1 (binT ha hb I h fun v u s2 x y H2 I2 rx ry q=>ho pins s2 σ H2 x y v u Q I2 rx ry q) hm
def tTest (t:TE):TT:=fun σ H Q=>t σ H fun x H'=>∃k,x=.bl k∧Q k H'
theorem pt_cmpR {op:CmpOp} {r:R2} (ho:OpR X (compareOp op) r) (ha:PE X a ta) (hb:PE X b tb) (hm:behindInMarks op b=false):PT X (.Compare a [op] [b] pos) (tTest (tOp r ta tb)):=by
 intro pins s σ H Q I h
 refine wpAny_isTrue_Compare1 (thn (ha pins s σ H _ I h) fun v s1 ⟨x,H1,I1,r1,q1⟩=>thn (hb pins s1 σ H1 _ I1 q1) fun u s2 ⟨y,H2,I2,r2,q2⟩ =>
  thn (ho pins s2 σ H2 x y v u _ I2 r1 r2 q2) fun c s3 ⟨z,H3,I3,r3,k,e,q3⟩=>?_) hm
 subst e
 cases r3
 exact wpAny_truthy_bool ⟨H3,I3,q3⟩
def tChain (r r':R2) (ta tb tc:TE):TE:=fun σ H Q=>ta σ H fun x H1=>tb σ H1 fun y H2=>r x y H2 fun z H3=>∃k,z=.bl k ∧
 (if k=true then tc σ H3 fun w' H4=>r' y w' H4 Q else Q (.bl false) H3)
theorem pe_chain {op op':CmpOp} {r r':R2} (ho:OpR X (compareOp op) r) (ho':OpR X (compareOp op') r') (ha:PE X a ta) (hb:PE X b tb) (hc:PE X c tc)
  (hm:lastMarks [op,op'] [b,c]=false:=by with_unfolding_all rfl):PE X (.Compare a [op,op'] [b,c] pos) (tChain r r' ta tb tc):=by
 intro pins s σ H Q I h
 refine Compare_chain (thn (ha pins s σ H _ I h) fun v s1 ⟨x,H1,I1,r1,q1⟩=>chain_link (thn (hb pins s1 σ H1 _ I1 q1) fun u s2 ⟨y,H2,I2,r2,q2⟩ =>
  thn (ho pins s2 σ H2 x y v u _ I2 r1 r2 q2) fun d s3 ⟨z,H3,I3,r3,k,e,q3⟩=>?_)) hm
 subst e
 cases r3
 refine wpAny_truthy_bool ?_
 cases k with
 | false=>exact ite_ff ⟨.bl false,H3,I3,rfl,q3⟩
 | true=>exact ite_tt (chain_last (thn (hc pins s3 σ H3 _ I3 q3) fun w' s4 ⟨z',H4,I4,r4,q4⟩=>ho' pins s4 σ H4 y z' u w' Q I4 r2 r4 q4))
theorem pt_chain {op op':CmpOp} {r r':R2} (ho:OpR X (compareOp op) r) (ho':OpR X (compareOp op') r') (ha:PE X a ta) (hb:PE X b tb) (hc:PE X c tc)
  (hm:lastMarks [op,op'] [b,c]=false:=by with_unfolding_all rfl):PT X (.Compare a [op,op'] [b,c] pos) (tTest (tChain r r' ta tb tc)):=by
 intro pins s σ H Q I h
 refine isTrue_chain (thn (ha pins s σ H _ I h) fun v s1 ⟨x,H1,I1,r1,q1⟩=>test_link (thn (hb pins s1 σ H1 _ I1 q1) fun u s2 ⟨y,H2,I2,r2,q2⟩ =>
  thn (ho pins s2 σ H2 x y v u _ I2 r1 r2 q2) fun d s3 ⟨z,H3,I3,r3,k,e,q3⟩=>?_)) hm
 subst e
 cases r3
 refine wpAny_truthy_bool ?_
 cases k with
 | false =>
  obtain ⟨k',e',q'⟩:=q3
  cases e'
  exact ite_ff ⟨H3,I3,q'⟩
 | true =>
  refine ite_tt (test_last (thn (hc pins s3 σ H3 _ I3 q3) fun w' s4 ⟨z',H4,I4,r4,q4⟩=>thn (ho' pins s4 σ H4 y z' u w' _ I4 r2 r4 q4) fun d' s5 ⟨z2,H5,I5,r5,k2,e2,q5⟩=>?_))
  subst e2
  cases r5
  exact wpAny_truthy_bool ⟨H5,I5,q5⟩
theorem line63:(sizeLine:Nat) < 2 ^ 63:=by rw [sizeLine_eq];decide
theorem op_add_str:OpR X (binaryOp .Add) (fun x y H Q=>∃i j,x=.str i∧y=.str j∧i.length + j.length≤sizeLine∧Q (.str (i++j)) H):=by
 intro pins s σ H x y v u Q I rx ry h
 obtain ⟨i,j,rfl,rfl,hz,q⟩:=h
 obtain ⟨t,rfl⟩:=rx
 obtain ⟨t',rfl⟩:=ry
 exact add_str (fun t' tk=>⟨.str (i++j),H,I.tok _,⟨_,rfl⟩,q⟩) hz
theorem vals1 {x:V} {us:List Value} (r:Vals [x] us):∃u,us=[u]∧RelV x u:=by
 cases r with
 | cons r1 r2=>cases r2;exact ⟨_,rfl,r1⟩
theorem vals2 {x y:V} {us:List Value} (r:Vals [x,y] us):∃u w',us=[u,w']∧RelV x u∧RelV y w':=by
 cases r with
 | cons r1 r2 =>
  cases r2 with
  | cons r3 r4=>cases r4;exact ⟨_,_,rfl,r1,r3⟩
theorem call_max2 (hc:X.calm=true):CallR X (.builtin "max") (fun xs H Q=>∃i j,xs=[.int i,.int j]∧Q (.int (if j > i then j else i)) H):=by
 intro pins s σ H xs us Q I r h
 obtain ⟨i,j,rfl,q⟩:=h
 obtain ⟨u,w',rfl,⟨t,rfl⟩,⟨t',rfl⟩⟩:=vals2 r
 refine max_two_ints (I.ok.hd hc) fun h' tk k=>⟨_,H,I.kept k,?_,q⟩
 by_cases hj:j > i
 ·rw [if_pos hj,if_pos hj];exact ⟨_,rfl⟩
 ·rw [if_neg hj,if_neg hj];exact ⟨_,rfl⟩
theorem call_min2 (hc:X.calm=true):CallR X (.builtin "min") (fun xs H Q=>∃i j,xs=[.int i,.int j]∧Q (.int (if j < i then j else i)) H):=by
 intro pins s σ H xs us Q I r h
 obtain ⟨i,j,rfl,q⟩:=h
 obtain ⟨u,w',rfl,⟨t,rfl⟩,⟨t',rfl⟩⟩:=vals2 r
 refine min_two_ints (I.ok.hd hc) fun h' tk k=>⟨_,H,I.kept k,?_,q⟩
 by_cases hj:j < i
 ·rw [if_pos hj,if_pos hj];exact ⟨_,rfl⟩
 ·rw [if_neg hj,if_neg hj];exact ⟨_,rfl⟩
theorem call_int1:CallR X (.type "int") (fun xs H Q=>(∃i,xs=[.int i]∧Q (.int i) H)∨∃k,xs=[.bl k]∧Q (.int (if k then 1 else 0)) H):=by
 intro pins s σ H xs us Q I r h
 rcases h with ⟨i,rfl,q⟩ | ⟨k,rfl,q⟩
 ·obtain ⟨u,rfl,t,rfl⟩:=vals1 r
  exact call_int_int ⟨.int i,H,I,⟨_,rfl⟩,q⟩
 ·obtain ⟨u,rfl,r1⟩:=vals1 r
  cases r1
  exact call_int_bool ⟨.int (if k then 1 else 0),H,I.tok _,⟨_,rfl⟩,q⟩
def LenV (K:W.Frag) (x:V) (H:Hp) (n:Nat):Prop :=
 match x with
 | .str y=>y.length≤sizeLine∧n=y.length
 | .byt y=>y.size≤sizeLine∧n=y.size
 | .ref p=>(∃xs,SqL K H p xs∧n=xs.length)∨∃xs,SqT K H p xs∧n=xs.length
 | _=>False
theorem call_len:CallR X (.builtin "len") (fun xs H Q=>∃x n,xs=[x]∧LenV X.K x H n∧Q (.int n) H):=by
 intro pins s σ H xs us Q I r h
 obtain ⟨x,n,rfl,e,q⟩:=h
 obtain ⟨u,rfl,rx⟩:=vals1 r
 have hl:=line63
 have hs:sizeLine=16777216:=sizeLine_eq
 cases x with
 | str y =>
  obtain ⟨t,rfl⟩:=rx
  obtain ⟨hy,e'⟩:y.length≤sizeLine∧n=y.length:=e
  subst e'
  exact len_str (by lia) ⟨.int _,H,I.tok _,⟨_,rfl⟩,q⟩
 | byt y =>
  obtain ⟨t,rfl⟩:=rx
  obtain ⟨hy,e'⟩:y.size≤sizeLine∧n=y.size:=e
  subst e'
  exact W.len_bytes (by lia) ⟨.int _,H,I.tok _,⟨_,rfl⟩,q⟩
 | ref p =>
  cases rx
  have e':(∃xs,SqL X.K H p xs∧n=xs.length)∨∃xs,SqT X.K H p xs∧n=xs.length:=e
  rcases e' with ⟨xs,hx,e'⟩ | ⟨xs,hx,e'⟩
  ·subst e'
   obtain ⟨its,r',pl,hz⟩:=I.list hx
   have hlen:=r'.length
   exact Calls.call_len_list pl.isList (by simp only [List.size_toArray];lia) ⟨.int xs.length,H,I.tok _,⟨_,by simp only [List.size_toArray];rw [hlen]⟩,q⟩
  ·subst e'
   obtain ⟨its,r',pl,hz⟩:=I.tuple hx
   have hlen:=r'.length
   exact len_tuple pl (by simp only [List.size_toArray];lia) ⟨.int xs.length,H,I.tok _,⟨_,by simp only [List.size_toArray];rw [hlen]⟩,q⟩
 | _=>exact (show False from e).elim
end
structure ObjM (h:Heap) (x dx C:Addr) (mA:Str→Option Value):Prop where
 obj:h.get? x=some (W.instObj C dx)
 ns:h.Ns1 dx mA
 ne:dx≠x
theorem lookIn_ns {h:Heap} {dx:Addr} {mA:Str→Option Value} (n:h.Ns1 dx mA):∃od,h.get? dx=some od∧∀name,W.lookIn name od=some (mA name):=by
 obtain ⟨o,es,ep,ho,hd,hk,_,hm⟩:=n
 refine ⟨o,ho,fun name=>?_⟩
 have e:=hm name
 unfold nsFind findBy at e
 rw [← Array.find?_toList] at e
 unfold W.lookIn
 rw [hd]
 dsimp only
 split
 ·rename_i y q
  rw [q] at e
  exact congrArg some e
 ·rename_i q
  rw [q] at e
  have a:es.toList.any (·.refKey)=false:=by
   rw [List.any_eq_false]
   intro y hy
   obtain ⟨z,t,hkey⟩:=hk y (Array.mem_toList_iff.mp hy)
   simp [DictEntry.refKey,hkey]
  have a':¬ es.toList.any (·.refKey)=true:=by rw [a];exact Bool.false_ne_true
  rw [if_neg a']
  exact congrArg some e
theorem ObjM.look {h:Heap} {x dx C:Addr} {mA:Str→Option Value} (I:ObjM h x dx C mA):∃od,W.InstAt h x (W.instObj C dx) C (some od)∧∀name,W.lookIn name od=some (mA name) :=
 let ⟨od,ho,hl⟩:=lookIn_ns I.ns
 ⟨od,⟨I.obj,rfl,rfl,ho⟩,hl⟩
section
variable {prog:Program} {w:World} {A:Around} {E:Value→Shared→Prop} {s:Shared} {K:W.Frag} {x dx C f:Addr} {mA:Str→Option Value} {name:Str} {v:Value}
theorem get_map {expr:Bool} {Q:Value→Shared→Prop} (X:K.In s.heap) (I:ObjM s.heap x dx C mA) (hg:W.plainGet K C name=true) (hh:W.hasDictIn K C=true)
  (ha:W.findIn K (.ref C) name=some none) (hv:mA name=some v) (hv':W.handedIn v=true) (h:Q v { s with toks:=s.toks + 1 }) :
  wpAny (model prog w) A (getAttr (.ref x) name expr) Q E s:=by
 obtain ⟨od,J,hl⟩:=I.look
 exact W.get_value X J (W.plainGet_of hg).1 (W.findObj_own hh ha rfl (by rw [hl,hv])) hv' h
theorem get_meth {pl:Sem Bool} {Q:Value×List Value→Shared→Prop} (X:K.In s.heap) (I:ObjM s.heap x dx C mA) (hg:W.plainGet K C name=true)
  (hf:W.findIn K (.ref C) name=some (some (.ref f))) (ht:W.isFn K (.ref f)=true) (hv:mA name=none) (h:Q (.ref f,[.ref x]) s) :
  wpAny (model prog w) A (getMethod (.ref x) name pl) Q E s:=by
 obtain ⟨od,J,hl⟩:=I.look
 exact W.method_fn X J (W.plainGet_of hg).1 (W.plainGet_of hg).2 hf (beq_iff_eq.mp ht) (by show (W.lookIn name od).map (·.isSome)=some false;rw [hl,hv];rfl) h
theorem set_map {ns:List Str} {Q:Unit→Shared→Prop} (X:K.In s.heap) (I:ObjM s.heap x dx C mA)
  (hs:W.findIn K (.ref C) "__setattr__" = some (some (.builtin "object.__setattr__"))) (hp:W.plainOver K C=true) (ht:W.takerIn K C name=some none) (hh:W.hasDictIn K C=true)
  (hw:PySem.Within mA ns) (hsz:ns.length≤sizeLine)
  (h:∀h',ObjM h' x dx C (fun y=>if y=name then some v else mA y)→Heap.SameBut dx s.heap h'→Q () { s with heap:=h',toks:=s.toks + 2 }) :
  wpAny (model prog w) A (setAttr (.ref x) name v) Q E s:=by
 obtain ⟨od,J,hl⟩:=I.look
 refine W.set_plain X J hs (W.osa_open (s:={ s with toks:=s.toks + 1 }) (r:=none) X J hp ht fun b=>?_)
 obtain ⟨cd,hc,hd'⟩:=W.any_some hh
 have hx:s.heap.get? x=some ⟨.ref C,some dx,.plain,#[]⟩:=I.obj
 refine wpAny_bind (wpAny_pure (wpAny_bind (wpAny_bind (wpAny_loadPart hx (wpAny_bind (W.Looks.here (s:={ s with toks:=s.toks + 1 }) (W.looks_clsIn X hc) ?_))))))
 rw [hd']
 refine wpAny_pure (a:=some dx) (wpAny_bind (wpAny_pure (wpAny_bind ?_)))
 refine wpAny_nsSet1 (s:={ s with toks:=s.toks + 1 }) I.ns fun h' hn2 hs2=>?_
 obtain ⟨oD,esD,epD,hoD,hdD,hcD⟩:=hn2.count (PySem.Within.cons name v hw)
 refine wpAny_bind (wpAny_lookBehind hoD (by rw [hdD];exact pastItsLine_dict (Nat.le_trans hcD (by rw [List.length_cons];lia))) ?_)
 exact wpAny_pure (h _ ⟨(hs2.2 _ (Ne.symm I.ne)).trans I.obj,hn2,I.ne⟩ hs2)
theorem make_map {R:Result→Shared→Prop} {vs:List Value} {kw:List (Str×Value)} (X:K.In s.heap) (hm:W.makesIn K C=true)
  (hi:W.findIn K (.ref C) "__init__" = some (some (.ref f))) (hf:W.typeIn K (.ref f)=some (.type "function"))
  (h:codeAny (model prog w) (A.under (.builtin "type.__call__" ⟨.ref C::vs,kw⟩)) (.call (.ref f) ⟨.ref (s.heap.objs.size + 1)::vs,kw⟩) (W.InitBack (s.heap.objs.size + 1) R)
   { s with heap:=(s.heap.push W.emptyDict).push (W.instObj C s.heap.objs.size) }) :
  codeAny (model prog w) A (.call (.ref C) ⟨vs,kw⟩) R s:=by
 obtain ⟨hh,g,d,t,os⟩:=s
 exact W.make_core (W.makes_of X hm) (W.looks_findIn X hi) (fun self=>W.bind_fn X self hf) (.inl rfl) h
end
def putF (f:Str) (v:V):List (Str×V)→List (Str×V)
 | []=>[(f,v)]
 | (g,x)::r=>if g=f then (g,v)::r else (g,x)::putF f v r
theorem lookup_putF (f g:Str) (v:V):∀fs:List (Str×V),(putF f v fs).lookup g=if g=f then some v else fs.lookup g
 | []=>by
  show List.lookup g [(f,v)]=_
  by_cases h:g=f
  ·have hb:(g == f)=true:=beq_iff_eq.mpr h
   simp only [List.lookup,hb,if_pos h]
  ·have hb:(g == f)=false:=beq_eq_false_iff_ne.mpr h
   simp only [List.lookup,hb,if_neg h]
 | (k,x)::r=>by
  have ih:=lookup_putF f g v r
  rw [show putF f v ((k,x)::r)=(if k=f then (k,v)::r else (k,x)::putF f v r) from rfl]
  by_cases hk:k=f
  ·rw [if_pos hk]
   by_cases h:g=k
   ·have hb:(g == k)=true:=beq_iff_eq.mpr h
    simp only [List.lookup,hb,if_pos (h.trans hk)]
   ·have hb:(g == k)=false:=beq_eq_false_iff_ne.mpr h
    simp only [List.lookup,hb,if_neg (fun e:g=f=>h (e.trans hk.symm))]
  ·rw [if_neg hk]
   by_cases h:g=k
   ·have hb:(g == k)=true:=beq_iff_eq.mpr h
    simp only [List.lookup,hb,if_neg (fun e:g=f=>hk (h.symm.trans e))]
   ·have hb:(g == k)=false:=beq_eq_false_iff_ne.mpr h
    simp only [List.lookup,hb]
    exact ih
theorem keys_putF (f:Str) (v:V):∀fs:List (Str×V),f∈(putF f v fs).map (·.1)∧∀g,g∈fs.map (·.1)→g∈(putF f v fs).map (·.1)
 | []=>⟨by simp [putF],fun g h=>by simp at h⟩
 | (k,x)::r=>by
  obtain ⟨i1,i2⟩:=keys_putF f v r
  rw [show putF f v ((k,x)::r)=(if k=f then (k,v)::r else (k,x)::putF f v r) from rfl]
  by_cases hk:k=f
  ·rw [if_pos hk]
   subst hk
   exact ⟨by simp,fun g h=>by simpa using h⟩
  ·rw [if_neg hk]
   refine ⟨?_,fun g h=>?_⟩
   ·rw [List.map_cons]
    exact List.mem_cons_of_mem _ i1
   ·rw [List.map_cons] at h ⊢
    rcases List.mem_cons.mp h with e | e
    ·exact List.mem_cons.mpr (.inl e)
    ·exact List.mem_cons_of_mem _ (i2 g e)
theorem length_putF (f:Str) (v:V):∀fs:List (Str×V),(putF f v fs).length≤fs.length + 1
 | []=>by simp [putF]
 | (k,x)::r=>by
  have ih:=length_putF f v r
  rw [show putF f v ((k,x)::r)=(if k=f then (k,v)::r else (k,x)::putF f v r) from rfl]
  by_cases hk:k=f
  ·rw [if_pos hk,List.length_cons,List.length_cons];lia
  ·rw [if_neg hk,List.length_cons,List.length_cons];lia
theorem RelO.some_of {v:V} {o:Option Value} (r:RelO (some v) o):∃u,o=some u∧RelV v u:=by
 cases o with
 | none=>exact (show False from r).elim
 | some u=>exact ⟨u,rfl,r⟩
theorem RelO.none_of {o:Option Value} (r:RelO none o):o=none:=by
 cases o with
 | none=>rfl
 | some u=>exact (show False from r).elim
theorem handed_of {v:V} {u:Value} (r:RelV v u):W.handedIn u=true:=by
 cases v with
 | non=>cases (show u=Value.none from r);rfl
 | bl b=>cases (show u=Value.bool b from r);rfl
 | int i=>obtain ⟨t,e⟩:=(show ∃t,u=Value.int i t from r);cases e;rfl
 | str x=>obtain ⟨t,e⟩:=(show ∃t,u=Value.str x t from r);cases e;rfl
 | byt b=>obtain ⟨t,e⟩:=(show ∃t,u=Value.bytes b t from r);cases e;rfl
 | flt b=>obtain ⟨t,e⟩:=(show ∃t,u=Value.float b t from r);cases e;rfl
 | ref a=>cases (show u=Value.ref a from r);rfl
 | ty n=>cases (show u=Value.type n from r);rfl
section
variable {P:Program} {w:World} {H H':Hp} {h h':Heap} {a C dx:Addr} {fs fs':List (Str×V)}
theorem ins_get (hok:HOk P w H h) (e:H a=some (.ins C dx fs)):∃mA,ObjM h a dx C mA∧(∀f,RelO (fs.lookup f) (mA f))∧PySem.Within mA (fs.map (·.1))∧fs.length≤1000∧H dx=some (.own a):=by
 obtain ⟨d,z,ne,ob,mA,n,r,q⟩:=(show ObjOk P w H h a (.ins C dx fs) from hok a _ e)
 exact ⟨mA,⟨ob,n,ne⟩,r,q,z,d⟩
end
structure Cls (K:W.Frag) (C:Addr):Prop where
 pg:W.plainGet K C Str.empty=true
 hd:W.hasDictIn K C=true
 po:W.plainOver K C=true
 sa:W.findIn K (.ref C) "__setattr__" = some (some (.builtin "object.__setattr__"))
theorem Cls.get {K:W.Frag} {C:Addr} (c:Cls K C) (f:Str):W.plainGet K C f=true:=c.pg
def NoAttr (K:W.Frag) (C:Addr) (f:Str):Prop:=W.findIn K (.ref C) f=some none
theorem NoAttr.taker {K:W.Frag} {C:Addr} {f:Str} (n:NoAttr K C f):W.takerIn K C f=some none:=by
 unfold W.takerIn
 rw [show W.findIn K (.ref C) f=some none from n]
 rfl
structure Meth (K:W.Frag) (C:Addr) (m:Str) (f:Addr):Prop where
 at_:W.findIn K (.ref C) m=some (some (.ref f))
 fn:W.isFn K (.ref f)=true
 kp:W.keepIn K (.ref f)=true
section
variable {X:Cx} {pins:List (Addr×Obj)} {σ:St} {H:Hp} {s:Shared} {a C dx:Addr} {fs:List (Str×V)} {f:Str} {v:V} {A:Around} {E:Value→Shared→Prop}
theorem getattr_ok {b:Bool} {Q:Value→Shared→Prop} (I:Inv X pins σ H s) (e:H a=some (.ins C dx fs)) (c:Cls X.K C) (n:NoAttr X.K C f) (l:fs.lookup f=some v)
  (h:∀u s',Inv X pins σ H s'→RelV v u→Q u s'):wpAny (model X.prog X.w) A (getAttr (.ref a) f b) Q E s:=by
 obtain ⟨mA,O,r,_,_,_⟩:=ins_get I.hok e
 obtain ⟨u,hu,ru⟩:=RelO.some_of (v:=v) (o:=mA f) (by rw [← l];exact r f)
 exact get_map I.kIn O (c.get f) c.hd n hu (handed_of ru) (h u _ (I.tok _) ru)
theorem getmeth_ok {m:Str} {g:Addr} {pl:Sem Bool} {Q:Value×List Value→Shared→Prop} (I:Inv X pins σ H s) (e:H a=some (.ins C dx fs)) (c:Cls X.K C) (k:Meth X.K C m g) (l:fs.lookup m=none)
  (h:Q (.ref g,[.ref a]) s):wpAny (model X.prog X.w) A (getMethod (.ref a) m pl) Q E s:=by
 obtain ⟨mA,O,r,_,_,_⟩:=ins_get I.hok e
 have hn:mA m=none:=RelO.none_of (by rw [← l];exact r m)
 exact get_meth I.kIn O (c.get m) k.at_ k.fn hn h
theorem setattr_ok {y:V} {u:Value} {Q:Unit→Shared→Prop} (I:Inv X pins σ H s) (e:H a=some (.ins C dx fs)) (c:Cls X.K C) (n:NoAttr X.K C f) (hl:fs.length < 1000) (ry:RelV y u)
  (h:∀s',Inv X pins σ (upd H a (.ins C dx (putF f y fs))) s'→Q () s'):wpAny (model X.prog X.w) A (setAttr (.ref a) f u) Q E s:=by
 obtain ⟨mA,O,r,wi,_,ho⟩:=ins_get I.hok e
 have hz:(fs.map (·.1)).length≤sizeLine:=by rw [List.length_map,sizeLine_eq];lia
 refine set_map I.kIn O c.sa c.po n.taker c.hd wi hz fun h' O' sb=>h _ ?_
 have hd:∃o,h'.get? dx=some o:=let ⟨o,_,_,e',_⟩:=O'.ns;⟨o,e'⟩
 refine I.write (x:=a) (e:=dx) (by rw [e];exact True.intro) (.inr ho) (fun b q hb z=>(sb.2 b hb).trans z) hd ?_
 refine ⟨by rw [upd_ne O.ne];exact ho,?_,O.ne,O'.obj,_,O'.ns,fun g=>?_,fun g hg=>?_⟩
 ·have:=length_putF f y fs;lia
 ·show RelO ((putF f y fs).lookup g) (if g=f then some u else mA g)
  rw [lookup_putF]
  by_cases q:g=f
  ·rw [if_pos q,if_pos q];exact ry
  ·rw [if_neg q,if_neg q];exact r g
 ·by_cases q:g=f
  ·rw [q];exact (keys_putF f y fs).1
  ·refine (keys_putF f y fs).2 g (wi g fun z=>hg ?_)
   show (if g=f then some u else mA g)=none
   rw [if_neg q];exact z
theorem Inv.made (I:Inv X pins σ H s):Inv X pins σ (upd (upd H s.heap.objs.size (.own (s.heap.objs.size + 1))) (s.heap.objs.size + 1) (.ins C s.heap.objs.size []))
  { s with heap:=(s.heap.push W.emptyDict).push (W.instObj C s.heap.objs.size) }:=by
 have e1:(s.heap.push W.emptyDict).get? s.heap.objs.size=some W.emptyDict:=Heap.get?_push_size s.heap rfl
 have e2:((s.heap.push W.emptyDict).push (W.instObj C s.heap.objs.size)).get? (s.heap.objs.size + 1)=some (W.instObj C s.heap.objs.size):=by
  have:=Heap.get?_push_size (s.heap.push W.emptyDict) (o:=W.instObj C s.heap.objs.size) rfl
  rwa [Heap.size_push] at this
 have e3:(s.heap.push W.emptyDict).Ns s.heap.objs.size (fun _=>none):=⟨W.emptyDict,#[],_,e1,rfl,(fun e he=>absurd he (by simp)),fun _=>rfl⟩
 have I1:=I.laid (a:=s.heap.objs.size) (o:=.own (s.heap.objs.size + 1)) (h':=s.heap.push W.emptyDict) (t':=s.toks) (fun b u q=>Heap.get?_push_of_some _ q) (Nat.le_refl _) ⟨_,e1⟩
 refine I1.laid (a:=s.heap.objs.size + 1) (o:=.ins C s.heap.objs.size []) (t':=s.toks) (fun b u q=>Heap.get?_push_of_some _ q) (Nat.le_of_eq (Heap.size_push _ _)) ?_
 have ne:s.heap.objs.size≠s.heap.objs.size + 1:=Nat.ne_of_lt (Nat.lt_succ_self _)
 refine ⟨by rw [upd_ne ne,upd_same],Nat.zero_le _,ne,e2,fun _=>none,(Heap.Ns1.of_empty e3).at fun o q=>Heap.get?_push_of_some _ q,fun _=>True.intro,fun y hy=>absurd rfl hy⟩
theorem attr_of {prog:Program} {w:World} {env:Env} {e:Expr} {f:Str} {pos:Pos} {s:Shared} {Q:Value→Shared→Prop} (hb:attributeBase e f env (eval e env)=eval e env)
  (h:wpAny (model prog w) A (eval e env) (fun o s₁=>wpAny (model prog w) A (getAttr o f true) Q E s₁) E s):wpAny (model prog w) A (eval (.Attribute e f pos) env) Q E s :=
 Attribute_any_ h (by rw [arm_eval_Attribute,hb])
end
def tFld (K:W.Frag) (ta:TE) (f:Str):TE:=fun σ H Q=>ta σ H fun x H1=>∃a C dx fs v,x=.ref a∧H1 a=some (.ins C dx fs)∧Cls K C∧NoAttr K C f∧fs.lookup f=some v∧Q v H1
def sFld (K:W.Frag) (ta tv:TE) (f:Str):TS:=fun D σ H=>tv σ H fun y H1=>ta σ H1 fun x H2=>∃a C dx fs,x=.ref a∧H2 a=some (.ins C dx fs)∧Cls K C∧NoAttr K C f∧fs.length < 1000 ∧
 D.nx σ (upd H2 a (.ins C dx (putF f y fs)))
section
variable {X:Cx} {o e value:Expr} {f:Str} {pos pos' tpos:Pos} {ta tv:TE}
theorem pe_fld (he:PE X e ta) (hb:attributeBase e f X.env (eval e X.env)=eval e X.env):PE X (.Attribute e f pos) (tFld X.K ta f):=by
 intro pins s σ H Q I h
 refine attr_of hb (thn (he pins s σ H _ I h) fun u s1 ⟨x,H1,I1,rx,a,C,dx,fs,v,ex,ea,c,n,l,q⟩=>?_)
 subst ex
 obtain rfl:u=Value.ref a:=rx
 exact getattr_ok I1 ea c n l fun u' s2 I2 ru=>⟨v,H1,I2,ru,q⟩
theorem ps_fld (ha:PE X o ta) (hv:PE X value tv) (hs:swapsWith value (some (.Attribute o f pos')) pos.line X.env=pure false):PS X (.Assign [.Attribute o f pos'] value pos) (sFld X.K ta tv f):=by
 intro pins s σ H D I h
 refine plainObj_wpAny_Assign_Attribute (thn (hv pins s σ H _ I h) fun u s1 ⟨y,H1,I1,ry,q⟩=>thn (ha pins s1 σ H1 _ I1 q) fun ov s2 ⟨x,H2,I2,rx,a,C,dx,fs,ex,ea,c,n,l,q2⟩=>?_) hs
 subst ex
 obtain rfl:ov=Value.ref a:=rx
 exact setattr_ok I2 ea c n l ry fun s3 I3=>⟨σ,_,I3,q2⟩
end
section
variable {X:Cx} {pins:List (Addr×Obj)} {σ:St} {H:Hp} {s:Shared} {A:Around} {E:Value→Shared→Prop} {Q:Value→Shared→Prop} {c:Value} {b:Bool}
inductive TyOf (K:W.Frag) (H:Hp):V→Value→Prop where
 | non:TyOf K H .non (.type "NoneType")
 | bl (x:Bool):TyOf K H (.bl x) (.type "bool")
 | int (i:Int):TyOf K H (.int i) (.type "int")
 | str (x:Str):TyOf K H (.str x) (.type "str")
 | flt (x:UInt64):TyOf K H (.flt x) (.type "float")
 | lst {a:Addr} {xs:List V} (e:H a=some (.lst xs)):TyOf K H (.ref a) (.type "list")
 | frz {a:Addr} {o:Obj} {xs:List V} (e:H a=some (.frz o (.lst xs))):TyOf K H (.ref a) (.type "list")
 | tup {a:Addr} {xs:List V} (e:H a=some (.tup xs)):TyOf K H (.ref a) (.type "tuple")
 | dK {a:Addr} {kvs:List (Key×V)} (e:H a=some (.dK kvs)):TyOf K H (.ref a) (.type "dict")
 | dT {a:Addr} {kvs:List (List Key×V)} (e:H a=some (.dT kvs)):TyOf K H (.ref a) (.type "dict")
 | ins {a C dx:Addr} {fs:List (Str×V)} (e:H a=some (.ins C dx fs)) (cl:Cls K C) (ha:W.findIn K (.ref C) "__class__" = some (some (.builtin "object.__class__")))
   (hn:W.specialIn K (.builtin "object.__class__") "__get__" = some (some (.builtin "getset_descriptor.__get__"))) (htk:W.takesIn K (.builtin "object.__class__")=some true)
   (hm:W.mroIn K C (.type "object")=some true):TyOf K H (.ref a) (.ref C)
theorem isinst_ok {x:V} {u t:Value} (I:Inv X pins σ H s) (rx:RelV x u) (ty:TyOf X.K H x t) (e:W.kitOne X.K t c=some b) (h:∀tk,Q (.bool b) { s with toks:=tk }) :
  wpAny (model X.prog X.w) A (call (.builtin "isinstance") [u,c]) Q E s:=by
 cases ty with
 | non=>cases (show u=Value.none from rx);exact W.kia_one W.kitx_none I.kIn True.intro e (fun z=>nomatch z) h
 | bl y=>cases (show u=Value.bool y from rx);exact W.kia_one W.kitx_bool I.kIn True.intro e (fun z=>nomatch z) h
 | int i=>obtain ⟨t,q⟩:=(show ∃t,u=Value.int i t from rx);cases q;exact W.kia_one W.kitx_int I.kIn True.intro e (fun z=>nomatch z) h
 | str y=>obtain ⟨t,q⟩:=(show ∃t,u=Value.str y t from rx);cases q;exact W.kia_one W.kitx_str I.kIn True.intro e (fun z=>nomatch z) h
 | flt y=>obtain ⟨t,q⟩:=(show ∃t,u=Value.float y t from rx);cases q;exact W.kia_one W.kitx_float I.kIn True.intro e (fun z=>nomatch z) h
 | @lst a xs ea =>
  cases (show u=Value.ref a from rx)
  obtain ⟨_,_,n,_,h1⟩:=(show ObjOk X.prog X.w H s.heap a (.lst xs) from I.hok a _ ea)
  exact W.kia_one W.kitx_list I.kIn ⟨_,h1,rfl⟩ e (fun z=>nomatch z) h
 | @frz a ob xs ea =>
  cases (show u=Value.ref a from rx)
  obtain ⟨_,_,_,n,_,h1⟩:=(show ObjOk X.prog X.w H s.heap a (.frz ob (.lst xs)) from I.hok a _ ea)
  exact W.kia_one W.kitx_list I.kIn ⟨_,h1,rfl⟩ e (fun z=>nomatch z) h
 | @tup a xs ea =>
  cases (show u=Value.ref a from rx)
  obtain ⟨_,_,_,p⟩:=(show ObjOk X.prog X.w H s.heap a (.tup xs) from I.hok a _ ea)
  obtain ⟨o,h1,h2,_⟩:=p
  exact W.kia_one W.kitx_tuple I.kIn ⟨o,h1,h2⟩ e (fun z=>nomatch z) h
 | @dK a kvs ea =>
  cases (show u=Value.ref a from rx)
  obtain ⟨_,_,vs,_,p⟩:=(show ObjOk X.prog X.w H s.heap a (.dK kvs) from I.hok a _ ea)
  obtain ⟨o,es,ep,h1,h2,_⟩:=p
  exact W.kia_one W.kitx_dict I.kIn ⟨o,h1,h2.1⟩ e (fun z=>nomatch z) h
 | @dT a kvs ea =>
  cases (show u=Value.ref a from rx)
  obtain ⟨_,_,xs,_,o,es,ep,h1,h2,_⟩:=(show ObjOk X.prog X.w H s.heap a (.dT kvs) from I.hok a _ ea)
  exact W.kia_one W.kitx_dict I.kIn ⟨o,h1,h2.1⟩ e (fun z=>nomatch z) h
 | @ins a C dx fs ea cl ha hn htk hm =>
  cases (show u=Value.ref a from rx)
  obtain ⟨mA,O,_⟩:=ins_get I.hok ea
  obtain ⟨od,J,_⟩:=O.look
  exact W.kia_one (W.kitx_own (cl.get _) cl.hd ha hn htk hm) I.kIn J e (fun z=>nomatch z) h
end
structure Room (k:Nat) (A:Around):Prop where
 hd:A.handled=none
 dp:A.depth + 3 * k + 5 < recursionLimit
 un:A.units + 16 * k + 200 < cLine
 gd:A.guards=some []
theorem Room.mono {j k:Nat} {A:Around} (r:Room k A) (h:j≤k):Room j A:=⟨r.hd,by have:=r.dp;lia,by have:=r.un;lia,r.gd⟩
theorem Room.deeper {k:Nat} {A:Around} (r:Room (k + 1) A) (env:Env):Room k (A.deeper env) :=
 ⟨r.hd,by have:=r.dp;show A.depth + 1 + 3 * k + 5 < _;lia,by have:=r.un;show A.units + 3 + 16 * k + 200 < _;lia,r.gd⟩
theorem make_depth {A:Around} {C:Addr} {us:List Value} {kw:List (Str×Value)}:(A.under (.builtin "type.__call__" ⟨.ref C::us,kw⟩)).depth=A.depth + 1:=by
 first | rfl | simp [Around.under,Code.weight,Code.isCreation,Code.isGuard,Code.isCaller,Code.frames,Code.isFrame,guardIds]
theorem make_units {A:Around} {C:Addr} {us:List Value} {kw:List (Str×Value)}:(A.under (.builtin "type.__call__" ⟨.ref C::us,kw⟩)).units=A.units + 1:=by
 first | rfl | simp [Around.under,Code.cUnits,Code.frames,Code.isFrame]
theorem Room.make {k:Nat} {A:Around} (r:Room (k + 1) A) (C:Addr) (us:List Value) (kw:List (Str×Value)):Room k (A.under (.builtin "type.__call__" ⟨.ref C::us,kw⟩)) :=
 ⟨r.hd,by have:=r.dp;rw [make_depth];lia,by have:=r.un;rw [make_units];lia,by first | exact r.gd | (simp [Around.under,Code.guards,Code.isGuard,guardIds,pushGuards];exact r.gd)⟩
theorem Room.depth {k:Nat} {A:Around} (r:Room k A):A.depth < recursionLimit:=by have:=r.dp;lia
def tNil:TA:=fun _ H Q=>Q [] H
def tCons (ta:TE) (tr:TA):TA:=fun σ H Q=>ta σ H fun x H1=>tr σ H1 fun xs H2=>Q (x::xs) H2
section
variable {X:Cx} {e:Expr} {es:List Expr} {te:TE} {t:TA} {pos:Pos}
theorem pa_nil:PA X [] tNil:=fun _ _ _ _ H Q I h=>Calls.spliced_nil ⟨[],H,I,.nil,h⟩
theorem pa_cons (ha:PE X e te) (hr:PA X es t) (hs:starEach (e::es) X.env=(false,eval e X.env)::starEach es X.env:=by rfl):PA X (e::es) (tCons te t):=by
 intro pos pins s σ H Q I h
 rw [hs]
 show wpAny _ _ (spliced ((false,eval e X.env)::backTo pos (starEach es X.env))) _ _ s
 refine Calls.spliced_cons (thn (ha pins s σ H _ I h) fun u s1 ⟨x,H1,I1,r1,q1⟩=>?_)
 exact thn (hr pos pins s1 σ H1 _ I1 q1) fun us s2 ⟨xs,H2,I2,r2,q2⟩=>⟨x::xs,H2,I2,.cons r1 r2,q2⟩
end
abbrev Sp:=List V→Hp→VK→XK→Prop
abbrev CXT:=List Env→Hp→Shared→XK→Value→Shared→Prop
structure Env0 (P:Program) (w:World) (K:W.Frag) (mg:Str→Option Value) (base:Heap) (A:Around) (outer:List Env) (s:Shared) (H:Hp):Prop where
 frames:A.frames=some outer
 mod:Mod K mg base
 bs:∀b o,base.get? b=some o→s.heap.get? b=some o∧H b=none
 bsz:base.objs.size≤s.heap.objs.size
 funs:s.heap.FunFrames base outer
 frf:∀b∈frs outer,H b=none
 hok:HOk P w H s.heap
 bare:AllBare s.gens
def CE (outer:List Env) (P:Program) (w:World) (H:Hp) (s:Shared) (Q:VK) (u:Value) (s':Shared):Prop :=
 ∃v H',s'.os=s.os∧AllBare s'.gens∧Un (frs outer) [] H H' s.heap s'.heap∧HOk P w H' s'.heap∧RelV v u∧Q v H'
def CR (CX:CXT) (outer:List Env) (P:Program) (w:World) (H:Hp) (s:Shared) (Q:VK) (E:XK) (r:Result) (s':Shared):Prop :=
 match r with
 | .ok (.ret u)=>CE outer P w H s Q u s'
 | .ok _=>False
 | .error e=>CX outer H s E e s'
structure FnOk (P:Program) (w:World) (K:W.Frag) (mg:Str→Option Value) (base:Heap) (CX:CXT) (k:Nat) (f:Addr) (fd:FuncData) (ps:List Str) (sp:Sp):Prop where
 len:∀vs H Q E,sp vs H Q E→vs.length=ps.length
 run:∀(A:Around) (outer:List Env) (s:Shared) (H:Hp) (args:Args) (us:List Value) (vs:List V) (Q:VK) (E:XK),Room k A→Env0 P w K mg base A outer s H→BindsTo s fd args (ps.zip us)→Vals vs us→sp vs H Q E →
  codeAny (model P w) A (.call (.ref f) args) (CR CX outer P w H s Q E) s
theorem FnOk.imp {P:Program} {w:World} {K:W.Frag} {mg:Str→Option Value} {base:Heap} {CX:CXT} {k:Nat} {f:Addr} {fd:FuncData} {ps:List Str} {sp sp':Sp} (F:FnOk P w K mg base CX k f fd ps sp)
  (h:∀vs H Q E,sp' vs H Q E→sp vs H Q E):FnOk P w K mg base CX k f fd ps sp' :=
 ⟨fun vs H Q E q=>F.len vs H Q E (h _ _ _ _ q),fun A outer s H args us vs Q E hr he hb hv hs=>F.run A outer s H args us vs Q E hr he hb hv (h _ _ _ _ hs)⟩
theorem Env0.make {P:Program} {w:World} {K:W.Frag} {mg:Str→Option Value} {base:Heap} {A:Around} {outer:List Env} {s:Shared} {H:Hp} (e:Env0 P w K mg base A outer s H) (C:Addr) (us:List Value) (kw:List (Str×Value)) :
  Env0 P w K mg base (A.under (.builtin "type.__call__" ⟨.ref C::us,kw⟩)) outer s H:=⟨by first | exact e.frames | (simpa [Around.under,Code.envs,Code.isFrame,pushEnvs] using e.frames),e.mod,e.bs,e.bsz,e.funs,e.frf,e.hok,e.bare⟩
section
variable {X:Cx} {pins:List (Addr×Obj)} {σ:St} {H:Hp} {s s':Shared}
theorem Inv.env0 (I:Inv X pins σ H s):Env0 X.prog X.w X.K X.mg X.base X.A X.stack s H :=
 ⟨I.ok.frames,I.ok.mod,I.bs,Nat.le_trans I.ok.bsz I.sz,I.stack,I.stkFree,I.hok,I.bare⟩
theorem Inv.after {Q:VK} {u:Value} (I:Inv X pins σ H s) (h:CE X.stack X.prog X.w H s Q u s'):EP X pins σ Q u s':=by
 obtain ⟨v,H',os,bare,un,hok,r,q⟩:=h
 obtain ⟨hh,g,d,t,os'⟩:=s'
 obtain rfl:os'=s.os:=os
 exact ⟨v,H',I.call (h':=hh) (g':=g) (d':=d) (t':=t) (ch:=[]) un hok bare (fun b z=>absurd z (by simp)),r,q⟩
end
def tCall (sp:Sp) (dvs:List V) (E:XK) (t:TA):TE:=fun σ H Q=>t σ H fun vs H1=>sp (vs++dvs) H1 Q E
def tMeth (C:Addr) (m:Str) (sp:Sp) (dvs:List V) (E:XK) (ta:TE) (t:TA):TE:=fun σ H Q=>ta σ H fun x H1=>∃a dx fs,x=.ref a∧H1 a=some (.ins C dx fs)∧fs.lookup m=none ∧
 t σ H1 fun vs H2=>sp (x::(vs++dvs)) H2 Q E
def Binds (K:W.Frag) (fd:FuncData) (ps:List Str) (ds:List Value):Prop :=
 ∀(s:Shared) (us:List Value),K.In s.heap→(us++ds).length=ps.length→BindsTo s fd ⟨us,[]⟩ (ps.zip (us++ds))
theorem Binds.all {K:W.Frag} {fd:FuncData} {ps:List Str} (h:∀us:List Value,us.length=ps.length→bindArgs fd ⟨us,[]⟩=pure (ps.zip us)):Binds K fd ps []:=fun s us _ hl=>by
 rw [List.append_nil] at hl ⊢
 exact .of_eq (h us hl)
def Passes (CX:CXT) (X:Cx) (E:XK):Prop:=∀(pins:List (Addr×Obj)) (σ:St) (H:Hp) (s:Shared) (e:Value) (s':Shared),Inv X pins σ H s→CX X.stack H s E e s'→X.xe e s'
section
variable {X:Cx} {CX:CXT} {k:Nat} {f C:Addr} {fd:FuncData} {ps:List Str} {sp:Sp} {dvs:List V} {ds:List Value} {E:XK} {x m:Str} {p pos apos:Pos} {e o:Expr} {es:List Expr} {ta:TE} {t:TA}
theorem run_fn {pins:List (Addr×Obj)} {σ:St} {H:Hp} {s:Shared} {Q:VK} {us:List Value} {vs:List V} (F:FnOk X.prog X.w X.K X.mg X.base CX k f fd ps sp) (hr:Room k X.A) (hb:Binds X.K fd ps ds) (hd:Vals dvs ds) (hx:Passes CX X E)
  (I:Inv X pins σ H s) (r:Vals vs us) (h:sp (vs++dvs) H Q E):wpAny (model X.prog X.w) X.A (call (.ref f) us) (EP X pins σ Q) X.xe s:=by
 have r2:Vals (vs++dvs) (us++ds):=r.append hd
 have hl:(us++ds).length=ps.length:=by rw [← r2.length];exact F.len _ _ _ _ h
 refine wpAny_call (codeAny_mono (F.run X.A X.stack s H ⟨us,[]⟩ (us++ds) (vs++dvs) Q E hr I.env0 (hb s us I.kIn hl) r2 h) fun r s' hq=>?_)
 cases r with
 | error e=>exact hx pins σ H s e s' I hq
 | ok fl =>
  cases fl with
  | ret u=>exact I.after hq
  | next=>exact False.elim hq
  | brk=>exact False.elim hq
  | cont=>exact False.elim hq
theorem pe_call (F:FnOk X.prog X.w X.K X.mg X.base CX k f fd ps sp) (hr:Room k X.A) (hg:Gl X x) (hm:X.mg x=some (.ref f)) (hk:W.keepIn X.K (.ref f)=true) (hb:Binds X.K fd ps ds) (hd:Vals dvs ds) (hx:Passes CX X E)
  (ha:PA X (e::es) t) (hdb:(x == ("__debug__" : Str))=false:=by decide) (he:starEach (e::es) X.env=(false,eval e X.env)::starEach es X.env:=by rfl) (hpl:(backTo pos (starEach es X.env)).any (·.1)=false:=by rfl) :
  PE X (.Call (.Name x p) (e::es) [] pos) (tCall sp dvs E t):=by
 intro pins s σ H Q I h
 refine wpAny_Call_Name_kw (ld_glob I hg hm ?_ hdb)
 refine W.callWith_K (h₀:=X.base) I.ok.mod.kin hk (thn (ha pos pins s σ H _ I h) fun us s1 ⟨vs,H1,I1,r,q⟩=>⟨I1.kIn,?_⟩) he hpl
 exact run_fn F hr hb hd hx I1 r q
theorem pe_meth {pl:Sem Bool} (he:PE X o ta) (c:Cls X.K C) (hm:Meth X.K C m f) (F:FnOk X.prog X.w X.K X.mg X.base CX k f fd ps sp) (hr:Room k X.A) (hb:Binds X.K fd ps ds) (hd:Vals dvs ds) (hx:Passes CX X E) (ha:PA X (e::es) t)
  (hst:starEach (e::es) X.env=(false,eval e X.env)::starEach es X.env:=by rfl) (hpl:(backTo pos (starEach es X.env)).any (·.1)=false:=by rfl)
  (ht:eval (.Call (.Attribute o m apos) (e::es) [] pos) X.env=(do
   let ov ← eval o X.env
   standAt apos.atName
   let (f,first) ← holding [ov] (getMethod ov m pl)
   callWith pos f first (backTo pos (starEach (e::es) X.env)) (backToKw pos (keywordEach [] X.env))):=by rfl) :
  PE X (.Call (.Attribute o m apos) (e::es) [] pos) (tMeth C m sp dvs E ta t):=by
 intro pins s σ H Q I h
 refine W.methodCall_KW (pl:=pl) (thn (he pins s σ H _ I h) fun u s1 ⟨x,H1,I1,rx,a,dx,fs,ex,ea,l,q⟩=>?_) ht
 subst ex
 obtain rfl:u=Value.ref a:=rx
 refine getmeth_ok I1 ea c hm l ?_
 refine W.callWith_K (first:=[.ref a]) (h₀:=X.base) I.ok.mod.kin hm.kp (thn (ha pos pins s1 σ H1 _ I1 q) fun us s2 ⟨vs,H2,I2,r,q2⟩=>⟨I2.kIn,?_⟩) hst hpl
 exact run_fn (us:=.ref a::us) (vs:=.ref a::vs) F hr hb hd hx I2 (.cons rfl r) q2
theorem pe_meth0 {pl:Sem Bool} (he:PE X o ta) (c:Cls X.K C) (hm:Meth X.K C m f) (F:FnOk X.prog X.w X.K X.mg X.base CX k f fd ps sp) (hr:Room k X.A) (hb:Binds X.K fd ps ds) (hd:Vals dvs ds) (hx:Passes CX X E)
  (ht:eval (.Call (.Attribute o m apos) [] [] pos) X.env=(do
   let ov ← eval o X.env
   standAt apos.atName
   let (f,first) ← holding [ov] (getMethod ov m pl)
   callWith pos f first (backTo pos (starEach [] X.env)) (backToKw pos (keywordEach [] X.env))):=by rfl) :
  PE X (.Call (.Attribute o m apos) [] [] pos) (tMeth C m sp dvs E ta tNil):=by
 intro pins s σ H Q I h
 refine W.methodCall_KW (pl:=pl) (thn (he pins s σ H _ I h) fun u s1 ⟨x,H1,I1,rx,a,dx,fs,ex,ea,l,q⟩=>?_) ht
 subst ex
 obtain rfl:u=Value.ref a:=rx
 refine getmeth_ok I1 ea c hm l ?_
 exact W.callWith_K0 (first:=[.ref a]) I1.kIn hm.kp (run_fn (us:=[.ref a]) (vs:=[.ref a]) F hr hb hd hx I1 (.cons rfl .nil) q)
structure Mk (K:W.Frag) (C f:Addr):Prop where
 makes:W.makesIn K C=true
 init:W.findIn K (.ref C) "__init__" = some (some (.ref f))
 fn:W.isFn K (.ref f)=true
 kp:W.keepIn K (.ref C)=true
theorem run_make {pins:List (Addr×Obj)} {σ:St} {H:Hp} {s:Shared} {Q:VK} {us:List Value} {vs:List V} (M:Mk X.K C f) (F:FnOk X.prog X.w X.K X.mg X.base CX k f fd ps sp) (hr:Room (k + 1) X.A) (hb:Binds X.K fd ps ds) (hd:Vals dvs ds)
  (hx:Passes CX X E) (I:Inv X pins σ H s) (r:Vals vs us)
  (h:∀x dx,H x=none→H dx=none→dx≠x→sp (.ref x::(vs++dvs)) (upd (upd H dx (.own x)) x (.ins C dx [])) (fun v H2=>v=.non∧Q (.ref x) H2) E) :
  wpAny (model X.prog X.w) X.A (call (.ref C) us) (EP X pins σ Q) X.xe s:=by
 have hq:=h (s.heap.objs.size + 1) s.heap.objs.size (I.hok.fresh (Nat.le_succ _)) (I.hok.fresh (Nat.le_refl _)) (Nat.ne_of_lt (Nat.lt_succ_self _))
 have I2:=Inv.made (C:=C) I
 have r2:Vals (V.ref (s.heap.objs.size + 1)::(vs++dvs)) (Value.ref (s.heap.objs.size + 1)::(us++ds)):=.cons rfl (r.append hd)
 have hl:(Value.ref (s.heap.objs.size + 1)::us++ds).length=ps.length:=by
  have e:=r2.length
  rw [F.len _ _ _ _ hq] at e
  exact e.symm
 refine wpAny_call (make_map (f:=f) I.kIn M.makes M.init (beq_iff_eq.mp M.fn) (codeAny_mono (F.run _ X.stack _ _ ⟨Value.ref (s.heap.objs.size + 1)::us,[]⟩ (Value.ref (s.heap.objs.size + 1)::(us++ds)) _ _ E (hr.make C us [])
  (I2.env0.make C us []) (hb _ (Value.ref (s.heap.objs.size + 1)::us) I2.kIn hl) r2 hq) fun r s' hq'=>?_))
 cases r with
 | error e=>exact hx pins σ _ _ e s' I2 hq'
 | ok fl =>
  cases fl with
  | ret u =>
   obtain ⟨v,H',I3,rv,ev,q3⟩:=I2.after hq'
   subst ev
   exact ⟨rv,⟨V.ref (s.heap.objs.size + 1),H',I3,rfl,q3⟩⟩
  | next=>exact False.elim hq'
  | brk=>exact False.elim hq'
  | cont=>exact False.elim hq'
end
structure FnScope (N P:List Str) (sc:Scope):Prop where
 kind:sc.kind=.function
 co:sc.isCoroutine=false
 gen:sc.isGenerator=false
 nd:N.Nodup
 pre:N.take P.length=P
 par:∀x∈P,sc.names.lookup x=some .local∨sc.names.lookup x=some .cell
 nofree:∀y∈sc.names,y.2≠.free
theorem bindL_out {kindOf:Str→Option NameKind} {x:Str}:∀{binds:List (Str×Value)} {m:Str→Option Value},(∀v,(x,v) ∉ binds)→bindL kindOf binds m x=m x
 | [],_,_=>rfl
 | (n,v)::r,m,h=>by
  unfold bindL
  rw [bindL_out fun w hw=>h w (List.mem_cons_of_mem _ hw)]
  split
  ·have:x≠n:=by rintro rfl;exact h v List.mem_cons_self
   simp [this]
  ·rfl
theorem bindC_out {kindOf:Str→Option NameKind} {x:Str}:∀{binds:List (Str×Value)} {m:Str→Option Value},(∀v,(x,v) ∉ binds)→bindC kindOf binds m x=m x
 | [],_,_=>rfl
 | (n,v)::r,m,h=>by
  unfold bindC
  rw [bindC_out fun w hw=>h w (List.mem_cons_of_mem _ hw)]
  split
  ·rfl
  ·have:x≠n:=by rintro rfl;exact h v List.mem_cons_self
   simp [this]
theorem bindL_get {kindOf:Str→Option NameKind} {x:Str} {v:Value}:∀{P:List Str} {vs:List Value} {i:Nat} {m:Str→Option Value},P.Nodup→P[i]?=some x→vs[i]?=some v→kindOf x=some .local →
  bindL kindOf (P.zip vs) m x=some v
 | [],_,_,_,_,h,_,_=>by simp at h
 | _::_,[],_,_,_,_,h,_=>by simp at h
 | p::P,w::vs,0,m,nd,h1,h2,hk=>by
  simp at h1 h2;subst h1;subst h2
  show bindL kindOf ((p,w)::P.zip vs) m p=_
  unfold bindL
  rw [bindL_out fun v hv=>(List.nodup_cons.mp nd).1 (List.of_mem_zip hv).1,if_pos hk]
  simp
 | p::P,w::vs,i + 1,m,nd,h1,h2,hk=>by
  show bindL kindOf ((p,w)::P.zip vs) m x=_
  unfold bindL
  exact bindL_get (i:=i) (List.nodup_cons.mp nd).2 (by simpa using h1) (by simpa using h2) hk
theorem bindC_get {kindOf:Str→Option NameKind} {x:Str} {v:Value}:∀{P:List Str} {vs:List Value} {i:Nat} {m:Str→Option Value},P.Nodup→P[i]?=some x→vs[i]?=some v→kindOf x≠some .local →
  bindC kindOf (P.zip vs) m x=some v
 | [],_,_,_,_,h,_,_=>by simp at h
 | _::_,[],_,_,_,_,h,_=>by simp at h
 | p::P,w::vs,0,m,nd,h1,h2,hk=>by
  simp at h1 h2;subst h1;subst h2
  show bindC kindOf ((p,w)::P.zip vs) m p=_
  unfold bindC
  rw [bindC_out fun v hv=>(List.nodup_cons.mp nd).1 (List.of_mem_zip hv).1,if_neg hk]
  simp
 | p::P,w::vs,i + 1,m,nd,h1,h2,hk=>by
  show bindC kindOf ((p,w)::P.zip vs) m x=_
  unfold bindC
  exact bindC_get (i:=i) (List.nodup_cons.mp nd).2 (by simpa using h1) (by simpa using h2) hk
def start (N:List Str) (vs:List V):St:=vs.map some++List.replicate (N.length - vs.length) none
def cxOf (CX:CXT) (P:Program) (w:World) (K:W.Frag) (mg:Str→Option Value) (base:Heap) (N:List Str) (qual:Str) (scope:Scope) (f:Addr) (cd:Value) (A:Around) (outer:List Env) (s:Shared) (H:Hp) (E:XK):Cx where
 prog:=P
 w:=w
 K:=K
 mg:=mg
 base:=base
 A:=A.deeper (envOfC qual scope s.heap.objs.size f cd)
 N:=N
 s₀:=s
 H₀:=H
 env:=envOfC qual scope s.heap.objs.size f cd
 outer:=outer
 stack:=envOfC qual scope s.heap.objs.size f cd::outer
 ex:=[]
 calm:=true
 fn:=fun _=>true
 pn:=[]
 xe:=fun e s'=>wpAny (model P w) (A.deeper (envOfC qual scope s.heap.objs.size f cd)) (leaving (envOfC qual scope s.heap.objs.size f cd) e) (fun _ s''=>CX outer H s E e s'') (fun e' s''=>CX outer H s E e' s'') s'
theorem cell_has {sc:Scope} {n:Nat} {x:Str} (h:sc.names.lookup x=some .cell):∃c,(cellsFrom n sc.names []).lookup x=some c:=by
 have q:=W.cellsFrom_some sc.names n [] (.inl h)
 exact Option.isSome_iff_exists.mp q
theorem inv_start {CX:CXT} {P:Program} {w:World} {K:W.Frag} {mg:Str→Option Value} {base:Heap} {N ps:List Str} {qual:Str} {scope:Scope} {f:Addr} {cd:Value} {A:Around} {outer:List Env} {s s1:Shared} {H:Hp} {E:XK} {us:List Value} {vs:List V}
  (S:FnScope N ps scope) (hd:A.handled=none) (e0:Env0 P w K mg base A outer s H) (hl:vs.length=ps.length) (r:Vals vs us)
  (x:InCallC s s.heap.objs.size (bindL (envOfC qual scope s.heap.objs.size f cd).kindOf (ps.zip us) fun _=>none) (cellsFrom (s.heap.objs.size + 1) scope.names []) (bindC (envOfC qual scope s.heap.objs.size f cd).kindOf (ps.zip us) fun _=>none) s1) :
  Inv (cxOf CX P w K mg base N qual scope f cd A outer s H E) [] (start N vs) H s1:=by
 have hpl:ps.length≤N.length:=by have:=congrArg List.length S.pre;rw [List.length_take] at this;lia
 obtain ⟨h1,tk,rfl,hk⟩:=x.done
 have noA:∀b:Addr,b ∉ (cxOf CX P w K mg base N qual scope f cd A outer s H E).ex:=fun b z=>absurd (show b∈([]:List Addr) from z) (by simp)
 refine ⟨⟨e0.mod,S.kind,rfl,rfl,Nat.le_refl _,fun y z c h1 h2=>?_,fun y hy=>?_,fun y c _ h=>?_,fun _=>hd,Around.frames_deeper e0.frames,.inr ⟨rfl,rfl⟩,fun b z=>absurd z (noA b),e0.bs,e0.bsz,fun b _ _=>noA b,fun b z=>absurd z (noA b),e0.funs,e0.frf⟩,
  rfl,e0.bare,Un.kept hk,⟨_,x.toInCall.ns,fun i y v h1 h2 h3=>?_⟩,fun y c h=>⟨_,x.cell y c h⟩,e0.hok.fresh (Nat.le_refl _),fun y c h=>?_,fun p hp=>absurd (show p∈([]:List (Addr×Obj)) from hp) (by simp),e0.hok.kept hk,?_⟩
 ·exact name_of_addr x.apart (PySem.mem_of_lookup h1) (PySem.mem_of_lookup h2)
 ·have hy:scope.names.lookup y=some .cell∨scope.names.lookup y=some .free:=hy
  rcases hy with hy | hy
  ·exact cell_has hy
  ·exact absurd rfl (S.nofree _ (PySem.mem_of_lookup hy))
 ·exact Nat.le_of_lt (x.above y c (PySem.mem_of_lookup h))
 ·have hi:i < vs.length:=by
   unfold start at h2
   by_cases hi:i < vs.length
   ·exact hi
   ·rw [List.getElem?_append_right (by simpa using hi)] at h2
    rw [List.getElem?_replicate] at h2
    split at h2 <;> cases h2
  have ha:vs[i]?=some v:=by
   unfold start at h2
   rw [List.getElem?_append_left (by simpa using hi),List.getElem?_map] at h2
   cases e:vs[i]? with
   | none=>rw [e] at h2;cases h2
   | some a=>rw [e] at h2;cases h2;rfl
  obtain ⟨u,hu,rv⟩:=r.get ha
  have hp:ps[i]?=some y:=by
   rw [← S.pre,List.getElem?_take_of_lt (by lia)];exact h1
  have ndP:ps.Nodup:=by rw [← S.pre];exact S.nd.sublist (List.take_sublist _ _)
  refine ⟨u,rv,?_⟩
  rcases S.par y (List.mem_of_getElem? hp) with k | k
  ·exact .inl ⟨k,bindL_get ndP hp hu k⟩
  ·obtain ⟨c,e⟩:=cell_has (n:=s.heap.objs.size + 1) k
   refine .inr ⟨.inl k,c,e,?_⟩
   have q:=x.cell y c e
   rw [bindC_get ndP hp hu (by show scope.names.lookup y≠_;rw [k];decide)] at q
   exact q
 ·exact e0.hok.fresh (Nat.le_of_lt (x.above y c (PySem.mem_of_lookup h)))
 ·unfold start
  show _=N.length
  rw [List.length_append,List.length_map,List.length_replicate]
  lia
theorem fn_of {CX:CXT} {P:Program} {w:World} {K:W.Frag} {mg:Str→Option Value} {base:Heap} {k:Nat} {f:Addr} {name qual:Str} {params:Arguments} {body:List Stmt} {scope:Scope} {dV kV doc pm cdv ct oc:Value} {an od:Option Addr}
  {osl:Array (Option Value)} {N ps:List Str} {sp:Sp} (lk:K.lookup f=some ⟨oc,od,.func (W.fnOf name qual params body scope dV kV doc pm an cdv ct),osl⟩) (hcd:W.codeIn K cdv qual=true) (S:FnScope N ps scope)
  (len:∀vs H Q E,sp vs H Q E→vs.length=ps.length)
  (hbody:∀(A:Around) (outer:List Env) (s:Shared) (H:Hp) (vs:List V) (Q:VK) (E:XK),Room k (A.deeper (envOfC qual scope s.heap.objs.size f cdv))→sp vs H Q E →
   ∃t,PSs (cxOf CX P w K mg base N qual scope f cdv A outer s H E) body t∧t { nx:=fun _ H'=>Q .non H',rt:=Q } (start N vs) H) :
  FnOk P w K mg base CX (k + 1) f (W.fnOf name qual params body scope dV kV doc pm an cdv ct) ps sp:=by
 refine ⟨len,fun A outer s H args us vs Q E hr e0 hb r hsp=>?_⟩
 have hl:=len _ _ _ _ hsp
 have KX:K.In s.heap:=e0.mod.kin.keeps fun b o e=>(e0.bs b o e).1
 have lim:s.heap.NoLimit:=e0.mod.nolimit.keeps fun b o e=>(e0.bs b o e).1
 have hkind:∀y∈ps.zip us,scope.names.lookup y.1=some .local∨(scope.names.lookup y.1=some .cell∧((cellsFrom (s.heap.objs.size + 1) scope.names []).lookup y.1).isSome=true):=fun ⟨n,v⟩ hy=>by
  rcases S.par n (List.of_mem_zip hy).1 with q | q
  ·exact .inl q
  ·exact .inr ⟨q,W.cellsFrom_some _ _ _ (.inl q)⟩
 refine codeAny_call_function hr.depth (KX _ _ lk) rfl S.co S.gen rfl (W.codeRec_of KX hcd) (hb _ _ _ _ ?_)
 refine wpAny_newFunctionEnv_cells S.kind hkind fun env he s1 x=>?_
 subst he
 refine ⟨lim.keeps x.toInCall.keep,codeAny_func ?_⟩
 obtain ⟨t,ht,hq⟩:=hbody A outer s H vs Q E (hr.deeper _) hsp
 have I:Inv (cxOf CX P w K mg base N qual scope f cdv A outer s H E) [] (start N vs) H s1:=inv_start S hr.hd e0 hl r x
 refine wpAny_mono (ht [] s1 (start N vs) H _ I hq) (fun fl s' hs=>?_) fun e s' hs=>hs
 have fin:∀{σ':St} {H':Hp} {v:V} {u:Value},Inv (cxOf CX P w K mg base N qual scope f cdv A outer s H E) [] σ' H' s'→RelV v u→Q v H'→CE outer P w H s Q u s' :=
  fun {σ' H' v u} J rv q=>⟨v,H',J.os,J.bare,J.base,J.hok,rv,q⟩
 cases fl with
 | ret u =>
  obtain ⟨v,σ',H',J,rv,q⟩:=hs
  exact fin J rv q
 | next =>
  obtain ⟨σ',H',J,q⟩:=hs
  exact fin (v:=V.non) (u:=Value.none) J rfl q
 | brk =>
  obtain ⟨_,_,_,q⟩:=hs
  exact False.elim q
 | cont =>
  obtain ⟨_,_,_,q⟩:=hs
  exact False.elim q
section
variable {X:Cx} {x:Str} {p pos:Pos} {e:Expr} {es:List Expr} {t:TA} {id T:String} {r:List V→Hp→VK→Prop}
def tCB (r:List V→Hp→VK→Prop) (t:TA):TE:=fun σ H Q=>t σ H fun vs H1=>r vs H1 Q
theorem pe_callB (hc:CallR X (.builtin id) r) (hg:Gl X x) (hm:X.mg x=none) (hv:bootBuiltins x=some (.builtin id)) (ha:PA X (e::es) t) (hn:x ≠ "__name__" := by decide) (hdb:(x == ("__debug__" : Str))=false:=by decide)
  (he:starEach (e::es) X.env=(false,eval e X.env)::starEach es X.env:=by rfl) (hpl:(backTo pos (starEach es X.env)).any (·.1)=false:=by rfl):PE X (.Call (.Name x p) (e::es) [] pos) (tCB r t):=by
 intro pins s σ H Q I h
 refine wpAny_Call_Name_kw (ld_blt I hg hm hv ?_ hn hdb)
 exact PyProof.Rows.callWith_builtin1 (thn (ha pos pins s σ H _ I h) fun us s1 ⟨vs,H1,I1,r1,q1⟩=>hc pins s1 σ H1 vs us Q I1 r1 q1) he hpl
theorem pe_callTy (hc:CallR X (.type T) r) (hg:Gl X x) (hm:X.mg x=none) (hv:bootBuiltins x=some (.type T)) (ha:PA X (e::es) t) (hn:x ≠ "__name__" := by decide) (hdb:(x == ("__debug__" : Str))=false:=by decide)
  (he:starEach (e::es) X.env=(false,eval e X.env)::starEach es X.env:=by rfl) (hpl:(backTo pos (starEach es X.env)).any (·.1)=false:=by rfl):PE X (.Call (.Name x p) (e::es) [] pos) (tCB r t):=by
 intro pins s σ H Q I h
 refine wpAny_Call_Name_kw (ld_blt I hg hm hv ?_ hn hdb)
 exact PyProof.Rows.callWith_type1 (thn (ha pos pins s σ H _ I h) fun us s1 ⟨vs,H1,I1,r1,q1⟩=>hc pins s1 σ H1 vs us Q I1 r1 q1) he hpl
end
end L2
namespace HT
open PySem PyProof.Rows
section
open PySem.SeqAt
open PySem.AutoSeq1 (wpAny_loadPart')
open PySem.MeetsSeq PySem.MeetsSeq2 PySem.MeetsSeq3
end
section
variable {prog:Program} {w:World} {A:Around} {E:Value→Shared→Prop} {s:Shared}
def sIx (n d:Nat):Option Int→Nat
 | none=>d
 | some v=>if v < 0 then (v + (n:Int)).toNat else min v.toNat n
theorem sIx_nat (n d k:Nat):sIx n d (some (k:Int))=min k n:=by
 show (if (k:Int) < 0 then ((k:Int) + (n:Int)).toNat else min (k:Int).toNat n)=min k n
 rw [if_neg (by lia),Int.toNat_natCast]
end
end HT
namespace L2
open PySem PySem.Spec PyProof.Rows
abbrev TO:=St→Hp→(Option Int→Hp→Prop)→Prop
def PO (X:Cx) (e:Option Expr) (t:TO):Prop :=
 ∀(pins:List (Addr×Obj)) (s:Shared) (σ:St) (H:Hp) (Q:Option Int→Hp→Prop),Inv X pins σ H s→t σ H Q →
  wpAny (model X.prog X.w) X.A (evalPart e X.env) (fun u s'=>∃o H',Inv X pins σ H' s'∧IsPart u o∧Q o H') X.xe s
def tNoPart:TO:=fun _ H Q=>Q none H
def tPart (t:TE):TO:=fun σ H Q=>t σ H fun x H1=>∃i,x=.int i∧Q (some i) H1
section
variable {X:Cx} {e:Expr} {te:TE} {lo hi:Option Expr} {tl th:TO} {pos p2:Pos}
theorem po_none:PO X none tNoPart:=by
 intro pins s σ H Q I h
 rw [evalPart_none]
 exact wpAny_pure ⟨none,H,I,.none,h⟩
theorem po_some (h:PE X e te):PO X (some e) (tPart te):=by
 intro pins s σ H Q I hw
 rw [evalPart_some]
 refine thn (h pins s σ H _ I hw) fun u s1 ⟨x,H1,I1,r1,q1⟩=>?_
 obtain ⟨i,rfl,q⟩:=q1
 obtain ⟨t,rfl⟩:=r1
 exact ⟨some i,H1,I1,.int i t,q⟩
def SlR (X:Cx) (r:V→Option Int→Option Int→Hp→VK→Prop):Prop :=
 ∀(pins:List (Addr×Obj)) (s:Shared) (σ:St) (H:Hp) (x:V) (v vl vu:Value) (lo hi:Option Int) (sl:Addr) (Q:VK),Inv X pins σ H s→RelV x v→s.heap.IsSliceOf sl vl vu .none→IsPart vl lo→IsPart vu hi→r x lo hi H Q →
  ∃T id,typeLookup (.type T) "__getitem__" = pure (some (.builtin id))∧s.TypeIs v T∧wpAny (model X.prog X.w) X.A (getItem v (.ref sl)) (EP X pins σ Q) X.xe s
theorem SlR.or {r r':V→Option Int→Option Int→Hp→VK→Prop} (h:SlR X r) (h':SlR X r'):SlR X (fun x lo hi H Q=>r x lo hi H Q∨r' x lo hi H Q):=by
 intro pins s σ H x v vl vu lo hi sl Q I rx hs pl pu q
 rcases q with q | q
 ·exact h pins s σ H x v vl vu lo hi sl Q I rx hs pl pu q
 ·exact h' pins s σ H x v vl vu lo hi sl Q I rx hs pl pu q
def tSl (r:V→Option Int→Option Int→Hp→VK→Prop) (te:TE) (tl th:TO):TE:=fun σ H Q=>te σ H fun x H1=>tl σ H1 fun l H2=>th σ H2 fun u H3=>r x l u H3 Q
theorem pe_slice {r:V→Option Int→Option Int→Hp→VK→Prop} (hr:SlR X r) (he:PE X e te) (hl:PO X lo tl) (hu:PO X hi th):PE X (.Subscript e (.Slice lo hi none p2) pos) (tSl r te tl th):=by
 intro pins s σ H Q I h
 refine Subscript_ (thn (he pins s σ H _ I h) fun v s1 ⟨x,H1,I1,r1,q1⟩=>?_)
 refine wpAny_Slice (thn (hl pins s1 σ H1 _ I1 q1) fun vl s2 ⟨l,H2,I2,pl,q2⟩=>thn (hu pins s2 σ H2 _ I2 q2) fun vu s3 ⟨u,H3,I3,pu,q3⟩=>?_)
 rw [evalPart_none]
 refine wpAny_pure ?_
 have I4:Inv X pins σ H3 { s3 with heap:=s3.heap.push { cls:=.type "slice", data:=.fields #[vl,vu,.none] } }:=I3.kept (t':=s3.toks) fun b ob q=>Heap.get?_push_of_some _ q
 obtain ⟨T,id,hT,ht,hg⟩:=hr pins { s3 with heap:=s3.heap.push { cls:=.type "slice", data:=.fields #[vl,vu,.none] } } σ H3 x v vl vu l u s3.heap.objs.size Q I4 r1 (Heap.IsSliceOf.new ..) pl pu q3
 show wpAny (model X.prog X.w) X.A (subscriptTail e (.Slice lo hi none p2) v (.ref s3.heap.objs.size)) (EP X pins σ Q) X.xe { s3 with heap:=s3.heap.push { cls:=.type "slice", data:=.fields #[vl,vu,.none] } }
 exact tail_any (ops:=[.ref s3.heap.objs.size,v]) ht hT hg (by with_unfolding_all rfl)
def cutV (xs:List V) (lo hi:Option Int):List V:=(xs.drop (HT.sIx xs.length 0 lo)).take (HT.sIx xs.length xs.length hi - HT.sIx xs.length 0 lo)
theorem cutV_length (xs:List V) (lo hi:Option Int):(cutV xs lo hi).length≤xs.length:=by
 unfold cutV
 rw [List.length_take,List.length_drop]
 lia
end
def ixN (n:Nat) (i:Int):Option Nat:=if 0≤i then (if i < n then some i.toNat else none) else if -(n:Int)≤i then some (i + n).toNat else none
def atI {α:Type} (xs:List α) (i:Int):Option α:=(ixN xs.length i).bind fun j=>xs[j]?
theorem ixN_seq {n:Nat} {i:Int} {j:Nat} (h:ixN n i=some j):seqIndex? i n=some j∧j < n∧-(n:Int)≤i∧i < n:=by
 unfold ixN at h
 by_cases h0:0≤i
 ·rw [if_pos h0] at h
  by_cases h1:i < n
  ·rw [if_pos h1] at h
   have e:i.toNat=j:=Option.some.inj h
   exact ⟨by rw [seqIndex_of h0 h1,e],by lia,by lia,h1⟩
  ·rw [if_neg h1] at h;cases h
 ·rw [if_neg h0] at h
  by_cases h1:-(n:Int)≤i
  ·rw [if_pos h1] at h
   have e:(i + n).toNat=j:=Option.some.inj h
   exact ⟨by rw [seqIndex_neg (by lia) h1,e],by lia,h1,by lia⟩
  ·rw [if_neg h1] at h;cases h
theorem atI_get {α:Type} {xs:List α} {i:Int} {v:α} (h:atI xs i=some v):∃j,seqIndex? i xs.length=some j∧xs[j]?=some v∧j < xs.length∧-(xs.length:Int)≤i∧i < xs.length:=by
 unfold atI at h
 cases e:ixN xs.length i with
 | none=>rw [e] at h;cases h
 | some j =>
  rw [e] at h
  obtain ⟨h1,h2,h3,h4⟩:=ixN_seq e
  exact ⟨j,h1,h,h2,h3,h4⟩
theorem atI_nat {α:Type} {xs:List α} {j:Nat} {v:α} (h:xs[j]?=some v):atI xs (j:Int)=some v:=by
 have hj:j < xs.length:=(List.getElem?_eq_some_iff.mp h).1
 have e:ixN xs.length (j:Int)=some j:=by
  unfold ixN
  rw [if_pos (by lia),if_pos (by lia)];simp
 unfold atI;rw [e];exact h
def PlainIx (b:Expr):Prop:=∀o i,subscripted b false o i=operate [o,i] (getItem o i)
def IxR (X:Cx) (r:R2):Prop :=
 ∀(value slice:Expr) (pins:List (Addr×Obj)) (s:Shared) (σ:St) (H:Hp) (x y:V) (v u:Value) (Q:VK),Inv X pins σ H s→RelV x v→RelV y u→r x y H Q →
  subscripted slice false v u=operate [v,u] (getItem v u)→wpAny (model X.prog X.w) X.A (subscriptTail value slice v u) (EP X pins σ Q) X.xe s
def MtR (X:Cx) (id:String) (r:V→List V→Hp→VK→Prop):Prop :=
 ∀(pins:List (Addr×Obj)) (s:Shared) (σ:St) (H:Hp) (x:V) (xs:List V) (v:Value) (us:List Value) (Q:VK),Inv X pins σ H s→RelV x v→Vals xs us→r x xs H Q →
  wpAny (model X.prog X.w) X.A (call (.builtin id) (v::us)) (EP X pins σ Q) X.xe s
section
variable {X:Cx} {a b:Expr} {ta tb:TE} {pos:Pos}
theorem IxR.or {r r':R2} (h:IxR X r) (h':IxR X r'):IxR X (fun x y H Q=>r x y H Q∨r' x y H Q):=by
 intro value slice pins s σ H x y v u Q I rx ry q hs
 rcases q with q | q
 ·exact h value slice pins s σ H x y v u Q I rx ry q hs
 ·exact h' value slice pins s σ H x y v u Q I rx ry q hs
theorem MtR.or {id:String} {r r':V→List V→Hp→VK→Prop} (h:MtR X id r) (h':MtR X id r'):MtR X id (fun x xs H Q=>r x xs H Q∨r' x xs H Q):=by
 intro pins s σ H x xs v us Q I rx rs q
 rcases q with q | q
 ·exact h pins s σ H x xs v us Q I rx rs q
 ·exact h' pins s σ H x xs v us Q I rx rs q
theorem pe_ix {r:R2} (hr:IxR X r) (ha:PE X a ta) (hb:PE X b tb) (hs:PlainIx b):PE X (.Subscript a b pos) (tOp r ta tb):=by
 intro pins s σ H Q I h
 exact Subscript_ (binT ha hb I h fun v u s2 x y H2 I2 rx ry q=>hr a b pins s2 σ H2 x y v u Q I2 rx ry q (hs _ _))
def rIxL (K:W.Frag):R2:=fun x y H Q=>∃p xs i v,x=.ref p∧y=.int i∧SqL K H p xs∧atI xs i=some v∧Q v H
def rIxT (K:W.Frag):R2:=fun x y H Q=>∃p xs i v,x=.ref p∧y=.int i∧SqT K H p xs∧atI xs i=some v∧Q v H
def rIxS:R2:=fun x y H Q=>∃z i c,x=.str z∧y=.int i∧z.length≤sizeLine∧atI z.cps.toList i=some c∧Q (.str ⟨#[c]⟩) H
theorem ix_list:IxR X (rIxL X.K):=by
 intro value slice pins s σ H x y v u Q I rx ry h hs
 obtain ⟨p,xs,i,z,rfl,rfl,hq,he,q⟩:=h
 cases rx
 obtain ⟨t,rfl⟩:=ry
 obtain ⟨its,r,pl,hz⟩:=I.list hq
 obtain ⟨j,h1,h2,h3,h4,h5⟩:=atI_get he
 obtain ⟨w,ew,rw'⟩:=r.get h2
 have hl:=r.length
 have hn:=line63
 have fin:EP X pins σ Q w s:=⟨z,H,I,rw',q⟩
 by_cases h0:0≤i
 ·have hj:i.toNat=j:=by
   rw [seqIndex_of h0 h5] at h1
   exact Option.some.inj h1
  exact item_listR pl.isList h0 (by lia) (by rw [hj];simpa using ew) fin hs
 ·have hj:(i + (its.toArray.size:Int)).toNat=j:=by
   rw [seqIndex_neg (by lia) h4] at h1
   rw [List.size_toArray,← hl]
   exact Option.some.inj h1
  exact subscriptTail_builtinR (x:=w) pl.isList.typeIs slot_list_getitem.lookup
   (wpAny_getItem_list_neg (Q:=fun r s'=>r=w∧EP X pins σ Q r s') pl.isList (by lia) (by rw [List.size_toArray] <;> lia) (by lia) (by rw [hj];simpa using ew) ⟨rfl,fin⟩) hs
theorem ix_tup:IxR X (rIxT X.K):=by
 intro value slice pins s σ H x y v u Q I rx ry h hs
 obtain ⟨p,xs,i,z,rfl,rfl,hq,he,q⟩:=h
 cases rx
 obtain ⟨t,rfl⟩:=ry
 obtain ⟨its,r,pl,hz⟩:=I.tuple hq
 obtain ⟨j,h1,h2,h3,h4,h5⟩:=atI_get he
 obtain ⟨w,ew,rw'⟩:=r.get h2
 have hl:=r.length
 have hn:=line63
 have fin:EP X pins σ Q w s:=⟨z,H,I,rw',q⟩
 exact subscriptTail_builtinR (x:=w) pl.typeIs slot_tuple_getitem.lookup
  (getItem_tuple (j:=j) (Q:=fun r s'=>r=w∧EP X pins σ Q r s') pl (by lia) (by lia) (by rw [List.size_toArray,← hl];exact h1) (by simpa using ew) ⟨rfl,fin⟩) hs
theorem ix_str:IxR X rIxS:=by
 intro value slice pins s σ H x y v u Q I rx ry h hs
 obtain ⟨z,i,c,rfl,rfl,hz,he,q⟩:=h
 obtain ⟨t,rfl⟩:=rx
 obtain ⟨t',rfl⟩:=ry
 obtain ⟨j,h1,h2,h3,h4,h5⟩:=atI_get he
 have hl:z.cps.toList.length=z.length:=by simp [Str.length]
 rw [hl] at h1 h4 h5
 have hn:=line63
 exact tail_any (typeIs_str s z t) slot_str_getitem.lookup (getItem_str (c:=c) (by
  have e1:decide (i < -(2 ^ 63:Int))=false:=decide_eq_false (by lia)
  have e2:decide (i ≥ 2 ^ 63)=false:=decide_eq_false (by lia)
  rw [e1,e2,Bool.or_false]) (by rw [h1];simpa using h2) ⟨.str ⟨#[c]⟩,H,I.tok _,⟨_,rfl⟩,q⟩) hs
theorem mapSeq_set (its:List Value) (n j:Nat) (u:Value):Obj.mapSeq (·.setIfInBounds j u) { cls:=.type "list", data:=.seq its.toArray n }={ cls:=.type "list", data:=.seq (its.set j u).toArray n }:=by
 simp [Obj.mapSeq]
theorem Inv.lst {pins:List (Addr×Obj)} {σ:St} {H:Hp} {s:Shared} {p:Addr} {xs:List V} (I:Inv X pins σ H s) (h:H p=some (.lst xs)) :
  ∃(its:List Value) (n:Nat),Vals xs its∧s.heap.get? p=some { cls:=.type "list", data:=.seq its.toArray n }∧xs.length≤sizeLine:=by
 obtain ⟨z,its,n,r,e⟩:=I.hok p _ h
 exact ⟨its,n,r,e,z⟩
theorem Inv.lstUpd {pins:List (Addr×Obj)} {σ:St} {H:Hp} {s:Shared} {p:Addr} {xs ys:List V} {its its':List Value} {n n':Nat} {f:Obj→Obj} (I:Inv X pins σ H s) (h:H p=some (.lst xs))
  (ho:s.heap.get? p=some { cls:=.type "list", data:=.seq its.toArray n }) (hf:f { cls:=.type "list", data:=.seq its.toArray n }={ cls:=.type "list", data:=.seq its'.toArray n' }) (r:Vals ys its') (hz:ys.length≤sizeLine) (t:Nat) :
  Inv X pins σ (upd H p (.lst ys)) { s with heap:=s.heap.update p f,toks:=t }:=by
 have e:(s.heap.update p f).get? p=some { cls:=.type "list", data:=.seq its'.toArray n' }:=by
  rw [Heap.get?_update_self f ho (by rw [hf] <;> rfl),hf]
 refine I.write (x:=p) (e:=p) (by rw [h];trivial) (.inl rfl) (fun b u hb q=>(Heap.get?_update_other _ _ (Ne.symm hb)).trans q) ⟨_,e⟩ ?_
 exact ⟨hz,its',n',r,e⟩
def rSetL:V→V→V→Hp→(Hp→Prop)→Prop:=fun o i v H Q=>∃p xs k j,o=.ref p∧i=.int k∧H p=some (.lst xs)∧ixN xs.length k=some j∧Q (upd H p (.lst (xs.set j v)))
theorem set_list:PSet X rSetL:=by
 intro pins s σ H o i v ov iv u Q I ro ri rv h
 obtain ⟨p,xs,k,j,rfl,rfl,hp,hj,q⟩:=h
 cases ro
 obtain ⟨t,rfl⟩:=ri
 obtain ⟨its,n,r,ho,hz⟩:=I.lst hp
 obtain ⟨h1,h2,h3,h4⟩:=ixN_seq hj
 have hl:=r.length
 have hn:=line63
 have I':Inv X pins σ (upd H p (.lst (xs.set j v))) { s with heap:=s.heap.update p (Obj.mapSeq (·.setIfInBounds j u)) } :=
  I.lstUpd hp ho (mapSeq_set its n j u) (r.set rv j) (by rw [List.length_set];exact hz) s.toks
 by_cases h0:0≤k
 ·have hk:k.toNat=j:=by
   rw [seqIndex_of h0 h4] at h1
   exact Option.some.inj h1
  exact W.ki_setAt ho h0 (by lia) (by rw [List.size_toArray,← hl];exact h4) (by rw [hk];exact ⟨_,I',q⟩)
 ·have hk:(k + (its.toArray.size:Int)).toNat=j:=by
   rw [seqIndex_neg (by lia) h3] at h1
   rw [List.size_toArray,← hl]
   exact Option.some.inj h1
  exact W.ki_setBack ho (by lia) (by rw [List.size_toArray,← hl];exact h3) (by lia) (by rw [hk];exact ⟨_,I',q⟩)
theorem slice_bounds (lo hi:Option Int) (n:Nat):(sliceBounds lo hi none n).1=((HT.sIx n 0 lo:Nat):Int)∧(sliceBounds lo hi none n).2.1=((HT.sIx n n hi:Nat):Int)∧(sliceBounds lo hi none n).2.2=1:=by
 refine ⟨?_,?_,rfl⟩
 ·cases lo with
  | none=>simp [sliceBounds,HT.sIx]
  | some i =>
   simp only [sliceBounds,HT.sIx,Option.getD_none,show (1:Int) > 0 by decide,if_true]
   by_cases h:i < 0
   ·simp only [h,if_true] <;> lia
   ·simp only [h,if_false] <;> lia
 ·cases hi with
  | none=>simp [sliceBounds,HT.sIx]
  | some i =>
   simp only [sliceBounds,HT.sIx,Option.getD_none,show (1:Int) > 0 by decide,if_true]
   by_cases h:i < 0
   ·simp only [h,if_true] <;> lia
   ·simp only [h,if_false] <;> lia
theorem slicePick_cut (its:List Value) (lo hi:Option Int):slicePick its.toArray lo hi none=((its.drop (HT.sIx its.length 0 lo)).take (HT.sIx its.length its.length hi - HT.sIx its.length 0 lo)).toArray:=by
 obtain ⟨h1,h2,h3⟩:=slice_bounds lo hi its.toArray.size
 unfold slicePick
 rw [h1,h2,h3]
 simp only [sliceRange_one,pick_run,List.size_toArray] <;> rfl
def rSlL (K:W.Frag):V→Option Int→Option Int→Hp→VK→Prop:=fun x lo hi H Q=>∃a xs,x=.ref a∧SqL K H a xs∧∀p,H p=none→Q (.ref p) (upd H p (.lst (cutV xs lo hi)))
theorem sl_list:SlR X (rSlL X.K):=by
 intro pins s σ H x v vl vu lo hi sl Q I rx hs pl pu h
 obtain ⟨a,xs,rfl,hx,q⟩:=h
 cases rx
 obtain ⟨its,r,ht,hz⟩:=I.list hx
 have hlen:=r.length
 refine ⟨"list", _,slot_list_getitem.lookup,ht.isList.typeIs,?_⟩
 refine wpAny_getItem_list_slice ht.isList hs pl pu .none (by simp) ?_ (by rw [List.size_toArray] <;> lia)
 rw [slicePick_cut,← hlen]
 refine ⟨.ref s.heap.objs.size,_,I.laid (t':=s.toks) (o:=.lst (cutV xs lo hi)) (fun b ob q=>Heap.get?_push_of_some _ q) (Nat.le_refl _) ?_,rfl,q _ (I.hok.fresh (Nat.le_refl _))⟩
 exact ⟨Nat.le_trans (cutV_length xs lo hi) hz,_,0,(r.drop (HT.sIx xs.length 0 lo)).take (HT.sIx xs.length xs.length hi - HT.sIx xs.length 0 lo),Heap.get?_push_size _ rfl⟩
theorem CallR.or {f:Value} {r r':List V→Hp→VK→Prop} (h:CallR X f r) (h':CallR X f r'):CallR X f (fun xs H Q=>r xs H Q∨r' xs H Q):=by
 intro pins s σ H xs us Q I rs q
 rcases q with q | q
 ·exact h pins s σ H xs us Q I rs q
 ·exact h' pins s σ H xs us Q I rs q
theorem call_list_of:CallR X (.type "list") (fun xs H Q=>∃p ys,xs=[.ref p]∧(SqL X.K H p ys∨SqT X.K H p ys)∧∀l,H l=none→Q (.ref l) (upd H l (.lst ys))):=by
 intro pins s σ H xs us Q I r h
 obtain ⟨p,ys,rfl,hq,q⟩:=h
 obtain ⟨u,rfl,rx⟩:=vals1 r
 cases rx
 have fin:∀(its:List Value),Vals ys its→ys.length≤sizeLine→∀(h':Heap) (c':Nat),(∀b o',s.heap.get? b=some o'→h'.get? b=some o') →
   h'.get? s.heap.objs.size=some { cls:=.type "list", dict:=none,data:=.seq its.toArray c',slots:=#[] }→EP X pins σ Q (.ref s.heap.objs.size) { s with heap:=h' }:=fun its r' hz h' c' kp e =>
  ⟨.ref s.heap.objs.size,_,I.laid (t':=s.toks) kp (Nat.le_refl _) (show ObjOk X.prog X.w _ h' _ (.lst ys) from ⟨hz,its,c',r',e⟩),rfl,q _ (I.hok.fresh (Nat.le_refl _))⟩
 rcases hq with hq | hq
 ·obtain ⟨its,r',pl,hz⟩:=I.list hq
  have hlen:=r'.length
  obtain ⟨o,ho,hc,n,hd⟩:=pl.isList
  exact call_list_seq p (.inl rfl) ho hc hd (fun h' c' kp e=>fin its r' hz h' c' kp e) (by simp only [List.size_toArray] <;> lia)
 ·obtain ⟨its,r',pl,hz⟩:=I.tuple hq
  have hlen:=r'.length
  obtain ⟨o,ho,hc,n,hd⟩:=pl
  exact call_list_seq p (.inr rfl) ho hc hd (fun h' c' kp e=>fin its r' hz h' c' kp e) (by simp only [List.size_toArray] <;> lia)
def tyV (K:W.Frag) (T:String) (x:V) (H:Hp):Prop:=match x with
 | .str _=>T = "str"
 | .int _=>T = "int"
 | .ref p=>(T = "list" ∧ ∃xs,SqL K H p xs)∨(T = "tuple" ∧ ∃o,K.lookup p=some o∧o.cls=.type "tuple" ∧ o.dict=none) ∨
   (T = "dict" ∧ ((∃kvs,H p=some (.dK kvs))∨∃kvs,H p=some (.dT kvs)))∨(T = "set" ∧ ∃S n,H p=some (.set S n))
 | _=>False
theorem tyV_is {pins:List (Addr×Obj)} {σ:St} {H:Hp} {s:Shared} {T:String} {x:V} {v:Value} (I:Inv X pins σ H s) (r:RelV x v) (ty:tyV X.K T x H) :
  s.TypeIs v T∧∀a,v=.ref a→∃ob,s.heap.get? a=some ob∧ob.dict=none:=by
 cases x with
 | str z =>
  obtain ⟨t,rfl⟩:=r
  cases (show T = "str" from ty)
  exact ⟨typeIs_str s z t,fun _ e=>nomatch e⟩
 | int i =>
  obtain ⟨t,rfl⟩:=r
  cases (show T = "int" from ty)
  exact ⟨typeIs_int s i t,fun _ e=>nomatch e⟩
 | ref p =>
  cases r
  rcases ty with ⟨rfl,xs,hq⟩ | ⟨rfl,o,hk,hc,hd⟩ | ⟨rfl,hk⟩ | ⟨rfl,S,n,hk⟩
  ·obtain ⟨its,_,pl,_⟩:=I.list hq
   refine ⟨pl.isList.typeIs,fun a e=>?_⟩
   cases e
   obtain ⟨o,n,e,c,hd,_⟩:=pl
   exact ⟨o,e,hd⟩
  ·refine ⟨⟨o,I.kIn p o hk,hc⟩,fun a e=>?_⟩
   cases e
   exact ⟨o,I.kIn _ o hk,hd⟩
  ·have z:∃o,s.heap.get? p=some o∧o.ExactDict:=by
    rcases hk with ⟨kvs,hk⟩ | ⟨kvs,hk⟩
    ·obtain ⟨_,_,_,_,o,_,_,e,ex,_⟩:=I.hok p _ hk
     exact ⟨o,e,ex⟩
    ·obtain ⟨_,_,_,_,o,_,_,e,ex,_⟩:=I.hok p _ hk
     exact ⟨o,e,ex⟩
   obtain ⟨o,e,ex⟩:=z
   refine ⟨⟨o,e,ex.1⟩,fun a e2=>?_⟩
   cases e2
   exact ⟨o,e,ex.2.1⟩
  ·obtain ⟨o,_,_,_,e,ex,_⟩:=I.hok p _ hk
   refine ⟨⟨o,e,ex.1⟩,fun a e2=>?_⟩
   cases e2
   exact ⟨o,e,ex.2.1⟩
 | _=>exact False.elim ty
def tBM (K:W.Frag) (T:String) (r:V→List V→Hp→VK→Prop) (to:TE) (t:TA):TE:=fun σ H Q=>to σ H fun x H1=>tyV K T x H1∧t σ H1 fun xs H2=>r x xs H2 Q
variable {o e:Expr} {es:List Expr} {to:TE} {t:TA} {name:Str} {apos cpos:Pos} {T id:String} {r:V→List V→Hp→VK→Prop}
theorem pe_bm (pa:PlainAttrs T) (slot:Slot T name id) (hty:typeOf (.builtin id)=pure (.type "method_descriptor")) (hm:MtR X id r) (ho:PE X o to) (ha:PA X (e::es) t)
  (hbase:attributeBase o name X.env (eval o X.env)=eval o X.env:=by rfl)
  (hfew:((backTo cpos (starEach (e::es) X.env)).all (fun x=>!x.1) && (backToKw cpos (keywordEach [] X.env)).all (fun x=>x.1.isSome)
   && decide ((e::es).length + ([]:List Keyword).length + (if ([]:List Keyword).isEmpty then 0 else 1) < 30))=true:=by rfl)
  (hline:(apos.endLine == cpos.line)=true:=by rfl) (hs:starEach (e::es) X.env=(false,eval e X.env)::starEach es X.env:=by rfl) (hplain:(backTo cpos (starEach es X.env)).any (·.1)=false:=by rfl) :
  PE X (.Call (.Attribute o name apos) (e::es) [] cpos) (tBM X.K T r to t):=by
 intro pins s σ H Q I h
 refine wpAny_Call_method_late hbase hfew hline rfl (thn (ho pins s σ H _ I h) fun v s1 ⟨x,H1,I1,r1,ty,q1⟩=>?_)
 obtain ⟨h1,h2⟩:=tyV_is I1 r1 ty
 refine ⟨T,id,pa,slot,hty,h1,h2,?_⟩
 have hA:=ha cpos pins s1 σ H1 _ I1 q1
 rw [hs] at hA ⊢
 refine Calls.callWith_builtin (by show (false || (backTo cpos (starEach es X.env)).any (·.1))=false;rw [hplain] <;> rfl) (Calls.evalArgs_plain ?_)
 exact thn hA fun us s2 ⟨vs,H2,I2,r2,q2⟩=>hm pins s2 σ H2 x vs v us Q I2 r1 r2 q2
end
def MtM (X:Cx) (id:String) (r:V→List V→Hp→VK→Prop):Prop :=
 ∀(pins:List (Addr×Obj)) (s:Shared) (σ:St) (H:Hp) (x:V) (xs:List V) (v:Value) (us:List Value) (Q:VK),Inv X pins σ H s→RelV x v→Vals xs us→r x xs H Q →
  wpAny (model X.prog X.w) X.A (call (.builtin id) (v::us)) (EP X pins σ Q) X.xe s
theorem Vals.one:∀{x:V} {us:List Value},Vals [x] us→∃u,us=[u]∧RelV x u
 | _,_,.cons r .nil=>⟨_,rfl,r⟩
theorem Vals.two:∀{x y:V} {us:List Value},Vals [x,y] us→∃u v,us=[u,v]∧RelV x u∧RelV y v
 | _,_,_,.cons r (.cons q .nil)=>⟨_,_,rfl,r,q⟩
theorem Vals.rep {xs:List V} {us:List Value} (h:Vals xs us):∀k:Nat,Vals (List.replicate k xs).flatten (List.replicate k us).flatten
 | 0=>.nil
 | k + 1=>by
  rw [List.replicate_succ,List.replicate_succ,List.flatten_cons,List.flatten_cons]
  exact Vals.append h (Vals.rep h k)
theorem foldl_rep (its:List Value):∀(k:Nat) (acc:List Value),
  List.foldl (fun x1 x2=>x1++x2) acc.toArray (List.replicate k its.toArray)=(acc++(List.replicate k its).flatten).toArray
 | 0,acc=>by simp
 | k + 1,acc=>by
  have e:acc.toArray++its.toArray=(acc++its).toArray:=by simp
  have e2:(acc++its)++(List.replicate k its).flatten=acc++(List.replicate (k + 1) its).flatten:=by
   rw [List.replicate_succ,List.flatten_cons,List.append_assoc]
  rw [← e2,← foldl_rep its k (acc++its),← e,List.replicate_succ,List.foldl_cons]
section
variable {X:Cx} {pins:List (Addr×Obj)} {σ:St} {H:Hp} {s:Shared} {l b:Addr} {xs ys zs:List V}
theorem Inv.lset {its its':List Value} {n:Nat} {f:Array Value→Array Value} {t':Nat} (I:Inv X pins σ H s) (hH:H l=some (.lst xs))
  (e:s.heap.get? l=some { cls:=.type "list", data:=.seq its.toArray n }) (hf:f its.toArray=its'.toArray) (hv:Vals ys its') (hz:ys.length≤sizeLine) :
  Inv X pins σ (upd H l (.lst ys)) { s with heap:=s.heap.update l (Obj.mapSeq f),toks:=t' }:=by
 have q:=PySem.IsL.update e f
 rw [hf] at q
 refine I.write (x:=l) (e:=l) (by rw [hH];exact trivial) (.inl rfl) (fun b' u hb hu=>(Heap.get?_update_other s.heap (Obj.mapSeq f) (Ne.symm hb)).trans hu) ⟨_,q⟩ ?_
 exact ⟨hz,its',_,hv,q⟩
theorem Inv.lnew {its:List Value} {t':Nat} (I:Inv X pins σ H s) (hv:Vals ys its) (hz:ys.length≤sizeLine) :
  Inv X pins σ (upd H s.heap.objs.size (.lst ys)) { s with heap:=s.heap.push { cls:=.type "list", data:=.seq its.toArray },toks:=t' } :=
 I.laid (fun _ _ q=>Heap.get?_push_of_some _ q) (Nat.le_refl _) ⟨hz,its,0,hv,Heap.get?_push_size _ rfl⟩
theorem Inv.fresh (I:Inv X pins σ H s):H s.heap.objs.size=none:=I.hok.fresh (Nat.le_refl _)
theorem Inv.lstM (I:Inv X pins σ H s) (hH:H l=some (.lst xs)):xs.length≤sizeLine∧∃(its:List Value) (n:Nat),Vals xs its∧xs.length=its.length∧s.heap.get? l=some { cls:=.type "list", data:=.seq its.toArray n }:=by
 obtain ⟨z,its,n,r,e⟩:=I.hok l _ hH
 exact ⟨z,its,n,r,r.length,e⟩
theorem notLongL {n:Nat} (h:n≤sizeLine):Builtin.List.listTooLong n=false:=by
 unfold Builtin.List.listTooLong
 exact decide_eq_false (by lia)
end
section
variable {X:Cx}
def rAppend:V→List V→Hp→VK→Prop:=fun x vs H Q=>∃l xs y,x=.ref l∧vs=[y]∧H l=some (.lst xs)∧xs.length < sizeLine∧Q .non (upd H l (.lst (xs++[y])))
theorem mt_append:MtM X "list.append" rAppend:=by
 intro pins s σ H x vs v us Q I rx rv h
 obtain ⟨l,xs,y,rfl,rfl,hH,hz,q⟩:=h
 cases rx
 obtain ⟨u,rfl,ru⟩:=rv.one
 obtain ⟨z,its,n,r,hl,e⟩:=I.lstM hH
 refine call_meets F.slot_list_append ⟨_,e,rfl⟩ F.entry_list_append (F.args_list_append_2 _ _) (PySem.list_append l its.toArray n u (by rw [List.size_toArray];lia)) ⟨e,?_⟩
 refine ⟨.non,_,I.lset (its':=its++[u]) hH e (by simp) (r.append (.cons ru .nil)) ?_,rfl,q⟩
 rw [List.length_append,List.length_singleton]
 lia
def rCat:R2:=fun x y H Q=>∃l b xs zs,x=.ref l∧y=.ref b∧H l=some (.lst xs)∧H b=some (.lst zs)∧xs.length + zs.length≤sizeLine∧∀p,H p=none→Q (.ref p) (upd H p (.lst (xs++zs)))
theorem op_cat:OpR X (binaryOp .Add) rCat:=by
 intro pins s σ H x y v u Q I rx ry h
 obtain ⟨l,b,xs,zs,rfl,rfl,hH,hB,hz,q⟩:=h
 cases rx
 cases ry
 obtain ⟨z,its,n,r,hl,e⟩:=I.lstM hH
 obtain ⟨z2,its2,n2,r2,hl2,e2⟩:=I.lstM hB
 refine PySem.P.add_list e e2 ?_ (by rw [List.size_toArray,List.size_toArray];lia)
 have ea:its.toArray++its2.toArray=(its++its2).toArray:=by simp
 rw [ea]
 exact ⟨.ref _,_,I.lnew (t':=s.toks) (r.append r2) (by rw [List.length_append];lia),rfl,q _ I.fresh⟩
def rRep:R2:=fun x y H Q=>∃l k xs,x=.ref l∧y=.int k∧H l=some (.lst xs)∧-(2 ^ 63)≤k∧k < 2 ^ 63∧xs.length * k.toNat≤sizeLine ∧
 ∀p,H p=none→Q (.ref p) (upd H p (.lst (List.replicate k.toNat xs).flatten))
theorem len_rep {α:Type} (xs:List α) (k:Nat):(List.replicate k xs).flatten.length=k * xs.length:=by
 induction k with
 | zero=>simp
 | succ k ih=>rw [List.replicate_succ,List.flatten_cons,List.length_append,ih,Nat.succ_mul,Nat.add_comm]
theorem op_rep:OpR X (binaryOp .Mult) rRep:=by
 intro pins s σ H x y v u Q I rx ry h
 obtain ⟨l,k,xs,rfl,rfl,hH,h1,h2,hz,q⟩:=h
 cases rx
 obtain ⟨t,rfl⟩:=ry
 obtain ⟨z,its,n,r,hl,e⟩:=I.lstM hH
 have hlen:its.toArray.size * k.toNat≤sizeLine:=by rw [List.size_toArray,← hl];exact hz
 have hcap:¬ its.toArray.size * k.toNat > (2 ^ 63 - 1) / 8:=by
  have:(sizeLine:Nat)≤(2 ^ 63 - 1) / 8:=by decide
  lia
 have hfit:¬ (!Builtin.List.listFitsIndex k)=true:=by
  rw [fitsIndex_both h1 h2]
  exact Bool.false_ne_true
 have hlong:¬ Builtin.List.listTooLong (its.toArray.size * k.toNat)=true:=by
  rw [notLongL hlen]
  exact Bool.false_ne_true
 have hnew:List.foldl (fun x1 x2=>x1++x2) #[] (List.replicate (if its.toArray.isEmpty=true then 0 else k.toNat) its.toArray)=(List.replicate k.toNat its).flatten.toArray:=by
  have f0:∀m:Nat,List.foldl (fun x1 x2=>x1++x2) #[] (List.replicate m its.toArray)=(List.replicate m its).flatten.toArray:=fun m=>by
   have:=foldl_rep its m []
   rw [List.nil_append] at this
   exact this
  rw [f0]
  cases its with
  | nil=>simp
  | cons a r'=>rw [if_neg (by simp)]
 refine wpAny_binaryOp_repeat_ref (T := "list") (U := "int") (by decide) ⟨_,e,rfl⟩ (fun s'=>typeIs_int s' k t) noFill_list_mul F.fills_int_mul F.slot_int_rmul repeat_list F.slot_int_index.lookup
  (call_meets F.slot_int_rmul (typeIs_int s k t) F.entry_int_rmul (F.args_int_rmul_2 _ _) (int___rmul___int_list k t l its.toArray n)
   ⟨e,rfl,⟨_,e,rfl⟩,call_meets F.slot_list_mul ⟨_,e,rfl⟩ F.entry_list_mul (F.args_list_mul_2 _ _) (AutoListH.list___mul___list_int_3 l its.toArray n k t hfit hcap hlong) ⟨e,?_⟩⟩)
 rw [hnew]
 exact ⟨.ref _,_,I.lnew (t':=s.toks) (r.rep k.toNat) (by rw [len_rep,Nat.mul_comm];exact hz),rfl,q _ I.fresh⟩
end
end L2
namespace Att
open PySem PySem.W PySem.Calls PyProof.Rows
theorem ints_of_wellAll {P:Params} {h:Heap}:∀(ns:List Int) (vs:List Value),WellAll P h vs (ns.map WData.int)→IntsAre vs ns:=by
 intro ns
 induction ns with
 | nil =>
  intro vs w
  rw [List.map_nil] at w
  cases w
  exact .nil
 | cons n ns ih =>
  intro vs w
  rw [List.map_cons] at w
  cases w with
  | cons a b =>
   cases a
   exact .cons _ _ (ih _ b)
theorem script_of {l:OpenLaw} {n:Nat} (hn:l.most=some n) {P:Params} {h:Heap} {args:List WData} {vals:List Value}
  (hpre:l.row.toRowW.claim.pre args=true) (hwl:WellAll P h vals args) :
  ∃a vs ns,vals=[Value.ref a]∧args=[WData.list (ns.map WData.int)]∧h.get? a=some { cls:=.type "list", data:=.seq vs.toArray }∧IntsAre vs ns∧ns.length≤n:=by
 have hsh:WShape.hasAll [] args [.list .int]=true:=(pre_splitW hpre).1
 have hc:l.pre.holds [] { args:=args }=true:=(pre_splitW hpre).2
 obtain ⟨d,r,rfl,h1,h2⟩:=hasAllW_cons hsh
 obtain rfl:=hasAllW_nil h2
 obtain ⟨xs,rfl,h3⟩:=hasW_list h1
 obtain ⟨ns,rfl⟩:=items_int h3
 have hlen:ns.length≤n:=by
  unfold OpenLaw.pre at hc
  have h4:(WTm.not (.lt (.lit (.int (n:Int))) (.len (.arg 0)))).holds [] { args:=[.list (ns.map .int)] }=true:=by
   have h4:=(holds_andW hc).1
   rw [hn] at h4
   exact h4
  have h5:=condW_of h4 (w_not (w_lt w_lit (w_len_list (w_arg rfl))))
  rw [List.length_map] at h5
  refine Nat.le_of_not_lt fun q=>?_
  have q':(n:Int) < ((ns.length:Nat):Int):=by lia
  first
   | (rw [decide_eq_true q'] at h5;exact absurd h5 (by decide))
   | (simp at h5;lia)
 cases hwl with
 | cons w1 w2 =>
  cases w2
  cases w1 with
  | list ho hall=>exact ⟨_,_,ns,rfl,rfl,ho,ints_of_wellAll ns _ hall,hlen⟩
theorem post_true (l:OpenLaw) (args:List WData):l.row.toRowW.claim.post args (.bool true) args=true :=
 postW_of (r:=l.row.toRowW) (X:=(true == true))
  (show WShape.has [] (.bool true) .bool=true by first | rfl | decide | simp [WShape.has,WShape.arms,WShape.armsAll])
  (show (WTm.eq .res (.lit (.bool true))).value [] { args:=args,res:=some (.bool true),after:=args }=some (.bool (true == true)) from w_eq_bool (w_res rfl) w_lit) rfl
theorem attach_call {l:OpenLaw} {n:Nat} {q:Program} {loose:List Str} {XP:(Str→Option Value)→Heap→Prop} {YP:World→Heap→Prop} {d:DefRec}
  (hn:l.most=some n) (hdf:d.params.defaults=[])
  (call:∀(w:World) (s₀ s₁:Shared) (mg mb:Str→Option Value) (fa:Addr) (o:Obj) (pm cd doc:Value) (a:Addr) (vs:List Value) (ns:List Int),
   Ground q loose [] XP w s₀ mg mb s₁.heap→YP w s₁.heap →
   s₁.heap.get? fa=some o→o.data=.func (docDef d.name d.params d.body d.scope pm cd doc)→s₁.heap.CodeRec cd d.name→mg d.name=some (.ref fa) →
   s₁.heap.get? a=some { cls:=.type "list", data:=.seq vs.toArray }→IntsAre vs ns→ns.length≤n→s₁.gens=#[] →
   codeAny (model l.prog w) callerA (.call (.ref fa) ⟨[.ref a],[]⟩) (fun r s'=>r=.ok (.ret (.bool true))∧OldK s₁.heap s'.heap∧s'.os=s₁.os∧AllBare s'.gens) s₁) :
  WalkO q loose XP YP l.row.toRowW d [] (fun f vs=>PySem.call f vs):=by
 intro w s₀ s₁ mg mb G Y fa o pm cd doc dV kV ho hd hcd hD hmg hg args vals as hpre hlay hrd hwl hlo
 obtain rfl:dV=.none:=Dflts.none hD hdf
 obtain rfl:kV=.none:=Dflts.noKw hD
 obtain ⟨a,vs,ns,rfl,rfl,hobj,hints,hlen⟩:=script_of hn hpre hwl
 refine enter_call (codeAny_mono (call w s₀ s₁ mg mb fa o pm cd doc a vs ns G Y ho (fd_plain hd) hcd hmg hobj hints hlen hg) fun r s' hq=>?_)
 obtain ⟨rfl,h2,h3,h4⟩:=hq
 exact ⟨.inl ⟨.bool true,.bool true,[],rfl,fun _=>rfl,.bool true,post_true l _,fun _=>⟨List.Pairwise.nil,fun _ hm=>(nomatch hm)⟩⟩,h2,h3,h4⟩
end Att
namespace L2
open PySem PySem.Spec PyProof.Rows
theorem vals_ints:∀{vs:List Value} {ns:List Int},IntsAre vs ns→Vals (ns.map V.int) vs
 | _,_,.nil=>.nil
 | _,_,.cons n t h=>.cons ⟨t,rfl⟩ (vals_ints h)
def inClass (s:Stmt) (j:Nat):Stmt:=match s with
 | .ClassDef _ _ _ body _ _ _ _ _ _ _=>body.getD j (.Pass ⟨0,0,0,0⟩)
 | _=>.Pass ⟨0,0,0,0⟩
def defArgs (s:Stmt):Arguments:=match s with
 | .FunctionDef _ a _ _ _ _ _ _ _ _=>a
 | _=>{ posonlyargs:=[],args:=[],vararg:=none,kwonlyargs:=[],kw_defaults:=[],kwarg:=none,defaults:=[] }
def defBody (s:Stmt):List Stmt:=match s with
 | .FunctionDef _ _ b _ _ _ _ _ _ _=>b
 | _=>[]
def defScope (s:Stmt):Scope:=match s with
 | .FunctionDef _ _ _ _ _ _ sc _ _ _=>sc
 | _=>{ kind:=.function,names:=[],isGenerator:=false,isCoroutine:=false }
abbrev CX0:CXT:=fun _ _ _ _ _ _=>False
abbrev E0:XK:=fun _ _ _=>False
theorem pass0 {X:Cx}:Passes CX0 X E0:=fun _ _ _ _ _ _ _ h=>h.elim
structure Fun (K:W.Frag) (x qual:Str) (st:Stmt) (f:Addr) (fd:FuncData):Prop where
 ex:∃(oc:Value) (od:Option Addr) (kV doc pm:Value) (an:Option Addr) (cdv ct:Value) (osl:Array (Option Value)),
  fd=W.fnOf x qual (defArgs st) (defBody st) (defScope st) .none kV doc pm an cdv ct∧K.lookup f=some ⟨oc,od,.func fd,osl⟩∧W.codeIn K cdv qual=true
 kp:W.keepIn K (.ref f)=true
section
variable {P:Program} {w:World} {K:W.Frag} {mg:Str→Option Value} {base:Heap}
theorem Fun.ok {x qual:Str} {st:Stmt} {f:Addr} {fd:FuncData} {N ps:List Str} {k:Nat} {sp:Sp} (F:Fun K x qual st f fd) (S:FnScope N ps (defScope st)) (len:∀vs H Q E,sp vs H Q E→vs.length=ps.length)
  (hbody:∀(cdv:Value) (A:Around) (outer:List Env) (s:Shared) (H:Hp) (vs:List V) (Q:VK) (E:XK),Room k (A.deeper (envOfC qual (defScope st) s.heap.objs.size f cdv))→sp vs H Q E →
   ∃t,PSs (cxOf CX0 P w K mg base N qual (defScope st) f cdv A outer s H E).nox (defBody st) t∧t { nx:=fun _ H'=>Q .non H',rt:=Q } (start N vs) H):FnOk P w K mg base CX0 (k + 1) f fd ps sp:=by
 obtain ⟨oc,od,kV,doc,pm,an,cdv,ct,osl,rfl,lk,hcd⟩:=F.ex
 refine fn_of lk hcd S len fun A outer s H vs Q E hr hsp=>?_
 obtain ⟨t,h,q⟩:=hbody cdv A outer s H vs Q E hr hsp
 exact ⟨t,h.nox,q⟩
theorem Fun.binds {x qual:Str} {st:Stmt} {f:Addr} {fd:FuncData} {ps:List Str} (F:Fun K x qual st f fd)
  (h:∀(kV doc pm:Value) (an:Option Addr) (cdv ct:Value) (us:List Value),us.length=ps.length→bindArgs (W.fnOf x qual (defArgs st) (defBody st) (defScope st) .none kV doc pm an cdv ct) ⟨us,[]⟩=pure (ps.zip us)):Binds K fd ps []:=by
 obtain ⟨oc,od,kV,doc,pm,an,cdv,ct,osl,rfl,lk,hcd⟩:=F.ex
 exact .all (h kV doc pm an cdv ct)
theorem fun_mk {x qual:Str} {st:Stmt} {f:Addr} {oc:Value} {od an:Option Addr} {osl:Array (Option Value)} {kV doc pm cdv ct:Value} (l:K.lookup f=some ⟨oc,od,.func (W.fnOf x qual (defArgs st) (defBody st) (defScope st) .none kV doc pm an cdv ct),osl⟩)
  (c:W.codeIn K cdv qual=true) (k:W.keepIn K (.ref f)=true):Fun K x qual st f (W.fnOf x qual (defArgs st) (defBody st) (defScope st) .none kV doc pm an cdv ct):=⟨⟨oc,od,kV,doc,pm,an,cdv,ct,osl,rfl,l,c⟩,k⟩
end
section
variable {X:Cx}
theorem pv (i:Nat) {x:Str} {pos:Pos} (hN:X.N[i]?=some x:=by rfl) (hv:Vis X.env.scope x:=by first | exact Or.inl rfl | exact Or.inr (Or.inl rfl) | exact Or.inr (Or.inr rfl)) (hd:(x == ("__debug__" : Str))=false:=by decide)
  (hcd:(x == ("__classdict__" : Str))=false:=by decide):PE X (.Name x pos) (tVar i):=pe_var hN hv hd hcd
end
theorem iteF {A B:Prop} (h:B):if false=true then A else B:=by
 rw [if_neg Bool.false_ne_true]
 exact h
theorem iteT {A B:Prop} (h:A):if true=true then A else B:=by
 rw [if_pos rfl]
 exact h
def Same (H H':Hp):Prop:=∀b o,H b=some o→H' b=some o
theorem Same.refl (H:Hp):Same H H:=fun _ _ h=>h
theorem Same.trans {H H1 H2:Hp} (a:Same H H1) (b:Same H1 H2):Same H H2:=fun c o h=>b c o (a c o h)
theorem Same.free {H H':Hp} (e:Same H H') {l:Addr} (h:H' l=Option.none):H l=Option.none:=by
 cases q:H l with
 | none=>rfl
 | some o =>
  rw [e l o q] at h
  cases h
theorem Same.seq {K:W.Frag} {H H':Hp} {a:Addr} {xs:List V} (e:Same H H') (h:SqL K H a xs):SqL K H' a xs:=by
 rcases h with (h | ⟨o,h⟩) | h
 ·exact .inl (.inl (e _ _ h))
 ·exact .inl (.inr ⟨o,e _ _ h⟩)
 ·exact .inr h
section
variable {κ:Type} [DecidableEq κ]
def valV (kvs:List (κ×V)) (k:κ):Option V:=(kvs.find? fun kv=>decide (kv.1=k)).map (·.2)
def putK (kvs:List (κ×V)) (k:κ) (v:V):List (κ×V) :=
 if (kvs.any fun kv=>decide (kv.1=k))=true then kvs.map (fun kv=>if kv.1=k then (kv.1,v) else kv) else kvs++[(k,v)]
theorem valV_pos {p:κ×V} {r:List (κ×V)} {k:κ} (e:p.1=k):valV (p::r) k=some p.2:=by simp [valV,List.find?_cons,e]
theorem valV_neg {p:κ×V} {r:List (κ×V)} {k:κ} (e:¬ p.1=k):valV (p::r) k=valV r k:=by simp [valV,List.find?_cons,e]
theorem RelO.getD {o:Option V} {u:Option Value} {d:V} {d':Value} (r:RelO o u) (rd:RelV d d'):RelV (o.getD d) (u.getD d'):=by
 cases o with
 | none=>cases u with
  | none=>exact rd
  | some _=>exact (show False from r).elim
 | some _=>cases u with
  | none=>exact (show False from r).elim
  | some _=>exact r
theorem KV.val {kvs:List (κ×V)} {vs:List (κ×Value)} (r:KV kvs vs) (k:κ):RelO (valV kvs k) (valueAt vs k):=by
 unfold KV at r
 induction r with
 | nil=>exact True.intro
 | @cons p q ps qs h t ih =>
  obtain ⟨h1,h2⟩:=h
  by_cases e:p.1=k
  ·have e':q.1=k:=h1.symm.trans e
   have b:valueAt (q::qs) k=some q.2:=by simp [valueAt,List.find?_cons,e']
   rw [valV_pos e,b];exact h2
  ·have e':¬ q.1=k:=fun z=>e (h1.trans z)
   have b:valueAt (q::qs) k=valueAt qs k:=by simp [valueAt,List.find?_cons,e']
   rw [valV_neg e,b];exact ih
theorem KV.any {kvs:List (κ×V)} {vs:List (κ×Value)} (r:KV kvs vs) (k:κ):(kvs.any fun kv=>decide (kv.1=k))=vs.any fun kv=>decide (kv.1=k):=by
 unfold KV at r
 induction r with
 | nil=>rfl
 | cons h t ih=>rw [List.any_cons,List.any_cons,ih,h.1]
theorem KV.keys {kvs:List (κ×V)} {vs:List (κ×Value)} (r:KV kvs vs):kvs.map (·.1)=vs.map (·.1):=by
 unfold KV at r
 induction r with
 | nil=>rfl
 | cons h t ih=>rw [List.map_cons,List.map_cons,ih,h.1]
theorem KV.length {kvs:List (κ×V)} {vs:List (κ×Value)} (r:KV kvs vs):kvs.length=vs.length:=Paired.length r
end
abbrev KT (H:Hp):List (List Key×V)→List (List Key×Addr×Value)→Prop:=Paired fun p q=>p.1=q.1∧H q.2.1=some (.tup (p.1.map kV))∧RelV p.2 q.2.2
theorem KT.val {H:Hp} {kvs:List (List Key×V)} {xs:List (List Key×Addr×Value)} (r:KT H kvs xs) (k:List Key):RelO (valV kvs k) ((atKey xs k).map (·.2)):=by
 induction r with
 | nil=>exact True.intro
 | @cons p q ps qs h t ih =>
  obtain ⟨h1,_,h2⟩:=h
  by_cases e:p.1=k
  ·have e':q.1=k:=h1.symm.trans e
   have b:atKey (q::qs) k=some q.2:=by simp [atKey,List.find?_cons,e']
   rw [valV_pos e,b];exact h2
  ·have e':¬ q.1=k:=fun z=>e (h1.trans z)
   have b:atKey (q::qs) k=atKey qs k:=by simp [atKey,List.find?_cons,e']
   rw [valV_neg e,b];exact ih
section
variable {P:Program} {w:World} {H:Hp} {h:Heap} {a:Addr}
theorem rd_of {u:HO} (ok:HOk P w H h) (e:Rd H a u):ObjOk P w H h a u:=e.ok ok
theorem dk_rd {kvs:List (Key×V)} (ok:HOk P w H h) (e:Rd H a (.dK kvs)):kvs.length≤sizeLine∧(a == sysModules)=false∧∃vs,KV kvs vs∧h.DictOf (mixKind P w) a vs :=
 show ObjOk P w H h a (.dK kvs) from rd_of ok e
theorem dk_of {kvs:List (Key×V)} (ok:HOk P w H h) (e:H a=some (.dK kvs)):kvs.length≤sizeLine∧(a == sysModules)=false∧∃vs,KV kvs vs∧h.DictOf (mixKind P w) a vs:=dk_rd ok (.inl e)
end
def DGet (H:Hp) (a:Addr) (y:V) (r:Option V):Prop :=
 (∃kvs k,Rd H a (.dK kvs)∧y=kV k∧r=valV kvs k)∨∃kvs k b,Rd H a (.dT kvs)∧y=.ref b∧H b=some (.tup (k.map kV))∧r=valV kvs k
def DPut (H:Hp) (a:Addr) (y v:V) (H':Hp):Prop :=
 (∃kvs k,H a=some (.dK kvs)∧y=kV k∧kvs.length < sizeLine∧H'=upd H a (.dK (putK kvs k v))) ∨
 ∃kvs k b,H a=some (.dT kvs)∧y=.ref b∧H b=some (.tup (k.map kV))∧kvs.length < sizeLine∧H'=upd H a (.dT (putK kvs k v))
theorem DGet.k {H:Hp} {a:Addr} {kvs:List (Key×V)} {k:Key} (e:H a=some (.dK kvs)):DGet H a (kV k) (valV kvs k):=.inl ⟨kvs,k,.inl e,rfl,rfl⟩
theorem DGet.t {H:Hp} {a b:Addr} {kvs:List (List Key×V)} {k:List Key} (e:H a=some (.dT kvs)) (eb:H b=some (.tup (k.map kV))):DGet H a (.ref b) (valV kvs k):=.inr ⟨kvs,k,b,.inl e,rfl,eb,rfl⟩
theorem DPut.k {H:Hp} {a:Addr} {kvs:List (Key×V)} {k:Key} {v:V} (e:H a=some (.dK kvs)) (hl:kvs.length < sizeLine):DPut H a (kV k) v (upd H a (.dK (putK kvs k v))):=.inl ⟨kvs,k,e,rfl,hl,rfl⟩
theorem DPut.t {H:Hp} {a b:Addr} {kvs:List (List Key×V)} {k:List Key} {v:V} (e:H a=some (.dT kvs)) (eb:H b=some (.tup (k.map kV))) (hl:kvs.length < sizeLine) :
  DPut H a (.ref b) v (upd H a (.dT (putK kvs k v))):=.inr ⟨kvs,k,b,e,rfl,eb,hl,rfl⟩
section
variable {X:Cx} {pins:List (Addr×Obj)} {σ:St} {H:Hp} {s:Shared} {a:Addr} {y v:V} {u r:Value} {o:Option V} {A:Around} {E:Value→Shared→Prop}
theorem Inv.big (I:Inv X pins σ H s):sysModules < s.heap.objs.size:=by
 have h:mainGlobals < s.heap.objs.size:=(I.mod.glob.keeps I.bk).lt
 exact Nat.lt_trans (by decide) h
end
theorem dk_empty {P:Program} {w:World} {H:Hp} (h:Heap) (hb:sysModules < h.objs.size):ObjOk P w H (h.push { cls:=.type "dict", data:=.dict #[] }) h.objs.size (.dK []) :=
 ⟨Nat.zero_le _,beq_eq_false_iff_ne.mpr (Ne.symm (Nat.ne_of_lt hb)),[],.nil,Heap.DictOf.new h⟩
def tDNewK:TE:=fun _ H Q=>∀p,H p=none→Q (.ref p) (upd H p (.dK []))
section
variable {X:Cx} {pos:Pos}
theorem pe_dnewK:PE X (.Dict [] [] pos) tDNewK:=fun pins s σ H Q I h =>
 wpAny_Dict_empty ⟨.ref s.heap.objs.size,_,I.laid (a:=s.heap.objs.size) (o:=.dK []) (t':=s.toks) (fun _ _ q=>Heap.get?_push_of_some _ q) (Nat.le_refl _) (dk_empty s.heap I.big),rfl,h _ (I.hok.fresh (Nat.le_refl _))⟩
end
end L2
set_option maxHeartbeats 4000000
namespace L2
open PySem PySem.Spec PyProof.Rows
section
variable {P:Program} {w:World} {K:W.Frag} {mg:Str→Option Value} {base:Heap} {CX:CXT} {x:Str} {ps:List Str} {sp:Sp} {j k:Nat}
structure Def (P:Program) (w:World) (K:W.Frag) (mg:Str→Option Value) (base:Heap) (CX:CXT) (k:Nat) (x:Str) (ps:List Str) (sp:Sp):Prop where
 ex:∃(f:Addr) (fd:FuncData),FnOk P w K mg base CX k f fd ps sp∧mg x=some (.ref f)∧W.keepIn K (.ref f)=true∧Binds K fd ps []
def HasDef (K:W.Frag) (mg:Str→Option Value) (x:Str) (st:Stmt):Prop:=∃(f:Addr) (fd:FuncData),Fun K x x st f fd∧mg x=some (.ref f)
theorem HasDef.mk {st:Stmt} {f:Addr} {oc:Value} {od an:Option Addr} {osl:Array (Option Value)} {kV doc pm cdv ct:Value} (m:mg x=some (.ref f))
  (l:K.lookup f=some ⟨oc,od,.func (W.fnOf x x (defArgs st) (defBody st) (defScope st) .none kV doc pm an cdv ct),osl⟩)
  (c:W.codeIn K cdv x=true) (k:W.keepIn K (.ref f)=true):HasDef K mg x st:=⟨f,_,fun_mk l c k,m⟩
theorem def_of {st:Stmt} {N:List Str} (h:HasDef K mg x st) (S:FnScope N ps (defScope st)) (len:∀vs H Q E,sp vs H Q E→vs.length=ps.length)
  (hb:∀(kV doc pm:Value) (an:Option Addr) (cdv ct:Value) (us:List Value),us.length=ps.length→bindArgs (W.fnOf x x (defArgs st) (defBody st) (defScope st) .none kV doc pm an cdv ct) ⟨us,[]⟩=pure (ps.zip us))
  (hbody:∀(f:Addr) (cdv:Value) (A:Around) (outer:List Env) (s:Shared) (H:Hp) (vs:List V) (Q:VK) (E:XK),Room k (A.deeper (envOfC x (defScope st) s.heap.objs.size f cdv))→sp vs H Q E →
   ∃t,PSs (cxOf CX P w K mg base N x (defScope st) f cdv A outer s H E).nox (defBody st) t∧t { nx:=fun _ H'=>Q .non H',rt:=Q } (start N vs) H):Def P w K mg base CX (k + 1) x ps sp:=by
 obtain ⟨f,fd,F,m⟩:=h
 refine ⟨f,fd,?_,m,F.kp,F.binds hb⟩
 obtain ⟨oc,od,kV,doc,pm,an,cdv,ct,osl,rfl,lk,hcd⟩:=F.ex
 refine fn_of lk hcd S len fun A outer s H vs Q E hr hsp=>?_
 obtain ⟨t,h,q⟩:=hbody f cdv A outer s H vs Q E hr hsp
 exact ⟨t,h.nox,q⟩
end
section
variable {X:Cx} {CX:CXT} {k m:Nat} {x:Str} {ps:List Str} {sp:Sp} {E:XK} {p pos:Pos} {e:Expr} {es:List Expr} {t:TA}
theorem pe_def (D:Def X.prog X.w X.K X.mg X.base CX k x ps sp) (hr:Room m X.A) (ha:PA X (e::es) t) (hk:k≤m:=by decide) (hx:Passes CX X E:=by exact pass0) (hg:Gl X x:=by rfl)
  (hdb:(x == ("__debug__" : Str))=false:=by decide) (he:starEach (e::es) X.env=(false,eval e X.env)::starEach es X.env:=by rfl) (hpl:(backTo pos (starEach es X.env)).any (·.1)=false:=by rfl) :
  PE X (.Call (.Name x p) (e::es) [] pos) (tCall sp [] E t):=by
 obtain ⟨f,fd,F,hm,kp,b⟩:=D.ex
 exact pe_call F (hr.mono hk) hg hm kp b .nil hx ha hdb he hpl
end
def GlobIs (mg:Str→Option Value) (x:Str) (v:V):Prop:=∃u,mg x=some u∧RelV v u
theorem pe_gl {X:Cx} {x:Str} {v:V} {pos:Pos} (h:GlobIs X.mg x v) (hg:Gl X x:=by rfl) (hd:(x == ("__debug__" : Str))=false:=by decide):PE X (.Name x pos) (tC v) :=
 let ⟨_,e,r⟩:=h
 pe_glob hg e r hd
section
variable {X:Cx} {T:String} {pos:Pos}
theorem pe_ty {x:Str} (hg:Gl X x) (hm:X.mg x=none) (hv:bootBuiltins x=some (.type T)) (hn:x ≠ "__name__" := by decide) (hd:(x == ("__debug__" : Str))=false:=by decide):PE X (.Name x pos) (tC (.ty T)) :=
 pe_bltn hg hm hv rfl hn hd
def clsIs (K:W.Frag) (t:Value):V→Option Bool
 | .ty T=>W.kitOne K t (.type T)
 | .ref C=>W.kitOne K t (.ref C)
 | _=>none
theorem call_isinstance:CallR X (.builtin "isinstance") (fun xs H Q=>∃x c t b,xs=[x,c]∧TyOf X.K H x t∧clsIs X.K t c=some b∧Q (.bl b) H):=by
 intro pins s σ H xs us Q I r h
 obtain ⟨x,c,t,b,rfl,ty,e,q⟩:=h
 obtain ⟨u,v,rfl,ru,rv⟩:=vals2 r
 cases c with
 | ty T =>
  obtain rfl:v=Value.type T:=rv
  exact isinst_ok I ru ty e fun tk=>⟨.bl b,H,I.tok _,rfl,q⟩
 | ref C =>
  obtain rfl:v=Value.ref C:=rv
  exact isinst_ok I ru ty e fun tk=>⟨.bl b,H,I.tok _,rfl,q⟩
 | _=>cases e
end
section
variable {X:Cx}
theorem vals_bools:∀{bs:List Bool} {us:List Value},Vals (bs.map V.bl) us→LSm.BoolsAre us bs
 | [],_,.nil=>.nil
 | b::bs,_,.cons r t=>by
  cases (show _=Value.bool b from r)
  exact .cons b (vals_bools t)
theorem call_all (hc:X.calm=true):CallR X (.builtin "all") (fun xs H Q=>∃(p:Addr) (bs:List Bool),xs=[.ref p]∧SqL X.K H p (bs.map V.bl)∧Q (.bl (bs.all id)) H):=by
 intro pins s σ H xs us Q I r h
 obtain ⟨p,bs,rfl,hq,q⟩:=h
 obtain ⟨u,rfl,rx⟩:=vals1 r
 cases rx
 obtain ⟨its,rv,pl,hz⟩:=I.list hq
 have hb:=vals_bools rv
 have hl:=pl.isList
 have hlt:p < s.heap.objs.size:=by obtain ⟨_,e,_⟩:=hl;exact Heap.lt_size e
 refine call_all_walk (wpAny_pyIter_list hl ?_)
 refine ⟨s.heap.objs.size,[s.heap.objs.size,p],[s.heap.objs.size],its.toArray.size,_,_,fun i=>(bs[i]?).getD true,rfl,Walks.list (A:=X.A.in1) (I.ok.hd hc) _ p (Nat.ne_of_lt hlt) its.toArray,
  ⟨⟨_,Heap.get?_push_size _ rfl,rfl,rfl⟩,hl.push _⟩,fun i v s' Q' E' hP hQ=>?_,fun h' tk hk=>?_⟩
 ·obtain ⟨b,e,rfl⟩:=hb.get i v (by simpa using hP)
  simp only [e,Option.getD_some] at hQ
  exact wpAny_truthy_bool hQ
 ·have e:((List.range its.toArray.size).all fun i=>(bs[i]?).getD true)=bs.all id:=by
   rw [List.size_toArray,hb.length];exact LSm.range_all bs
  rw [e]
  exact ⟨.bl _,H,I.kept (LSm.kept_iter hk),rfl,q⟩
theorem call_any (hc:X.calm=true):CallR X (.builtin "any") (fun xs H Q=>∃(p:Addr) (bs:List Bool),xs=[.ref p]∧SqL X.K H p (bs.map V.bl)∧Q (.bl (bs.any id)) H):=by
 intro pins s σ H xs us Q I r h
 obtain ⟨p,bs,rfl,hq,q⟩:=h
 obtain ⟨u,rfl,rx⟩:=vals1 r
 cases rx
 obtain ⟨its,rv,pl,hz⟩:=I.list hq
 have hb:=vals_bools rv
 have hl:=pl.isList
 have hlt:p < s.heap.objs.size:=by obtain ⟨_,e,_⟩:=hl;exact Heap.lt_size e
 refine call_any_walk (wpAny_pyIter_list hl ?_)
 refine ⟨s.heap.objs.size,[s.heap.objs.size,p],[s.heap.objs.size],its.toArray.size,_,_,fun i=>(bs[i]?).getD false,rfl,Walks.list (A:=X.A.in1) (I.ok.hd hc) _ p (Nat.ne_of_lt hlt) its.toArray,
  ⟨⟨_,Heap.get?_push_size _ rfl,rfl,rfl⟩,hl.push _⟩,fun i v s' Q' E' hP hQ=>?_,fun h' tk hk=>?_⟩
 ·obtain ⟨b,e,rfl⟩:=hb.get i v (by simpa using hP)
  simp only [e,Option.getD_some] at hQ
  exact wpAny_truthy_bool hQ
 ·have e:((List.range its.toArray.size).any fun i=>(bs[i]?).getD false)=bs.any id:=by
   rw [List.size_toArray,hb.length];exact LSm.range_any bs
  rw [e]
  exact ⟨.bl _,H,I.kept (LSm.kept_iter hk),rfl,q⟩
end
section
variable {X:Cx}
theorem op_in_str1:OpR X (compareOp .In) (fun x y H Q=>∃c j,x=.str ⟨#[c]⟩∧y=.str j∧Q (.bl (decide (c∈j.cps.toList))) H):=by
 intro pins s σ H x y v u Q I rx ry h
 obtain ⟨c,j,rfl,rfl,q⟩:=h
 obtain ⟨t,rfl⟩:=rx
 obtain ⟨t',rfl⟩:=ry
 exact in_str (fin_bl I q (PySem.StrLaws.found_one j c).symm)
def Its (z:Str):It:=⟨fun i _=>i < z.cps.size,fun i H x H'=>H'=H∧∃c,z.cps[i]?=some c∧x=.str ⟨#[c]⟩,fun i _=>z.cps.size≤i⟩
section
variable {P:Program} {w:World} {K:W.Frag} {tg:Expr}
theorem turn_strA (it:Addr) (z:Str) (t:Tok):Turn P w K tg (Its z) [it] it (fun i h=>h.IsStrIter it "str_ascii_iterator" z t i) where
 mem:=by simp
 obj:=fun i h st b hb=>by
  have e:b=it:=by simpa using hb
  subst e
  obtain ⟨o,e,c,d⟩:=st
  exact ⟨o,e,fun v z=>by rw [d] at z;cases z⟩
 keep:=fun i h h' st k=>let ⟨o,e,r⟩:=st;⟨o,k it (by simp) o e,r⟩
 item:=by
  intro X hP hw hK hc i pins s σ H E I hf st hg
  subst hP hw hK
  obtain ⟨f0,f1,f2,f3,f4,f5⟩:=hf it (by simp)
  have hi:i < z.cps.size:=hg
  refine wpAny_pyNext_ascii_item st (c:=z.cps[i]) (by simp [hi]) fun h' st' sb=>?_
  have I1:Inv X pins σ H { s with heap:=h',toks:=s.toks + 1 }:=I.turned (fun b o hb e=>sb.extBut b o hb e) f0 f1 f3 f4 f5
  obtain ⟨o,e,c,d⟩:=id st'
  exact ⟨_,rfl,go_of (s:={ s with heap:=h',toks:=s.toks + 1 }) e c d (by decide) ⟨.str ⟨#[z.cps[i]]⟩,H,I1,⟨_,rfl⟩,⟨rfl,z.cps[i],by simp [hi],rfl⟩,st',fun b hb=>(hf b hb).1⟩⟩
 done:=by
  intro X hP hw hK hc i pins s σ H E I hf st hg
  subst hP hw hK
  obtain ⟨f0,f1,f2,f3,f4,f5⟩:=hf it (by simp)
  have hi:z.cps.size≤i:=hg
  exact wpAny_pyNext_ascii_end (I.ok.hd hc) st (by simp [hi]) fun h' eb=>⟨rfl,I.turned (t':=s.toks) (fun b o hb e=>eb b o hb e) f0 f1 f3 f4 f5⟩
 self:=fun _ _ _ _ _ st h=>wpAny_pyIter_striter_ascii st h
theorem turn_strW (it:Addr) (z:Str) (t:Tok):Turn P w K tg (Its z) [it] it (fun i h=>h.IsStrIter it "str_iterator" z t i) where
 mem:=by simp
 obj:=fun i h st b hb=>by
  have e:b=it:=by simpa using hb
  subst e
  obtain ⟨o,e,c,d⟩:=st
  exact ⟨o,e,fun v z=>by rw [d] at z;cases z⟩
 keep:=fun i h h' st k=>let ⟨o,e,r⟩:=st;⟨o,k it (by simp) o e,r⟩
 item:=by
  intro X hP hw hK hc i pins s σ H E I hf st hg
  subst hP hw hK
  obtain ⟨f0,f1,f2,f3,f4,f5⟩:=hf it (by simp)
  have hi:i < z.cps.size:=hg
  refine wpAny_pyNext_wide_item st (c:=z.cps[i]) (by simp [hi]) fun h' st' sb=>?_
  have I1:Inv X pins σ H { s with heap:=h',toks:=s.toks + 1 }:=I.turned (fun b o hb e=>sb.extBut b o hb e) f0 f1 f3 f4 f5
  obtain ⟨o,e,c,d⟩:=id st'
  exact ⟨_,rfl,go_of (s:={ s with heap:=h',toks:=s.toks + 1 }) e c d (by decide) ⟨.str ⟨#[z.cps[i]]⟩,H,I1,⟨_,rfl⟩,⟨rfl,z.cps[i],by simp [hi],rfl⟩,st',fun b hb=>(hf b hb).1⟩⟩
 done:=by
  intro X hP hw hK hc i pins s σ H E I hf st hg
  subst hP hw hK
  obtain ⟨f0,f1,f2,f3,f4,f5⟩:=hf it (by simp)
  have hi:z.cps.size≤i:=hg
  exact wpAny_pyNext_wide_end (I.ok.hd hc) st (by simp [hi]) fun h' eb=>⟨rfl,I.turned (t':=s.toks) (fun b o hb e=>eb b o hb e) f0 f1 f3 f4 f5⟩
 self:=fun _ _ _ _ _ st h=>wpAny_pyIter_striter_wide st h
end
def iStr (tl:TE):TI:=fun σ H R=>tl σ H fun x H1=>∃z,x=.str z∧R (Its z) H1
theorem pi_str {tg l:Expr} {tl:TE} (hl:PE X l tl):PI X tg l (iStr tl):=by
 intro pins s σ H R I h
 refine thn (hl pins s σ H _ I h) fun v s1 ⟨x,H1,I1,r1,q1⟩=>?_
 obtain ⟨z,e,q⟩:=q1
 subst e
 obtain ⟨t,rfl⟩:=r1
 have fp:∀(b:Addr),b∈[s1.heap.objs.size]→FpOk X pins H1 b:=fun b hb=>by
  have e:b=s1.heap.objs.size:=by simpa using hb
  subst e
  exact I1.fpOk (Nat.le_refl _) (I1.hok.fresh (Nat.le_refl _))
 cases ha:z.cps.all (· < 128)
 ·exact wpAny_pyIter_wide ha ⟨s1.heap.objs.size,[s1.heap.objs.size],_,_,H1,rfl,I1.kept (t':=s1.toks) fun b o e=>Heap.get?_push_of_some _ e,turn_strW _ z t,⟨_,Heap.get?_push_size _ rfl,rfl,rfl⟩,fp,q⟩
 ·exact wpAny_pyIter_ascii ha ⟨s1.heap.objs.size,[s1.heap.objs.size],_,_,H1,rfl,I1.kept (t':=s1.toks) fun b o e=>Heap.get?_push_of_some _ e,turn_strA _ z t,⟨_,Heap.get?_push_size _ rfl,rfl,rfl⟩,fp,q⟩
end
def closOf (env:Env):List (Str×NameKind)→Option (List (Str×Addr))
 | []=>some []
 | (n,k)::r=>if k=.free then (env.cells.lookup n).bind fun c=>(closOf env r).map fun cl=>cl++[(n,c)] else closOf env r
theorem closOf_lookup {env:Env}:∀{names:List (Str×NameKind)} {cl:List (Str×Addr)},closOf env names=some cl→∀x c,cl.lookup x=some c→env.cells.lookup x=some c
 | [],cl,h,x,c,e=>by
  cases (Option.some.inj h)
  cases e
 | (n,k)::r,cl,h,x,c,e=>by
  unfold closOf at h
  by_cases hk:k=.free
  ·rw [if_pos hk] at h
   cases hc:env.cells.lookup n with
   | none=>rw [hc] at h;cases h
   | some c' =>
    rw [hc] at h
    have h:(closOf env r).map (fun cl=>cl++[(n,c')])=some cl:=h
    cases hr:closOf env r with
    | none=>rw [hr] at h;cases h
    | some cl' =>
     rw [hr] at h
     have h:cl'++[(n,c')]=cl:=Option.some.inj h
     subst h
     rw [List.lookup_append] at e
     cases h2:cl'.lookup x with
     | some c2 =>
      rw [h2] at e
      have e:c2=c:=by simpa using e
      subst e
      exact closOf_lookup hr x c2 h2
     | none =>
      rw [h2] at e
      have e:List.lookup x [(n,c')]=some c:=by simpa using e
      by_cases hx:x=n
      ·subst hx
       have:c'=c:=by simpa using e
       subst this
       exact hc
      ·have hb:(x == n)=false:=by simpa using hx
       simp [List.lookup_cons,hb] at e
  ·rw [if_neg hk] at h
   exact closOf_lookup h x c e
theorem closureFor_go {env:Env}:∀(names:List (Str×NameKind)) (acc cl:List (Str×Addr)),closOf env names=some cl →
  (forIn (m:=Sem) names acc fun x c=>if x.2 == NameKind.free then (do let a ← cellOf env x.1;pure (ForInStep.yield ((x.1,a)::c))) else pure (ForInStep.yield c))=pure (cl++acc)
 | [],acc,cl,h=>by
  cases (Option.some.inj h)
  rfl
 | (n,k)::r,acc,cl,h=>by
  unfold closOf at h
  rw [List.forIn_cons]
  by_cases hk:k=.free
  ·rw [if_pos hk] at h
   cases hc:env.cells.lookup n with
   | none=>rw [hc] at h;cases h
   | some c' =>
    rw [hc] at h
    have h:(closOf env r).map (fun cl=>cl++[(n,c')])=some cl:=h
    cases hr:closOf env r with
    | none=>rw [hr] at h;cases h
    | some cl' =>
     rw [hr] at h
     have h:cl'++[(n,c')]=cl:=Option.some.inj h
     subst h
     have hb:(k == NameKind.free)=true:=by simpa using hk
     have:=closureFor_go r ((n,c')::acc) cl' hr
     have ec:cellOf env n=pure c':=by unfold cellOf;rw [hc]
     simp only [hb,if_true,ec,pure_bind,bind_assoc]
     rw [this]
     simp
  ·rw [if_neg hk] at h
   have hb:(k == NameKind.free)=false:=by simpa using hk
   have:=closureFor_go r acc cl h
   simp only [hb,Bool.false_eq_true,if_false,pure_bind]
   exact this
theorem closureFor_of {env:Env} {scope:Scope} {cl:List (Str×Addr)} (h:closOf env scope.names=some cl):closureFor scope env=pure cl:=by
 have:=closureFor_go scope.names [] cl h
 rw [List.append_nil] at this
 have key:closureFor scope env=(forIn (m:=Sem) scope.names ([]:List (Str×Addr)) fun x c=>if x.2 == NameKind.free then (do let a ← cellOf env x.1;pure (ForInStep.yield ((x.1,a)::c))) else pure (ForInStep.yield c)) >>= fun cs=>pure cs:=by
  unfold closureFor
  rfl
 rw [key,this]
 rfl
theorem comp_loop {prog:Program} {w:World} {A:Around} {R:Result→Shared→Prop} {s:Shared} {elt target iter:Expr} {ifs:List Expr} {scope:Scope} {pos:Pos} {it acc:Value} {env:Env} (I:Nat→Shared→Prop)
  (turn:∀n s,I n s→wpAny (model prog w) A (pyNext it) (fun r s₁=>match r with
   | none=>R (.ok .next) s₁
   | some v=>wpAny (model prog w) A (letOwnedTupleGo target it v) (fun _ s₀=>wpAny (model prog w) A (assign target env v) (fun _ s₂ =>
     wpAny (model prog w) A (forIn ifs true fun c r=>if r=true then do let ok ← isTrue c env (eval c env);pure (ForInStep.yield ok) else pure (ForInStep.yield r)) (fun ok s₃ =>
      if ok=true then wpAny (model prog w) A (eval elt env) (fun x s₄ =>
       wpAny (model prog w) A (call (.builtin "list.append") [acc,x]) (fun _ s₅=>∃m,m < n∧I m s₅) (fun _ _=>False) s₄) (fun _ _=>False) s₃
      else ∃m,m < n∧I m s₃) (fun _ _=>False) s₂) (fun _ _=>False) s₀) (fun _ _=>False) s₁) (fun _ _=>False) s)
  (n:Nat) (h:I n s) :
  codeAny (model prog w) A (.compLoop (.ListComp elt [⟨target,iter,ifs,0⟩] scope pos) 0 it acc env) R s:=by
 refine codeAny_loop rfl I (fun n s hI=>?_) n h
 show wpAny _ A ((compTurn (.ListComp elt [⟨target,iter,ifs,0⟩] scope pos) 0 it acc env).onRaise (fun x=>do noteFrame x env;theTreesLotGoes x)) _ _ s
 refine wpAny_noted ?_
 rw [compTurn_list]
 refine wpAny_bind (wpAny_standAt (wpAny_bind (wpAny_mono (turn n s hI) (fun r s₁ h₁=>?_) fun _ _ h'=>h'.elim)))
 cases r with
 | none=>exact wpAny_pure h₁
 | some v =>
  refine wpAny_bind (wpAny_mono h₁ (fun _ s₀ h₀=>?_) fun _ _ h'=>h'.elim)
  refine wpAny_bind (wpAny_mono h₀ (fun _ s₂ h₂=>wpAny_bind (wpAny_mono h₂ (fun ok s₃ h₃=>?_) fun _ _ h'=>h'.elim)) fun _ _ h'=>h'.elim)
  cases ok with
  | false=>exact wpAny_pure ⟨rfl,h₃⟩
  | true =>
   exact wpAny_bind (wpAny_bind (wpAny_mono h₃ (fun x s₄ h₄=>wpAny_bind (wpAny_mono h₄ (fun _ s₅ h₅=>wpAny_pure (wpAny_pure ⟨rfl,h₅⟩)) fun _ _ h'=>h'.elim)) fun _ _ h'=>h'.elim))
def cxComp (X:Cx) (N:List Str) (scope:Scope) (cl:List (Str×Addr)) (pins:List (Addr×Obj)) (s:Shared) (H:Hp) (fp:List Addr):Cx where
 prog:=X.prog
 w:=X.w
 K:=X.K
 mg:=X.mg
 base:=X.base
 A:=X.A
 N:=N
 s₀:=s
 H₀:=H
 env:=compEnvC scope cl s.heap.objs.size X.env
 outer:=X.stack
 stack:=X.stack
 ex:=fp
 fn:=fun _=>false
 calm:=X.calm
 pn:=X.pn++pins
 xe:=fun _ _=>False
def compStart0 (nt:Nat) (fr:List Nat) (σ:St):St:=List.replicate nt none++fr.map fun i=>(σ[i]?).getD none
structure CompNames (X:Cx) (N:List Str) (nt:Nat) (fr:List Nat) (scope:Scope) (cl:List (Str×Addr)):Prop where
 len:N.length=nt + fr.length
 free:∀(j:Nat) (i:Nat) (x:Str),fr[j]?=some i→N[nt + j]?=some x→X.N[i]?=some x∧(∃c,cl.lookup x=some c)∧(X.env.kindOf x=some .cell∨X.env.kindOf x=some .free) ∧
  ((relabel scope X.env).names.lookup x=some .cell∨(relabel scope X.env).names.lookup x=some .free)
 cells:∀x c,cl.lookup x=some c→X.env.cells.lookup x=some c
 has:∀x,((relabel scope X.env).names.lookup x=some .cell∨(relabel scope X.env).names.lookup x=some .free)→∃c,cl.lookup x=some c
 kind:scope.kind=.function
theorem Vis_of_cell {X:Cx} {x:Str} (h:X.env.kindOf x=some .cell∨X.env.kindOf x=some .free):Vis X.env.scope x:=by
 rcases h with h | h
 ·exact .inr (.inl h)
 ·exact .inr (.inr h)
section
variable {X:Cx} {N:List Str} {nt:Nat} {fr:List Nat} {scope:Scope} {cl:List (Str×Addr)} {pins:List (Addr×Obj)} {σ:St} {H:Hp} {s:Shared} {fp:List Addr}
theorem comp_ok (I:Inv X pins σ H s) (cn:CompNames X N nt fr scope cl) (hf:∀b∈fp,FpOk X pins H b) (ho:∀b∈fp,b < s.heap.objs.size):(cxComp X N scope cl pins s H fp).Ok where
 mod:=I.mod
 kind:=cn.kind
 glob:=I.ok.glob
 blt:=I.ok.blt
 above:=Nat.le_refl _
 inj:=fun x y c h1 h2=>I.ok.inj x y c (cn.cells x c h1) (cn.cells y c h2)
 has:=fun x hx=>cn.has x hx
 cab:=fun x c h _=>by cases (show false=true from h)
 hd:=I.ok.hd
 frames:=I.ok.frames
 stk:=.inl rfl
 exf:=fun b hb=>⟨Nat.ne_of_lt (ho b hb),fun x c e=>(hf b hb).2.2.2.2.1 x c (cn.cells x c e)⟩
 bs:=I.bs
 bsz:=Nat.le_trans I.ok.bsz I.sz
 noex:=fun b o e hb=>by
  rcases (hf b hb).2.2.2.1 with z | z
  ·exact I.ok.noex b o e z
  ·exact absurd (Nat.lt_of_lt_of_le (Heap.lt_size e) (Nat.le_trans I.ok.bsz z)) (Nat.lt_irrefl _)
 exfs:=fun b hb z=>(List.mem_cons.mp (I.stkSub b z)).elim (fun e=>(hf b hb).2.1 e) fun e=>(hf b hb).2.2.1 e
 funs:=I.stack
 frf:=I.stkFree
theorem comp_inv {h4:Heap} {t':Nat} (I:Inv X pins σ H s) (cn:CompNames X N nt fr scope cl) (hf:∀b∈fp,FpOk X pins H b) (ho:∀b∈fp,b < s.heap.objs.size)
  (k:∀b o,s.heap.get? b=some o→h4.get? b=some o) (hns:∃m,h4.Ns s.heap.objs.size m):Inv (cxComp X N scope cl pins s H fp) [] (compStart0 nt fr σ) H { s with heap:=h4,toks:=t' }:=by
 have ck:∀{c:Addr} {v:Option Value},s.heap.IsCell c v→h4.IsCell c v:=fun ⟨o,e,d⟩=>⟨o,k _ o e,d⟩
 refine ⟨comp_ok I cn hf ho,rfl,I.bare,Un.kept k,?_,fun x c e=>?_,?_,fun x c e=>?_,fun p hp=>?_,I.hok.kept k,?_⟩
 ·obtain ⟨m,hm⟩:=hns
  refine ⟨m,hm,fun i x v e1 e2 _=>?_⟩
  have e2:(compStart0 nt fr σ)[i]?=some (some v):=e2
  have e1:N[i]?=some x:=e1
  unfold compStart0 at e2
  by_cases hi:i < nt
  ·rw [List.getElem?_append_left (by simpa using hi),List.getElem?_replicate,if_pos hi] at e2
   cases e2
  ·obtain ⟨j,rfl⟩:∃j,i=nt + j:=⟨i - nt,by lia⟩
   rw [List.getElem?_append_right (by simp),List.length_replicate,Nat.add_sub_cancel_left,List.getElem?_map] at e2
   cases hj:fr[j]? with
   | none=>rw [hj] at e2;cases e2
   | some i' =>
    rw [hj] at e2
    have e2:(σ[i']?).getD none=some v:=Option.some.inj e2
    have e3:σ[i']?=some (some v):=by
     cases q:σ[i']? with
     | none=>rw [q] at e2;cases e2
     | some o=>rw [q] at e2;rw [show o=some v from e2]
    obtain ⟨hN,⟨c,hc⟩,hk,hk'⟩:=cn.free j i' x hj e1
    obtain ⟨m0,_,hl⟩:=I.loc
    obtain ⟨u,r,l⟩:=hl i' x v hN e3 (Vis_of_cell hk)
    refine ⟨u,r,.inr ⟨hk',c,hc,?_⟩⟩
    rcases l with ⟨hl',_⟩ | ⟨_,c',hc',hcell⟩
    ·rcases hk with z | z <;> (rw [hl'] at z;cases z)
    ·have hcc:=cn.cells x c hc
     rw [hc'] at hcc;cases hcc
     exact ck hcell
 ·obtain ⟨v,hv⟩:=I.cell x c (cn.cells x c e)
  exact ⟨v,ck hv⟩
 ·exact I.hok.fresh (Nat.le_refl _)
 ·exact I.freeC x c (cn.cells x c e)
 ·have hp:p∈(X.pn++pins)++[]:=hp
  rw [List.append_nil] at hp
  obtain ⟨e,n,ne,nf,d⟩:=I.pin p hp
  exact ⟨k p.1 p.2 e,n,Nat.ne_of_lt (Heap.lt_size e),fun z=>(List.mem_cons.mp (I.stkSub p.1 z)).elim ne nf,d⟩
 ·show (compStart0 nt fr σ).length=N.length
  unfold compStart0
  rw [cn.len,List.length_append,List.length_replicate,List.length_map]
theorem comp_back {H':Hp} {s1 s':Shared} {h':Heap} {σ':St} (I:Inv X pins σ H s) (hsz:s.heap.objs.size≤s1.heap.objs.size) (hos:s1.os=s.os) {H1:Hp} (hH:Un (frs X.stack) fp H H1 s.heap s1.heap)
  (hf:∀b∈fp,FpOk X pins H b)
  (J:Inv (cxComp X N scope cl pins s1 H1 fp) [] σ' H' s') (sb:Heap.SameBut s1.heap.objs.size s'.heap h'):Inv X pins σ H' { s' with heap:=h' }:=by
 have u:Un (frs X.stack) fp H H' s.heap s'.heap:=hH.trans J.base
 have lt:∀b o,s.heap.get? b=some o→b≠s1.heap.objs.size:=fun b o e=>Nat.ne_of_lt (Nat.lt_of_lt_of_le (Heap.lt_size e) hsz)
 have kk:∀b o,b≠s1.heap.objs.size→s'.heap.get? b=some o→h'.get? b=some o:=fun b o hb e=>sb.extBut b o hb e
 have u':Un (frs X.stack) fp H H' s.heap h':=⟨fun b o e n hb hx=>kk b o (lt b o e) (u.keep b o e n hb hx),fun b o e n hb hx=>let ⟨sl,z⟩:=u.slot b o e n hb hx;⟨sl,kk b _ (lt b o e) z⟩,u.free,
  fun b o e hx=>let ⟨o',z⟩:=u.there b o e hx;⟨o',kk b o' (lt b o e) z⟩,u.tups,u.frzs,u.tbls⟩
 have nC:H' s1.heap.objs.size=none:=J.free
 refine I.call' (s':={ s' with heap:=h' }) (ch:=fp) (J.os.trans hos) u' (fun a o e=>?_) J.bare fun b hb=>⟨(hf b hb).2.2.2.1,(hf b hb).2.1,(hf b hb).2.2.2.2.1,(hf b hb).2.2.2.2.2⟩
 refine (J.hok a o e).stay (fun b v hb q=>kk b v ?_ q) (fun _ q=>q) fun _ _ q=>q
 rcases hb with z | z
 ·rintro rfl
  rw [← z,nC] at e;cases e
 ·rintro rfl
  rw [nC] at z;cases z
end
def freeB (X:Cx) (N:List Str) (nt:Nat) (scope:Scope):List Nat→Nat→Bool
 | [],_=>true
 | i::r,j=>(match N[nt + j]? with
  | some x=>decide (X.N[i]?=some x) && decide (scope.names.lookup x=some .free) && (decide (X.env.kindOf x=some .cell) || decide (X.env.kindOf x=some .free))
  | none=>false) && freeB X N nt scope r (j + 1)
theorem freeB_at {X:Cx} {N:List Str} {nt:Nat} {scope:Scope}:∀{fr:List Nat} {k:Nat},freeB X N nt scope fr k=true→∀(j i:Nat) (x:Str),fr[j]?=some i→N[nt + (k + j)]?=some x →
  X.N[i]?=some x∧scope.names.lookup x=some .free∧(X.env.kindOf x=some .cell∨X.env.kindOf x=some .free)
 | [],_,_,j,i,x,e,_=>by simp at e
 | i0::r,k,h,j,i,x,e1,e2=>by
  unfold freeB at h
  rw [Bool.and_eq_true] at h
  obtain ⟨h1,h2⟩:=h
  cases j with
  | zero =>
   have e1:i0=i:=by simpa using e1
   subst e1
   rw [Nat.add_zero] at e2
   rw [e2] at h1
   simp only [Bool.and_eq_true,Bool.or_eq_true,decide_eq_true_eq] at h1
   exact ⟨h1.1.1,h1.1.2,h1.2⟩
  | succ j =>
   exact freeB_at h2 j i x (by simpa using e1) (by rw [show nt + (k + 1 + j)=nt + (k + (j + 1)) by lia];exact e2)
theorem lookup_relabel {env:Env}:∀{names:List (Str×NameKind)} {x:Str} {k':NameKind},
  (names.map fun (n,k)=>if (k == NameKind.free && env.scope.kind == .function && env.kindOf n == some .cell) then (n,NameKind.cell) else (n,k)).lookup x=some k' →
  ∃k,names.lookup x=some k∧(k=k'∨(k=.free∧k'=.cell))
 | [],_,_,h=>by simp at h
 | (n,k)::r,x,k',h=>by
  have h:List.lookup x ((if (k == NameKind.free && env.scope.kind == .function && env.kindOf n == some .cell)=true then (n,NameKind.cell) else (n,k))::r.map _)=some k':=h
  cases hx:x == n with
  | true =>
   by_cases hc:(k == NameKind.free && env.scope.kind == .function && env.kindOf n == some .cell)=true
   ·rw [if_pos hc] at h
    simp only [List.lookup_cons,hx] at h
    have hk:k=.free:=by
     simp only [Bool.and_eq_true,beq_iff_eq] at hc
     exact hc.1.1
    exact ⟨k,by simp [List.lookup_cons,hx],.inr ⟨hk,(Option.some.inj h).symm⟩⟩
   ·rw [if_neg hc] at h
    simp only [List.lookup_cons,hx] at h
    exact ⟨k,by simp [List.lookup_cons,hx],.inl (Option.some.inj h)⟩
  | false =>
   have h2:List.lookup x (r.map fun (n,k)=>if (k == NameKind.free && env.scope.kind == .function && env.kindOf n == some .cell) then (n,NameKind.cell) else (n,k))=some k':=by
    by_cases hc:(k == NameKind.free && env.scope.kind == .function && env.kindOf n == some .cell)=true
    ·rw [if_pos hc] at h;simpa only [List.lookup_cons,hx] using h
    ·rw [if_neg hc] at h;simpa only [List.lookup_cons,hx] using h
   obtain ⟨k2,e2,o2⟩:=lookup_relabel h2
   exact ⟨k2,by simp only [List.lookup_cons,hx];exact e2,o2⟩
theorem relabel_free {env:Env}:∀{names:List (Str×NameKind)} {x:Str},names.lookup x=some .free →
  (names.map fun (n,k)=>if (k == NameKind.free && env.scope.kind == .function && env.kindOf n == some .cell) then (n,NameKind.cell) else (n,k)).lookup x=some .cell ∨
  (names.map fun (n,k)=>if (k == NameKind.free && env.scope.kind == .function && env.kindOf n == some .cell) then (n,NameKind.cell) else (n,k)).lookup x=some .free
 | [],_,h=>by simp at h
 | (n,k)::r,x,h=>by
  show List.lookup x ((if (k == NameKind.free && env.scope.kind == .function && env.kindOf n == some .cell)=true then (n,NameKind.cell) else (n,k))::r.map _)=some .cell∨List.lookup x ((if (k == NameKind.free && env.scope.kind == .function && env.kindOf n == some .cell)=true then (n,NameKind.cell) else (n,k))::r.map _)=some .free
  cases hx:x == n with
  | true =>
   simp only [List.lookup_cons,hx] at h
   cases h
   by_cases hc:(NameKind.free == NameKind.free && env.scope.kind == .function && env.kindOf n == some .cell)=true
   ·rw [if_pos hc];left;simp [List.lookup_cons,hx]
   ·rw [if_neg hc];right;simp [List.lookup_cons,hx]
  | false =>
   simp only [List.lookup_cons,hx] at h
   have ih:=relabel_free (env:=env) h
   by_cases hc:(k == NameKind.free && env.scope.kind == .function && env.kindOf n == some .cell)=true
   ·rw [if_pos hc];simpa only [List.lookup_cons,hx] using ih
   ·rw [if_neg hc];simpa only [List.lookup_cons,hx] using ih
theorem closOf_has {env:Env}:∀{names:List (Str×NameKind)} {cl:List (Str×Addr)},closOf env names=some cl→∀x,names.lookup x=some .free→∃c,cl.lookup x=some c
 | [],_,_,x,e=>by simp at e
 | (n,k)::r,cl,h,x,e=>by
  unfold closOf at h
  by_cases hk:k=.free
  ·rw [if_pos hk] at h
   cases hc:env.cells.lookup n with
   | none=>rw [hc] at h;cases h
   | some c' =>
    rw [hc] at h
    have h:(closOf env r).map (fun cl=>cl++[(n,c')])=some cl:=h
    cases hr:closOf env r with
    | none=>rw [hr] at h;cases h
    | some cl' =>
     rw [hr] at h
     have h:cl'++[(n,c')]=cl:=Option.some.inj h
     subst h
     rw [List.lookup_append]
     cases h2:cl'.lookup x with
     | some c2=>exact ⟨c2,by simp⟩
     | none =>
      cases hx:x == n with
      | true=>exact ⟨c',by simp [List.lookup_cons,hx]⟩
      | false =>
       simp only [List.lookup_cons,hx] at e
       obtain ⟨c3,e3⟩:=closOf_has hr x e
       rw [h2] at e3;cases e3
  ·rw [if_neg hk] at h
   cases hx:x == n with
   | true =>
    simp only [List.lookup_cons,hx] at e
    exact absurd (Option.some.inj e) hk
   | false =>
    simp only [List.lookup_cons,hx] at e
    exact closOf_has h x e
theorem CompNames.of {X:Cx} {N:List Str} {nt:Nat} {fr:List Nat} {scope:Scope} {cl:List (Str×Addr)} (hcl:closOf X.env scope.names=some cl) (hlen:N.length=nt + fr.length) (hB:freeB X N nt scope fr 0=true)
  (hcell:∀y∈scope.names,y.2≠.cell) (hkind:scope.kind=.function):CompNames X N nt fr scope cl where
 len:=hlen
 free:=fun j i x e1 e2=>by
  obtain ⟨h1,h2,h3⟩:=freeB_at hB j i x e1 (by rw [Nat.zero_add];exact e2)
  exact ⟨h1,closOf_has hcl x h2,h3,relabel_free h2⟩
 cells:=closOf_lookup hcl
 has:=fun x hx=>by
  have:scope.names.lookup x=some .free:=by
   rcases hx with hx | hx
   ·obtain ⟨k,e,o⟩:=lookup_relabel (names:=scope.names) (env:=X.env) hx
    rcases o with rfl | ⟨rfl,_⟩
    ·exact absurd rfl (hcell _ (PySem.mem_of_lookup e))
    ·exact e
   ·obtain ⟨k,e,o⟩:=lookup_relabel (names:=scope.names) (env:=X.env) hx
    rcases o with rfl | ⟨rfl,_⟩
    ·exact e
    ·exact e
  exact closOf_has hcl x this
 kind:=hkind
def PIf (X:Cx) (ifs:List Expr) (t:TT):Prop :=
 ∀(pins:List (Addr×Obj)) (s:Shared) (σ:St) (H:Hp) (Q:Bool→Hp→Prop),Inv X pins σ H s→t σ H Q →
  wpAny (model X.prog X.w) X.A (forIn ifs true fun c r=>if r=true then do let ok ← isTrue c X.env (eval c X.env);pure (ForInStep.yield ok) else pure (ForInStep.yield r)) (TP X pins σ Q) X.xe s
def tTrue:TT:=fun _ H Q=>Q true H
theorem pif_nil {X:Cx}:PIf X [] tTrue:=fun _ _ _ H _ I h=>wpAny_pure ⟨H,I,h⟩
theorem pif_one {X:Cx} {c:Expr} {t:TT} (h:PT X c t):PIf X [c] t:=by
 intro pins s σ H Q I hw
 rw [List.forIn_cons]
 simp only [if_true]
 refine wpAny_bind (wpAny_bind (thn (h pins s σ H Q I hw) fun b s1 q=>wpAny_pure ?_))
 exact wpAny_pure q
def CompGoal (J:It) (nt:Nat) (fr:List Nat) (g:TG) (c:TT) (te:TE) (σ:St) (H1:Hp) (Q:VK) (acc:Addr):Prop :=
 ∃W:Nat→Nat→St→List V→Hp→Prop,(∃m,W 0 m (compStart0 nt fr σ) [] (upd H1 acc (.lst [])))∧∀i m σ' ys H',W i m σ' ys H'→H' acc=some (.lst ys) ∧
  ((J.stop i H'∧Q (.ref acc) H')∨(J.go i H'∧∀x H2,J.yld i H' x H2→g x σ' H2 fun σ2 H3=>c σ2 H3 fun b H4=>if b=true then
   te σ2 H4 fun y H5=>ys.length < sizeLine∧H5 acc=some (.lst ys)∧∃m',m' < m∧W (i + 1) m' σ2 (ys++[y]) (upd H5 acc (.lst (ys++[y])))
   else ∃m',m' < m∧W (i + 1) m' σ2 ys H4))
def tComp (wi:TI) (nt:Nat) (fr:List Nat) (g:TG) (c:TT) (te:TE):TE:=fun σ H Q=>wi σ H fun J H1=>∀acc,H1 acc=none→CompGoal J nt fr g c te σ H1 Q acc
section
variable {X:Cx} {target iter elt:Expr} {ifs:List Expr} {scope:Scope} {pos:Pos} {N:List Str} {nt:Nat} {fr:List Nat} {cl:List (Str×Addr)} {wi:TI} {g:TG} {c:TT} {te:TE}
theorem comp_fp {pins:List (Addr×Obj)} {σ:St} {H H1:Hp} {s:Shared} {fp:List Addr} (I:Inv X pins σ H s) (cn:CompNames X N nt fr scope cl) (hf:∀b∈fp,FpOk X pins H b) (ho:∀b∈fp,b < s.heap.objs.size) {H':Hp} (hn:∀b∈fp,H' b=none) :
  ∀b∈fp,FpOk (cxComp X N scope cl pins s H1 fp) [] H' b:=fun b hb =>
 ⟨hn b hb,Nat.ne_of_lt (ho b hb),fun z=>(List.mem_cons.mp (I.stkSub b z)).elim (hf b hb).2.1 (hf b hb).2.2.1,.inl hb,fun x c e=>(hf b hb).2.2.2.2.1 x c (cn.cells x c e),fun p hp=>(hf b hb).2.2.2.2.2 p (by
  have hp:p∈(X.pn++pins)++[]:=hp
  rw [List.append_nil] at hp
  exact hp)⟩
theorem comp_block {pins:List (Addr×Obj)} {σ:St} {s:Shared} {Q:VK} {itv:Value} {RR:Value→Addr→Result→Shared→Prop} {E:Value→Shared→Prop}
  (hc:X.calm=true) (cn:CompNames X N nt fr scope cl) (hcell:∀y∈scope.names,y.2≠.cell)
  (hg:∀pins s H fp,PG (cxComp X N scope cl pins s H fp) target g) (hif:∀pins s H fp,PIf (cxComp X N scope cl pins s H fp) ifs c) (he:∀pins s H fp,PE (cxComp X N scope cl pins s H fp) elt te)
  (h:PIE X pins σ target (fun J H1=>∀acc,H1 acc=none→CompGoal J nt fr g c te σ H1 Q acc) itv s)
  (hRR:∀(acc C:Addr) (s':Shared) (H':Hp),(∃m,s'.heap.Ns C m)→Inv X pins σ H' s'→FpOk X pins H' C→Q (.ref acc) H'→RR (.ref acc) C (.ok .next) s') :
  wpAny (model X.prog X.w) X.A (newList []) (fun acc s₃=>wpAny (model X.prog X.w) X.A (newFunctionEnv scope X.env.globals cl [] X.env.qual none .none (some X.env)) (fun cenv s₄ =>
   codeAny (model X.prog X.w) X.A (.compStart (.ListComp elt [⟨target,iter,ifs,0⟩] scope pos) 0 itv acc { cenv with scope:=relabel scope X.env }) (RR acc cenv.locals) s₄) E s₃) E s:=by
 obtain ⟨it,fp,tn,J,H2,e,I2,T,st2,f2,R⟩:=h
 subst e
 have fo:∀b∈fp,b < s.heap.objs.size:=fun b hb=>let ⟨o,e,_⟩:=T.obj 0 _ st2 b hb;Heap.lt_size e
 refine wpAny_newObj_type (wpAny_newFunctionEnv hcell (by intro y hy;simp at hy) (fun h₁ hns₁ hsb₁=>?_) cn.kind)
 dsimp only at hns₁ hsb₁ ⊢
 have ha:H2 s.heap.objs.size=none:=I2.hok.fresh (Nat.le_refl _)
 have I3:Inv X pins σ (upd H2 s.heap.objs.size (.lst [])) { s with heap:=s.heap.push { cls:=.type "list", data:=.seq ([]:List Value).toArray } } :=
  I2.laid (t':=s.toks) (fun b u e=>Heap.get?_push_of_some _ e) (Nat.le_refl _) ⟨Nat.zero_le _,[],0,.nil,Heap.get?_push_size _ rfl⟩
 generalize hs3:({ s with heap:=s.heap.push { cls:=.type "list", data:=.seq ([]:List Value).toArray } }:Shared)=s3 at I3
 have hh3:s3.heap=s.heap.push { cls:=.type "list", data:=.seq ([]:List Value).toArray }:=by rw [← hs3]
 have hsz:s3.heap.objs.size=s.heap.objs.size + 1:=by rw [hh3,Heap.size_push]
 have fne:∀b∈fp,b≠s.heap.objs.size:=fun b hb=>Nat.ne_of_lt (fo b hb)
 have f3:∀b∈fp,FpOk X pins (upd H2 s.heap.objs.size (.lst [])) b:=fun b hb=>⟨by rw [upd_ne (fne b hb)];exact (f2 b hb).1,(f2 b hb).2⟩
 have fo3:∀b∈fp,b < s3.heap.objs.size:=fun b hb=>by rw [hsz];exact Nat.lt_succ_of_lt (fo b hb)
 have k3:∀b o,s3.heap.get? b=some o→h₁.get? b=some o:=fun b o e=>hsb₁.extBut b o (by rw [← hh3];exact Nat.ne_of_lt (Heap.lt_size e)) (by rw [← hh3];exact Heap.get?_push_of_some _ e)
 have hns:∃m,h₁.Ns s3.heap.objs.size m:=⟨_,by rw [hh3];exact hns₁⟩
 have I4:Inv (cxComp X N scope cl pins s3 (upd H2 s.heap.objs.size (.lst [])) fp) [] (compStart0 nt fr σ) (upd H2 s.heap.objs.size (.lst [])) { s3 with heap:=h₁,toks:=s3.toks + ([]:List (Str×Value)).length }:=comp_inv I3 cn f3 fo3 k3 hns
 have st4:tn 0 h₁:=T.keep 0 _ _ st2 fun b hb o e=>k3 b o (by rw [hh3];exact Heap.get?_push_of_some _ e)
 obtain ⟨W,⟨m0,w0⟩,turn⟩:=R s.heap.objs.size ha
 have stat:∀{H':Hp},(∀b∈fp,H' b=none)→∀b∈fp,FpOk (cxComp X N scope cl pins s3 (upd H2 s.heap.objs.size (.lst [])) fp) [] H' b:=fun hn=>comp_fp I3 cn f3 fo3 hn
 have hH:Un (frs X.stack) fp H2 (upd H2 s.heap.objs.size (.lst [])) s.heap s3.heap:=by
  rw [hh3]
  exact Un.laid (fun b u e=>Heap.get?_push_of_some _ e) (Nat.le_refl _) ha
 have back:∀{σ':St} {H':Hp} {s':Shared} {h':Heap},Inv (cxComp X N scope cl pins s3 (upd H2 s.heap.objs.size (.lst [])) fp) [] σ' H' s'→Heap.SameBut s3.heap.objs.size s'.heap h'→Inv X pins σ H' { s' with heap:=h' }:=fun J' sb =>
  comp_back I2 (by rw [hsz];exact Nat.le_succ _) (by rw [← hs3]) hH f2 J' sb
 have loop:codeAny (model X.prog X.w) X.A (.compLoop (.ListComp elt [⟨target,iter,ifs,0⟩] scope pos) 0 (.ref it) (.ref s.heap.objs.size) (compEnvC scope cl s3.heap.objs.size X.env)) (RR (.ref s.heap.objs.size) s3.heap.objs.size)
   { s3 with heap:=h₁,toks:=s3.toks + ([]:List (Str×Value)).length }:=by
  refine comp_loop (fun n s'=>∃i σ' ys H',Inv (cxComp X N scope cl pins s3 (upd H2 s.heap.objs.size (.lst [])) fp) [] σ' H' s'∧tn i s'.heap∧(∀b∈fp,H' b=none)∧W i n σ' ys H') ?_ m0
   ⟨0,_,[],_,I4,st4,fun b hb=>(f3 b hb).1,w0⟩
  rintro n s5 ⟨i,σ5,ys,H5,I5,st5,fr5,w5⟩
  obtain ⟨hacc,step⟩:=turn i n σ5 ys H5 w5
  rcases step with ⟨stop,q⟩ | ⟨go,step⟩
  ·refine thn (T.done (cxComp X N scope cl pins s3 (upd H2 s.heap.objs.size (.lst [])) fp) rfl rfl rfl hc i [] s5 σ5 H5 (fun _ _=>False) I5 (stat fr5) st5 stop) fun r s6 ⟨hr,I6⟩=>?_
   subst hr
   obtain ⟨m,hm,_⟩:=I6.loc
   exact hRR _ _ s6 H5 ⟨m,hm⟩ (back I6 (Heap.SameBut.refl _ _)) (I2.fpOk (by rw [hsz];exact Nat.le_succ _) I6.free) q
  ·refine thn (T.item (cxComp X N scope cl pins s3 (upd H2 s.heap.objs.size (.lst [])) fp) rfl rfl rfl hc i [] s5 σ5 H5 (fun _ _=>False) I5 (stat fr5) st5 go) fun r s6 ⟨u,hr,h6⟩=>?_
   subst hr
   refine thn h6 fun _ s7 ⟨x,H7,I7,r7,y7,st7,fr7⟩=>?_
   have I7':=I7.pinned (stat fr7) (T.obj _ _ st7)
   refine thn (hg pins s3 _ fp _ s7 σ5 H7 x u _ I7' r7 (step x H7 y7)) fun _ s8 ⟨σ8,H8,I8,q8⟩=>?_
   have keepT:∀{σ':St} {H':Hp} {s':Shared},Inv (cxComp X N scope cl pins s3 (upd H2 s.heap.objs.size (.lst [])) fp) ([]++pinsAt fp s7.heap) σ' H' s'→tn (i + 1) s'.heap∧∀b∈fp,H' b=none:=fun {σ' H' s'} I' =>
    ⟨T.keep _ _ _ st7 fun b hb o e=>(I'.pin (b,o) (List.mem_append_right _ (List.mem_append_right _ (mem_pinsAt hb e)))).1,fun b hb=>by
     obtain ⟨o,e,d⟩:=T.obj _ _ st7 b hb
     exact (I'.pin (b,o) (List.mem_append_right _ (List.mem_append_right _ (mem_pinsAt hb e)))).2.1⟩
   refine thn (hif pins s3 _ fp _ s8 σ8 H8 _ I8 q8) fun ok s9 ⟨H9,I9,q9⟩=>?_
   cases ok with
   | false =>
    have q9:∃m',m' < n∧W (i + 1) m' σ8 ys H9:=q9
    obtain ⟨m',hm,w9⟩:=q9
    exact ⟨m',hm,i + 1,σ8,ys,H9,I9.unpinned,(keepT I9).1,(keepT I9).2,w9⟩
   | true =>
    rw [if_pos rfl]
    refine thn (he pins s3 _ fp _ s9 σ8 H9 _ I9 q9) fun z s10 ⟨y,H10,I10,r10,hz,ha10,m',hm,w10⟩=>?_
    refine thn (mt_append _ s10 σ8 H10 (.ref s.heap.objs.size) [y] (.ref s.heap.objs.size) [z] (fun v H'=>v=.non∧H'=upd H10 s.heap.objs.size (.lst (ys++[y]))) I10 rfl (.cons r10 .nil) ⟨_,ys,y,rfl,rfl,ha10,hz,rfl,rfl⟩) fun v s11 ⟨_,H11,I11,_,_,e11⟩=>?_
    subst e11
    exact ⟨m',hm,i + 1,σ8,ys++[y],_,I11.unpinned,(keepT I11).1,(keepT I11).2,w10⟩
 have fin:codeAny (model X.prog X.w) X.A (.compStart (.ListComp elt [⟨target,iter,ifs,0⟩] scope pos) 0 (.ref it) (.ref s.heap.objs.size) (compEnvC scope cl s3.heap.objs.size X.env)) (RR (.ref s.heap.objs.size) s3.heap.objs.size)
   { s3 with heap:=h₁,toks:=s3.toks + ([]:List (Str×Value)).length } :=
  codeAny_compStart_list loop (T.self _ 0 _ _ _ st4 loop)
 rw [← hs3] at fin
 exact fin
theorem pe_comp (hi:PI X target iter wi) (hg:∀pins s H fp,PG (cxComp X N scope cl pins s H fp) target g) (hif:∀pins s H fp,PIf (cxComp X N scope cl pins s H fp) ifs c) (he:∀pins s H fp,PE (cxComp X N scope cl pins s H fp) elt te)
  (hc:X.calm=true:=by rfl) (hcl:closOf X.env scope.names=some cl:=by rfl) (hlen:N.length=nt + fr.length:=by rfl) (hB:freeB X N nt scope fr 0=true:=by rfl)
  (hcell:∀y∈scope.names,y.2≠.cell:=by decide +kernel) (hkind:scope.kind=.function:=by rfl) (hnames:∀y∈scope.names,y.2=.local→scope.names.lookup y.1=some .local:=by decide +kernel)
  (hs:∀x,foldedSetIterable iter X.env x=pure x:=by intro _;rfl):PE X (.ListComp elt [⟨target,iter,ifs,0⟩] scope pos) (tComp wi nt fr g c te):=by
 intro pins s σ H Q I h
 rw [eval_ListComp]
 refine wpAny_comprehension_free (use:=none) rfl hs (closureFor_of hcl) hkind hnames (thn (hi pins s σ H _ I h) fun xv s1 h1=>thn h1 fun itv s2 h2=>?_)
 exact comp_block hc (CompNames.of hcl hlen hB hcell hkind) hcell hg hif he h2 fun acc C s' H' ⟨m,hm⟩ hI hF hq=>⟨m,hm,fun h' sb=>⟨.ref acc,H',hI.turned (t':=s'.toks) (fun b o hb e=>sb.extBut b o hb e) hF.1 hF.2.1 hF.2.2.2.1 hF.2.2.2.2.1 hF.2.2.2.2.2,rfl,hq⟩⟩
theorem ps_setc {i:Nat} {y:Str} {py spos:Pos} (hN:X.N.Nodup) (hyi:X.N[i]?=some y) (hy:Loc X.env.scope y) (hi:PI X target iter wi) (hg:∀pins s H fp,PG (cxComp X N scope cl pins s H fp) target g) (hif:∀pins s H fp,PIf (cxComp X N scope cl pins s H fp) ifs c) (he:∀pins s H fp,PE (cxComp X N scope cl pins s H fp) elt te)
  (hsw:swapsWith (.ListComp elt [⟨target,iter,ifs,0⟩] scope pos) (some (.Name y py)) spos.line X.env=pure true:=by rfl)
  (hc:X.calm=true:=by rfl) (hcl:closOf X.env scope.names=some cl:=by rfl) (hlen:N.length=nt + fr.length:=by rfl) (hB:freeB X N nt scope fr 0=true:=by rfl)
  (hcell:∀y∈scope.names,y.2≠.cell:=by decide +kernel) (hkind:scope.kind=.function:=by rfl) (hnames:∀y∈scope.names,y.2=.local→scope.names.lookup y.1=some .local:=by decide +kernel)
  (hs:∀x,foldedSetIterable iter X.env x=pure x:=by intro _;rfl) (hf:X.fn y=true∨X.env.scope.names.lookup y=some .local:=by first | exact .inl rfl | exact .inr rfl | assumption) :
  PS X (.Assign [.Name y py] (.ListComp elt [⟨target,iter,ifs,0⟩] scope pos) spos) (tAsg (tComp wi nt fr g c te) (gName i)):=by
 intro pins s σ H D I h
 rw [exec_Assign_Name_used _ _ _ _ hsw]
 refine wpAny_bind (wpAny_standAt (wpAny_bind ?_))
 show wpAny _ X.A (do let _ ← comprehension (.ListComp elt [⟨target,iter,ifs,0⟩] scope pos) scope X.env _ (newList []) false (eval iter X.env) (some (assign (.Name y py) X.env))) _ _ s
 refine wpAny_bind (wpAny_mono (wpAny_comprehension_free (use:=some (assign (.Name y py) X.env)) (Q:=fun _ s'=>SP X pins D .next s') rfl hs (closureFor_of hcl) hkind hnames (thn (hi pins s σ H _ I h) fun xv s1 h1=>thn h1 fun itv s2 h2=>?_)) (fun _ s' hq=>wpAny_pure (wpAny_pure hq)) fun _ _ e=>e)
 refine comp_block (Q:=fun x H1=>gName i x σ H1 D.nx) (RR:=fun acc C=>compPost (model X.prog X.w) X.A X.xe (some (assign (.Name y py) X.env)) (fun _ s'=>SP X pins D .next s') acc C) hc (CompNames.of hcl hlen hB hcell hkind) hcell hg hif he h2 fun acc C s' H' ⟨m,hm⟩ hI hF hq=>?_
 show wpAny _ X.A (assign (.Name y py) X.env (.ref acc)) _ _ _
 refine wpAny_assign_Name (store_ok2 hI hN hyi hy (v:=.ref acc) rfl (fun s3 I3 ⟨a,sb,ha⟩=>?_) hf)
 have hne:C≠a:=by
  rcases ha with rfl | ha
  ·exact hF.2.1
  ·exact fun z=>hF.2.2.2.2.1 y a ha z.symm
 refine ⟨m,hm.sameBut sb hne,fun h' sb'=>⟨_,H',I3.turned (t':=s3.toks) (fun b o hb e=>sb'.extBut b o hb e) hF.1 hF.2.1 hF.2.2.2.1 hF.2.2.2.2.1 hF.2.2.2.2.2,hq⟩⟩
end
structure ItemsOf (J:It) (xs:List V) (L:Hp→Prop):Prop where
 go:∀i H,L H→i < xs.length→J.go i H
 yld:∀i H x H',L H→i < xs.length→J.yld i H x H'→H'=H∧xs[i]?=some x
 stop:∀H,L H→J.stop xs.length H
theorem items_list {K:W.Frag} {a:Addr} {xs:List V}:ItemsOf (Itl K a) xs (fun H=>SqL K H a xs) :=
 ⟨fun i H h hi=>⟨xs,xs[i],h,by simp [hi]⟩,fun i H x H' h hi y=>⟨y.1,y.2 xs h⟩,fun H h=>⟨xs,h,Nat.le_refl _⟩⟩
theorem items_tup {K:W.Frag} {a:Addr} {xs:List V}:ItemsOf (Itt K a) xs (fun H=>SqT K H a xs) :=
 ⟨fun i H h hi=>⟨xs,xs[i],h,by simp [hi]⟩,fun i H x H' h hi y=>⟨y.1,y.2 xs h⟩,fun H h=>⟨xs,h,Nat.le_refl _⟩⟩
def rangeV (lo:Int) (n:Nat):List V:=(List.range n).map fun i:Nat=>V.int (lo + (i:Int))
theorem items_range {lo:Int} {n:Nat}:ItemsOf (Itr lo n) (rangeV lo n) (fun _=>True) :=
 ⟨fun i H _ hi=>by show i < n;simpa [rangeV] using hi,fun i H x H' _ hi y=>⟨y.1,by
  have hi:i < n:=by simpa [rangeV] using hi
  rw [y.2];simp [rangeV,hi]⟩,fun H _=>by show n≤_;simp [rangeV]⟩
def signsV (z:Str):List V:=z.cps.toList.map fun c=>V.str ⟨#[c]⟩
theorem items_str {z:Str}:ItemsOf (Its z) (signsV z) (fun _=>True) :=
 ⟨fun i H _ hi=>by show i < z.cps.size;simpa [signsV] using hi,fun i H x H' _ hi y=>⟨y.1,by
  obtain ⟨_,c,e,rfl⟩:=y
  have hi:i < z.cps.size:=by simpa [signsV] using hi
  have e:z.cps[i]=c:=by simpa [hi] using e
  simp [signsV,hi,e]⟩,fun H _=>by show z.cps.size≤_;simp [signsV]⟩
def CompW (xs:List V) (nt:Nat) (fvs:St) (Pv:Nat→List V→Hp→Prop):Nat→Nat→St→List V→Hp→Prop:=fun i m σ' ys H' =>
 m=xs.length - i∧i≤xs.length∧Pv i ys H'∧∃tv:List (Option V),tv.length=nt∧σ'=tv++fvs
theorem CompW.next {xs:List V} {nt:Nat} {fvs:St} {Pv:Nat→List V→Hp→Prop} {i:Nat} {tv:List (Option V)} {ys:List V} {H:Hp} (hi:i < xs.length) (p:Pv (i + 1) ys H) (ht:tv.length=nt) :
  ∃m',m' < xs.length - i∧CompW xs nt fvs Pv (i + 1) m' (tv++fvs) ys H:=⟨xs.length - (i + 1),by lia,rfl,hi,p,tv,ht,rfl⟩
theorem comp_by {J:It} {xs:List V} {L:Hp→Prop} {σ:St} {H1:Hp} {nt:Nat} {fr:List Nat} {g:TG} {c:TT} {te:TE} {Q:VK} {acc:Addr} (it:ItemsOf J xs L) (Pv:Nat→List V→Hp→Prop)
  (h0:Pv 0 [] (upd H1 acc (.lst []))) (hL:∀i ys H',i≤xs.length→Pv i ys H'→L H'∧H' acc=some (.lst ys))
  (turn:∀i x tv ys H',xs[i]?=some x→i < xs.length→Pv i ys H'→tv.length=nt→g x (tv++fr.map fun i=>(σ[i]?).getD none) H' fun σ2 H3 =>
   c σ2 H3 fun b H4=>if b=true then te σ2 H4 fun y H5=>ys.length < sizeLine∧H5 acc=some (.lst ys)∧∃m',m' < xs.length - i∧CompW xs nt (fr.map fun i=>(σ[i]?).getD none) Pv (i + 1) m' σ2 (ys++[y]) (upd H5 acc (.lst (ys++[y])))
    else ∃m',m' < xs.length - i∧CompW xs nt (fr.map fun i=>(σ[i]?).getD none) Pv (i + 1) m' σ2 ys H4)
  (hd:∀ys H',Pv xs.length ys H'→Q (.ref acc) H'):CompGoal J nt fr g c te σ H1 Q acc:=by
 refine ⟨CompW xs nt (fr.map fun i=>(σ[i]?).getD none) Pv,⟨xs.length,by simp,Nat.zero_le _,h0,List.replicate nt none,by simp,rfl⟩,?_⟩
 rintro i m σ' ys H' ⟨rfl,hi,p,tv,htv,rfl⟩
 obtain ⟨l,ha⟩:=hL i ys H' hi p
 refine ⟨ha,?_⟩
 by_cases hlt:i < xs.length
 ·refine .inr ⟨it.go i H' l hlt,fun x H2 y=>?_⟩
  obtain ⟨rfl,hx⟩:=it.yld i H' x H2 l hlt y
  exact turn i x tv ys H2 hx hlt p htv
 ·have e:i=xs.length:=by lia
  subst e
  exact .inl ⟨it.stop H' l,hd ys H' p⟩
end L2
namespace L2
open PySem PySem.Spec PyProof.Rows PySem.SeqAt
inductive Dt where
 | non | bl (b:Bool) | int (i:Int) | str (x:Str) | lst (xs:List Dt) | tup (xs:List Dt)
mutual
def Rep (K:W.Frag) (H:Hp):Dt→V→Prop
 | .non,v=>v=.non
 | .bl b,v=>v=.bl b
 | .int i,v=>v=.int i
 | .str x,v=>v=.str x
 | .lst ds,v=>∃p xs,v=.ref p∧SqL K H p xs∧Reps K H ds xs
 | .tup ds,v=>∃p xs,v=.ref p∧SqT K H p xs∧Reps K H ds xs
def Reps (K:W.Frag) (H:Hp):List Dt→List V→Prop
 | [],xs=>xs=[]
 | d::ds,xs=>∃x r,xs=x::r∧Rep K H d x∧Reps K H ds r
end
mutual
def eqDt:Dt→Dt→Bool
 | .non,.non=>true
 | .bl a,.bl b=>a == b
 | .bl a,.int b=>(if a then 1 else 0) == b
 | .int a,.bl b=>a == (if b then 1 else 0)
 | .int a,.int b=>a == b
 | .str a,.str b=>a == b
 | .lst xs,.lst ys=>eqDts xs ys
 | .tup xs,.tup ys=>eqDts xs ys
 | _,_=>false
def eqDts:List Dt→List Dt→Bool
 | [],[]=>true
 | x::xs,y::ys=>eqDt x y && eqDts xs ys
 | _,_=>false
end
mutual
def depD:Dt→Nat
 | .lst xs=>depDs xs + 1
 | .tup xs=>depDs xs + 1
 | _=>0
def depDs:List Dt→Nat
 | []=>0
 | x::xs=>max (depD x) (depDs xs)
end
theorem Reps.length {K:W.Frag} {H:Hp}:∀{ds:List Dt} {xs:List V},Reps K H ds xs→ds.length=xs.length
 | [],xs,h=>by rw [show xs=[] from by simpa [Reps] using h];rfl
 | d::ds,xs,h=>by
  obtain ⟨x,r,rfl,_,h2⟩:∃x r,xs=x::r∧Rep K H d x∧Reps K H ds r:=by simpa [Reps] using h
  simp [Reps.length h2]
theorem Reps.get {K:W.Frag} {H:Hp}:∀{ds:List Dt} {xs:List V} {j:Nat} {d:Dt},Reps K H ds xs→ds[j]?=some d→∃x,xs[j]?=some x∧Rep K H d x
 | [],_,_,_,_,e=>by simp at e
 | d0::ds,xs,j,d,h,e=>by
  obtain ⟨x,r,rfl,h1,h2⟩:∃x r,xs=x::r∧Rep K H d0 x∧Reps K H ds r:=by simpa [Reps] using h
  cases j with
  | zero =>
   have e:d0=d:=by simpa using e
   subst e
   exact ⟨x,rfl,h1⟩
  | succ j =>
   obtain ⟨y,e1,e2⟩:=Reps.get (j:=j) h2 (by simpa using e)
   exact ⟨y,by simpa using e1,e2⟩
theorem depDs_get:∀{ds:List Dt} {j:Nat} {d:Dt},ds[j]?=some d→depD d≤depDs ds
 | [],_,_,e=>by simp at e
 | d0::ds,j,d,e=>by
  cases j with
  | zero =>
   have e:d0=d:=by simpa using e
   subst e
   simp only [depDs];lia
  | succ j =>
   have:=depDs_get (ds:=ds) (j:=j) (d:=d) (by simpa using e)
   simp only [depDs];lia
theorem eqDts_all:∀(ds es:List Dt),ds.length=es.length→((List.range ds.length).all fun j=>eqDt (ds.getD j .non) (es.getD j .non))=eqDts ds es
 | [],[],_=>rfl
 | [],_::_,h=>by simp at h
 | _::_,[],h=>by simp at h
 | d::ds,e::es,h=>by
  have h:ds.length=es.length:=by simpa using h
  rw [List.length_cons,List.range_succ_eq_map,List.all_cons,List.all_map]
  have:=eqDts_all ds es h
  simp only [eqDts]
  rw [← this]
  rfl
theorem eqDts_length:∀(ds es:List Dt),ds.length≠es.length→eqDts ds es=false
 | [],[],h=>by simp at h
 | [],_::_,_=>rfl
 | _::_,[],_=>rfl
 | d::ds,e::es,h=>by
  have h:ds.length≠es.length:=fun z=>h (by simp [z])
  simp only [eqDts,eqDts_length ds es h,Bool.and_false]
mutual
theorem eqDt_refl:∀d:Dt,eqDt d d=true
 | .non=>rfl
 | .bl b=>by simp [eqDt]
 | .int i=>by simp [eqDt]
 | .str x=>by simp [eqDt]
 | .lst xs=>by simp only [eqDt];exact eqDts_refl xs
 | .tup xs=>by simp only [eqDt];exact eqDts_refl xs
theorem eqDts_refl:∀ds:List Dt,eqDts ds ds=true
 | []=>rfl
 | d::ds=>by simp only [eqDts,eqDt_refl d,eqDts_refl ds,Bool.and_true]
end
section
variable {X:Cx} {pins:List (Addr×Obj)} {σ:St} {H:Hp} {s:Shared}
theorem lst_not_tup {a:Addr} {xs ys:List V} (I:Inv X pins σ H s) (h:SqL X.K H a xs) (h':SqT X.K H a ys):False:=by
 obtain ⟨its,_,pl,_⟩:=I.list h
 obtain ⟨its',_,pt,_⟩:=I.tuple h'
 obtain ⟨o,n,e,c,_,_⟩:=pl
 obtain ⟨o',e',c',_⟩:=pt
 rw [e] at e';cases e'
 rw [c] at c'
 exact absurd c' (by decide)
mutual
theorem rep_inj (I:Inv X pins σ H s):∀(d d':Dt) (v:V),Rep X.K H d v→Rep X.K H d' v→d=d'
 | .non,d',v,h,h'=>by
  have h:v=.non:=by simpa [Rep] using h
  subst h
  cases d' <;> simp [Rep] at h' <;> rfl
 | .bl b,d',v,h,h'=>by
  have h:v=.bl b:=by simpa [Rep] using h
  subst h
  cases d' <;> simp [Rep] at h'
  rw [h']
 | .int b,d',v,h,h'=>by
  have h:v=.int b:=by simpa [Rep] using h
  subst h
  cases d' <;> simp [Rep] at h'
  rw [h']
 | .str b,d',v,h,h'=>by
  have h:v=.str b:=by simpa [Rep] using h
  subst h
  cases d' <;> simp [Rep] at h'
  rw [h']
 | .lst ds,d',v,h,h'=>by
  obtain ⟨p,xs,rfl,hq,hr⟩:∃p xs,v=.ref p∧SqL X.K H p xs∧Reps X.K H ds xs:=by simpa only [Rep] using h
  cases d' with
  | lst es =>
   obtain ⟨p',ys,e,hq',hr'⟩:∃p' ys,V.ref p=.ref p'∧SqL X.K H p' ys∧Reps X.K H es ys:=by simpa only [Rep] using h'
   cases e
   rw [I.list_inj hq' hq] at hr'
   rw [reps_inj I ds es xs hr hr']
  | tup es =>
   obtain ⟨p',ys,e,hq',hr'⟩:∃p' ys,V.ref p=.ref p'∧SqT X.K H p' ys∧Reps X.K H es ys:=by simpa only [Rep] using h'
   cases e
   exact (lst_not_tup I hq hq').elim
  | _=>simp [Rep] at h'
 | .tup ds,d',v,h,h'=>by
  obtain ⟨p,xs,rfl,hq,hr⟩:∃p xs,v=.ref p∧SqT X.K H p xs∧Reps X.K H ds xs:=by simpa only [Rep] using h
  cases d' with
  | tup es =>
   obtain ⟨p',ys,e,hq',hr'⟩:∃p' ys,V.ref p=.ref p'∧SqT X.K H p' ys∧Reps X.K H es ys:=by simpa only [Rep] using h'
   cases e
   rw [I.tuple_inj hq' hq] at hr'
   rw [reps_inj I ds es xs hr hr']
  | lst es =>
   obtain ⟨p',ys,e,hq',hr'⟩:∃p' ys,V.ref p=.ref p'∧SqL X.K H p' ys∧Reps X.K H es ys:=by simpa only [Rep] using h'
   cases e
   exact (lst_not_tup I hq' hq).elim
  | _=>simp [Rep] at h'
theorem reps_inj (I:Inv X pins σ H s):∀(ds es:List Dt) (xs:List V),Reps X.K H ds xs→Reps X.K H es xs→ds=es
 | [],es,xs,h,h'=>by
  have h:xs=[]:=by simpa [Reps] using h
  subst h
  cases es with
  | nil=>rfl
  | cons e es=>simp [Reps] at h'
 | d::ds,es,xs,h,h'=>by
  obtain ⟨x,r,rfl,h1,h2⟩:∃x r,xs=x::r∧Rep X.K H d x∧Reps X.K H ds r:=by simpa only [Reps] using h
  cases es with
  | nil=>simp [Reps] at h'
  | cons e es =>
   obtain ⟨x',r',e',h1',h2'⟩:∃x' r',x::r=x'::r'∧Rep X.K H e x'∧Reps X.K H es r':=by simpa only [Reps] using h'
   cases e'
   rw [rep_inj I d e x h1 h1',reps_inj I ds es r h2 h2']
end
structure Eq3 (A:Around) (s:Shared) (u v:Value) (b:Bool):Prop where
 eq:EqAt A s u v b
 rc:RcAt A s u v b
 ne:RcNeAt A s u v (!b)
theorem items_eq (I:Inv X pins σ H s) {n:Nat} {A:Around} (ih:∀(d d':Dt) (x y:V) (u v:Value),depD d≤n→Rep X.K H d x→Rep X.K H d' y→RelV x u→RelV y v→Eq3 A.in1 s u v (eqDt d d'))
  {ds es:List Dt} {xs ys:List V} {us vs:List Value} (hd:depDs ds≤n) (hx:Reps X.K H ds xs) (hy:Reps X.K H es ys) (ru:Vals xs us) (rv:Vals ys vs) :
  ∀j (h1:j < us.toArray.size) (h2:j < vs.toArray.size),EqAt A.in1 s us.toArray[j] vs.toArray[j] (eqDt (ds.getD j .non) (es.getD j .non)):=by
 intro j h1 h2
 have l1:j < ds.length:=by rw [hx.length,ru.length];simpa using h1
 have l2:j < es.length:=by rw [hy.length,rv.length];simpa using h2
 have e1:ds[j]?=some ds[j]:=by simp [l1]
 have e2:es[j]?=some es[j]:=by simp [l2]
 obtain ⟨x,ex,rx⟩:=hx.get e1
 obtain ⟨y,ey,ry⟩:=hy.get e2
 obtain ⟨u,eu,qu⟩:=ru.get ex
 obtain ⟨v,ev,qv⟩:=rv.get ey
 have h1':j < us.length:=by simpa using h1
 have h2':j < vs.length:=by simpa using h2
 have z1:us.toArray[j]=u:=by
  have:us[j]?=some us[j]:=by simp [h1']
  rw [this] at eu
  simpa using eu
 have z2:vs.toArray[j]=v:=by
  have:vs[j]?=some vs[j]:=by simp [h2']
  rw [this] at ev
  simpa using ev
 rw [z1,z2]
 have g1:ds.getD j .non=ds[j]:=by simp [List.getD,l1]
 have g2:es.getD j .non=es[j]:=by simp [List.getD,l2]
 rw [g1,g2]
 exact (ih _ _ x y u v (Nat.le_trans (depDs_get e1) hd) rx ry qu qv).eq
theorem eq3_lists (I:Inv X pins σ H s) {n:Nat} {A:Around} (hu:A.units < cLine) (ih:∀(d d':Dt) (x y:V) (u v:Value),depD d≤n→Rep X.K H d x→Rep X.K H d' y→RelV x u→RelV y v→Eq3 A.in1 s u v (eqDt d d'))
  {ds es:List Dt} {p q:Addr} (hd:depDs ds≤n) (hp:Rep X.K H (.lst ds) (.ref p)) (hq:Rep X.K H (.lst es) (.ref q)):Eq3 A s (.ref p) (.ref q) (eqDts ds es):=by
 obtain ⟨p',xs,e,lx,hx⟩:∃p' xs,V.ref p=.ref p'∧SqL X.K H p' xs∧Reps X.K H ds xs:=by simpa only [Rep] using hp
 cases e
 obtain ⟨q',ys,e,ly,hy⟩:∃q' ys,V.ref q=.ref q'∧SqL X.K H q' ys∧Reps X.K H es ys:=by simpa only [Rep] using hq
 cases e
 obtain ⟨us,ru,pu,_⟩:=I.list lx
 obtain ⟨vs,rv,pv',_⟩:=I.list ly
 have both:RcAt A s (.ref p) (.ref q) (eqDts ds es)∧RcNeAt A s (.ref p) (.ref q) (!eqDts ds es):=by
  by_cases hl:ds.length=es.length
  ·have hsz:us.toArray.size=vs.toArray.size:=by simp [← ru.length,← rv.length,← hx.length,← hy.length,hl]
   have hz:us.toArray.size=ds.length:=by simp [← ru.length,← hx.length]
   have a:=RcAt.lists pu.isList pv'.isList hsz hu (items_eq I ih hd hx hy ru rv)
   have b:=RcNeAt.lists pu.isList pv'.isList hsz hu (items_eq I ih hd hx hy ru rv)
   rw [hz,eqDts_all ds es hl] at a b
   exact ⟨a,b⟩
  ·have hsz:(us.toArray.size != vs.toArray.size)=true:=by simp [← ru.length,← rv.length,← hx.length,← hy.length,hl]
   rw [eqDts_length ds es hl]
   exact ⟨RcAt.lists_lengths pu.isList pv'.isList hsz hu,RcNeAt.lists_lengths pu.isList pv'.isList hsz hu⟩
 refine ⟨?_,both.1,both.2⟩
 by_cases hpq:p=q
 ·subst hpq
  have:ds=es:=by
   rw [I.list_inj ly lx] at hy
   exact reps_inj I ds es xs hx hy
  subst this
  rw [eqDts_refl]
  exact EqAt.same _
 ·exact EqAt.of_refs hpq both.1
theorem eq3_tups (I:Inv X pins σ H s) {n:Nat} {A:Around} (hu:A.units < cLine) (ih:∀(d d':Dt) (x y:V) (u v:Value),depD d≤n→Rep X.K H d x→Rep X.K H d' y→RelV x u→RelV y v→Eq3 A.in1 s u v (eqDt d d'))
  {ds es:List Dt} {p q:Addr} (hd:depDs ds≤n) (hp:Rep X.K H (.tup ds) (.ref p)) (hq:Rep X.K H (.tup es) (.ref q)):Eq3 A s (.ref p) (.ref q) (eqDts ds es):=by
 obtain ⟨p',xs,e,lx,hx⟩:∃p' xs,V.ref p=.ref p'∧SqT X.K H p' xs∧Reps X.K H ds xs:=by simpa only [Rep] using hp
 cases e
 obtain ⟨q',ys,e,ly,hy⟩:∃q' ys,V.ref q=.ref q'∧SqT X.K H q' ys∧Reps X.K H es ys:=by simpa only [Rep] using hq
 cases e
 obtain ⟨us,ru,pu,_⟩:=I.tuple lx
 obtain ⟨vs,rv,pv',_⟩:=I.tuple ly
 have hz:us.toArray.size=ds.length:=by simp [← ru.length,← hx.length]
 have hz':vs.toArray.size=es.length:=by simp [← rv.length,← hy.length]
 have key:((List.range (min us.toArray.size vs.toArray.size)).all (fun j=>eqDt (ds.getD j .non) (es.getD j .non)) && us.toArray.size == vs.toArray.size)=eqDts ds es:=by
  rw [hz,hz']
  by_cases hl:ds.length=es.length
  ·rw [← hl,Nat.min_self,eqDts_all ds es hl];simp
  ·rw [eqDts_length ds es hl];simp [hl]
 have a:=RcAt.tuples pu pv' hu (items_eq I ih hd hx hy ru rv)
 have b:=RcNeAt.tuples pu pv' hu (items_eq I ih hd hx hy ru rv)
 rw [key] at a b
 refine ⟨?_,a,b⟩
 by_cases hpq:p=q
 ·subst hpq
  have:ds=es:=by
   rw [I.tuple_inj ly lx] at hy
   exact reps_inj I ds es xs hx hy
  subst this
  rw [eqDts_refl]
  exact EqAt.same _
 ·exact EqAt.of_refs hpq a
end
section
variable {X:Cx} {pins:List (Addr×Obj)} {σ:St} {H:Hp} {s:Shared}
theorem rep_ref_l {ds:List Dt} {x:V} (h:Rep X.K H (.lst ds) x):∃p xs,x=.ref p∧SqL X.K H p xs:=by
 obtain ⟨p,xs,e,l,_⟩:∃p xs,x=.ref p∧SqL X.K H p xs∧Reps X.K H ds xs:=by simpa only [Rep] using h
 exact ⟨p,xs,e,l⟩
theorem rep_ref_t {ds:List Dt} {x:V} (h:Rep X.K H (.tup ds) x):∃p xs,x=.ref p∧SqT X.K H p xs:=by
 obtain ⟨p,xs,e,l,_⟩:∃p xs,x=.ref p∧SqT X.K H p xs∧Reps X.K H ds xs:=by simpa only [Rep] using h
 exact ⟨p,xs,e,l⟩
theorem eq3_step (I:Inv X pins σ H s) {n:Nat} {A:Around} (ih:∀(d d':Dt) (x y:V) (u v:Value),depD d < n→Rep X.K H d x→Rep X.K H d' y→RelV x u→RelV y v→Eq3 A.in1 s u v (eqDt d d'))
  {d d':Dt} {x y:V} {u v:Value} (hu:A.units + n < cLine) (hd:depD d≤n) (hx:Rep X.K H d x) (hy:Rep X.K H d' y) (rx:RelV x u) (ry:RelV y v):Eq3 A s u v (eqDt d d'):=by
 have hu0:A.units < cLine:=by lia
 cases d with
 | non =>
  have e:x=V.non:=by simpa [Rep] using hx
  subst e
  cases rx
  cases d' with
  | non =>
   have e:y=V.non:=by simpa [Rep] using hy
   subst e
   cases ry
   exact ⟨(EqAt.same _),RcAt.none_none , RcNeAt.none_none ⟩
  | bl b =>
   have e:y=V.bl b:=by simpa [Rep] using hy
   subst e
   cases ry
   exact ⟨(EqAt.none_bool b),RcAt.none_bool b,RcNeAt.none_bool b⟩
  | int b =>
   have e:y=V.int b:=by simpa [Rep] using hy
   subst e
   obtain ⟨u,rfl⟩:=ry
   exact ⟨(EqAt.none_int b u),RcAt.none_int b u,RcNeAt.none_int b u⟩
  | str b =>
   have e:y=V.str b:=by simpa [Rep] using hy
   subst e
   obtain ⟨u,rfl⟩:=ry
   exact ⟨(EqAt.none_str b u),RcAt.none_str b u,RcNeAt.none_str b u⟩
  | lst b =>
   obtain ⟨pW,xsW,rfl,lW⟩:=rep_ref_l hy
   cases ry
   obtain ⟨itW,_,plW,_⟩:=I.list lW
   exact ⟨EqAt.none_list  plW.isList hu0,RcAt.none_list  plW.isList hu0,RcNeAt.none_list  plW.isList hu0⟩
  | tup b =>
   obtain ⟨pW,xsW,rfl,lW⟩:=rep_ref_t hy
   cases ry
   obtain ⟨itW,_,plW,_⟩:=I.tuple lW
   exact ⟨EqAt.none_tuple  plW hu0,RcAt.none_tuple  plW hu0,RcNeAt.none_tuple  plW hu0⟩
 | bl a =>
  have e:x=V.bl a:=by simpa [Rep] using hx
  subst e
  cases rx
  cases d' with
  | non =>
   have e:y=V.non:=by simpa [Rep] using hy
   subst e
   cases ry
   exact ⟨(EqAt.bool_none a),RcAt.bool_none a,RcNeAt.bool_none a⟩
  | bl b =>
   have e:y=V.bl b:=by simpa [Rep] using hy
   subst e
   cases ry
   exact ⟨(EqAt.bool_bool a b),RcAt.bool_bool a b,RcNeAt.bool_bool a b⟩
  | int b =>
   have e:y=V.int b:=by simpa [Rep] using hy
   subst e
   obtain ⟨u,rfl⟩:=ry
   exact ⟨(EqAt.bool_int a b u),RcAt.bool_int a b u,RcNeAt.bool_int a b u⟩
  | str b =>
   have e:y=V.str b:=by simpa [Rep] using hy
   subst e
   obtain ⟨u,rfl⟩:=ry
   exact ⟨(EqAt.bool_str a b u),RcAt.bool_str a b u,RcNeAt.bool_str a b u⟩
  | lst b =>
   obtain ⟨pW,xsW,rfl,lW⟩:=rep_ref_l hy
   cases ry
   obtain ⟨itW,_,plW,_⟩:=I.list lW
   exact ⟨EqAt.bool_list a plW.isList hu0,RcAt.bool_list a plW.isList hu0,RcNeAt.bool_list a plW.isList hu0⟩
  | tup b =>
   obtain ⟨pW,xsW,rfl,lW⟩:=rep_ref_t hy
   cases ry
   obtain ⟨itW,_,plW,_⟩:=I.tuple lW
   exact ⟨EqAt.bool_tuple a plW hu0,RcAt.bool_tuple a plW hu0,RcNeAt.bool_tuple a plW hu0⟩
 | int a =>
  have e:x=V.int a:=by simpa [Rep] using hx
  subst e
  obtain ⟨t,rfl⟩:=rx
  cases d' with
  | non =>
   have e:y=V.non:=by simpa [Rep] using hy
   subst e
   cases ry
   exact ⟨(EqAt.int_none a t),RcAt.int_none a t,RcNeAt.int_none a t⟩
  | bl b =>
   have e:y=V.bl b:=by simpa [Rep] using hy
   subst e
   cases ry
   exact ⟨(EqAt.int_bool a t b),RcAt.int_bool a t b,RcNeAt.int_bool a t b⟩
  | int b =>
   have e:y=V.int b:=by simpa [Rep] using hy
   subst e
   obtain ⟨u,rfl⟩:=ry
   exact ⟨(EqAt.int_int a t b u),RcAt.int_int a t b u,RcNeAt.int_int a t b u⟩
  | str b =>
   have e:y=V.str b:=by simpa [Rep] using hy
   subst e
   obtain ⟨u,rfl⟩:=ry
   exact ⟨(EqAt.int_str a t b u),RcAt.int_str a t b u,RcNeAt.int_str a t b u⟩
  | lst b =>
   obtain ⟨pW,xsW,rfl,lW⟩:=rep_ref_l hy
   cases ry
   obtain ⟨itW,_,plW,_⟩:=I.list lW
   exact ⟨EqAt.int_list a t plW.isList hu0,RcAt.int_list a t plW.isList hu0,RcNeAt.int_list a t plW.isList hu0⟩
  | tup b =>
   obtain ⟨pW,xsW,rfl,lW⟩:=rep_ref_t hy
   cases ry
   obtain ⟨itW,_,plW,_⟩:=I.tuple lW
   exact ⟨EqAt.int_tuple a t plW hu0,RcAt.int_tuple a t plW hu0,RcNeAt.int_tuple a t plW hu0⟩
 | str a =>
  have e:x=V.str a:=by simpa [Rep] using hx
  subst e
  obtain ⟨t,rfl⟩:=rx
  cases d' with
  | non =>
   have e:y=V.non:=by simpa [Rep] using hy
   subst e
   cases ry
   exact ⟨(EqAt.str_none a t),RcAt.str_none a t,RcNeAt.str_none a t⟩
  | bl b =>
   have e:y=V.bl b:=by simpa [Rep] using hy
   subst e
   cases ry
   exact ⟨(EqAt.str_bool a t b),RcAt.str_bool a t b,RcNeAt.str_bool a t b⟩
  | int b =>
   have e:y=V.int b:=by simpa [Rep] using hy
   subst e
   obtain ⟨u,rfl⟩:=ry
   exact ⟨(EqAt.str_int a t b u),RcAt.str_int a t b u,RcNeAt.str_int a t b u⟩
  | str b =>
   have e:y=V.str b:=by simpa [Rep] using hy
   subst e
   obtain ⟨u,rfl⟩:=ry
   exact ⟨(EqAt.str_str a t b u),RcAt.str_str a t b u,RcNeAt.str_str a t b u⟩
  | lst b =>
   obtain ⟨pW,xsW,rfl,lW⟩:=rep_ref_l hy
   cases ry
   obtain ⟨itW,_,plW,_⟩:=I.list lW
   exact ⟨EqAt.str_list a t plW.isList hu0,RcAt.str_list a t plW.isList hu0,RcNeAt.str_list a t plW.isList hu0⟩
  | tup b =>
   obtain ⟨pW,xsW,rfl,lW⟩:=rep_ref_t hy
   cases ry
   obtain ⟨itW,_,plW,_⟩:=I.tuple lW
   exact ⟨EqAt.str_tuple a t plW hu0,RcAt.str_tuple a t plW hu0,RcNeAt.str_tuple a t plW hu0⟩
 | lst a =>
  obtain ⟨pU,xsU,rfl,lU⟩:=rep_ref_l hx
  cases rx
  obtain ⟨itU,_,plU,_⟩:=I.list lU
  cases d' with
  | non =>
   have e:y=V.non:=by simpa [Rep] using hy
   subst e
   cases ry
   exact ⟨EqAt.list_none  plU.isList hu0,RcAt.list_none  plU.isList hu0,RcNeAt.list_none  plU.isList hu0⟩
  | bl b =>
   have e:y=V.bl b:=by simpa [Rep] using hy
   subst e
   cases ry
   exact ⟨EqAt.list_bool b plU.isList hu0,RcAt.list_bool b plU.isList hu0,RcNeAt.list_bool b plU.isList hu0⟩
  | int b =>
   have e:y=V.int b:=by simpa [Rep] using hy
   subst e
   obtain ⟨u,rfl⟩:=ry
   exact ⟨EqAt.list_int b u plU.isList hu0,RcAt.list_int b u plU.isList hu0,RcNeAt.list_int b u plU.isList hu0⟩
  | str b =>
   have e:y=V.str b:=by simpa [Rep] using hy
   subst e
   obtain ⟨u,rfl⟩:=ry
   exact ⟨EqAt.list_str b u plU.isList hu0,RcAt.list_str b u plU.isList hu0,RcNeAt.list_str b u plU.isList hu0⟩
  | lst b =>
   obtain ⟨pW,xsW,rfl,lW⟩:=rep_ref_l hy
   cases ry
   obtain ⟨itW,_,plW,_⟩:=I.list lW
   have hd:depDs a + 1≤n:=by simpa only [depD] using hd
   exact eq3_lists I (n:=n - 1) hu0 (fun d d' x y u v h=>ih d d' x y u v (by lia)) (by lia) hx hy
  | tup b =>
   obtain ⟨pW,xsW,rfl,lW⟩:=rep_ref_t hy
   cases ry
   obtain ⟨itW,_,plW,_⟩:=I.tuple lW
   exact ⟨EqAt.list_tuple plU.isList plW hu0,RcAt.list_tuple plU.isList plW hu0,RcNeAt.list_tuple plU.isList plW hu0⟩
 | tup a =>
  obtain ⟨pU,xsU,rfl,lU⟩:=rep_ref_t hx
  cases rx
  obtain ⟨itU,_,plU,_⟩:=I.tuple lU
  cases d' with
  | non =>
   have e:y=V.non:=by simpa [Rep] using hy
   subst e
   cases ry
   exact ⟨EqAt.tuple_none  plU hu0,RcAt.tuple_none  plU hu0,RcNeAt.tuple_none  plU hu0⟩
  | bl b =>
   have e:y=V.bl b:=by simpa [Rep] using hy
   subst e
   cases ry
   exact ⟨EqAt.tuple_bool b plU hu0,RcAt.tuple_bool b plU hu0,RcNeAt.tuple_bool b plU hu0⟩
  | int b =>
   have e:y=V.int b:=by simpa [Rep] using hy
   subst e
   obtain ⟨u,rfl⟩:=ry
   exact ⟨EqAt.tuple_int b u plU hu0,RcAt.tuple_int b u plU hu0,RcNeAt.tuple_int b u plU hu0⟩
  | str b =>
   have e:y=V.str b:=by simpa [Rep] using hy
   subst e
   obtain ⟨u,rfl⟩:=ry
   exact ⟨EqAt.tuple_str b u plU hu0,RcAt.tuple_str b u plU hu0,RcNeAt.tuple_str b u plU hu0⟩
  | lst b =>
   obtain ⟨pW,xsW,rfl,lW⟩:=rep_ref_l hy
   cases ry
   obtain ⟨itW,_,plW,_⟩:=I.list lW
   exact ⟨EqAt.tuple_list plU plW.isList hu0,RcAt.tuple_list plU plW.isList hu0,RcNeAt.tuple_list plU plW.isList hu0⟩
  | tup b =>
   obtain ⟨pW,xsW,rfl,lW⟩:=rep_ref_t hy
   cases ry
   obtain ⟨itW,_,plW,_⟩:=I.tuple lW
   have hd:depDs a + 1≤n:=by simpa only [depD] using hd
   exact eq3_tups I (n:=n - 1) hu0 (fun d d' x y u v h=>ih d d' x y u v (by lia)) (by lia) hx hy
end
section
variable {X:Cx} {pins:List (Addr×Obj)} {σ:St} {H:Hp} {s:Shared}
theorem eq3 (I:Inv X pins σ H s):∀(n:Nat) (A:Around) (d d':Dt) (x y:V) (u v:Value),A.units + n < cLine→depD d≤n→Rep X.K H d x→Rep X.K H d' y→RelV x u→RelV y v→Eq3 A s u v (eqDt d d'):=by
 intro n
 induction n with
 | zero=>exact fun A d d' x y u v hu hd hx hy rx ry=>eq3_step I (n:=0) (fun _ _ _ _ _ _ h=>absurd h (Nat.not_lt_zero _)) hu hd hx hy rx ry
 | succ n ih=>exact fun A d d' x y u v hu hd hx hy rx ry=>eq3_step I (n:=n + 1) (fun d d' x y u v h hx hy rx ry=>ih A.in1 d d' x y u v (by show A.units + 1 + n < cLine;lia) (Nat.le_of_lt_succ h) hx hy rx ry) hu hd hx hy rx ry
end
section
variable {X:Cx}
theorem op_eq_d {k:Nat} (hr:Room k X.A):OpR X (compareOp .Eq) (fun x y H Q=>∃d d',Rep X.K H d x∧Rep X.K H d' y∧depD d≤100∧Q (.bl (eqDt d d')) H):=by
 intro pins s σ H x y v u Q I rx ry h
 obtain ⟨d,d',h1,h2,hd,q⟩:=h
 exact (eq3 I 100 X.A d d' x y v u (by have:=hr.un;lia) hd h1 h2 rx ry).rc X.prog X.w X.xe _ ⟨.bl _,H,I,rfl,q⟩
theorem op_ne_d {k:Nat} (hr:Room k X.A):OpR X (compareOp .NotEq) (fun x y H Q=>∃d d',Rep X.K H d x∧Rep X.K H d' y∧depD d≤100∧Q (.bl (!eqDt d d')) H):=by
 intro pins s σ H x y v u Q I rx ry h
 obtain ⟨d,d',h1,h2,hd,q⟩:=h
 exact (eq3 I 100 X.A d d' x y v u (by have:=hr.un;lia) hd h1 h2 rx ry).ne X.prog X.w X.xe _ ⟨.bl _,H,I,rfl,q⟩
end
end L2
namespace L2
open PySem PySem.Spec PyProof.Rows
def isW:V→Bool
 | .int _=>true
 | _=>false
def isIB:V→Bool
 | .int _=>true
 | .bl _=>true
 | _=>false
def isB:V→Bool
 | .bl _=>true
 | _=>false
def isS:V→Bool
 | .str _=>true
 | _=>false
theorem isW_eq (x:V):isW x=(isIB x && !isB x):=by cases x <;> rfl
section
variable {K:W.Frag} {H H':Hp} {x:V} {n:String}
theorem bt_int (h:TyOf K H x (.type n)):clsIs K (.type n) (.ty "int")=some (isIB x):=by cases h <;> rfl
theorem bt_bool (h:TyOf K H x (.type n)):clsIs K (.type n) (.ty "bool")=some (isB x):=by cases h <;> rfl
theorem bt_str (h:TyOf K H x (.type n)):clsIs K (.type n) (.ty "str")=some (isS x):=by cases h <;> rfl
theorem bt_list (h:TyOf K H x (.type n)):clsIs K (.type n) (.ty "list")=some (n == "list"):=by cases h <;> rfl
theorem bt_tuple (h:TyOf K H x (.type n)):clsIs K (.type n) (.ty "tuple")=some (n == "tuple"):=by cases h <;> rfl
theorem TyOf.same {t:Value} (e:Same H H') (h:TyOf K H x t):TyOf K H' x t:=by
 cases h with
 | non=>exact .non
 | bl b=>exact .bl b
 | int i=>exact .int i
 | str y=>exact .str y
 | flt y=>exact .flt y
 | lst q=>exact .lst (e _ _ q)
 | frz q=>exact .frz (e _ _ q)
 | tup q=>exact .tup (e _ _ q)
 | dK q=>exact .dK (e _ _ q)
 | dT q=>exact .dT (e _ _ q)
 | ins q c a b d m=>exact .ins (e _ _ q) c a b d m
end
theorem atI_0 {α:Type} {c:α} {cs:List α}:atI (c::cs) (0:Int)=some c:=atI_nat (j:=0) rfl
theorem atI_lt {α:Type} {xs:List α} {i:Int} (h0:0≤i) (h1:i < xs.length):∃v,atI xs i=some v∧v∈xs:=by
 obtain ⟨j,rfl⟩:∃j:Nat,i=(j:Int):=⟨i.toNat,by lia⟩
 have hj:j < xs.length:=by lia
 exact ⟨xs[j],atI_nat (by simp [hj]),List.getElem_mem hj⟩
theorem Same.new {H:Hp} {p:Addr} {o:HO} (h:H p=none):Same H (upd H p o):=fun b u e=>by
 rw [upd_ne (ne_of_none e h)]
 exact e
theorem Same.tup {K:W.Frag} {H H':Hp} {a:Addr} {xs:List V} (e:Same H H') (h:SqT K H a xs):SqT K H' a xs:=by
 rcases h with (h | ⟨o,h⟩) | h
 ·exact .inl (.inl (e _ _ h))
 ·exact .inl (.inr ⟨o,e _ _ h⟩)
 ·exact .inr h
def Off (p:Addr) (H H':Hp):Prop:=∀b,b≠p→H' b=H b
theorem Off.trans {p:Addr} {H H1 H2:Hp} (a:Off p H H1) (b:Off p H1 H2):Off p H H2:=fun c h=>(b c h).trans (a c h)
theorem Off.upd {p:Addr} {H:Hp} {o:HO}:Off p H (upd H p o):=fun _ h=>upd_ne h
theorem small_line {n:Nat} (h:n≤1000000):n≤sizeLine:=Nat.le_trans h (by decide)
theorem fnok_of {P:Program} {w:World} {K:W.Frag} {mg:Str→Option Value} {base:Heap} {CX:CXT} {x:Str} {ps:List Str} {sp:Sp} {k:Nat} {st:Stmt} {N:List Str} {f:Addr} {fd:FuncData}
  (F:Fun K x x st f fd) (S:FnScope N ps (defScope st)) (len:∀vs H Q E,sp vs H Q E→vs.length=ps.length)
  (hbody:∀(cdv:Value) (A:Around) (outer:List Env) (s:Shared) (H:Hp) (vs:List V) (Q:VK) (E:XK),Room k (A.deeper (envOfC x (defScope st) s.heap.objs.size f cdv))→sp vs H Q E →
   ∃t,PSs (cxOf CX P w K mg base N x (defScope st) f cdv A outer s H E).nox (defBody st) t∧t { nx:=fun _ H'=>Q .non H',rt:=Q } (start N vs) H):FnOk P w K mg base CX (k + 1) f fd ps sp:=by
 obtain ⟨oc,od,kV,doc,pm,an,cdv,ct,osl,rfl,lk,hcd⟩:=F.ex
 refine fn_of lk hcd S len fun A outer s H vs Q E hr hsp=>?_
 obtain ⟨t,h,q⟩:=hbody cdv A outer s H vs Q E hr hsp
 exact ⟨t,h.nox,q⟩
structure ExcF (B newId initId:String) (bm:List Value):Prop where
 call:ExcCallFacts B newId initId
 split:splitId newId=some (B, "__new__")
 kind:builtinKind newId=some .builtinFn
 row:Manifest.signature? newId=some ⟨.any,B,B,.cls,[⟨"args", .varPos,false⟩,⟨"kwargs", .varKw,false⟩]⟩
 hasB:bm.contains (.type B)=true
 hasE:bm.contains (.type "BaseException")=true
 noA:bm.contains (.type "AttributeError")=false
 noN:bm.contains (.type "NameError")=false
 canon:Manifest.canonical newId=Manifest.canonical "BaseException.__new__"
theorem excF_ValueError:ExcF "ValueError" "ValueError.__new__" "ValueError.__init__" [.type "ValueError", .type "Exception", .type "BaseException", .type "object"] :=
 ⟨PySem.F.excBase_ValueError.toExcCallFacts,PySem.F.excBase_ValueError.newSplit,PySem.F.excBase_ValueError.newKind,PySem.F.excBase_ValueError.newRow,PySem.F.excBase_ValueError.hasB,PySem.F.excBase_ValueError.hasBase,PySem.F.excBase_ValueError.noAttr,PySem.F.excBase_ValueError.noName,PySem.F.excBase_ValueError.canon⟩
theorem ExcF.under {B newId initId:String} {bm:List Value} (F:ExcF B newId initId bm) (R:Addr):ExcF B newId initId (.ref R::bm) :=
 ⟨F.call,F.split,F.kind,F.row,by rw [List.contains_cons,F.hasB,Bool.or_true],by rw [List.contains_cons,F.hasE,Bool.or_true],by rw [List.contains_cons,F.noA];rfl,by rw [List.contains_cons,F.noN];rfl,F.canon⟩
section
variable {prog:Program} {w:World} {M:Model} {A:Around} {E:Value→Shared→Prop} {R:Result→Shared→Prop} {h:Heap} {g:Array GenState} {d:Drawn} {t:Nat} {os:OsState}
variable {nm q:Str} {C N:Addr} {bs bm:List Value} {hdct:Bool} {sn:List Str} {sub:List Value} {ab:Bool} {col:Option Bool} {dd:Option Addr} {k0 k1 k2 k3 k5:Option Value} {B newId initId:String}
theorem ExcF.has (F:ExcF B newId initId bm):(Value.ref C::bm).contains (.type B)=true:=by rw [List.contains_cons,F.hasB,Bool.or_true]
theorem exc_check_new (F:ExcF B newId initId bm) {rest:List Value} {Q:Unit→Shared→Prop} (hC:h.get? C=some (excClassObj nm q C N bs bm hdct sn sub ab col dd k0 k1 k2 k3 k5 newId)) (hq:Q () ⟨h,g,d,t,os⟩) :
  wpAny M A (checkBuiltinCall newId ⟨.ref C::rest,[]⟩) Q E ⟨h,g,d,t,os⟩:=by
 have e1:(Value.ref C::bm).contains (.type B)=true:=F.has
 have e2:=F.call.noStar
 simp only [checkBuiltinCall,F.kind,F.split,F.row]
 repeat (first | refine wpAny_loadPart_at hC ?_ | (refine wpAny_isSubtype_exc hC ?_;rw [e1]) | refine wpAny_staticBase_exc hC ?_ | refine wpAny_madeBy_exc hC ?_ | simp only [bne_self_eq_false,Bool.false_eq_true,if_false] | wp_step)
 exact hq
theorem exc_new (F:ExcF B newId initId bm) {rest:List Value} (hC:h.get? C=some (excClassObj nm q C N bs bm hdct sn sub ab col dd k0 k1 k2 k3 k5 newId))
  (hq:R (.ok (.ret (.ref (h.objs.size + 1)))) ⟨(h.push { cls:=.type "tuple", data:=.seq rest.toArray }).push { cls:=.ref C,data:=.fields #[.ref h.objs.size,.none,.none,.none,.bool false,.none] },g,d,t,os⟩) (hz:rest.length≤sizeLine) :
  codeAny (model prog w) A (.builtin newId ⟨.ref C::rest,[]⟩) R ⟨h,g,d,t,os⟩:=by
 have e0:=F.call.ends
 have e1:(Value.ref C::bm).contains (.type B)=true:=F.has
 have e2:(Value.ref C::bm).contains (.type "AttributeError")=false:=by rw [List.contains_cons,F.noA];rfl
 have e3:(Value.ref C::bm).contains (.type "NameError")=false:=by rw [List.contains_cons,F.noN];rfl
 refine codeAny_builtinAt F.call.entry ?_
 unfold Builtin.«BaseException.__new__»;refine PySem.wpAt_bind ?_
 show PySem.wpAt _ _ _ (stack >>= _) _ _ _;refine PySem.wpAt_bind (PySem.wpAt_stack fun p below=>PySem.wpAt_of_wpAny ?_)
 wp_walk;refine PySem.wpAt_of_wpAny ?_
 rw [F.call.owner]
 repeat (first | with_reducible refine wpAny_madeHere_exc F.canon hC ?_ | with_reducible refine wpAny_loadPart_at hC ?_ | (with_reducible refine wpAny_isSubtype_exc hC ?_;first | rw [e1] | rw [e2] | rw [e3]) | wp_step)
 show R _ _;rw [Heap.size_push];exact hq
theorem exc_make (F:ExcF B newId initId bm) {rest:List Value} {fI:Addr} {oI:Obj} {Q:Value→Shared→Prop} (hC:h.get? C=some (excClassObj nm q C N bs bm hdct sn sub ab col dd k0 k1 k2 k3 k5 newId))
  (hi:W.Looks (model prog w) h (typeLookup (.ref C) "__init__") (some (.ref fI))) (hfI:h.get? fI=some oI) (hfc:oI.cls=.type "function")
  (hq:∀h',(∀b o,h.get? b=some o→h'.get? b=some o)→h'.get? (h.objs.size + 1)=some { cls:=.ref C,data:=.fields #[.ref h.objs.size,.none,.none,.none,.bool false,.none] }→wpAny (model prog w) (A.under (.builtin "type.__call__" ⟨.ref C::rest,[]⟩)) (PySem.call (.ref fI) (.ref (h.objs.size + 1)::rest)) (fun r s'=>r=.none∧Q (.ref (h.objs.size + 1)) s') E ⟨h',g,d,t,os⟩) (hz:rest.length≤sizeLine) :
  wpAny (model prog w) A (PySem.call (.ref C) rest) Q E ⟨h,g,d,t,os⟩:=by
 have f1:=tc_lookup
 have f2:=tc_bind (.ref C)
 have hT:(⟨h,g,d,t,os⟩:Shared).TypeIs (.ref C) "type" := ⟨_,hC,rfl⟩
 refine wpAny_call (codeAny_of_tree ?_)
 show wpAny _ _ (callAny (.ref C) _) _ _ _
 repeat (any_goals (first | assumption | with_reducible refine wpAny_loadPart_at hC ?_ | wp_step))
 refine ⟨rfl,codeAny_call_builtin_at (Code.quiet_builtin _ (by decide +kernel)) entry_typeCall (wpAny_check_type_call_sub hC ?_)⟩
 repeat (first | with_reducible refine wpAny_loadPart_at hC ?_ | with_reducible refine wpAny_madeBy_exc hC ?_ | wp_step)
 refine codeAny_call_builtin_code (Code.quiet_builtin _ F.call.quiet) (exc_check_new F hC (exc_new F hC ?_ hz))
 show wpAny _ _ _ _ _ (⟨(h.push { cls:=.type "tuple", data:=.seq rest.toArray }).push { cls:=.ref C,data:=.fields #[.ref h.objs.size,.none,.none,.none,.bool false,.none] },g,d,t,os⟩:Shared)
 generalize hh2:(h.push { cls:=.type "tuple", data:=.seq rest.toArray }).push { cls:=.ref C,data:=.fields #[.ref h.objs.size,.none,.none,.none,.bool false,.none] }=h2
 have kp:∀b o,h.get? b=some o→h2.get? b=some o:=fun b o e=>by rw [← hh2];exact Heap.get?_push_of_some _ (Heap.get?_push_of_some _ e)
 have hget:h2.get? (h.objs.size + 1)=some { cls:=.ref C,data:=.fields #[.ref h.objs.size,.none,.none,.none,.bool false,.none] }:=by rw [← hh2];heap_get
 have htup:h2.get? h.objs.size=some { cls:=.type "tuple", data:=.seq rest.toArray }:=by rw [← hh2];exact Heap.get?_push_of_some _ (Heap.get?_push_at rfl rfl)
 have hcC:(Value.ref C::bm).contains (.ref C)=true:=by simp
 unfold isInstance
 repeat (first | with_reducible refine wpAny_loadPart_at hget ?_ | (with_reducible refine wpAny_isSubtype_exc (kp _ _ hC) ?_;rw [hcC]) | wp_step)
 show wpAny _ _ (typeLookup (.ref C) _) _ _ _
 refine hi _ _ _ _ kp ?_
 refine wpAny_holding (wpAny_bind ?_)
 unfold bindSpecial;refine wpAny_bind (wpAny_typeOf (T := "function") ⟨_,kp _ _ hfI,hfc⟩ ?_)
 rw [if_pos (by decide)]
 refine wpAny_pure (wpAny_bind (wpAny_mono (hq h2 kp hget) (fun r s' hr=>?_) fun _ _ x=>x))
 obtain ⟨rfl,hQ⟩:=hr
 wp_walk
 exact hQ
end
section
variable {prog:Program} {w:World} {A:Around} {E:Value→Shared→Prop} {s:Shared} {K:W.Frag} {e C:Addr} {oe:Obj} {vs:Array Value} {name:Str} {v:Value}
theorem exc_notCls (hf:oe.data=.fields vs):W.notCls oe=true:=by
 unfold W.notCls
 rw [hf]
def exOnly:List Value→Bool
 | .ref _::r=>exOnly r
 | l=>l == [.type "ValueError", .type "Exception", .type "BaseException", .type "object"]
theorem refuse_ve (self:Value):refuseLoop self "__setattr__" [.type "ValueError", .type "Exception", .type "BaseException", .type "object"]=pure ():=by kernel_rfl
theorem refuse_ex (self:Value):∀{l:List Value},exOnly l=true→refuseLoop self "__setattr__" l=pure ()
 | .ref c::r,h=>by
  rw [refuseLoop_ref]
  exact refuse_ex self h
 | [],h=>by cases h
 | .type n::r,h=>by
  have z:(Value.type n::r)=[.type "ValueError", .type "Exception", .type "BaseException", .type "object"]:=eq_of_beq h
  rw [z]
  exact refuse_ve self
 | .none::r,h=>by cases (eq_of_beq h:(Value.none::r)=_)
 | .bool _::r,h=>by cases (eq_of_beq h:(_::r)=_)
 | .int _ _::r,h=>by cases (eq_of_beq h:(_::r)=_)
 | .str _ _::r,h=>by cases (eq_of_beq h:(_::r)=_)
 | .bytes _ _::r,h=>by cases (eq_of_beq h:(_::r)=_)
 | .float _ _::r,h=>by cases (eq_of_beq h:(_::r)=_)
 | .builtin _::r,h=>by cases (eq_of_beq h:(_::r)=_)
 | .ellipsis::r,h=>by cases (eq_of_beq h:(_::r)=_)
 | .notImplemented::r,h=>by cases (eq_of_beq h:(_::r)=_)
theorem exOnly_has:∀{l:List Value},exOnly l=true→l.contains (.type "object")=true∧l.isEmpty=false
 | .ref c::r,h=>⟨by rw [List.contains_cons,(exOnly_has (l:=r) h).1,Bool.or_true],rfl⟩
 | [],h=>by cases h
 | .type n::r,h=>by
  have z:(Value.type n::r)=[.type "ValueError", .type "Exception", .type "BaseException", .type "object"]:=eq_of_beq h
  rw [z]
  exact ⟨by decide,rfl⟩
 | .none::r,h=>by cases (eq_of_beq h:(Value.none::r)=_)
 | .bool _::r,h=>by cases (eq_of_beq h:(_::r)=_)
 | .int _ _::r,h=>by cases (eq_of_beq h:(_::r)=_)
 | .str _ _::r,h=>by cases (eq_of_beq h:(_::r)=_)
 | .bytes _ _::r,h=>by cases (eq_of_beq h:(_::r)=_)
 | .float _ _::r,h=>by cases (eq_of_beq h:(_::r)=_)
 | .builtin _::r,h=>by cases (eq_of_beq h:(_::r)=_)
 | .ellipsis::r,h=>by cases (eq_of_beq h:(_::r)=_)
 | .notImplemented::r,h=>by cases (eq_of_beq h:(_::r)=_)
def excOver (K:W.Frag) (C:Addr):Bool:=(W.clsIn K C).any fun cd=>exOnly cd.mro
theorem osa_exc {ox:Obj} {od:Option Obj} {tk:Tok} {R:Result→Shared→Prop} (X:K.In s.heap) (I:W.InstAt s.heap e ox C od) (hp:excOver K C=true) (ht:W.takerIn K C name=some none)
  (h:∀b,wpAny (model prog w) A.in1 (Builtin.ObjectAttr.storeInOwnDict (.ref e) (.ref C) (.str name tk) name v b)
   (fun fin s'=>match fin with | .done f=>R (.ok f) s' | .again c'=>c'.quiet=true∧codeAny (model prog w) A c' R s') (fun x s'=>R (.error x) s') s) :
  codeAny (model prog w) A (.call (.builtin "object.__setattr__") ⟨[.ref e,.str name tk,v],[]⟩) R s:=by
 have SF:=PySem.F.store_object
 obtain ⟨cd,hc,ho⟩:=W.any_some hp
 obtain ⟨hasO,ne⟩:=exOnly_has ho
 have sub:W.Looks (model prog w) s.heap (isInstance (.ref e) (.type "object")) true:=I.type.andThen (W.looks_mroIn X (by unfold W.mroIn;rw [hc,Option.bind_some,if_neg (by rw [ne];decide),hasO]))
 refine codeAny_call_builtin SF.slot.plain SF.entry (@W.check_slot (model prog w) _ _ s "object.__setattr__" "object" "__setattr__" (.ref e) [.str name tk,v] [] _ SF.kind SF.split sub (SF.args (.ref e) (.str name tk) v) ?_)
 obtain ⟨attr,ha,hr⟩:=Option.bind_eq_some_iff.mp ht
 have hm:W.Looks (model prog w) s.heap (mroOf (.ref C)) cd.mro:=(W.looks_clsIn X hc).andThen .now
 have L3:W.Looks (model prog w) s.heap (Builtin.ObjectAttr.storeTaker? attr) none:=by
  cases attr with
  | none=>exact .now
  | some a =>
   obtain ⟨b,hb,q⟩:=Option.map_eq_some_iff.mp hr
   refine (W.looks_takesIn X hb).andThen ?_
   cases b with
   | true=>cases q
   | false=>exact .now
 rw [W.osa_eq,refuse_eq]
 refine wpAny_bind (wpAny_bind (I.type.here (wpAny_bind (hm.here ?_))))
 rw [refuse_ex _ ho]
 refine wpAny_pure (wpAny_bind (I.type.here (wpAny_bind ((W.looks_findIn X ha).here (wpAny_bind (L3.here ?_))))))
 exact h _
theorem exc_set0 {Q:Unit→Shared→Prop} (X:K.In s.heap) (he:s.heap.get? e=some oe) (hc:oe.cls=.ref C) (hd:oe.dict=none) (hf:oe.data=.fields vs)
  (hs:W.findIn K (.ref C) "__setattr__" = some (some (.builtin "object.__setattr__"))) (hp:excOver K C=true) (ht:W.takerIn K C name=some none) (hh:W.hasDictIn K C=true)
  (h:∀h',(∀b o,b≠e→s.heap.get? b=some o→h'.get? b=some o)→h'.get? e=some { oe with dict:=some s.heap.objs.size }→h'.Ns1 s.heap.objs.size (fun y=>if y=name then some v else none)→Q () { s with heap:=h',toks:=s.toks + 2 }) :
  wpAny (model prog w) A (setAttr (.ref e) name v) Q E s:=by
 have J:W.InstAt s.heap e oe C none:=⟨he,hc,exc_notCls hf,by rw [hd];trivial⟩
 refine W.set_plain X J hs (osa_exc (s:={ s with toks:=s.toks + 1 }) X J hp ht fun b=>?_)
 obtain ⟨cd,hcd,hdd⟩:=W.any_some hh
 obtain ⟨oc,od,odt,osl⟩:=oe
 simp only at hc hd hf
 subst hc hd hf
 refine wpAny_bind (wpAny_pure (wpAny_bind (wpAny_bind (wpAny_loadPart he (wpAny_bind (W.Looks.here (s:={ s with toks:=s.toks + 1 }) (W.looks_clsIn X hcd) ?_))))))
 rw [hdd]
 show wpAny (model prog w) A.in1 (alloc { cls:=.type "dict", data:=.dict #[] } >>= fun d=>(update e fun o=>{ o with dict:=some d }) >>= fun _=>dictMade (.ref C) e d) _ _ _
 have hlt:e < s.heap.objs.size:=Heap.lt_size he
 have hne:e≠s.heap.objs.size:=Nat.ne_of_lt hlt
 refine wpAny_bind (wpAny_alloc (wpAny_bind (wpAny_update (Heap.get?_push_of_some _ he) ?_)))
 show wpAny (model prog w) A.in1 (pure (some s.heap.objs.size)) _ _ _
 refine wpAny_pure (wpAny_bind (wpAny_pure (wpAny_bind ?_)))
 have e0:((s.heap.push { cls:=.type "dict", data:=.dict #[] }).update e fun o=>{ o with dict:=some s.heap.objs.size }).get? s.heap.objs.size=some { cls:=.type "dict", data:=.dict #[] } :=
  (Heap.get?_update_other _ _ hne).trans (Heap.get?_push_size s.heap rfl)
 have e1:((s.heap.push { cls:=.type "dict", data:=.dict #[] }).update e fun o=>{ o with dict:=some s.heap.objs.size }).get? e=some { cls:=.ref C,dict:=some s.heap.objs.size,data:=.fields vs,slots:=osl } :=
  Heap.get?_update_self _ (Heap.get?_push_of_some _ he) rfl
 have n0:((s.heap.push { cls:=.type "dict", data:=.dict #[] }).update e fun o=>{ o with dict:=some s.heap.objs.size }).Ns s.heap.objs.size (fun _=>none) :=
  ⟨_,#[],_,e0,rfl,(fun y hy=>absurd hy (by simp)),fun _=>rfl⟩
 refine wpAny_nsSet1 (Heap.Ns1.of_empty n0) fun h' hn2 hs2=>?_
 obtain ⟨oD,esD,epD,hoD,hdD,hcD⟩:=hn2.count (PySem.Within.cons (ns:=[]) name v (fun y hy=>absurd rfl hy))
 refine wpAny_bind (wpAny_lookBehind hoD (by rw [hdD];exact pastItsLine_dict (Nat.le_trans hcD (by show 1≤_;decide))) ?_)
 refine wpAny_pure (h h' (fun b o hb q=>?_) ((hs2.2 _ hne).trans e1) hn2)
 rw [hs2.2 b (Nat.ne_of_lt (Heap.lt_size q))]
 exact (Heap.get?_update_other _ _ (Ne.symm hb)).trans (Heap.get?_push_of_some _ q)
theorem exc_set1 {dx:Addr} {mA:Str→Option Value} {ns:List Str} {Q:Unit→Shared→Prop} (X:K.In s.heap) (he:s.heap.get? e=some oe) (hc:oe.cls=.ref C) (hd:oe.dict=some dx) (hf:oe.data=.fields vs) (hn:s.heap.Ns1 dx mA) (hne:dx≠e)
  (hs:W.findIn K (.ref C) "__setattr__" = some (some (.builtin "object.__setattr__"))) (hp:excOver K C=true) (ht:W.takerIn K C name=some none) (hh:W.hasDictIn K C=true) (hw:PySem.Within mA ns) (hsz:ns.length≤1000)
  (h:∀h',Heap.SameBut dx s.heap h'→h'.Ns1 dx (fun y=>if y=name then some v else mA y)→Q () { s with heap:=h',toks:=s.toks + 2 }) :
  wpAny (model prog w) A (setAttr (.ref e) name v) Q E s:=by
 obtain ⟨od,ho,_⟩:=lookIn_ns hn
 have J:W.InstAt s.heap e oe C (some od):=⟨he,hc,exc_notCls hf,by rw [hd];exact ho⟩
 refine W.set_plain X J hs (osa_exc (s:={ s with toks:=s.toks + 1 }) X J hp ht fun b=>?_)
 obtain ⟨cd,hcd,hdd⟩:=W.any_some hh
 obtain ⟨oc,od',odt,osl⟩:=oe
 simp only at hc hd hf
 subst hc hd hf
 refine wpAny_bind (wpAny_pure (wpAny_bind (wpAny_bind (wpAny_loadPart he (wpAny_bind (W.Looks.here (s:={ s with toks:=s.toks + 1 }) (W.looks_clsIn X hcd) ?_))))))
 rw [hdd]
 refine wpAny_pure (a:=some dx) (wpAny_bind (wpAny_pure (wpAny_bind (wpAny_nsSet1 (s:={ s with toks:=s.toks + 1 }) hn fun h' hn2 hs2=>?_))))
 obtain ⟨oD,esD,epD,hoD,hdD,hcD⟩:=hn2.count (PySem.Within.cons name v hw)
 refine wpAny_bind (wpAny_lookBehind hoD (by rw [hdD];exact pastItsLine_dict (Nat.le_trans hcD (by rw [List.length_cons];have:=sizeLine_eq;lia))) ?_)
 exact wpAny_pure (h h' hs2 hn2)
theorem exc_get {dx:Addr} {mA:Str→Option Value} {expr:Bool} {Q:Value→Shared→Prop} (X:K.In s.heap) (he:s.heap.get? e=some oe) (hc:oe.cls=.ref C) (hd:oe.dict=some dx) (hf:oe.data=.fields vs) (hn:s.heap.Ns1 dx mA)
  (hga:W.findIn K (.ref C) "__getattribute__" = some (some (.builtin "BaseException.__getattribute__"))) (hgb:W.findIn K (.ref C) "__getattr__" = some none) (hmb:W.mroIn K C (.type "BaseException")=some true)
  (hh:W.hasDictIn K C=true) (ha:W.findIn K (.ref C) name=some none) (hv:mA name=some v) (hv':W.handedIn v=true) (h:Q v { s with toks:=s.toks + 1 }) :
  wpAny (model prog w) A (getAttr (.ref e) name expr) Q E s:=by
 obtain ⟨od,ho,hl⟩:=lookIn_ns hn
 have J:W.InstAt s.heap e oe C (some od):=⟨he,hc,exc_notCls hf,by rw [hd];exact ho⟩
 have hfo:W.findObj K C (some od) name=some (.value v):=W.findObj_own hh ha rfl (by rw [hl,hv])
 obtain ⟨hp,g,d,t,os⟩:=s
 have L0:=J.type (M:=model prog w)
 have L1:=W.looks_findIn (M:=model prog w) X hga
 have L2:=W.looks_find (M:=model prog w) X J hfo
 have L3:=W.looks_findIn (M:=model prog w) X hgb
 have hx0:(expr && onTheHeap (Value.builtin "BaseException.__getattribute__"))=false:=by cases expr <;> rfl
 have sub:W.Looks (model prog w) hp (isInstance (.ref e) (.type "BaseException")) true:=J.type.andThen (W.looks_mroIn X hmb)
 unfold getAttr getAttrBy
 refine wpAny_bind (wpAny_mkText (wpAny_holding (wpAny_bind (L0.at (wpAny_bind (L1.at ?_))))))
 show wpAny _ _ (getAttrByItsOwn (.ref e) (.str name t) (.ref C) (.builtin "BaseException.__getattribute__") true expr) _ _ _
 unfold getAttrByItsOwn
 refine wpAny_bind (show wpAny _ _ (typeLookup (.ref C) "__getattr__") _ _ _ from L3.at ?_)
 refine wpAny_bind (wpAny_attempt (wpAny_holding ?_))
 unfold callGetattribute
 rw [hx0,if_neg Bool.false_ne_true]
 unfold boundAndCalled
 rw [PySem.F.excAttr_ValueError.ga.bind (.ref e)]
 refine wpAny_bind (wpAny_pure (wpAny_call (codeAny_call_builtin PySem.F.excAttr_ValueError.ga.plain PySem.F.entry_bexc_ga (@W.check_slot (model prog w) _ _ _ "BaseException.__getattribute__" "BaseException" "__getattribute__" (.ref e) [.str name t] [] _ (by decide +kernel) (by decide +kernel) sub (PySem.F.args_bexc_ga _ _) ?_))))
 refine wpAny_bind (wpAny_pure (wpAny_bind (wpAny_pure (wpAny_bind (L0.at (wpAny_bind (L2.at (wpAny_pure ?_))))))))
 show wpAny _ _ (handedOut v) _ _ _
 rw [W.handedOut_of hv'];exact wpAny_pure h
end
def excO (e C:Addr) (dx:Option Addr):HO:=.ext fun h=>∃t sl,h.get? e=some { cls:=.ref C,dict:=dx,data:=.fields #[.ref t,.none,.none,.none,.bool false,.none],slots:=sl }
def dctO (dx:Addr) (fs:List (Str×V)):HO:=.ext fun h=>∃mA,h.Ns1 dx mA∧(∀f,RelO (fs.lookup f) (mA f))∧PySem.Within mA (fs.map (·.1))∧fs.length≤100
section
variable {P:Program} {w:World} {H:Hp} {h:Heap} {e C dx:Addr}
theorem excO_ok {do':Option Addr} {t:Addr} {sl:Array (Option Value)} (q:h.get? e=some { cls:=.ref C,dict:=do',data:=.fields #[.ref t,.none,.none,.none,.bool false,.none],slots:=sl }):ObjOk P w H h e (excO e C do') :=
 ⟨⟨t,sl,q⟩,⟨_,q⟩,fun h1 h2 ⟨t,sl,z⟩ k=>⟨t,sl,k _ z⟩⟩
theorem dctO_ok {fs:List (Str×V)} {mA:Str→Option Value} (n:h.Ns1 dx mA) (r:∀f,RelO (fs.lookup f) (mA f)) (wi:PySem.Within mA (fs.map (·.1))) (hl:fs.length≤100):ObjOk P w H h dx (dctO dx fs):=by
 refine ⟨⟨mA,n,r,wi,hl⟩,?_,fun h1 h2 ⟨mA,n,r,wi,hl⟩ k=>⟨mA,n.at k,r,wi,hl⟩⟩
 obtain ⟨o,_,_,q,_⟩:=n
 exact ⟨o,q⟩
end
structure ExcC (K:W.Frag) (C f:Addr) (bm:List Value):Prop where
 obj:∃nm q N bs hdct sn sub ab col dd k0 k1 k2 k3 k5,K.lookup C=some (excClassObj nm q C N bs bm hdct sn sub ab col dd k0 k1 k2 k3 k5 "ValueError.__new__")
 bm_ok:ExcF "ValueError" "ValueError.__new__" "ValueError.__init__" bm
 init:W.findIn K (.ref C) "__init__" = some (some (.ref f))
 fn:∃o,K.lookup f=some o∧o.cls=.type "function"
 kp:W.keepIn K (.ref C)=true
structure ExcS (K:W.Frag) (C:Addr):Prop where
 sa:W.findIn K (.ref C) "__setattr__" = some (some (.builtin "object.__setattr__"))
 po:excOver K C=true
 hd:W.hasDictIn K C=true
section
variable {X:Cx} {CX:CXT} {k m:Nat} {f C:Addr} {fd:FuncData} {ps:List Str} {sp:Sp} {E:XK} {x:Str} {p pos:Pos} {e:Expr} {es:List Expr} {t:TA} {bm:List Value}
def sExc (K:W.Frag) (ta tv:TE) (f:Str):TS:=fun D σ H=>tv σ H fun y H1=>ta σ H1 fun x H2=>∃a C,x=.ref a∧ExcS K C∧W.takerIn K C f=some none ∧
 ((H2 a=some (excO a C none)∧∀dx,H2 dx=none→D.nx σ (upd (upd H2 dx (dctO dx [(f,y)])) a (excO a C (some dx)))) ∨
  ∃dx fs,H2 a=some (excO a C (some dx))∧H2 dx=some (dctO dx fs)∧dx≠a∧fs.length < 100∧D.nx σ (upd H2 dx (dctO dx (putF f y fs))))
theorem ps_exc {o value:Expr} {f:Str} {ta tv:TE} {pos':Pos} (ha:PE X o ta) (hv:PE X value tv) (hs:swapsWith value (some (.Attribute o f pos')) pos.line X.env=pure false:=by rfl):PS X (.Assign [.Attribute o f pos'] value pos) (sExc X.K ta tv f):=by
 intro pins s σ H D I h
 refine plainObj_wpAny_Assign_Attribute (thn (hv pins s σ H _ I h) fun u s1 ⟨y,H1,I1,ry,q⟩=>thn (ha pins s1 σ H1 _ I1 q) fun ov s2 ⟨x,H2,I2,rx,a,C,ex,S,tk,q2⟩=>?_) hs
 subst ex
 obtain rfl:ov=Value.ref a:=rx
 rcases q2 with ⟨ho,q3⟩ | ⟨dx,fs,ho,hd,hne,hl,q3⟩
 ·obtain ⟨⟨t,sl,ge⟩,_,_⟩:ObjOk X.prog X.w H2 s2.heap a (excO a C none):=I2.hok a _ ho
  refine exc_set0 I2.kIn ge rfl rfl rfl S.sa S.po tk S.hd fun h' kp ge' n'=>?_
  have hfr:H2 s2.heap.objs.size=none:=I2.hok.fresh (Nat.le_refl _)
  have nas:a≠s2.heap.objs.size:=ne_of_none ho hfr
  have other:∀b,b≠a→b≠s2.heap.objs.size→(upd (upd H2 s2.heap.objs.size (dctO s2.heap.objs.size [(f,y)])) a (excO a C (some s2.heap.objs.size))) b=H2 b:=fun b h1 h2=>by rw [upd_ne h1,upd_ne h2]
  have nlt:∀b o,s2.heap.get? b=some o→b≠s2.heap.objs.size:=fun b o z=>Nat.ne_of_lt (Heap.lt_size z)
  have na:∀b,H2 b=none→b≠a:=fun b z q=>by rw [q,ho] at z;cases z
  have ext_ne:∀b u,H2 b=some u→u≠excO a C none→b≠a:=fun b u z d q=>by
   rw [q,ho] at z
   exact d (Option.some.inj z).symm
  refine ⟨σ,_,I2.un ⟨fun b o z n _ _=>kp b o (na b n) z,fun b o z n _ _=>⟨o.slots,kp b o (na b n) z⟩,fun b o z n _=>by rw [other b (na b n) (nlt b o z)];exact n,fun b o z _=>?_,fun b xs z=>?_,fun b o u z=>?_,fun b ps z=>⟨#[],?_⟩⟩ (fun b u z=>?_),q3 _ hfr⟩
  ·by_cases hb:b=a
   ·exact ⟨_,by rw [hb];exact ge'⟩
   ·exact ⟨o,kp b o hb z⟩
  ·rw [other b (ext_ne b _ z (by intro q;cases q)) (ne_of_none z hfr)];exact z
  ·rw [other b (ext_ne b _ z (by intro q;cases q)) (ne_of_none z hfr)];exact z
  ·rw [other b (ext_ne b _ z (by intro q;cases q)) (ne_of_none z hfr),z];simp
  ·by_cases hb:b=a
   ·subst hb
    rw [upd_same] at z
    cases z
    exact excO_ok ge'
   ·by_cases hb2:b=s2.heap.objs.size
    ·subst hb2
     rw [upd_ne hb,upd_same] at z
     cases z
     refine dctO_ok n' (fun g=>?_) (fun g hg=>?_) (by simp)
     ·show RelO ([(f,y)].lookup g) (if g=f then some u else none)
      by_cases zz:g=f
      ·rw [if_pos zz,zz];simpa [List.lookup_cons,RelO] using ry
      ·have:(g == f)=false:=by simpa using zz
       rw [if_neg zz]
       simp [List.lookup_cons,this,RelO]
     ·by_cases zz:g=f
      ·simp [zz]
      ·exact absurd (show (if g=f then some u else none)=none by rw [if_neg zz]) hg
    ·rw [other b hb hb2] at z
     refine (I2.hok b u z).stay (fun c v hc q=>kp c v ?_ q) (fun c q=>?_) fun c xs q=>?_
     ·rcases hc with rfl | hc
      ·exact hb
      ·exact ext_ne c _ hc (by intro q;cases q)
     ·rw [other c (ext_ne c _ q (by intro q;cases q)) (ne_of_none q hfr)];exact q
     ·rw [other c (ext_ne c _ q (by intro q;cases q)) (ne_of_none q hfr)];exact q
 ·obtain ⟨⟨t,sl,ge⟩,_,_⟩:ObjOk X.prog X.w H2 s2.heap a (excO a C (some dx)):=I2.hok a _ ho
  obtain ⟨⟨mA,n,r,wi,hl'⟩,_,_⟩:ObjOk X.prog X.w H2 s2.heap dx (dctO dx fs):=I2.hok dx _ hd
  refine exc_set1 I2.kIn ge rfl rfl rfl n hne S.sa S.po tk S.hd wi (by rw [List.length_map];lia) fun h' sb n'=>?_
  refine ⟨σ,_,I2.write (x:=dx) (e:=dx) (by rw [hd];trivial) (.inl rfl) (fun b o hb z=>(sb.2 b hb).trans z) (let ⟨o,_,_,z,_⟩:=n';⟨o,z⟩) (dctO_ok n' (fun g=>?_) (fun g hg=>?_) ?_),q3⟩
  ·show RelO ((putF f y fs).lookup g) (if g=f then some u else mA g)
   rw [lookup_putF]
   by_cases z:g=f
   ·rw [if_pos z,if_pos z];exact ry
   ·rw [if_neg z,if_neg z];exact r g
  ·by_cases z:g=f
   ·rw [z];exact (keys_putF f y fs).1
   ·refine (keys_putF f y fs).2 g (wi g fun z2=>hg ?_)
    show (if g=f then some u else mA g)=none
    rw [if_neg z];exact z2
  ·have:=length_putF f y fs;lia
structure ExcG (K:W.Frag) (C:Addr):Prop where
 ga:W.findIn K (.ref C) "__getattribute__" = some (some (.builtin "BaseException.__getattribute__"))
 gb:W.findIn K (.ref C) "__getattr__" = some none
 mb:W.mroIn K C (.type "BaseException")=some true
 hd:W.hasDictIn K C=true
end
section
variable {M:Model} {A:Around} {E:Value→Shared→Prop} {s:Shared} {base:Heap} {env:Env} {outer:List Env} {L e:Addr} {oe:Obj} {vs:Array Value}
structure Left (fr:List Addr) (h h':Heap) (e:Addr) (oe:Obj) (vs:Array Value) (T:Addr):Prop where
 keep:∀b o,b≠e→b ∉ fr→h.get? b=some o→(∀z,vs[1]?=some (.ref z)→b≠z)→h'.get? b=some o
 slot:∀b o,b∈fr→h.get? b=some o→∃sl,h'.get? b=some { o with slots:=sl }
 new:h.objs.size≤T
 ent:∃oT ts,h'.get? T=some oT∧oT.data=.fields ts∧ts[3]?=some .none
 obj:h'.get? e=some { oe with data:=.fields (vs.setIfInBounds 1 (.ref T)) }
theorem noFrame (hl:s.heap.FunFrames base (env::outer)) (he:s.heap.get? e=some oe) (hd:oe.data=.fields vs):e ∉ frs (env::outer):=fun hm=>by
 obtain ⟨_,o,ho,hn⟩:=hl.mem hm
 rw [he] at ho;cases ho
 exact hn vs hd
theorem leave_tail {head:Value} {hadNext:Bool} {Q:Unit→Shared→Prop} (hfr:A.frames=some (env::outer)) (hl:s.heap.FunFrames base (env::outer)) (hf:env.frame=some L) (he:s.heap.get? e=some oe) (hd:oe.data=.fields vs) (hsz:1 < vs.size)
  (h:∀h' T,Left (frs (env::outer)) s.heap h' e oe vs T→Q () { s with heap:=h' }) :
  wpAny M A (do let a ← frameOf env;let pl ← entryPlaceOf L hadNext;let b ← EntryCells.newEntry head a .none (rawInt L) .none pl;setField (.ref e) 1 b) (fun _ s'=>wpAny M A (setFlight (.ref e) none) Q E s') E s:=by
 have hne:=noFrame hl he hd
 refine wpAny_bind (wpAny_frameOf_fun hfr hl hf fun g hg=>wpAny_bind (wpAny_entryPlaceOf fun pl hpl=>?_))
 unfold EntryCells.newEntry newFields
 refine wpAny_bind (wpAny_newObj_type ?_ (hpl.sizeOk5 _ _ _ _ _))
 have he1:g.get? e=some oe:=(hg.2.1 e hne).trans he
 have gsz:s.heap.objs.size≤g.objs.size:=by
  have:=hg.1
  lia
 generalize hT:({ cls:=.type "traceback", data:=.fields ([head,.ref L,.none,rawInt L,.none]++(if pl.isEmpty then List.replicate 6 Value.none else pl)).toArray }:Obj)=oT
 obtain ⟨ts,hts,h4⟩:∃ts:Array Value,oT.data=.fields ts∧3 < ts.size:=by
  rw [← hT]
  exact ⟨_,rfl,by simp only [List.size_toArray,List.length_append,List.length_cons,List.length_nil];lia⟩
 have fresh:∀b o,g.get? b=some o→g.objs.size≠b:=fun b o z=>Nat.ne_of_gt (Heap.lt_size z)
 have he2:(g.push oT).get? e=some oe:=Heap.get?_push_of_some _ he1
 have hTe:g.objs.size≠e:=fresh e oe he1
 refine wpAny_setField he2 hd hsz ?_
 have hd3:=Obj.data_mapFields hd (·.setIfInBounds 1 (Value.ref g.objs.size))
 have he3:=Heap.get?_update_self (Obj.mapFields (·.setIfInBounds 1 (Value.ref g.objs.size))) he2 (Obj.isFreed_of_fields hd3)
 have hfr':oT.isFreed=false:=Obj.isFreed_of_fields hts
 have hT3:((g.push oT).update e (Obj.mapFields (·.setIfInBounds 1 (Value.ref g.objs.size)))).get? g.objs.size=some oT:=(Heap.get?_update_other _ _ (Ne.symm hTe)).trans (Heap.get?_push_size g hfr')
 unfold setFlight
 refine wpAny_bind (wpAny_field he3 hd3 (x:=.ref g.objs.size) (by simp [hsz]) ?_)
 rw [if_pos (show (Value.ref g.objs.size != Value.none)=true from by simp)]
 have keepAll:∀b o,b≠e→g.get? b=some o→(((g.push oT).update e (Obj.mapFields (·.setIfInBounds 1 (Value.ref g.objs.size)))).update g.objs.size (Obj.mapFields (·.setIfInBounds 3 ((none:Option Addr).elim Value.none fun f=>rawInt f)))).get? b=some o:=fun b o hb z=>by
  rw [Heap.get?_update_other _ _ (fresh b o z),Heap.get?_update_other _ _ (Ne.symm hb)]
  exact Heap.get?_push_of_some _ z
 refine wpAny_setField hT3 hts h4 (h _ g.objs.size ⟨fun b o hb hn z _=>keepAll b o hb ((hg.2.1 b hn).trans z),fun b o hb z=>?_,gsz,?_,?_⟩)
 ·obtain ⟨sl,z2⟩:=hg.2.2 b o z
  exact ⟨sl,keepAll b _ (fun q=>hne (by rw [← q];exact hb)) z2⟩
 ·exact ⟨_,_,Heap.get?_update_self _ hT3 (Obj.isFreed_of_fields (Obj.data_mapFields hts _)),Obj.data_mapFields hts _,by simp [h4]⟩
 ·rw [Heap.get?_update_other _ _ hTe,he3]
  obtain ⟨c1,d1,t1,s1⟩:=oe
  simp only at hd
  subst hd
  rfl
theorem leave_first {Q:Unit→Shared→Prop} (hfr:A.frames=some (env::outer)) (hl:s.heap.FunFrames base (env::outer)) (hf:env.frame=some L) (he:s.heap.get? e=some oe) (hd:oe.data=.fields vs) (h1:vs[1]?=some .none)
  (h:∀h' T,Left (frs (env::outer)) s.heap h' e oe vs T→Q () { s with heap:=h' }):wpAny M A (leaving env (.ref e)) Q E s:=by
 unfold leaving noteFrame
 simp only [hf]
 refine wpAny_bind (wpAny_bind (wpAny_field he hd h1 ?_))
 rw [if_neg (by decide)]
 exact leave_tail hfr hl hf he hd (Array.getElem?_eq_some_iff.mp h1).1 h
theorem leave_next {Q:Unit→Shared→Prop} {T0:Addr} {o0:Obj} {ts0:Array Value} (hfr:A.frames=some (env::outer)) (hl:s.heap.FunFrames base (env::outer)) (hf:env.frame=some L) (he:s.heap.get? e=some oe) (hd:oe.data=.fields vs) (h1:vs[1]?=some (.ref T0))
  (hT:s.heap.get? T0=some o0) (hdT:o0.data=.fields ts0) (h3:ts0[3]?=some .none) (hTe:T0≠e)
  (h:∀h' T,Left (frs (env::outer)) s.heap h' e oe vs T→Q () { s with heap:=h' }):wpAny M A (leaving env (.ref e)) Q E s:=by
 unfold leaving noteFrame
 simp only [hf]
 refine wpAny_bind (wpAny_bind (wpAny_field he hd h1 ?_))
 rw [if_pos (show (Value.ref T0 != Value.none)=true from by simp)]
 refine wpAny_bind (wpAny_field hT hdT h3 ?_)
 rw [if_neg (show ¬ ((Value.none == rawInt L)=true) from by simp [rawInt])]
 refine wpAny_bind (wpAny_setField hT hdT (Array.getElem?_eq_some_iff.mp h3).1 ?_)
 have hoth:∀b,b≠T0→(s.heap.update T0 (Obj.mapFields (·.setIfInBounds 3 Value.none))).get? b=s.heap.get? b:=fun b hb=>Heap.get?_update_other _ _ (Ne.symm hb)
 have hno:∀b o,s.heap.get? b=some o→(∀z,o.data≠.fields z)→b≠T0:=fun b o z hn q=>by
  rw [q,hT] at z;cases z
  exact hn ts0 hdT
 have hl2:(s.heap.update T0 (Obj.mapFields (·.setIfInBounds 3 Value.none))).FunFrames base (env::outer):=hl.of_keeps fun b o z hn=>⟨o,(hoth b (hno b o z hn)).trans z,rfl⟩
 refine leave_tail (s:={ s with heap:=s.heap.update T0 (Obj.mapFields (·.setIfInBounds 3 Value.none)) }) hfr hl2 hf ((hoth e (Ne.symm hTe)).trans he) hd (Array.getElem?_eq_some_iff.mp h1).1 fun h' T lf=>h h' T ⟨fun b o hb hn z hz=>lf.keep b o hb hn ((hoth b (hz T0 h1)).trans z) hz,fun b o hb z=>?_,?_,lf.ent,lf.obj⟩
 ·obtain ⟨_,o',ho',hn'⟩:=hl.mem hb
  rw [z] at ho';cases ho'
  exact lf.slot b o hb ((hoth b (hno b o z hn')).trans z)
 ·have:=lf.new
  rw [Heap.size_update] at this
  exact this
end
def Flown (n:Nat) (h:Heap) (a C:Addr) (dx:Option Addr) (H:Hp):Prop :=
 ∃oe vs T oT ts,h.get? a=some oe∧oe.cls=.ref C∧oe.dict=dx∧oe.data=.fields vs∧vs[1]?=some (.ref T)∧T≠a∧h.get? T=some oT∧oT.data=.fields ts∧ts[3]?=some .none∧H a=none∧H T=none∧n≤a∧n≤T
def CX1 (P:Program) (w:World):CXT:=fun outer H s E ev s' =>
 ∃a C dx H',ev=.ref a∧s'.os=s.os∧AllBare s'.gens∧Un (frs outer) [] H H' s.heap s'.heap∧HOk P w H' s'.heap∧Flown s.heap.objs.size s'.heap a C dx H'∧E (.ref C) dx H'
theorem pass10 {P:Program} {w:World} {X:Cx}:Passes (CX1 P w) X E0:=fun _ _ _ _ _ _ _ ⟨_,_,_,_,_,_,_,_,_,_,z⟩=>z.elim
theorem left_hok {P:Program} {w:World} {H:Hp} {h h':Heap} {fr:List Addr} {e T:Addr} {oe:Obj} {vs:Array Value} (ok:HOk P w H h) (lf:Left fr h h' e oe vs T) (he:H e=none) (hT:∀z,vs[1]?=some (.ref z)→H z=none) (hfr:∀b∈fr,H b=none):HOk P w H h':=fun b u z=>by
 refine (ok b u z).stay (fun c v hc q=>?_) (fun _ q=>q) fun _ _ q=>q
 have hcs:∃x,H c=some x:=by
  rcases hc with rfl | hc
  ·exact ⟨_,z⟩
  ·exact ⟨_,hc⟩
 obtain ⟨x,hx⟩:=hcs
 exact lf.keep c v (ne_of_none hx he) (fun m=>by rw [hfr c m] at hx;cases hx) q fun y hy=>ne_of_none hx (hT y hy)
theorem left_un {H0 H:Hp} {h0 h h':Heap} {fs fr:List Addr} {e T:Addr} {oe:Obj} {vs:Array Value} (u:Un fs [] H0 H h0 h) (lf:Left fr h h' e oe vs T) (hfs:∀b,b∈fs→b∈fr) (hfr:∀b o,h0.get? b=some o→b∈fr→b∈fs)
  (he:h0.objs.size≤e) (hT:∀z,vs[1]?=some (.ref z)→h0.objs.size≤z):Un fs [] H0 H h0 h':=by
 have ne:∀b o,h0.get? b=some o→b≠e∧∀z,vs[1]?=some (.ref z)→b≠z:=fun b o q =>
  ⟨Nat.ne_of_lt (Nat.lt_of_lt_of_le (Heap.lt_size q) he),fun z hz=>Nat.ne_of_lt (Nat.lt_of_lt_of_le (Heap.lt_size q) (hT z hz))⟩
 refine ⟨fun b o q n hb hx=>lf.keep b o (ne b o q).1 (fun m=>hb (hfr b o q m)) (u.keep b o q n hb hx) (ne b o q).2,fun b o q n hb hx=>?_,u.free,fun b o q hx=>?_,u.tups,u.frzs,u.tbls⟩
 ·obtain ⟨sl,z⟩:=u.slot b o q n hb hx
  obtain ⟨sl2,z2⟩:=lf.slot b _ (hfs b hb) z
  exact ⟨sl2,z2⟩
 ·obtain ⟨o2,z⟩:=u.there b o q hx
  by_cases m:b∈fr
  ·obtain ⟨sl,z2⟩:=lf.slot b o2 m z
   exact ⟨_,z2⟩
  ·exact ⟨o2,lf.keep b o2 (ne b o q).1 m z (ne b o q).2⟩
section
variable {P:Program} {w:World} {K:W.Frag} {mg:Str→Option Value} {base:Heap} {N:List Str} {qual:Str} {scope:Scope} {f:Addr} {cd:Value} {A:Around} {outer:List Env} {s:Shared} {H:Hp} {E:XK}
theorem pass1:Passes (CX1 P w) (cxOf (CX1 P w) P w K mg base N qual scope f cd A outer s H E) E:=by
 intro pins σ H1 s1 ev s2 I hc
 obtain ⟨a,C,dx,H',rfl,hos,hb,un,hok,⟨oe,vs,T,oT,ts,ga,gc,gd,gf,g1,gne,gT,gt,g3,ha,hT,na,nT⟩,q⟩:=hc
 have I2:Inv (cxOf (CX1 P w) P w K mg base N qual scope f cd A outer s H E) pins σ H' s2:=I.call' (ch:=[]) hos un hok hb (fun b z=>absurd z (by simp))
 show wpAny (model P w) (A.deeper (envOfC qual scope s.heap.objs.size f cd)) (leaving (envOfC qual scope s.heap.objs.size f cd) (.ref a)) _ _ s2
 refine leave_next (base:=base) I.ok.frames I2.stack rfl ga gf g1 gT gt g3 gne fun h' T' lf=>?_
 have hz:∀z,vs[1]?=some (.ref z)→z=T:=fun z hz=>by rw [g1] at hz;cases hz;rfl
 have s0:s.heap.objs.size≤s1.heap.objs.size:=I.sz
 have hstk:∀b∈frs (envOfC qual scope s.heap.objs.size f cd::outer),H' b=none:=I2.stkFree
 obtain ⟨oT',ts',gT',gt',g3'⟩:=lf.ent
 refine ⟨a,C,dx,H',rfl,I2.os,I2.bare,left_un I2.base lf (fun b hb=>?_) (fun b o q m=>?_) (Nat.le_trans s0 na) (fun z h=>by rw [hz z h];exact Nat.le_trans s0 nT),left_hok I2.hok lf ha (fun z h=>by rw [hz z h];exact hT) hstk,?_,q⟩
 ·show b∈frs (envOfC qual scope s.heap.objs.size f cd::outer)
  unfold frs
  rw [List.filterMap_cons]
  exact List.mem_cons_of_mem _ hb
 ·have m:b∈frs (envOfC qual scope s.heap.objs.size f cd::outer):=m
  unfold frs at m
  rw [List.filterMap_cons] at m
  rcases List.mem_cons.mp m with z | z
  ·exact absurd (Heap.lt_size q) (by rw [z];exact Nat.lt_irrefl _)
  ·exact z
 ·have hsz2:s.heap.objs.size≤s2.heap.objs.size:=I2.sz
  have nTa:T'≠a:=fun z=>absurd (Heap.lt_size ga) (by rw [← z];exact Nat.not_lt.mpr lf.new)
  refine ⟨_,_,T',oT',ts',lf.obj,gc,gd,rfl,?_,nTa,gT',gt',g3',ha,I2.hok.fresh lf.new,Nat.le_trans s0 na,Nat.le_trans hsz2 lf.new⟩
  have:1 < vs.size:=(Array.getElem?_eq_some_iff.mp g1).1
  simp [this]
end
mutual
def pyD:Dt→PyData
 | .non=>.none
 | .bl b=>.bool b
 | .int i=>.int i
 | .str x=>.str x
 | .lst xs=>.list (pyDs xs)
 | .tup xs=>.tuple (pyDs xs)
def pyDs:List Dt→List PyData
 | []=>[]
 | x::xs=>pyD x::pyDs xs
end
structure ExcI (K:W.Frag) (C R:Addr):Prop where
 g:ExcG K C
 mro:(W.clsIn K C).map (·.mro)=some [.ref C,.ref R,.type "ValueError", .type "Exception", .type "BaseException", .type "object"]
 ty:W.typeIn K (.ref C)=some (.type "type")
 ha:W.findIn K (.ref C) "__class__" = some (some (.builtin "object.__class__"))
 hn:W.specialIn K (.builtin "object.__class__") "__get__" = some (some (.builtin "getset_descriptor.__get__"))
 tk:W.takesIn K (.builtin "object.__class__")=some true
section
variable {prog:Program} {w:World} {A:Around} {E:Value→Shared→Prop} {s:Shared} {K:W.Frag} {e C R D:Addr} {oe:Obj} {odo:Option Obj}
theorem ExcI.in (G:ExcI K C R) (b:Value):W.mroIn K C b=some ([Value.ref C,.ref R,.type "ValueError", .type "Exception", .type "BaseException", .type "object"].contains b):=by
 obtain ⟨cd,hc,hm⟩:=Option.map_eq_some_iff.mp G.mro
 unfold W.mroIn
 rw [hc,Option.bind_some,hm]
 rfl
theorem exc_class {Q:Option Value→Shared→Prop} (G:ExcI K C R) (X:K.In s.heap) (J:W.InstAt s.heap e oe C odo) (h:Q (some (.ref C)) { s with toks:=s.toks + 1 }):wpAny (model prog w) A (getAttr? (.ref e) "__class__") Q E s:=by
 have hfo:W.findObj K C odo "__class__" = some (.bind (.builtin "getset_descriptor.__get__") (.builtin "object.__class__")):=by
  obtain ⟨cd,hc,hm⟩:=Option.map_eq_some_iff.mp G.mro
  unfold W.findObj
  rw [hc,Option.bind_some,G.ha,Option.bind_some]
  simp [G.hn,G.tk]
 obtain ⟨hp,g,d,t,os⟩:=s
 have L0:=J.type (M:=model prog w)
 have L1:=W.looks_findIn (M:=model prog w) X G.g.ga
 have L2:=W.looks_find (M:=model prog w) X J hfo
 have L3:=W.looks_findIn (M:=model prog w) X G.g.gb
 have hx0:(false && onTheHeap (Value.builtin "BaseException.__getattribute__"))=false:=rfl
 have sub:W.Looks (model prog w) hp (isInstance (.ref e) (.type "BaseException")) true:=J.type.andThen (W.looks_mroIn X G.g.mb)
 unfold getAttr? getAttrBy? getAttrBy
 refine wpAny_bind (wpAny_mkText (wpAny_bind (wpAny_attempt (wpAny_holding (wpAny_bind (L0.at (wpAny_bind (L1.at ?_))))))))
 show wpAny _ _ (getAttrByItsOwn (.ref e) (.str "__class__" t) (.ref C) (.builtin "BaseException.__getattribute__") false false) _ _ _
 unfold getAttrByItsOwn
 refine wpAny_bind (show wpAny _ _ (typeLookup (.ref C) "__getattr__") _ _ _ from L3.at ?_)
 refine wpAny_bind (wpAny_attempt (wpAny_holding ?_))
 unfold callGetattribute
 rw [hx0,if_neg Bool.false_ne_true]
 unfold boundAndCalled
 rw [PySem.F.excAttr_ValueError.ga.bind (.ref e)]
 refine wpAny_bind (wpAny_pure (wpAny_call (codeAny_call_builtin PySem.F.excAttr_ValueError.ga.plain PySem.F.entry_bexc_ga (@W.check_slot (model prog w) _ _ _ "BaseException.__getattribute__" "BaseException" "__getattribute__" (.ref e) [.str "__class__" t] [] _ (by decide +kernel) (by decide +kernel) sub (PySem.F.args_bexc_ga _ _) ?_))))
 refine wpAny_bind (wpAny_pure (wpAny_bind (wpAny_pure (wpAny_bind (L0.at (wpAny_bind (L2.at ?_)))))))
 have hm:W.mroIn K C (.type "object")=some true:=G.in _
 refine wpAny_bind (wpAny_holding (wpAny_call (W.class_get (s:=⟨hp,g,d,t + 1,os⟩) (ox:=oe) (od:=odo) X J hm (wpAny_pure ?_))))
 exact W.handed_on rfl (wpAny_pure h)
theorem kitx_exc (G:ExcI K C R):W.KitX K (.ref e) (.ref C) (fun h=>∃oe odo,W.InstAt h e oe C odo) where
 ty:=fun _ _ _ ⟨_,_,J⟩=>J.type
 it:=fun _ _ X _=>by
  obtain ⟨cd,hc,_⟩:=Option.map_eq_some_iff.mp G.mro
  unfold W.clsIn at hc
  split at hc
  ·rename_i c' d' cd' sl' ho
   intro A' Q' E' s' k q
   unfold isType loadHead
   exact wpAny_bind (wpAny_loadPart (k _ _ (X _ _ ho)) (wpAny_pure q))
  ·cases hc
 ne:=fun h tp dd its n sl X htp=>by
  obtain ⟨cd,hc,_⟩:=Option.map_eq_some_iff.mp G.mro
  refine Bool.eq_false_iff.mpr fun q=>?_
  have e:C=tp:=Value.ref.inj (beq_iff_eq.mp q)
  subst e
  unfold W.clsIn at hc
  split at hc
  ·rename_i c' d' cd' sl' ho
   have z:=(X _ _ ho).symm.trans htp
   cases z
  ·cases hc
 ca:=fun X ⟨_,_,J⟩ k=>exc_class G X J k
theorem kit_excR (G:ExcI K C R) (hR:(W.clsIn K R).isSome=true) (tR:W.typeIn K (.ref R)=some (.type "type")):W.kitOne K (.ref C) (.ref R)=some true:=by
 unfold W.kitOne
 by_cases q:C=R
 ·subst q
  rw [if_pos (by simp)]
 ·rw [if_neg (by simpa using q)]
  unfold W.kitCls
  simp only
  rw [if_pos (by rw [hR,tR];rfl)]
  show W.mroIn K C (.ref R)=_
  rw [G.in]
  simp [List.contains_cons]
theorem kit_excV (G:ExcI K C R):W.kitOne K (.ref C) (.type "ValueError")=some true:=by
 unfold W.kitOne
 rw [if_neg (by simp)]
 unfold W.kitCls
 simp only
 rw [if_pos (by decide +kernel)]
 show W.mroIn K C _=_
 rw [G.in]
 simp [List.contains_cons]
end
def ExcAt (H:Hp) (x C:Addr) (fs:List (Str×V)):Prop:=(fs=[]∧H x=some (excO x C none))∨∃dx,H x=some (excO x C (some dx))∧H dx=some (dctO dx fs)∧dx≠x
theorem ExcAt.same {H H':Hp} {x C:Addr} {fs:List (Str×V)} (e:Same H H') (h:ExcAt H x C fs):ExcAt H' x C fs:=by
 rcases h with ⟨a,b⟩ | ⟨dx,a,b,c⟩
 ·exact .inl ⟨a,e _ _ b⟩
 ·exact .inr ⟨dx,e _ _ a,e _ _ b,c⟩
def spI1 (C:Addr) (f:Str):Sp:=fun vs H Q _=>∃x v,vs=[.ref x,v]∧H x=some (excO x C none)∧∀dx,H dx=none→Q .non (upd (upd H dx (dctO dx [(f,v)])) x (excO x C (some dx)))
structure HasExc (K:W.Frag) (mg:Str→Option Value) (x qual:Str) (st:Stmt) (C R:Addr):Prop where
 ex:∃f fd,ExcC K C f [.ref R,.type "ValueError", .type "Exception", .type "BaseException", .type "object"]∧Fun K "__init__" qual st f fd
 gl:mg x=some (.ref C)
 S:ExcS K C
 I:ExcI K C R
theorem bm_ok (R:Addr):ExcF "ValueError" "ValueError.__new__" "ValueError.__init__" [.ref R,.type "ValueError", .type "Exception", .type "BaseException", .type "object"]:=excF_ValueError.under R
section
variable {P:Program} {w:World} {K:W.Frag} {mg:Str→Option Value} {base:Heap} {CX:CXT} {X:Cx} {k m:Nat} {C R:Addr} {E:XK} {x qual f g:Str} {st:Stmt} {p pos:Pos} {e:Expr} {es:List Expr} {t:TA}
def InitOk (P:Program) (w:World) (K:W.Frag) (mg:Str→Option Value) (base:Heap) (CX:CXT) (qual:Str) (st:Stmt) (ps:List Str) (sp:Sp):Prop:=∀f fd,Fun K "__init__" qual st f fd→FnOk P w K mg base CX 1 f fd ps sp∧Binds K fd ps []
end
section
variable {K:W.Frag} {mg:Str→Option Value} {x qual:Str} {st:Stmt} {C R f:Addr} {nm q:Str} {N:Addr} {bs:List Value} {sn:List Str} {sub:List Value} {ab:Bool} {col:Option Bool} {dd:Option Addr} {k0 k1 k2 k3 k5:Option Value} {od an:Option Addr} {osl:Array (Option Value)} {kV doc pm cdv ct:Value}
theorem excS_mk (l:K.lookup C=some (excClassObj nm q C N bs [.ref R,.type "ValueError", .type "Exception", .type "BaseException", .type "object"] true sn sub ab col dd k0 k1 k2 k3 k5 "ValueError.__new__"))
  (sa:W.findIn K (.ref C) "__setattr__" = some (some (.builtin "object.__setattr__"))):ExcS K C:=by
 have hc:∃cd,W.clsIn K C=some cd∧cd.mro=[.ref C,.ref R,.type "ValueError", .type "Exception", .type "BaseException", .type "object"]∧cd.hasDict=true:=by
  unfold W.clsIn
  rw [l]
  exact ⟨_,rfl,rfl,rfl⟩
 obtain ⟨cd,h1,h2,h3⟩:=hc
 refine ⟨sa,?_,?_⟩
 ·unfold excOver
  rw [h1,Option.any_some,h2]
  rfl
 ·unfold W.hasDictIn
  rw [h1,Option.any_some,h3]
theorem excI_mk (l:K.lookup C=some (excClassObj nm q C N bs [.ref R,.type "ValueError", .type "Exception", .type "BaseException", .type "object"] true sn sub ab col dd k0 k1 k2 k3 k5 "ValueError.__new__"))
  (ga:W.findIn K (.ref C) "__getattribute__" = some (some (.builtin "BaseException.__getattribute__"))) (gb:W.findIn K (.ref C) "__getattr__" = some none)
  (ha:W.findIn K (.ref C) "__class__" = some (some (.builtin "object.__class__"))) (hn:W.specialIn K (.builtin "object.__class__") "__get__" = some (some (.builtin "getset_descriptor.__get__"))) (tk:W.takesIn K (.builtin "object.__class__")=some true):ExcI K C R:=by
 have hc:∃cd,W.clsIn K C=some cd∧cd.mro=[.ref C,.ref R,.type "ValueError", .type "Exception", .type "BaseException", .type "object"]∧cd.hasDict=true:=by
  unfold W.clsIn
  rw [l]
  exact ⟨_,rfl,rfl,rfl⟩
 obtain ⟨cd,h1,h2,h3⟩:=hc
 refine ⟨⟨ga,gb,?_,?_⟩,?_,?_,ha,hn,tk⟩
 ·unfold W.mroIn
  rw [h1,Option.bind_some,h2]
  rfl
 ·unfold W.hasDictIn
  rw [h1,Option.any_some,h3]
 ·rw [h1,Option.map_some,h2]
 ·show (List.lookup C K).map (·.cls)=_
  rw [l]
  rfl
theorem HasExc.mk1 (m:mg x=some (.ref C)) (l:K.lookup C=some (excClassObj nm q C N bs [.ref R,.type "ValueError", .type "Exception", .type "BaseException", .type "object"] true sn sub ab col dd k0 k1 k2 k3 k5 "ValueError.__new__"))
  (i:W.findIn K (.ref C) "__init__" = some (some (.ref f))) (lf:K.lookup f=some ⟨.type "function", od,.func (W.fnOf "__init__" qual (defArgs st) (defBody st) (defScope st) .none kV doc pm an cdv ct),osl⟩)
  (c:W.codeIn K cdv qual=true) (kf:W.keepIn K (.ref f)=true) (kc:W.keepIn K (.ref C)=true) (S:ExcS K C) (I:ExcI K C R):HasExc K mg x qual st C R :=
 ⟨⟨f,_,⟨⟨nm,q,N,bs,true,sn,sub,ab,col,dd,k0,k1,k2,k3,k5,l⟩,bm_ok R,i,⟨_,lf,rfl⟩,kc⟩,fun_mk lf c kf⟩,m,S,I⟩
end
section
variable {X:Cx}
theorem op_mul_str:OpR X (binaryOp .Mult) (fun x y H Q=>∃z n,x=.str z∧y=.int n∧MulOk z n∧Q (.str (Txt.mul z n)) H):=by
 intro pins s σ H x y v u Q I rx ry h
 obtain ⟨z,n,rfl,rfl,ok,q⟩:=h
 obtain ⟨t,rfl⟩:=rx
 obtain ⟨t',rfl⟩:=ry
 exact SB.mul ok fun t'' k=>⟨.str _,H,I.tok _,⟨_,rfl⟩,q⟩
end
structure Shm (m d:Nat) (x:PyData):Prop where
 sh:x.showable=true
 ln:x.shown.length≤m
 dp:x.depth≤d
structure New (H H':Hp) (p:Addr) (o:HO):Prop where
 s:Same H H'
 e:H' p=some o
 n:∀a u,H a=some u→a≠p
theorem New.mk' {H:Hp} {p:Addr} {o:HO} (h:H p=none):New H (upd H p o) p o:=⟨Same.new h,upd_same,fun a u q=>ne_of_none q h⟩
section
variable {X:Cx} {es:List Expr} {t:TA} {pos:Pos}
def tTupA (t:TA):TE:=fun σ H Q=>t σ H fun xs H1=>xs.length≤sizeLine∧∀p H',New H1 H' p (.tup xs)→Q (.ref p) H'
def tLstA (t:TA):TE:=fun σ H Q=>t σ H fun xs H1=>xs.length≤sizeLine∧∀p H',New H1 H' p (.lst xs)→Q (.ref p) H'
theorem pe_tupA {x1} (h:PA X es t):PE X (.Tuple es x1 pos) (tTupA t):=by
 intro pins s σ H Q I hq
 refine wpAny_Tuple_spliced (thn (h pos pins s σ H _ I hq) fun us s1 ⟨xs,H1,I1,r,z,q⟩=>⟨by rw [← r.length];exact z,?_⟩)
 have hf:H1 s1.heap.objs.size=none:=I1.hok.fresh (Nat.le_refl _)
 refine ⟨.ref s1.heap.objs.size,upd H1 s1.heap.objs.size (.tup xs),I1.laid (t':=s1.toks) (fun b u e=>Heap.get?_push_of_some _ e) (Nat.le_refl _) ?_,rfl,q _ _ (.mk' hf)⟩
 exact ⟨z,us,r,⟨_,Heap.get?_push_size _ rfl,rfl,_,rfl⟩⟩
theorem pe_lstA (h:PA X es t):PE X (.List es pos) (tLstA t):=by
 intro pins s σ H Q I hq
 refine wpAny_List_spliced (thn (h pos pins s σ H _ I hq) fun us s1 ⟨xs,H1,I1,r,z,q⟩=>⟨by rw [← r.length];exact z,?_⟩)
 have hf:H1 s1.heap.objs.size=none:=I1.hok.fresh (Nat.le_refl _)
 refine ⟨.ref s1.heap.objs.size,upd H1 s1.heap.objs.size (.lst xs),I1.laid (t':=s1.toks) (fun b u e=>Heap.get?_push_of_some _ e) (Nat.le_refl _) ?_,rfl,q _ _ (.mk' hf)⟩
 exact ⟨z,us,0,r,Heap.get?_push_size _ rfl⟩
def rCatA:R2:=fun x y H Q=>∃l b xs zs,x=.ref l∧y=.ref b∧H l=some (.lst xs)∧H b=some (.lst zs)∧xs.length + zs.length≤sizeLine∧∀p H',New H H' p (.lst (xs++zs))→Q (.ref p) H'
theorem op_catA:OpR X (binaryOp .Add) rCatA:=by
 intro pins s σ H x y v u Q I rx ry h
 obtain ⟨l,b,xs,zs,e1,e2,hH,hB,hz,q⟩:=h
 exact op_cat pins s σ H x y v u Q I rx ry ⟨l,b,xs,zs,e1,e2,hH,hB,hz,fun p hp=>q p _ (.mk' hp)⟩
def rRepA:R2:=fun x y H Q=>∃l k xs,x=.ref l∧y=.int k∧H l=some (.lst xs)∧-(2 ^ 63)≤k∧k < 2 ^ 63∧xs.length * k.toNat≤sizeLine∧∀p H',New H H' p (.lst (List.replicate k.toNat xs).flatten)→Q (.ref p) H'
theorem op_repA:OpR X (binaryOp .Mult) rRepA:=by
 intro pins s σ H x y v u Q I rx ry h
 obtain ⟨l,k,xs,e1,e2,hH,h1,h2,hz,q⟩:=h
 exact op_rep pins s σ H x y v u Q I rx ry ⟨l,k,xs,e1,e2,hH,h1,h2,hz,fun p hp=>q p _ (.mk' hp)⟩
def rAppA:V→List V→Hp→VK→Prop:=fun x vs H Q=>∃l xs y,x=.ref l∧vs=[y]∧H l=some (.lst xs)∧xs.length < sizeLine∧∀H',Off l H H'→H' l=some (.lst (xs++[y]))→Q .non H'
theorem mt_appendA:MtM X "list.append" rAppA:=by
 intro pins s σ H x vs v us Q I rx rv h
 obtain ⟨l,xs,y,e1,e2,hH,hz,q⟩:=h
 exact mt_append pins s σ H x vs v us Q I rx rv ⟨l,xs,y,e1,e2,hH,hz,q _ Off.upd upd_same⟩
theorem pe_appendA {o e:Expr} {to te:TE} {apos cpos:Pos} (ho:PE X o to) (he:PE X e te) (hbase:attributeBase o "append" X.env (eval o X.env)=eval o X.env:=by rfl)
  (hfew:((backTo cpos (starEach [e] X.env)).all (fun x=>!x.1) && (backToKw cpos (keywordEach [] X.env)).all (fun x=>x.1.isSome)
   && decide (([e]:List Expr).length + ([]:List Keyword).length + (if ([]:List Keyword).isEmpty then 0 else 1) < 30))=true:=by rfl)
  (hline:(apos.endLine == cpos.line)=true:=by rfl) (hs:starEach [e] X.env=(false,eval e X.env)::starEach [] X.env:=by rfl) :
  PE X (.Call (.Attribute o "append" apos) [e] [] cpos) (tBM X.K "list" rAppA to (tCons te tNil)) :=
 pe_bm PySem.F.plainAttrs_list PySem.F.slot_list_append PySem.F.type_list_append mt_appendA ho (pa_cons he pa_nil hs) hbase hfew hline hs (by rfl)
end
def Tel (t:TE) (σ:St) (H:Hp) (v:V):Prop:=∀Q:VK,Q v H→t σ H Q
def TelA (t:TA) (σ:St) (H:Hp) (vs:List V):Prop:=∀Q:List V→Hp→Prop,Q vs H→t σ H Q
section
variable {σ σ':St} {H:Hp} {v x y:V} {vs:List V} {t ta tb:TE} {tr:TA} {i j:Nat} {a C:Addr} {f g:Str} {fs:List (Str×V)} {Q:VK} {D:Ends} {s u:TS} {K:W.Frag} {tg:TG} {c:TT}
theorem rd_var (h:σ[i]?=some (some v)):Tel (tVar i) σ H v:=fun Q q=>⟨v,h,q⟩
theorem rd_c:Tel (tC v) σ H v:=fun Q q=>q
theorem rda_nil:TelA tNil σ H []:=fun Q q=>q
theorem rda_cons (h:Tel t σ H v) (k:TelA tr σ H vs):TelA (tCons t tr) σ H (v::vs):=fun Q q=>h _ (k _ q)
theorem go_cons {Q:List V→Hp→Prop} (h:t σ H fun x H1=>tr σ H1 fun xs H2=>Q (x::xs) H2):tCons t tr σ H Q:=h
theorem go_nil {Q:List V→Hp→Prop} (h:Q [] H):tNil σ H Q:=h
theorem go_seq (h:s { D with nx:=u D } σ H):tSeq s u D σ H:=h
theorem go_nx {nx bk ct:St→Hp→Prop} {rt:VK} (h:nx σ H):(Ends.mk nx rt bk ct).nx σ H:=h
theorem go_next (h:D.nx σ H):tNext D σ H:=h
theorem go_asg (h:t σ H fun x H1=>tg x σ H1 D.nx):tAsg t tg D σ H:=h
theorem go_tupA (h:tr σ H fun xs H1=>xs.length≤sizeLine∧∀p H',New H1 H' p (.tup xs)→Q (.ref p) H'):tTupA tr σ H Q:=h
theorem go_lstA (h:tr σ H fun xs H1=>xs.length≤sizeLine∧∀p H',New H1 H' p (.lst xs)→Q (.ref p) H'):tLstA tr σ H Q:=h
theorem go_op {r:R2} (h:ta σ H fun x H1=>tb σ H1 fun y H2=>r x y H2 Q):tOp r ta tb σ H Q:=h
theorem go_ret (h:t σ H D.rt):tRet t D σ H:=h
theorem go_drop (h:t σ H fun _ H1=>D.nx σ H1):tDrop t D σ H:=h
theorem go_if (h:c σ H fun b H1=>if b=true then s D σ H1 else u D σ H1):tIfS c s u D σ H:=h
theorem go_test {Q:Bool→Hp→Prop} (h:t σ H fun x H'=>∃k,x=.bl k∧Q k H'):tTest t σ H Q:=h
theorem go_b {Q:Bool→Hp→Prop} (h:t σ H fun x H'=>∃k,x=.bl k∧Q k H'):tB t σ H Q:=h
theorem go_cb {r:List V→Hp→VK→Prop} (h:tr σ H fun vs H1=>r vs H1 Q):tCB r tr σ H Q:=h
end
section
variable {σ:St} {H:Hp} {te:TE} {tr:TA} {Q:VK} {c:TT} {fr:List Nat} {fvs:St} {n:Nat}
theorem rangeV_get {i:Nat} {x:V} (h:(rangeV 0 n)[i]?=some x) (hi:i < n):x=.int i:=by
 have:(rangeV 0 n)[i]?=some (V.int (0 + (i:Int))):=by simp [rangeV,hi]
 rw [this] at h
 have:=Option.some.inj h
 rw [← this,Int.zero_add]
theorem go_map_range {F:Nat→V} (hr:TelA tr σ H [.int (n:Int)]) (hn:n < 2 ^ 62) (hz:n≤1000000) (hf:(fr.map fun i=>(σ[i]?).getD none)=fvs)
  (turn:∀i H',i < n→Same H H'→Tel te (some (.int i)::fvs) H' (F i)) (k:∀p H',New H H' p (.lst ((List.range n).map F))→Q (.ref p) H'):tComp (iRng1 tr) 1 fr (gName 0) tTrue te σ H Q:=by
 refine hr _ ⟨n,rfl,by lia,by lia,fun acc hacc=>?_⟩
 subst hf
 rw [Int.toNat_natCast]
 refine comp_by items_range (fun i ys H'=>H'=upd H acc (.lst ys)∧ys=(List.range i).map F) ⟨rfl,rfl⟩ (fun i ys H' _ h=>⟨trivial,by rw [h.1];exact upd_same⟩) ?_ ?_
 ·rintro i x tv ys H' hx hi ⟨rfl,rfl⟩ htv
  obtain ⟨tv0,rfl⟩:∃a,tv=[a]:=List.length_eq_one_iff.mp htv
  have hi':i < n:=by simpa [rangeV] using hi
  obtain rfl:=rangeV_get hx hi'
  unfold gName tTrue
  dsimp only
  rw [if_pos rfl]
  refine turn i _ hi' (Same.new hacc) _ ⟨?_,upd_same,?_⟩
  ·rw [List.length_map,List.length_range]
   exact Nat.lt_of_lt_of_le hi' (small_line hz)
  ·exact CompW.next (tv:=[some (V.int i)]) hi ⟨upd_upd,by rw [List.range_succ,List.map_append];rfl⟩ rfl
 ·rintro ys H' ⟨rfl,rfl⟩
  rw [show (rangeV 0 n).length=n by simp [rangeV]]
  exact k acc _ (.mk' hacc)
end
def del (H:Hp) (a:Addr):Hp:=fun b=>if b=a then none else H b
section
variable {P:Program} {w:World} {H:Hp} {h:Heap} {a b:Addr} {φ:Heap→Prop} {o:HO}
theorem del_same:del H a a=none:=by unfold del;rw [if_pos rfl]
theorem del_ne (h:b≠a):del H a b=H b:=by unfold del;rw [if_neg h]
theorem del_none (h:H b=none):del H a b=none:=by
 unfold del
 split
 ·rfl
 ·exact h
theorem HOk.del (ok:HOk P w H h) (ha:H a=some (.ext φ)):HOk P w (del H a) h:=fun b u z=>by
 by_cases hb:b=a
 ·rw [hb,del_same] at z
  cases z
 ·rw [del_ne hb] at z
  refine (ok b u z).stay (fun _ _ _ q=>q) (fun c q=>?_) fun c xs q=>?_
  ·rw [del_ne fun e=>by rw [e,ha] at q;cases q]
   exact q
  ·rw [del_ne fun e=>by rw [e,ha] at q;cases q]
   exact q
theorem HOk.track (ok:HOk P w H h) (ha:H a=none) (new:ObjOk P w (upd H a o) h a o):HOk P w (upd H a o) h:=fun b u z=>by
 by_cases hb:b=a
 ·subst hb
  rw [upd_same] at z
  cases z
  exact new
 ·rw [upd_ne hb] at z
  refine (ok b u z).stay (fun _ _ _ q=>q) (fun c q=>?_) fun c xs q=>?_
  ·rw [upd_ne (ne_of_none q ha)]
   exact q
  ·rw [upd_ne (ne_of_none q ha)]
   exact q
end
section
variable {X:Cx} {pins:List (Addr×Obj)} {σ:St} {H H1:Hp} {s s1:Shared} {a:Addr} {φ:Heap→Prop} {o:HO}
theorem Inv.del (I:Inv X pins σ H s) (ha:H a=some (.ext φ)) (h0:X.H₀ a=none):Inv X pins σ (del H a) s:=by
 have ne:∀{b:Addr} {u:HO},X.H₀ b=some u→b≠a:=fun {b u} z=>ne_of_none z h0
 refine ⟨I.ok,I.os,I.bare,⟨I.base.keep,I.base.slot,fun b o e n hx=>del_none (I.base.free b o e n hx),I.base.there,fun b xs e=>?_,fun b o u e=>?_,fun b ps e=>?_⟩,I.loc,I.cell,del_none I.free,fun x c e=>del_none (I.freeC x c e),fun p hp=>?_,I.hok.del ha,I.len⟩
 ·rw [del_ne (ne e)];exact I.base.tups b xs e
 ·rw [del_ne (ne e)];exact I.base.frzs b o u e
 ·rw [del_ne (ne e)];exact I.base.tbls b ps e
 ·obtain ⟨q1,q2,q3,q4,q5⟩:=I.pin p hp
  exact ⟨q1,del_none q2,q3,q4,q5⟩
theorem Inv.track (I:Inv X pins σ H s) (I0:Inv X pins σ H1 s1) (na:s1.heap.objs.size≤a) (ha:H a=none) (new:ObjOk X.prog X.w (upd H a o) s.heap a o):Inv X pins σ (upd H a o) s:=by
 have s0:X.s₀.heap.objs.size≤s1.heap.objs.size:=I0.sz
 have ne:∀b ob,s1.heap.get? b=some ob→b≠a:=fun b ob q=>Nat.ne_of_lt (Nat.lt_of_lt_of_le (Heap.lt_size q) na)
 refine ⟨I.ok,I.os,I.bare,⟨I.base.keep,I.base.slot,fun b o e n hx=>?_,I.base.there,fun b xs e=>?_,fun b o u e=>?_,fun b ps e=>?_⟩,I.loc,I.cell,?_,fun x c e=>?_,fun p hp=>?_,I.hok.track ha new,I.len⟩
 ·rw [upd_ne (Nat.ne_of_lt (Nat.lt_of_lt_of_le (Heap.lt_size e) (Nat.le_trans s0 na)))]
  exact I.base.free b o e n hx
 ·have z:=I.base.tups b xs e
  rw [upd_ne (ne_of_none z ha)];exact z
 ·have z:=I.base.frzs b o u e
  rw [upd_ne (ne_of_none z ha)];exact z
 ·obtain ⟨m,z⟩:=I.base.tbls b ps e
  exact ⟨m,by rw [upd_ne (ne_of_none z ha)];exact z⟩
 ·rw [upd_ne (Nat.ne_of_lt (Nat.lt_of_lt_of_le I0.lt na))]
  exact I.free
 ·obtain ⟨v,ob,ho,_⟩:=I0.cell x c e
  rw [upd_ne (ne c ob ho)]
  exact I.freeC x c e
 ·obtain ⟨q1,q2,q3,q4,q5⟩:=I.pin p hp
  obtain ⟨r1,_⟩:=I0.pin p hp
  exact ⟨q1,by rw [upd_ne (ne _ _ r1)];exact q2,q3,q4,q5⟩
end
section
variable {M:Model} {A:Around} {E:Value→Shared→Prop} {env:Env}
variable {nm q:Str} {C N:Addr} {bs bm:List Value} {hdct:Bool} {sn:List Str} {sub:List Value} {ab:Bool} {col:Option Bool} {dd:Option Addr} {k0 k1 k2 k3 k5:Option Value} {newId:String}
theorem raise_own {s:Shared} {x:Sem Value} {Q:Flow→Shared→Prop} (hbase:bm.contains (.type "BaseException")=true) (hh:A.handled=none)
  (h:wpAny M A x (fun v s₁=>∃e t dx sl,v=.ref e∧s₁.heap.get? C=some (excClassObj nm q C N bs bm hdct sn sub ab col dd k0 k1 k2 k3 k5 newId) ∧
   s₁.heap.get? e=some { cls:=.ref C,dict:=dx,data:=.fields #[.ref t,.none,.none,.none,.bool false,.none],slots:=sl }∧E (.ref e) s₁) E s) :
  wpAny M A (raiseStmt env (some x) none) Q E s:=by
 have hcB:(Value.ref C::bm).contains (.type "BaseException")=true:=by rw [List.contains_cons,hbase,Bool.or_true]
 unfold raiseStmt
 refine wpAny_bind (wpAny_mono h (fun v s₁ h₁=>?_) fun _ _ x=>x)
 obtain ⟨e,t,dx,sl,rfl,hC,he,hE⟩:=h₁
 obtain ⟨hp,g,d,tk,os⟩:=s₁
 repeat (first | with_reducible refine wpAny_loadPart_at he ?_ | with_reducible refine wpAny_loadPart_at hC ?_ | (with_reducible refine wpAny_isSubtype_exc hC ?_;rw [hcB]) | wp_step)
 exact wpAny_raiseNew_none hh hE
end
def ExcK (K:W.Frag) (C R:Addr):Prop:=∃nm q N bs hdct sn sub ab col dd k0 k1 k2 k3 k5,K.lookup C=some (excClassObj nm q C N bs [.ref R,.type "ValueError", .type "Exception", .type "BaseException", .type "object"] hdct sn sub ab col dd k0 k1 k2 k3 k5 "ValueError.__new__")
def tRaise (C:Addr) (H0:Hp) (n:Nat) (E:XK) (te:TE):TS:=fun D σ H=>te σ H fun x H1=>∃a dx,x=.ref a∧n≤a∧H0 a=none∧H1 a=some (excO a C dx)∧E (.ref C) dx (del H1 a)
section
variable {P:Program} {w:World} {K:W.Frag} {mg:Str→Option Value} {base:Heap} {N:List Str} {qual:Str} {scope:Scope} {f:Addr} {cd:Value} {A:Around} {outer:List Env} {s:Shared} {H:Hp} {E:XK}
theorem ps_raise {C R:Addr} {e:Expr} {te:TE} {pos:Pos} (hC:ExcK K C R) (he:PE (cxOf (CX1 P w) P w K mg base N qual scope f cd A outer s H E) e te) :
  PS (cxOf (CX1 P w) P w K mg base N qual scope f cd A outer s H E) (.Raise (some e) none pos) (tRaise C H s.heap.objs.size E te):=by
 intro pins s1 σ H1 D I h
 obtain ⟨nm,q,N',bs,hdct,sn,sub,ab,col,dd,k0,k1,k2,k3,k5,ho⟩:=hC
 rw [arm_exec_Raise]
 show wpAny (model P w) (A.deeper (envOfC qual scope s.heap.objs.size f cd)) (do standAt pos;raiseStmt (envOfC qual scope s.heap.objs.size f cd) (some (do let v ← eval e (envOfC qual scope s.heap.objs.size f cd);standAt pos;pure v)) none) _ _ s1
 refine wpAny_bind (wpAny_standAt (raise_own (C:=C) (nm:=nm) (q:=q) (N:=N') (bs:=bs) (bm:=[.ref R,.type "ValueError", .type "Exception", .type "BaseException", .type "object"]) (hdct:=hdct) (sn:=sn) (sub:=sub) (ab:=ab) (col:=col) (dd:=dd) (k0:=k0) (k1:=k1) (k2:=k2) (k3:=k3) (k5:=k5) (newId := "ValueError.__new__") (bm_ok R).hasE (I.ok.hd rfl) (wpAny_bind (thn (he pins s1 σ H1 _ I h) fun v s2 ⟨x,H2,I2,rx,a,dx,ex,na,h0,ha,q2⟩=>wpAny_bind (wpAny_standAt (wpAny_pure ?_))))))
 subst ex
 obtain rfl:v=Value.ref a:=rx
 obtain ⟨⟨t,sl,ge⟩,_,_⟩:ObjOk P w H2 s2.heap a (excO a C dx):=I2.hok a _ ha
 refine ⟨a,t,dx,sl,rfl,I2.kIn C _ ho,ge,?_⟩
 have I3:Inv (cxOf (CX1 P w) P w K mg base N qual scope f cd A outer s H E) pins σ (del H2 a) s2:=I2.del ha h0
 show wpAny (model P w) (A.deeper (envOfC qual scope s.heap.objs.size f cd)) (leaving (envOfC qual scope s.heap.objs.size f cd) (.ref a)) _ _ s2
 refine leave_first (base:=base) I.ok.frames I3.stack rfl ge rfl rfl fun h' T' lf=>?_
 have hz:∀z,(#[Value.ref t,.none,.none,.none,.bool false,.none]:Array Value)[1]?=some (.ref z)→False:=fun z q=>by
  simp at q
 have hstk:∀b∈frs (envOfC qual scope s.heap.objs.size f cd::outer),del H2 a b=none:=I3.stkFree
 obtain ⟨oT',ts',gT',gt',g3'⟩:=lf.ent
 refine ⟨a,C,dx,del H2 a,rfl,I3.os,I3.bare,left_un I3.base lf (fun b hb=>?_) (fun b o q m=>?_) na (fun z q=>(hz z q).elim),left_hok I3.hok lf del_same (fun z q=>(hz z q).elim) hstk,?_,q2⟩
 ·show b∈frs (envOfC qual scope s.heap.objs.size f cd::outer)
  unfold frs
  rw [List.filterMap_cons]
  exact List.mem_cons_of_mem _ hb
 ·have m:b∈frs (envOfC qual scope s.heap.objs.size f cd::outer):=m
  unfold frs at m
  rw [List.filterMap_cons] at m
  rcases List.mem_cons.mp m with z | z
  ·exact absurd (Heap.lt_size q) (by rw [z];exact Nat.lt_irrefl _)
  ·exact z
 ·have hsz2:s.heap.objs.size≤s2.heap.objs.size:=I2.sz
  have nTa:T'≠a:=fun z=>absurd (Heap.lt_size ge) (by rw [← z];exact Nat.not_lt.mpr lf.new)
  exact ⟨_,_,T',oT',ts',lf.obj,rfl,rfl,rfl,by simp,nTa,gT',gt',g3',del_same,I3.hok.fresh lf.new,na,Nat.le_trans hsz2 lf.new⟩
end
section
variable {X:Cx} {CX:CXT} {k m:Nat} {f C R:Addr} {fd:FuncData} {ps:List Str} {sp:Sp} {E:XK} {p pos:Pos} {e:Expr} {es:List Expr} {t:TA} {bm:List Value}
theorem run_excN {pins:List (Addr×Obj)} {σ:St} {H:Hp} {s:Shared} {Q:VK} {us:List Value} {vs:List V} (M:ExcC X.K C f bm) (F:FnOk X.prog X.w X.K X.mg X.base CX k f fd ps sp) (hr:Room (k + 1) X.A) (hb:Binds X.K fd ps [])
  (hx:Passes CX X E) (I:Inv X pins σ H s) (r:Vals vs us) (hz:vs.length≤sizeLine)
  (h:∀x,H x=none→s.heap.objs.size≤x→sp (.ref x::vs) (upd H x (excO x C none)) (fun v H2=>v=.non∧Q (.ref x) H2) E) :
  wpAny (model X.prog X.w) X.A (call (.ref C) us) (EP X pins σ Q) X.xe s:=by
 obtain ⟨nm,q,N,bs,hdct,sn,sub,ab,col,dd,k0,k1,k2,k3,k5,ho⟩:=M.obj
 obtain ⟨oI,hoI,hcI⟩:=M.fn
 have hsz:us.length≤sizeLine:=by rw [← r.length];exact hz
 refine exc_make (h:=s.heap) (g:=s.gens) (d:=s.drawn) (t:=s.toks) (os:=s.os) M.bm_ok (I.kIn C _ ho) (W.looks_findIn I.kIn M.init) (I.kIn f _ hoI) hcI (fun h' kp hget=>?_) hsz
 have hfr:H (s.heap.objs.size + 1)=none:=I.hok.fresh (Nat.le_succ _)
 have hq:=h (s.heap.objs.size + 1) hfr (Nat.le_succ _)
 have I2:Inv X pins σ (upd H (s.heap.objs.size + 1) (excO (s.heap.objs.size + 1) C none)) { s with heap:=h' }:=I.laid (t':=s.toks) kp (Nat.le_succ _) (excO_ok hget)
 have r2:Vals (V.ref (s.heap.objs.size + 1)::vs) (Value.ref (s.heap.objs.size + 1)::us):=.cons rfl r
 have hl:(Value.ref (s.heap.objs.size + 1)::us++[]).length=ps.length:=by
  rw [List.append_nil,← r2.length]
  exact F.len _ _ _ _ hq
 refine wpAny_call (codeAny_mono (F.run _ X.stack _ _ ⟨Value.ref (s.heap.objs.size + 1)::us,[]⟩ (Value.ref (s.heap.objs.size + 1)::us) _ _ E (hr.make C us []) (I2.env0.make C us []) (by
  have:=hb { s with heap:=h' } (Value.ref (s.heap.objs.size + 1)::us) I2.kIn hl
  rwa [List.append_nil] at this) r2 hq) fun r s' hq'=>?_)
 cases r with
 | error e=>exact hx pins σ _ _ e s' I2 hq'
 | ok fl =>
  cases fl with
  | ret u =>
   obtain ⟨v,H',I3,rv,ev,q3⟩:=I2.after hq'
   subst ev
   exact ⟨rv,⟨V.ref (s.heap.objs.size + 1),H',I3,rfl,q3⟩⟩
  | next=>exact False.elim hq'
  | brk=>exact False.elim hq'
  | cont=>exact False.elim hq'
end
def tEx1N (n:Nat) (C:Addr) (f:Str) (t:TA):TE:=fun σ H Q=>t σ H fun vs H1=>∃v,vs=[v]∧∀z H',n≤z→H1 z=none→Same H1 H'→ExcAt H' z C [(f,v)]→Q (.ref z) H'
section
variable {CX:CXT} {X:Cx} {k m:Nat} {C R:Addr} {E:XK} {x qual f g:Str} {st:Stmt} {p pos:Pos} {e:Expr} {es:List Expr} {t:TA}
theorem pe_ex1N (M:HasExc X.K X.mg x qual st C R) (F:InitOk X.prog X.w X.K X.mg X.base CX qual st ["self", f] (spI1 C f)) (hr:Room m X.A) (ha:PA X (e::es) t) (hk:2≤m:=by decide) (hx:Passes CX X E:=by exact pass0) (hg:Gl X x:=by rfl)
  (hdb:(x == ("__debug__" : Str))=false:=by decide) (he:starEach (e::es) X.env=(false,eval e X.env)::starEach es X.env:=by rfl) (hpl:(backTo pos (starEach es X.env)).any (·.1)=false:=by rfl) :
  PE X (.Call (.Name x p) (e::es) [] pos) (tEx1N X.s₀.heap.objs.size C f t):=by
 intro pins s σ H Q I h
 obtain ⟨fa,fd,C1,Fn⟩:=M.ex
 obtain ⟨ok,hb⟩:=F fa fd Fn
 refine wpAny_Call_Name_kw (ld_glob I hg M.gl ?_ hdb)
 refine W.callWith_K (h₀:=X.base) I.ok.mod.kin C1.kp (thn (ha pos pins s σ H _ I h) fun us s1 ⟨vs,H1,I1,r,v,ev,q⟩=>⟨I1.kIn,?_⟩) he hpl
 subst ev
 refine run_excN C1 ok (hr.mono hk) hb hx I1 r (small_line (show (_:Nat)≤_ by simp only [List.length_cons,List.length_nil];decide)) fun z hz hn=>⟨z,v,rfl,upd_same,fun dx hd=>⟨rfl,q z _ (Nat.le_trans I1.sz hn) hz (fun b u eb=>?_) ?_⟩⟩
 ·have hzx:dx≠z:=fun q=>by rw [q,upd_same] at hd;cases hd
  rw [upd_ne hzx] at hd
  rw [upd_ne (ne_of_none eb hz),upd_ne (ne_of_none eb hd),upd_ne (ne_of_none eb hz)]
  exact eb
 ·have hzx:dx≠z:=fun q=>by rw [q,upd_same] at hd;cases hd
  exact .inr ⟨dx,upd_same,by rw [upd_ne hzx,upd_same],hzx⟩
end
theorem go_raise {n:Nat} {H0 H1 H':Hp} {E:XK} {C z:Addr} {fs:List (Str×V)} (hfs:fs≠[]) (hn:n≤z) (hz:H1 z=none) (h0:H0 z=none) (s:Same H1 H') (e:ExcAt H' z C fs) (k:∀dx H2,Same H1 H2→H2 dx=some (dctO dx fs)→E (.ref C) (some dx) H2) :
  ∃a dx,V.ref z=.ref a∧n≤a∧H0 a=none∧H' a=some (excO a C dx)∧E (.ref C) dx (del H' a):=by
 rcases e with ⟨w,_⟩ | ⟨dx,a,b,c⟩
 ·exact absurd w hfs
 ·exact ⟨z,some dx,rfl,hn,h0,a,k dx _ (fun b u q=>by rw [del_ne (ne_of_none q hz)];exact s b u q) (by rw [del_ne c];exact b)⟩
section
variable {P:Program} {w:World} {K:W.Frag} {mg:Str→Option Value} {base:Heap} {k:Nat} {x:Str} {ps:List Str} {sp:Sp}
theorem def_ofX {st:Stmt} {N:List Str} (h:HasDef K mg x st) (S:FnScope N ps (defScope st)) (len:∀vs H Q E,sp vs H Q E→vs.length=ps.length)
  (hb:∀(kV doc pm:Value) (an:Option Addr) (cdv ct:Value) (us:List Value),us.length=ps.length→bindArgs (W.fnOf x x (defArgs st) (defBody st) (defScope st) .none kV doc pm an cdv ct) ⟨us,[]⟩=pure (ps.zip us))
  (hbody:∀(f:Addr) (cdv:Value) (A:Around) (outer:List Env) (s:Shared) (H:Hp) (vs:List V) (Q:VK) (E:XK),Room k (A.deeper (envOfC x (defScope st) s.heap.objs.size f cdv))→sp vs H Q E →
   ∃t,PSs (cxOf (CX1 P w) P w K mg base N x (defScope st) f cdv A outer s H E) (defBody st) t∧t { nx:=fun _ H'=>Q .non H',rt:=Q } (start N vs) H):Def P w K mg base (CX1 P w) (k + 1) x ps sp:=by
 obtain ⟨f,fd,F,m⟩:=h
 refine ⟨f,fd,?_,m,F.kp,F.binds hb⟩
 obtain ⟨oc,od,kV,doc,pm,an,cdv,ct,osl,rfl,lk,hcd⟩:=F.ex
 exact fn_of lk hcd S len fun A outer s H vs Q E hr hsp=>hbody f cdv A outer s H vs Q E hr hsp
end
theorem nsFind_drop {es:Array DictEntry} {name x:Str} {i:Nat} (h:x≠name) (hi:es.findIdx? (·.key.isStr name)=some i):nsFind (es.eraseIdxIfInBounds i) x=nsFind es x:=by
 obtain ⟨l⟩:=es
 have h1:=find?_drop (·.key.isStr x) (·.key.isStr name) (isStr_other h) l
 rw [List.findIdx?_toArray] at hi
 simp only [hi] at h1
 have e1:(l.toArray.eraseIdxIfInBounds i).find? (·.key.isStr x)=l.toArray.find? (·.key.isStr x):=by simpa using h1
 unfold nsFind findBy
 rw [e1]
section
variable {M:Model} {A:Around} {E:Value→Shared→Prop} {s:Shared}
theorem wpAny_nsDelK {a:Addr} {m} {name:Str} {Q:Bool→Shared→Prop} (hn:s.heap.Ns a m)
  (hQ:∀h' m',h'.Ns a m'→(∀x,x≠name→m' x=m x)→Heap.SameBut a s.heap h'→Q (m name).isSome { s with heap:=h' }):wpAny M A (nsDel a name) Q E s:=by
 obtain ⟨o,es,ep,ho,hd,hk,hm⟩:=id hn
 have hany:es.any (·.refKey)=false:=by
  rw [Array.any_eq_false'];intro e he;obtain ⟨n,t,h⟩:=hk e he;simp [DictEntry.refKey,h]
 have hsome:(m name).isSome=es.any (·.key.isStr name):=by
  rw [← hm name];simp only [nsFind,findBy,Option.isSome_map]
  rw [Bool.eq_iff_iff];simp only [Array.find?_isSome,Array.any_eq_true]
  constructor
  ·rintro ⟨x,hx,hp⟩;obtain ⟨i,hi,rfl⟩:=Array.mem_iff_getElem.mp hx;exact ⟨i,hi,hp⟩
  ·rintro ⟨i,hi,hp⟩;exact ⟨_,Array.getElem_mem hi,hp⟩
 have hhas:nsHas name o=pure (es.any (·.key.isStr name)):=by
  rw [nsHas_eq];unfold nsHasByArray;rw [hd]
  show (if (es.any fun x=>x.key.isStr name)=true then _ else _)=_
  generalize (es.any fun x=>x.key.isStr name)=b
  cases b <;> simp [hany]
 unfold nsDel
 refine wpAny_bind (wpAny_loadPart ho ?_)
 rw [hhas]
 refine wpAny_bind (wpAny_pure ?_)
 rw [← hsome]
 cases hmn:(m name).isSome
 ·have:=hQ s.heap m hn (fun _ _=>rfl) (.refl ..)
  rw [hmn] at this
  exact wpAny_pure this
 ·refine wpAny_bind (wpAny_updatePart ho (wpAny_pure ?_))
  have key:∃m',(s.heap.update a (Obj.dropName name)).Ns a m'∧∀x,x≠name→m' x=m x:=by
   obtain ⟨cl,d,dt,sl⟩:=o
   subst hd
   cases hi:es.findIdx? (·.key.isStr name) with
   | some i=>exact ⟨_,⟨_,_,ep + 1,Heap.get?_update_self _ ho (by simp only [Obj.dropName_eq,Obj.dropNameByArray,hi] <;> rfl),(by simp only [Obj.dropName_eq,Obj.dropNameByArray,hi] <;> rfl),hk.erase i,fun _=>rfl⟩,fun x hx=>(nsFind_drop hx hi).trans (hm x)⟩
   | none=>exact ⟨_,⟨_,_,ep,Heap.get?_update_self _ ho (by simp only [Obj.dropName_eq,Obj.dropNameByArray,hi] <;> rfl),(by simp only [Obj.dropName_eq,Obj.dropNameByArray,hi] <;> rfl),hk,fun _=>rfl⟩,fun x hx=>hm x⟩
  obtain ⟨m',hm',hx'⟩:=key
  have:=hQ _ m' hm' hx' (Heap.SameBut.update ..)
  rw [hmn] at this
  exact this
end
section
variable {X:Cx} {pins:List (Addr×Obj)} {σ:St} {H:Hp} {s:Shared}
theorem name_goes {M:Model} {A:Around} {E:Value→Shared→Prop} {i:Nat} {n:Str} {pos:Pos} {Q:Unit→Shared→Prop} (I:Inv X pins σ H s) (hN:X.N.Nodup) (hi:X.N[i]?=some n) (hl:X.env.scope.names.lookup n=some .local)
  (h:∀s',Inv X pins (σ.set i none) H s'→Q () s'):wpAny M A (do bindName X.env n .none;unbindBehindTheSuite X.env n pos) Q E s:=by
 have hp:(X.env.scope.kind == .class || (X.env.scope.kind == .module && X.env.locals != X.env.globals))=false:=by rw [I.ok.kind];rfl
 have hl':X.env.kindOf n=some .local:=hl
 have hiσ:i < σ.length:=by rw [I.len];exact (List.getElem?_eq_some_iff.mp hi).1
 refine wpAny_bind (wpAny_bindName (store_ok (v:=V.non) (u:=Value.none) I hN hi (.inl hl) rfl (fun s1 I1=>?_) (.inr hl)))
 unfold unbindBehindTheSuite
 refine wpAny_onRaise ?_
 unfold unbindName
 refine wpAny_bind (wpAny_point (wpAny_bind ?_))
 unfold deleteName
 simp only [hl',hp]
 rw [if_neg (by decide)]
 obtain ⟨m,hn,hm⟩:=id I1.loc
 have hmn:(m n).isSome=true:=by
  obtain ⟨u,_,q⟩:=hm i n .non hi (by rw [List.getElem?_set_self hiσ]) (.inl hl)
  rcases q with ⟨_,e⟩ | ⟨k,_⟩
  ·rw [e];rfl
  ·rw [hl'] at k
   rcases k with k | k <;> cases k
 have cne:=I1.cne
 refine wpAny_bind (wpAny_nsDelK hn fun h₂ m₂ hn₂ hk hs=>?_)
 rw [hmn]
 simp only [if_true,Bool.not_true,Bool.false_eq_true,if_false]
 refine wpAny_pure (wpAny_point (h _ ?_))
 obtain ⟨oL,_,_,hoL,_⟩:=id hn
 refine ⟨I1.ok,I1.os,I1.bare,⟨fun b o e n hb hx=>?_,fun b o e n hb hx=>?_,I1.base.free,fun b o e hx=>?_,I1.base.tups,I1.base.frzs,I1.base.tbls⟩,⟨_,hn₂,fun j y v' e1 e2 e3=>?_⟩,fun y c e=>?_,I1.free,I1.freeC,fun p hp=>?_,fun b ob e=>?_,by rw [List.length_set];exact I.len⟩
 ·exact (hs.2 b (Nat.ne_of_lt (Nat.lt_of_lt_of_le (Heap.lt_size e) I1.ok.above))).trans (I1.base.keep b o e n hb hx)
 ·obtain ⟨sl,e1⟩:=I1.base.slot b o e n hb hx
  exact ⟨sl,(hs.2 b (Nat.ne_of_lt (Nat.lt_of_lt_of_le (Heap.lt_size e) I1.ok.above))).trans e1⟩
 ·obtain ⟨o',e1⟩:=I1.base.there b o e hx
  exact ⟨o',(hs.2 b (Nat.ne_of_lt (Nat.lt_of_lt_of_le (Heap.lt_size e) I1.ok.above))).trans e1⟩
 ·by_cases hj:j=i
  ·subst hj
   rw [List.getElem?_set_self hiσ] at e2
   cases e2
  ·rw [List.getElem?_set_ne (Ne.symm hj)] at e2
   obtain ⟨u',r',q⟩:=hm j y v' e1 (by rw [List.getElem?_set_ne (Ne.symm hj)];exact e2) e3
   refine ⟨u',r',?_⟩
   rcases q with ⟨k,e⟩ | ⟨k,c,e,z⟩
   ·refine .inl ⟨k,?_⟩
    have:y≠n:=fun e=>hj (nodup_ix hN e1 (e▸hi))
    rw [hk y this]
    exact e
   ·exact .inr ⟨k,c,e,z.sameBut hs (cne y c e)⟩
 ·obtain ⟨w',z⟩:=I1.cell y c e
  exact ⟨w',z.sameBut hs (cne y c e)⟩
 ·obtain ⟨e,n,ne,nf,d⟩:=I1.pin p hp
  exact ⟨(hs.2 p.1 ne).trans e,n,ne,nf,d⟩
 ·refine (I1.hok b ob e).stay (fun c w' hc q=>(hs.2 c ?_).trans q) (fun _ q=>q) fun _ _ q=>q
  rintro rfl
  rcases hc with rfl | hc
  ·rw [I1.free] at e;cases e
  ·rw [I1.free] at hc;cases hc
end
section
variable {M:Model} {A:Around} {E:Value→Shared→Prop} {s:Shared} {base:Heap} {env:Env} {outer:List Env} {L e:Addr} {oe:Obj} {vs:Array Value}
theorem note_next {Q:Unit→Shared→Prop} {T0:Addr} {o0:Obj} {ts0:Array Value} (hfr:A.frames=some (env::outer)) (hl:s.heap.FunFrames base (env::outer)) (hf:env.frame=some L) (he:s.heap.get? e=some oe) (hd:oe.data=.fields vs) (h1:vs[1]?=some (.ref T0))
  (hT:s.heap.get? T0=some o0) (hdT:o0.data=.fields ts0) (h3:ts0[3]?=some .none) (hTe:T0≠e)
  (h:∀h' T,Left (frs (env::outer)) s.heap h' e oe vs T→Q () { s with heap:=h' }):wpAny M A (noteFrame (.ref e) env) (fun _ s'=>wpAny M A (setFlight (.ref e) none) Q E s') E s:=by
 unfold noteFrame
 simp only [hf]
 refine wpAny_bind (wpAny_field he hd h1 ?_)
 rw [if_pos (show (Value.ref T0 != Value.none)=true from by simp)]
 refine wpAny_bind (wpAny_field hT hdT h3 ?_)
 rw [if_neg (show ¬ ((Value.none == rawInt L)=true) from by simp [rawInt])]
 refine wpAny_bind (wpAny_setField hT hdT (Array.getElem?_eq_some_iff.mp h3).1 ?_)
 have hoth:∀b,b≠T0→(s.heap.update T0 (Obj.mapFields (·.setIfInBounds 3 Value.none))).get? b=s.heap.get? b:=fun b hb=>Heap.get?_update_other _ _ (Ne.symm hb)
 have hno:∀b o,s.heap.get? b=some o→(∀z,o.data≠.fields z)→b≠T0:=fun b o z hn q=>by
  rw [q,hT] at z;cases z
  exact hn ts0 hdT
 have hl2:(s.heap.update T0 (Obj.mapFields (·.setIfInBounds 3 Value.none))).FunFrames base (env::outer):=hl.of_keeps fun b o z hn=>⟨o,(hoth b (hno b o z hn)).trans z,rfl⟩
 refine leave_tail (s:={ s with heap:=s.heap.update T0 (Obj.mapFields (·.setIfInBounds 3 Value.none)) }) hfr hl2 hf ((hoth e (Ne.symm hTe)).trans he) hd (Array.getElem?_eq_some_iff.mp h1).1 fun h' T lf=>h h' T ⟨fun b o hb hn z hz=>lf.keep b o hb hn ((hoth b (hz T0 h1)).trans z) hz,fun b o hb z=>?_,?_,lf.ent,lf.obj⟩
 ·obtain ⟨_,o',ho',hn'⟩:=hl.mem hb
  rw [z] at ho';cases ho'
  exact lf.slot b o hb ((hoth b (hno b o z hn')).trans z)
 ·have:=lf.new
  rw [Heap.size_update] at this
  exact this
end
abbrev Cx.pinned (X:Cx) (pins:List (Addr×Obj)):Cx:={ X with pn:=X.pn++pins }
section
variable {X:Cx} {pins pins':List (Addr×Obj)} {σ:St} {H:Hp} {s:Shared} {a:Addr}
theorem Inv.pinC (I:Inv X pins σ H s):Inv (X.pinned pins) [] σ H s :=
 ⟨⟨I.ok.mod,I.ok.kind,I.ok.glob,I.ok.blt,I.ok.above,I.ok.inj,I.ok.has,I.ok.cab,I.ok.hd,I.ok.frames,I.ok.stk,I.ok.exf,I.ok.bs,I.ok.bsz,I.ok.noex,I.ok.exfs,I.ok.funs,I.ok.frf⟩,I.os,I.bare,I.base,I.loc,I.cell,I.free,I.freeC,fun p hp=>I.pin p (by
  have hp:p∈(X.pn++pins)++[]:=hp
  rw [List.append_nil] at hp
  exact hp),I.hok,I.len⟩
theorem Inv.unpinC (I:Inv (X.pinned pins) pins' σ H s):Inv X pins σ H s :=
 ⟨⟨I.ok.mod,I.ok.kind,I.ok.glob,I.ok.blt,I.ok.above,I.ok.inj,I.ok.has,I.ok.cab,I.ok.hd,I.ok.frames,I.ok.stk,I.ok.exf,I.ok.bs,I.ok.bsz,I.ok.noex,I.ok.exfs,I.ok.funs,I.ok.frf⟩,I.os,I.bare,I.base,I.loc,I.cell,I.free,I.freeC,fun p hp=>I.pin p (List.mem_append_left _ hp),I.hok,I.len⟩
abbrev Cx.hand (X:Cx) (a:Addr):Cx:={ X with A:=X.A.mark (some (.ref a)),calm:=false,xe:=fun _ _=>False }
theorem Inv.hand (I:Inv X pins σ H s):Inv (X.hand a) pins σ H s :=
 ⟨⟨I.ok.mod,I.ok.kind,I.ok.glob,I.ok.blt,I.ok.above,I.ok.inj,I.ok.has,I.ok.cab,(fun h=>by cases h),I.ok.frames,I.ok.stk,I.ok.exf,I.ok.bs,I.ok.bsz,I.ok.noex,I.ok.exfs,I.ok.funs,I.ok.frf⟩,I.os,I.bare,I.base,I.loc,I.cell,I.free,I.freeC,I.pin,I.hok,I.len⟩
theorem Inv.unhand (ok:X.Ok) (I:Inv (X.hand a) pins σ H s):Inv X pins σ H s :=
 ⟨ok,I.os,I.bare,I.base,I.loc,I.cell,I.free,I.freeC,I.pin,I.hok,I.len⟩
end
abbrev Cx.tr (X:Cx) (pins:List (Addr×Obj)) (EX:St→XK):Cx:=(X.pinned pins).wish fun ev s'=>∃pins' σ' H1 s1,Inv (X.pinned pins) pins' σ' H1 s1∧CX1 X.prog X.w X.stack H1 s1 (EX σ') ev s'
def tCallx (EX:St→XK) (sp:Sp) (t:TA):TE:=fun σ H Q=>t σ H fun vs H1=>sp vs H1 Q (EX σ)
section
variable {X:Cx} {pins:List (Addr×Obj)} {EX:St→XK} {k m:Nat} {x:Str} {ps:List Str} {sp:Sp} {p pos:Pos} {e:Expr} {es:List Expr} {t:TA}
theorem pe_defx (D:Def X.prog X.w X.K X.mg X.base (CX1 X.prog X.w) k x ps sp) (hr:Room m X.A) (ha:PA (X.tr pins EX) (e::es) t) (hk:k≤m:=by decide) (hg:Gl (X.tr pins EX) x:=by rfl)
  (hdb:(x == ("__debug__" : Str))=false:=by decide) (he:starEach (e::es) X.env=(false,eval e X.env)::starEach es X.env:=by rfl) (hpl:(backTo pos (starEach es X.env)).any (·.1)=false:=by rfl) :
  PE (X.tr pins EX) (.Call (.Name x p) (e::es) [] pos) (tCallx EX sp t):=by
 intro pins' s σ H Q I h
 obtain ⟨f,fd,F,hm,kp,hb⟩:=D.ex
 refine wpAny_Call_Name_kw (ld_glob I hg hm ?_ hdb)
 refine W.callWith_K (h₀:=X.base) I.ok.mod.kin kp (thn (ha pos pins' s σ H _ I h) fun us s1 ⟨vs,H1,I1,r,q⟩=>⟨I1.kIn,?_⟩) he hpl
 have hl:(us++[]).length=ps.length:=by rw [List.append_nil,← r.length];exact F.len _ _ _ _ q
 refine wpAny_call (codeAny_mono (F.run X.A X.stack s1 H1 ⟨us,[]⟩ us vs Q (EX σ) (hr.mono hk) I1.env0 (by
  have:=hb s1 us I1.kIn hl
  rwa [List.append_nil] at this) r q) fun r s' hq=>?_)
 cases r with
 | error e=>exact ⟨pins',σ,H1,s1,I1.unwish,hq⟩
 | ok fl =>
  cases fl with
  | ret u=>exact I1.after hq
  | next=>exact False.elim hq
  | brk=>exact False.elim hq
  | cont=>exact False.elim hq
end
def excT (a C:Addr) (dx:Option Addr):HO:=.ext fun h=>∃oe vs,h.get? a=some oe∧oe.cls=.ref C∧oe.dict=dx∧oe.data=.fields vs
theorem excT_ok {P:Program} {w:World} {H:Hp} {h:Heap} {a C:Addr} {dx:Option Addr} {oe:Obj} {vs:Array Value} (q:h.get? a=some oe) (hc:oe.cls=.ref C) (hd:oe.dict=dx) (hf:oe.data=.fields vs):ObjOk P w H h a (excT a C dx) :=
 ⟨⟨oe,vs,q,hc,hd,hf⟩,⟨_,q⟩,fun h1 h2 ⟨oe,vs,z,r⟩ k=>⟨oe,vs,k _ z,r⟩⟩
def ExcT (H:Hp) (x C:Addr) (fs:List (Str×V)):Prop:=(fs=[]∧H x=some (excT x C none))∨∃dx,H x=some (excT x C (some dx))∧H dx=some (dctO dx fs)∧dx≠x
theorem ExcT.same {H H':Hp} {x C:Addr} {fs:List (Str×V)} (e:Same H H') (h:ExcT H x C fs):ExcT H' x C fs:=by
 rcases h with ⟨a,b⟩ | ⟨dx,a,b,c⟩
 ·exact .inl ⟨a,e _ _ b⟩
 ·exact .inr ⟨dx,e _ _ a,e _ _ b,c⟩
theorem ExcT.mk {H:Hp} {a C dx:Addr} {fs:List (Str×V)} (hd:H dx=some (dctO dx fs)) (ha:H a=none):ExcT (upd H a (excT a C (some dx))) a C fs :=
 .inr ⟨dx,upd_same,by rw [upd_ne (ne_of_none hd ha)];exact hd,ne_of_none hd ha⟩
structure Caught (X:Cx) (pins:List (Addr×Obj)) (σ:St) (H:Hp) (s:Shared) (a C:Addr) (dx:Option Addr):Prop where
 I:Inv X pins σ H s
 ha:H a=some (excT a C dx)
 tb:∃T oe vs oT ts,s.heap.get? a=some oe∧oe.data=.fields vs∧vs[1]?=some (.ref T)∧s.heap.get? T=some oT∧oT.data=.fields ts∧3 < ts.size∧H T=none∧T≠X.env.locals∧(T∈X.ex∨X.s₀.heap.objs.size≤T)∧(∀x c,X.env.cells.lookup x=some c→c≠T)∧∀p∈X.pn++pins,p.1≠T
abbrev THd:=Ends→Addr→Addr→Option Addr→St→Hp→Prop
def PH (X:Cx) (hs:List ExceptHandler) (t:THd):Prop :=
 ∀(pins:List (Addr×Obj)) (s:Shared) (σ:St) (H:Hp) (C a:Addr) (dx:Option Addr) (D:Ends),Caught X pins σ H s a C dx→t D C a dx σ H→wpAny (model X.prog X.w) X.A (handleBy (.ref a) X.env hs) (SP X pins D) X.xe s
def Ends.forget (D:Ends) (i:Nat):Ends:=⟨fun σ H=>D.nx (σ.set i none) H,D.rt,fun σ H=>D.bk (σ.set i none) H,fun σ H=>D.ct (σ.set i none) H⟩
def hNil:THd:=fun _ _ _ _ _ _=>False
def hAs (K:W.Frag) (d:Addr) (i:Nat) (th:Addr→TS) (tr:THd):THd:=fun D C a dx σ H=>∃b,W.exmOne K (.ref C) (.ref d)=some b∧if b=true then th a (D.forget i) (σ.set i (some (.ref a))) H else tr D C a dx σ H
def hPl (K:W.Frag) (d:Addr) (th:Addr→TS) (tr:THd):THd:=fun D C a dx σ H=>∃b,W.exmOne K (.ref C) (.ref d)=some b∧if b=true then th a D σ H else tr D C a dx σ H
section
variable {X:Cx} {x n:Str} {d:Addr} {i:Nat} {b₀:Stmt} {suite:List Stmt} {rest:List ExceptHandler} {th:Addr→TS} {tr:THd} {p pos:Pos}
theorem ph_nil:PH X [] hNil:=fun _ _ _ _ _ _ _ _ _ h=>h.elim
theorem Caught.lit {pins:List (Addr×Obj)} {σ:St} {H:Hp} {s:Shared} {a C:Addr} {dx:Option Addr} {A:Around} {E:Value→Shared→Prop} {Q:Unit→Shared→Prop} (c:Caught X pins σ H s a C dx) (h:∀s',Inv X pins σ H s'→Q () s'):wpAny (model X.prog X.w) A (setFlight (.ref a) none) Q E s:=by
 obtain ⟨T,oe,vs,oT,ts,ga,gf,g1,gT,gt,g3,hT,n1,n2,n3,n4⟩:=c.tb
 exact wpAny_setFlight_none ga gf g1 gT gt g3 (h _ (c.I.turned (t':=s.toks) (fun b o hb e=>(Heap.get?_update_other _ _ (Ne.symm hb)).trans e) hT n1 n2 n3 n4))
theorem exc_instT {pins:List (Addr×Obj)} {σ:St} {H:Hp} {s:Shared} {a C:Addr} {fs:List (Str×V)} (I:Inv X pins σ H s) (h:ExcT H a C fs):∃oe odo,W.InstAt s.heap a oe C odo:=by
 rcases h with ⟨_,b⟩ | ⟨dx,a',b,_⟩
 ·obtain ⟨⟨oe,vs,ge,gc,gd,gf⟩,_,_⟩:ObjOk X.prog X.w H s.heap a (excT a C none):=I.hok a _ b
  exact ⟨oe,none,ge,gc,exc_notCls gf,by rw [gd];trivial⟩
 ·obtain ⟨⟨oe,vs,ge,gc,gd,gf⟩,_,_⟩:ObjOk X.prog X.w H s.heap a (excT a C (some dx)):=I.hok a _ a'
  obtain ⟨⟨mA,nn,_⟩,_,_⟩:ObjOk X.prog X.w H s.heap dx (dctO dx fs):=I.hok dx _ b
  obtain ⟨od,ho,_⟩:=lookIn_ns nn
  exact ⟨oe,some od,ge,gc,exc_notCls gf,by rw [gd];exact ho⟩
theorem Caught.type {pins:List (Addr×Obj)} {σ:St} {H:Hp} {s:Shared} {a C:Addr} {dx:Option Addr} (c:Caught X pins σ H s a C dx):W.Looks (model X.prog X.w) s.heap (typeOf (.ref a)) (.ref C):=by
 obtain ⟨⟨oe,vs,ge,gc,gd,gf⟩,_,_⟩:ObjOk X.prog X.w H s.heap a (excT a C dx):=c.I.hok a _ c.ha
 exact gc▸(W.Looks.ld ge).andThen .now
theorem ph_as (hm:X.mg x=some (.ref d)) (hs:∀a,PSs (X.hand a) (b₀::suite) (th a)) (hrest:PH X rest tr) (hN:X.N.Nodup) (hi:X.N[i]?=some n) (hl:X.env.scope.names.lookup n=some .local) (hg:Gl X x:=by rfl)
  (hdb:(x == ("__debug__" : Str))=false:=by decide):PH X (.ExceptHandler (some (.Name x p)) (some n) (b₀::suite) pos::rest) (hAs X.K d i th tr):=by
 intro pins s σ H C a dx D c h
 obtain ⟨b,hb,h⟩:=h
 refine wpAny_handleBy_cons (codeAny_handlers_test (ld_glob (X:=X.hand a) c.I.hand hg hm ?_ hdb)) (by intro q;cases q)
 refine (W.exm_one (M:=model X.prog X.w) c.I.kIn c.type hb).here ?_
 cases b with
 | false =>
  rw [if_neg Bool.false_ne_true] at h
  exact hrest pins s σ H C a dx D c h
 | true =>
  rw [if_pos rfl] at h
  show codeAny _ _ _ _ _
  refine codeAny_handlers_suite_as (c.lit fun s1 I1=>store_ok I1 hN hi (.inl hl) (v:=V.ref a) rfl (fun s2 I2=>?_) (.inr hl))
  refine wpAny_mono (hs a pins s2 (σ.set i (some (.ref a))) H (D.forget i) I2.hand h) (fun f s3 q=>?_) fun _ _ z=>z.elim
  show wpAny (model X.prog X.w) X.A (do bindName X.env n .none;unbindBehindTheSuite X.env n pos) _ _ s3
  cases f with
  | next =>
   obtain ⟨σ',H',I',q⟩:=q
   exact name_goes (I'.unhand c.I.ok) hN hi hl fun s4 I4=>⟨_,H',I4,q⟩
  | brk =>
   obtain ⟨σ',H',I',q⟩:=q
   exact name_goes (I'.unhand c.I.ok) hN hi hl fun s4 I4=>⟨_,H',I4,q⟩
  | cont =>
   obtain ⟨σ',H',I',q⟩:=q
   exact name_goes (I'.unhand c.I.ok) hN hi hl fun s4 I4=>⟨_,H',I4,q⟩
  | ret u =>
   obtain ⟨v,σ',H',I',r,q⟩:=q
   exact name_goes (I'.unhand c.I.ok) hN hi hl fun s4 I4=>⟨v,_,H',I4,r,q⟩
theorem ph_pl (hm:X.mg x=some (.ref d)) (hs:∀a,PSs (X.hand a) (b₀::suite) (th a)) (hrest:PH X rest tr) (hg:Gl X x:=by rfl)
  (hdb:(x == ("__debug__" : Str))=false:=by decide):PH X (.ExceptHandler (some (.Name x p)) none (b₀::suite) pos::rest) (hPl X.K d th tr):=by
 intro pins s σ H C a dx D c h
 obtain ⟨b,hb,h⟩:=h
 refine wpAny_handleBy_cons (codeAny_handlers_test (ld_glob (X:=X.hand a) c.I.hand hg hm ?_ hdb)) (by intro q;cases q)
 refine (W.exm_one (M:=model X.prog X.w) c.I.kIn c.type hb).here ?_
 cases b with
 | false =>
  rw [if_neg Bool.false_ne_true] at h
  exact hrest pins s σ H C a dx D c h
 | true =>
  rw [if_pos rfl] at h
  show codeAny _ _ _ _ _
  refine codeAny_handlers_suite (c.lit fun s1 I1=>?_)
  refine wpAny_mono (hs a pins s1 σ H D I1.hand h) (fun f s3 q=>?_) fun _ _ z=>z.elim
  show SP X pins D f s3
  cases f with
  | next =>
   obtain ⟨σ',H',I',q⟩:=q
   exact ⟨_,H',I'.unhand c.I.ok,q⟩
  | brk =>
   obtain ⟨σ',H',I',q⟩:=q
   exact ⟨_,H',I'.unhand c.I.ok,q⟩
  | cont =>
   obtain ⟨σ',H',I',q⟩:=q
   exact ⟨_,H',I'.unhand c.I.ok,q⟩
  | ret u =>
   obtain ⟨v,σ',H',I',r,q⟩:=q
   exact ⟨v,_,H',I'.unhand c.I.ok,r,q⟩
end
def tTry (tb:List (Addr×Obj)→(St→XK)→TS) (th:THd):TS:=fun D σ H=>∀pins,tb pins (fun σ' cv dx H'=>∃C,cv=.ref C∧∀a,H' a=none→th D C a dx σ' (upd H' a (excT a C dx))) D σ H
section
variable {X:Cx} {body:List Stmt} {h₀:ExceptHandler} {hs:List ExceptHandler} {tb:List (Addr×Obj)→(St→XK)→TS} {th:THd} {pos:Pos}
theorem ps_try (hb:∀pins EX,PSs (X.tr pins EX) body (tb pins EX)) (hh:PH X (h₀::hs) th) (hst:X.stack=X.env::X.outer:=by rfl) (hf:X.env.frame=some X.env.locals:=by rfl):PS X (.Try body (h₀::hs) [] [] pos) (tTry tb th):=by
 intro pins s σ H D I h
 refine wpAny_Try_except (wpAny_mono (hb pins _ [] s σ H D (I.pinC.wish _) (h pins)) (fun f s1 q=>?_) fun ev s1 q=>?_)
 ·cases f with
  | next =>
   obtain ⟨σ',H',I',q⟩:=q
   exact wpAny_execs_nil ⟨σ',H',I'.unwish.unpinC,q⟩
  | brk =>
   obtain ⟨σ',H',I',q⟩:=q
   exact ⟨σ',H',I'.unwish.unpinC,q⟩
  | cont =>
   obtain ⟨σ',H',I',q⟩:=q
   exact ⟨σ',H',I'.unwish.unpinC,q⟩
  | ret u =>
   obtain ⟨v,σ',H',I',r,q⟩:=q
   exact ⟨v,σ',H',I'.unwish.unpinC,r,q⟩
 ·obtain ⟨pins',σ',H1,s2,I1,a,C,dx,H',rfl,hos,hbr,un,hok,⟨oe,vs,T,oT,ts,ga,gc,gd,gf,g1,gne,gT,gt,g3,ha,hT,na,nT⟩,C',eC,q⟩:=q
  cases eC
  have I1:Inv X pins σ' H1 s2:=I1.unpinC
  have I2:Inv X pins σ' H' s1:=I1.call' (ch:=[]) hos un hok hbr (fun b z=>absurd z (by simp))
  refine note_next (base:=X.base) (by rw [I.ok.frames,hst]) (by rw [← hst];exact I2.stack) hf ga gf g1 gT gt g3 gne fun h' T' lf=>?_
  have hz:∀z,vs[1]?=some (.ref z)→z=T:=fun z hz=>by rw [g1] at hz;cases hz;rfl
  have hstk:∀b∈frs (X.env::X.outer),H' b=none:=by rw [← hst];exact I2.stkFree
  have hok':HOk X.prog X.w H' h':=left_hok hok lf ha (fun z h=>by rw [hz z h];exact hT) hstk
  have lo:∀b o,s2.heap.get? b=some o→∀c,s2.heap.objs.size≤c→b≠c:=fun b o z c hc=>Nat.ne_of_lt (Nat.lt_of_lt_of_le (Heap.lt_size z) hc)
  have far:∀c,s2.heap.objs.size≤c→(c∈X.ex∨X.s₀.heap.objs.size≤c)∧c≠X.env.locals∧(∀x d,X.env.cells.lookup x=some d→d≠c)∧∀p∈X.pn++pins,p.1≠c:=fun c hc =>
   ⟨.inr (Nat.le_trans I1.sz hc),Ne.symm (Nat.ne_of_lt (Nat.lt_of_lt_of_le I1.lt hc)),fun x d hd=>by
    obtain ⟨v,ob,ho,_⟩:=I1.cell x d hd
    exact lo d ob ho c hc,fun p hp=>lo _ _ (I1.pin p hp).1 c hc⟩
  have u3:Un (frs X.stack) [a,T] H' H' s1.heap h':=by
   rw [hst]
   refine ⟨fun b o q n hb hx=>?_,fun b o q n hb hx=>lf.slot b o hb q,fun b o q n hx=>n,fun b o q hx=>?_,fun _ _ e=>e,fun _ _ _ e=>e,fun b ps e=>⟨#[],by rw [e];simp⟩⟩
   ·exact lf.keep b o (fun z=>hx (by simp [z])) hb q fun z hz' z2=>hx (by rw [z2,hz z hz'];simp)
   ·by_cases m:b∈frs (X.env::X.outer)
    ·obtain ⟨sl,z⟩:=lf.slot b o m q
     exact ⟨_,z⟩
    ·exact ⟨o,lf.keep b o (fun z=>hx (by simp [z])) m q fun z hz' z2=>hx (by rw [z2,hz z hz'];simp)⟩
  have I3:Inv X pins σ' H' { s1 with heap:=h' }:=I2.call (g':=s1.gens) (d':=s1.drawn) (t':=s1.toks) u3 hok' hbr fun b hb=>by
   rcases List.mem_cons.mp hb with rfl | hb
   ·exact far _ na
   ·rw [List.mem_singleton.mp hb];exact far _ nT
  have new:s2.heap.objs.size≤T':=by
   refine Nat.le_trans ?_ lf.new
   exact Nat.le_trans na (Nat.le_of_lt (Heap.lt_size ga))
  have hT':H' T'=none:=I2.hok.fresh lf.new
  have nTa:T'≠a:=fun z=>absurd (Heap.lt_size ga) (by rw [← z];exact Nat.not_lt.mpr lf.new)
  have I4:Inv X pins σ' (upd H' a (excT a C dx)) { s1 with heap:=h' }:=I3.track I1 na ha (excT_ok lf.obj gc gd rfl)
  obtain ⟨oT',ts',gT',gt',g3'⟩:=lf.ent
  obtain ⟨f1,f2,f3,f4⟩:=far T' new
  refine hh pins _ σ' _ C a dx D ⟨I4,upd_same,T',_,_,oT',ts',lf.obj,rfl,?_,gT',gt',(Array.getElem?_eq_some_iff.mp g3').1,by rw [upd_ne nTa];exact hT',f2,f1,f3,f4⟩ (q a ha)
  have:1 < vs.size:=(Array.getElem?_eq_some_iff.mp g1).1
  simp [this]
end
def tExFT (C:Addr) (ta:TE) (f:Str):TE:=fun σ H Q=>ta σ H fun x H1=>∃a fs v,x=.ref a∧ExcT H1 a C fs∧fs.lookup f=some v∧Q v H1
def rIsXT (K:W.Frag):List V→Hp→VK→Prop:=fun xs H Q=>∃x c C R fs b,xs=[.ref x,c]∧ExcT H x C fs∧ExcI K C R∧clsIs K (.ref C) c=some b∧Q (.bl b) H
section
variable {X:Cx}
theorem pe_exfT {C:Addr} {o:Expr} {f:Str} {ta:TE} {pos:Pos} (G:ExcG X.K C) (n:NoAttr X.K C f) (he:PE X o ta) (hb:attributeBase o f X.env (eval o X.env)=eval o X.env:=by rfl):PE X (.Attribute o f pos) (tExFT C ta f):=by
 intro pins s σ H Q I h
 refine attr_of hb (thn (he pins s σ H _ I h) fun u s1 ⟨x,H1,I1,rx,a,fs,v,ex,ea,l,q⟩=>?_)
 subst ex
 obtain rfl:u=Value.ref a:=rx
 rcases ea with ⟨rfl,_⟩ | ⟨dx,ea,ed,_⟩
 ·cases l
 ·obtain ⟨⟨oe,vs,ge,gc,gd,gf⟩,_,_⟩:ObjOk X.prog X.w H1 s1.heap a (excT a C (some dx)):=I1.hok a _ ea
  obtain ⟨⟨mA,nn,r,wi,hl⟩,_,_⟩:ObjOk X.prog X.w H1 s1.heap dx (dctO dx fs):=I1.hok dx _ ed
  obtain ⟨u',hu,ru⟩:=RelO.some_of (v:=v) (o:=mA f) (by rw [← l];exact r f)
  exact exc_get I1.kIn ge gc gd gf nn G.ga G.gb G.mb G.hd n hu (handed_of ru) ⟨v,H1,I1.tok _,ru,q⟩
theorem call_isXT:CallR X (.builtin "isinstance") (rIsXT X.K):=by
 intro pins s σ H xs us Q I r h
 obtain ⟨x,c,C,R,fs,b,rfl,ex,G,e,q⟩:=h
 obtain ⟨u,v,rfl,ru,rv⟩:=vals2 r
 obtain rfl:u=Value.ref x:=ru
 cases c with
 | ty T =>
  obtain rfl:v=Value.type T:=rv
  exact W.kia_one (kitx_exc G) I.kIn (exc_instT I ex) e (fun z=>nomatch z) fun tk=>⟨.bl b,H,I.tok _,rfl,q⟩
 | ref D =>
  obtain rfl:v=Value.ref D:=rv
  exact W.kia_one (kitx_exc G) I.kIn (exc_instT I ex) e (fun z=>nomatch z) fun tk=>⟨.bl b,H,I.tok _,rfl,q⟩
 | _=>cases e
end
theorem exm_same {K:W.Frag} {C R:Addr} (G:ExcI K C R):W.exmOne K (.ref C) (.ref C)=some true:=by
 have hb:W.subIn K (.ref C) (.type "BaseException")=some true:=G.g.mb
 unfold W.exmOne
 rw [hb,if_pos (by rfl)]
 obtain ⟨cd,hc,_⟩:=Option.map_eq_some_iff.mp G.mro
 unfold W.kitCls
 simp only
 rw [if_pos (by rw [hc,G.ty];rfl)]
 show W.mroIn K C (.ref C)=_
 rw [G.in]
 simp [List.contains_cons]
theorem exm_up {K:W.Frag} {C R:Addr} (G:ExcI K C R) (hR:(W.clsIn K R).isSome=true) (tR:W.typeIn K (.ref R)=some (.type "type")) (mR:W.mroIn K R (.type "BaseException")=some true):W.exmOne K (.ref C) (.ref R)=some true:=by
 have hb:W.subIn K (.ref R) (.type "BaseException")=some true:=mR
 unfold W.exmOne
 rw [hb,if_pos (by rfl)]
 unfold W.kitCls
 simp only
 rw [if_pos (by rw [hR,tR];rfl)]
 show W.mroIn K C (.ref R)=_
 rw [G.in]
 simp [List.contains_cons]
section
variable {σ:St} {H:Hp} {D:Ends} {tb:List (Addr×Obj)→(St→XK)→TS} {th:THd} {tr:TA} {Q:VK} {EX:St→XK} {sp:Sp}
theorem go_caught {K:W.Frag} {d C a:Addr} {dx:Option Addr} {i:Nat} {tha:Addr→TS} {rest:THd} (e:W.exmOne K (.ref C) (.ref d)=some true) (h:tha a (D.forget i) (σ.set i (some (.ref a))) H):hAs K d i tha rest D C a dx σ H:=⟨true,e,by rw [if_pos rfl];exact h⟩
end
def rIsT (K:W.Frag):List V→Hp→VK→Prop:=fun xs H Q=>∃x d t b,xs=[x,d]∧TyOf K H x t∧clsIs K t d=some b∧Q (.bl b) H
theorem call_isT {X:Cx}:CallR X (.builtin "isinstance") (rIsT X.K):=call_isinstance
theorem vals_by:∀{xs:List V} {us:List Value},xs.length=us.length→(∀(j:Nat) (x:V) (u:Value),xs[j]?=some x→us[j]?=some u→RelV x u)→Vals xs us
 | [],[],_,_=>.nil
 | [],_::_,h,_=>nomatch h
 | _::_,[],h,_=>nomatch h
 | x::xs,u::us,h,f=>.cons (f 0 x u rfl rfl) (vals_by (Nat.succ.inj h) fun j y z e1 e2=>f (j + 1) y z (by simpa using e1) (by simpa using e2))
section
variable {X:Cx} {pins:List (Addr×Obj)} {σ:St} {H:Hp} {s:Shared} {h':Heap} {t':Nat} {ch:List Addr}
theorem Inv.turnedN (I:Inv X pins σ H s) (hf:∀b∈ch,FpOk X pins H b) (k:∀b o,b ∉ ch→s.heap.get? b=some o→h'.get? b=some o):Inv X pins σ H { s with heap:=h',toks:=t' }:=by
 have off:∀b u,H b=some u→b ∉ ch:=fun b u e z=>by
  rw [(hf b z).1] at e
  cases e
 refine I.step (g':=s.gens) (d':=s.drawn) (ch:=ch) (fun b hb=>?_) (fun b o _ _ hc e _=>k b o hc e) (fun b o _ _ hc e _=>⟨o.slots,k b o hc e⟩) (fun _ _ _ _ n=>n)
  (fun b o hc e=>⟨o,k b o hc e⟩) (fun _ _ e=>e) (fun _ _ _ e=>e) (fun b ps e=>⟨#[],by rw [e];simp⟩) (fun m hm=>?_) (fun b u e=>?_) I.bare
 ·obtain ⟨_,f1,_,f3,f4,f5⟩:=hf b hb
  exact ⟨f3,f1,f4,f5⟩
 ·obtain ⟨o,es,ep,ho,r⟩:=hm
  exact ⟨o,es,ep,k _ o (fun z=>(hf _ z).2.1 rfl) ho,r⟩
 ·refine (I.hok b u e).stay (fun c v hc q=>k c v ?_ q) (fun _ q=>q) fun _ _ q=>q
  rcases hc with z | z
  ·rw [z];exact off b u e
  ·exact off c _ z
theorem Inv.turnedLaid {a:Addr} {o:HO} (I:Inv X pins σ H s) (hf:∀b∈ch,FpOk X pins H b) (k:∀b o,b ∉ ch→s.heap.get? b=some o→h'.get? b=some o) (ha:s.heap.objs.size≤a)
  (new:ObjOk X.prog X.w (upd H a o) h' a o):Inv X pins σ (upd H a o) { s with heap:=h',toks:=t' }:=by
 have I1:Inv X pins σ H { s with heap:=h',toks:=t' }:=I.turnedN hf k
 have hn:H a=none:=I.hok.fresh ha
 refine I.step (g':=s.gens) (d':=s.drawn) (ch:=ch) (fun b hb=>?_) (fun b u _ _ hc e _=>k b u hc e) (fun b u _ _ hc e _=>⟨u.slots,k b u hc e⟩)
  (fun b u _ e n=>by rw [upd_ne (Nat.ne_of_lt (Nat.lt_of_lt_of_le (Heap.lt_size e) ha))];exact n)
  (fun b u hc e=>⟨u,k b u hc e⟩) (fun b xs e=>by rw [upd_ne (ne_of_none e hn)];exact e) (fun b u x e=>by rw [upd_ne (ne_of_none e hn)];exact e)
  (fun b ps e=>⟨#[],by rw [upd_ne (ne_of_none e hn),e];simp⟩) (fun m hm=>?_) (fun b u e=>?_) I.bare
 ·obtain ⟨_,f1,_,f3,f4,f5⟩:=hf b hb
  exact ⟨f3,f1,f4,f5⟩
 ·obtain ⟨u,es,ep,ho,r⟩:=hm
  exact ⟨u,es,ep,k _ u (fun z=>(hf _ z).2.1 rfl) ho,r⟩
 ·by_cases hb:b=a
  ·subst hb
   rw [upd_same] at e
   cases e
   exact new
  ·rw [upd_ne hb] at e
   exact (I1.hok b u e).stay (fun _ _ _ q=>q) (fun c q=>by rw [upd_ne (ne_of_none q hn)];exact q) fun c xs q=>by rw [upd_ne (ne_of_none q hn)];exact q
end
def Ite (K:W.Frag) (a:Addr) (xs:List V):It :=
 ⟨fun i H=>SqL K H a xs∧i < xs.length,fun i H x H'=>∃T v,x=.ref T∧xs[i]?=some v∧New H H' T (.tup [.int i,v]),fun i H=>SqL K H a xs∧xs.length≤i⟩
theorem turn_enum {P:Program} {w:World} {K:W.Frag} {elts:List Expr} {x1} {pos:Pos} (a e it:Addr) (xs:List V) (hei:e≠it) :
  Turn P w K (.Tuple elts x1 pos) (Ite K a xs) [e,it] e (fun i h=>(∃old,IsEnum h e it i old)∧h.IsListIter it a i) where
 mem:=by simp
 obj:=fun i h st b hb=>by
  obtain ⟨⟨old,he⟩,o,hi,hc,hd⟩:=st
  rcases List.mem_cons.mp hb with rfl | hb
  ·exact ⟨_,he,fun v z=>by
    have z':Data.fields _=Data.cell v:=z
    cases z'⟩
  ·rw [List.mem_singleton.mp hb]
   exact ⟨o,hi,fun v z=>by rw [hd] at z;cases z⟩
 keep:=fun i h h' st k=>by
  obtain ⟨⟨old,he⟩,hi⟩:=st
  exact ⟨⟨old,k e (by simp) _ he⟩,hi.at fun o q=>k it (by simp) o q⟩
 item:=by
  intro X hP hw hK hc i pins s σ H E I hf st hg
  subst hP hw hK
  obtain ⟨⟨old,he⟩,hi⟩:=st
  obtain ⟨hq,hlt⟩:=hg
  obtain ⟨its,rv,p,hz⟩:=I.list hq
  have hx:xs[i]?=some xs[i]:=by simp [hlt]
  generalize xs[i]=x at hx
  obtain ⟨u,hu,ru⟩:=rv.get hx
  refine wpAny_pyNext_enum_item he hi p.isList (x:=u) (by simpa using hu) hei fun h1 ho hi1 hT hsz hk=>?_
  refine ⟨_,rfl,wpAny_letOwnedTupleGo_enum ho fun h2 he2 hs2=>?_⟩
  have neT:s.heap.objs.size≠e:=Nat.ne_of_gt (Heap.lt_size he)
  have hT2:=(hs2.2 _ neT).trans hT
  have k2:∀b o,b ∉ [e,it]→s.heap.get? b=some o→h2.get? b=some o:=fun b o hb q=>by
   simp only [List.mem_cons,List.not_mem_nil,or_false,not_or] at hb
   exact (hs2.2 b hb.1).trans (hk b o hb.1 hb.2 q)
  have new:ObjOk X.prog X.w (upd H s.heap.objs.size (.tup [.int i,x])) h2 s.heap.objs.size (.tup [.int i,x]) :=
   ⟨by show 2≤sizeLine;decide,[.int i s.toks,u],.cons ⟨_,rfl⟩ (.cons ru .nil),⟨_,hT2,rfl,_,rfl⟩⟩
  refine ⟨.ref s.heap.objs.size,_,I.turnedLaid (t':=s.toks + 1) hf k2 (Nat.le_refl _) new,rfl,⟨_,x,rfl,hx,.mk' (I.hok.fresh (Nat.le_refl _))⟩,⟨⟨u,by simpa using he2⟩,hi1.at fun o q=>(hs2.2 it hei.symm).trans q⟩,fun b hb=>?_⟩
  have hbn:=(hf b hb).1
  have hb':b < s.heap.objs.size:=by
   rcases List.mem_cons.mp hb with rfl | hb
   ·exact Heap.lt_size he
   ·rw [List.mem_singleton.mp hb]
    obtain ⟨o,q,_⟩:=hi
    exact Heap.lt_size q
  rw [upd_ne (Nat.ne_of_lt hb')]
  exact hbn
 done:=by
  intro X hP hw hK hc i pins s σ H E I hf st hg
  subst hP hw hK
  obtain ⟨⟨old,he⟩,hi⟩:=st
  obtain ⟨hq,hle⟩:=hg
  obtain ⟨its,rv,p,hz⟩:=I.list hq
  have hl:=rv.length
  refine wpAny_pyNext_enum_end (I.ok.hd hc) he hi p.isList (by simp;lia) fun h' eb=>⟨rfl,I.turnedN (t':=s.toks) (ch:=[e,it]) hf fun b o hb q=>eb b o (fun z=>hb (by simp [z])) q⟩
 self:=fun _ _ _ _ _ st h=>by
  obtain ⟨⟨old,he⟩,_⟩:=st
  exact wpAny_pyIter_enum he h
theorem boot_enum:bootBuiltins "enumerate" = some (.type "enumerate"):=by decide +kernel
def iEnum (K:W.Frag) (ta:TA):TI:=fun σ H R=>ta σ H fun vs H1=>∃a xs,vs=[.ref a]∧SqL K H1 a xs∧R (Ite K a xs) H1
theorem pi_enum {X:Cx} {elts:List Expr} {x1} {tpos:Pos} {a:Expr} {ta:TA} {p pos:Pos} (hg:Gl X "enumerate") (hm:X.mg "enumerate" = none) (ha:PA X [a] ta) (hs:starEach [a] X.env=[(false,eval a X.env)]:=by rfl) :
  PI X (.Tuple elts x1 tpos) (.Call (.Name "enumerate" p) [a] [] pos) (iEnum X.K ta):=by
 intro pins s σ H R I h
 refine Call_ (ld_blt I hg hm boot_enum (PyProof.Rows.callWith_type1 (thn (ha pos pins s σ H _ I h) fun us s1 ⟨vs,H1,I1,r1,q1⟩=>?_) hs rfl))
 obtain ⟨l,xs,e,hq,q⟩:=q1
 subst e
 obtain ⟨u,rfl,r⟩:=vals1 r1
 cases r
 obtain ⟨its,rv,pl,hz⟩:=I1.list hq
 refine call_enumerate_list pl.isList fun h' he hi hsz hk=>?_
 have I2:Inv X pins σ H1 { s1 with heap:=h' }:=I1.kept (t':=s1.toks) hk
 refine wpAny_pyIter_enum he ?_
 refine ⟨s1.heap.objs.size + 1,[s1.heap.objs.size + 1,s1.heap.objs.size],_,Ite X.K l xs,H1,rfl,I2,turn_enum l _ _ xs (Nat.succ_ne_self _),⟨⟨.none,he⟩,hi⟩,fun b hb=>?_,q⟩
 have hb':s1.heap.objs.size≤b:=by
  rcases List.mem_cons.mp hb with rfl | hb
  ·exact Nat.le_succ _
  ·rw [List.mem_singleton.mp hb]
   exact Nat.le_refl _
 exact I1.fpOk hb' (I1.hok.fresh hb')
theorem for_enum {K:PySem.W.Frag} {a:Addr} {xs:List V} {g:TG} {tb:TS} {D:Ends} {σ:St} {H:Hp} (Pv:Nat→St→Hp→Prop) (h0:Pv 0 σ H) (hl:∀i σ H,i≤xs.length→Pv i σ H→SqL K H a xs)
  (hs:∀i x T σ H H',xs[i]?=some x→Pv i σ H→New H H' T (.tup [.int i,x])→g (.ref T) σ H' fun σ2 H2=>tb { D with nx:=Pv (i + 1),ct:=Pv (i + 1),bk:=D.nx } σ2 H2) (hd:∀σ H,Pv xs.length σ H→D.nx σ H) :
  ∃W:Nat→Nat→St→Hp→Prop,(∃m,W 0 m σ H)∧∀i m σ H,W i m σ H →
   ((Ite K a xs).stop i H∧D.nx σ H)∨((Ite K a xs).go i H∧∃N:St→Hp→Prop,(∀σ' H',N σ' H'→∃m',m' < m∧W (i + 1) m' σ' H')∧∀x H',(Ite K a xs).yld i H x H'→g x σ H' fun σ2 H2=>tb { D with nx:=N,ct:=N,bk:=D.nx } σ2 H2):=by
 refine ⟨fun i m σ H=>m=xs.length - i∧i≤xs.length∧Pv i σ H,⟨xs.length,by simp,Nat.zero_le _,h0⟩,?_⟩
 rintro i m σ H ⟨rfl,hi,p⟩
 have q:=hl i σ H hi p
 by_cases hlt:i < xs.length
 ·refine .inr ⟨⟨q,hlt⟩,Pv (i + 1),fun σ' H' p'=>⟨xs.length - (i + 1),by lia,rfl,hlt,p'⟩,fun x H' y=>?_⟩
  obtain ⟨T,v,rfl,hv,n⟩:=y
  exact hs i v T σ H H' hv p n
 ·have e:i=xs.length:=by lia
  subst e
  exact .inl ⟨⟨q,Nat.le_refl _⟩,hd σ H p⟩
theorem boot_reversed:bootBuiltins "reversed" = some (.type "reversed"):=by decide +kernel
theorem lri_no_len:typeLookup (.type "list_reverseiterator") (Str.ofString "__len__")=pure none:=by rw [typeLookup_type,builtinLookup_eq_fast];kernel_rfl
theorem lri_hint:typeLookup (.type "list_reverseiterator") (Str.ofString "__length_hint__")=pure (some (.builtin "list_reverseiterator.__length_hint__")):=by rw [typeLookup_type,builtinLookup_eq_fast];kernel_rfl
theorem hint_rev {prog:Program} {w:World} {A:Around} {E:Value→Shared→Prop} {s:Shared} {r:Addr} {Q:Bool→Shared→Prop} (hT:s.TypeIs (.ref r) "list_reverseiterator") (h:Q false s) :
  wpAny (model prog w) A (Builtin.List.listLengthHint (.ref r)) Q E s:=by
 unfold Builtin.List.listLengthHint
 refine wpAny_bind (wpAny_specialOf hT lri_no_len ?_)
 show wpAny _ _ (specialOf (Value.ref r) (Str.ofString "__length_hint__") >>= _) _ _ _
 refine wpAny_bind (wpAny_specialOf hT lri_hint ?_)
 generalize hid:("list_reverseiterator.__length_hint__" : String)=id0
 wp_delta
 rw [show splitId id0=some ("list_reverseiterator", "__length_hint__") from by subst hid;decide +kernel]
 subst hid
 refine wpAny_bind (wpAny_isInstance (T := "list_reverseiterator") (b:=true) hT (by rw [isSubtype_type];kernel_rfl) ?_)
 refine wpAny_ite_split (fun hab=>absurd hab (by decide)) (fun _=>?_)
 refine wpAny_ite_split (fun _=>?_) (fun hab=>absurd (by decide +kernel) hab)
 refine wpAny_ite_split (fun hab=>absurd hab (by decide +kernel)) (fun _=>?_)
 exact wpAny_pure h
section
variable {prog:Program} {w:World} {A:Around} {E:Value→Shared→Prop} {s:Shared} {I l S:Addr} {items:Array Value}
theorem extend_rev {R:Result→Shared→Prop} {c₀:Nat} {res:Value} (hh:A.handled=none) (hI:s.heap.IsRevIter I l ((items.size:Int) - 1)) (hl:s.heap.IsList l items) (hne:l≠I) (hSI:S≠I) (hSl:S≠l)
  (hS:s.heap.get? S=some { cls:=.type "list", data:=.seq #[] c₀ }) (hn:items.size≤sizeLine)
  (hR:∀h' tk acc' c',(∀b o,b≠S→b≠I→s.heap.get? b=some o→h'.get? b=some o)→h'.get? S=some { cls:=.type "list", dict:=none,data:=.seq acc' c',slots:=#[] }→PySem.ItemsOf (fun i v=>items[items.size - 1 - i]?=some v) acc' items.size →
   R (.ok (.ret res)) { s with heap:=h',toks:=tk }) :
  wpAny (model prog w) A.in1 (Builtin.List.listExtendWith (.ref S) (.ref I) res)
   (fun fin s'=>match fin with | .done f=>R (.ok f) s' | .again c'=>c'.quiet=true∧codeAny (model prog w) A c' R s') (fun e s'=>R (.error e) s') s:=by
 have W:=Walks.listRev (prog:=prog) (w:=w) (A:=A.in1) hh I l hne items
 have hSf:S ∉ [I,l]:=by simp [hSI,hSl]
 have st:(0:Nat)≤items.size∧s.heap.IsRevIter I l ((items.size:Int) - 1 - ((0:Nat):Int))∧s.heap.IsList l items:=⟨Nat.zero_le _,by simpa using hI,hl⟩
 have fin:codeAny (model prog w) A (.builtin "list.extend.loop" ⟨[.ref S,.ref I,res],[]⟩) R s:=by
  refine codeAny_extend_loopS W.toS hn S hSf res items.size 0 _ #[] c₀ rfl (Nat.zero_le _) st hS (PySem.ItemsOf.nil _) fun s' acc' c' hm hS' hacc=>?_
  rw [Moved.eq_with hm]
  exact hR s'.heap s'.toks acc' c' (fun b o h1 h2 q=>hm.heap b o (by simp [h1,h2]) q) hS' hacc
 unfold Builtin.List.listExtendWith
 refine wpAny_bind (wpAny_typeOf (T := "list_reverseiterator") hI.typeIs ?_)
 have h1:Builtin.List.listSameRef (.ref S) (.ref I)=false:=by simp [Builtin.List.listSameRef,hSI]
 have h2:(Value.type "list_reverseiterator" == Value.type "list")=false:=by decide
 have h3:(Value.type "list_reverseiterator" == Value.type "tuple")=false:=by decide
 simp only [h1,h2,h3,Bool.or_false,Bool.false_eq_true,if_false]
 refine wpAny_bind (wpAny_pyIter_revIter hI ?_)
 refine wpAny_bind (wpAny_holding (hint_rev hI.typeIs ?_))
 refine wpAny_ite_split (fun hab=>absurd hab (by first | decide | decide +kernel)) (fun _=>?_)
 exact wpAny_pure ⟨plainId_quiet PySem.F.plain_extend_loop _,fin⟩
theorem init_rev {R:Result→Shared→Prop} (hh:A.handled=none) (hI:s.heap.IsRevIter I l ((items.size:Int) - 1)) (hl:s.heap.IsList l items) (hne:l≠I) (hSI:S≠I) (hSl:S≠l)
  (hS:s.heap.get? S=some { cls:=.type "list", data:=.seq #[] }) (hn:items.size≤sizeLine)
  (hR:∀h' tk acc' c',(∀b o,b≠S→b≠I→s.heap.get? b=some o→h'.get? b=some o)→h'.get? S=some { cls:=.type "list", dict:=none,data:=.seq acc' c',slots:=#[] }→PySem.ItemsOf (fun i v=>items[items.size - 1 - i]?=some v) acc' items.size →
   R (.ok (.ret .none)) { s with heap:=h',toks:=tk }) :
  wpAny (model prog w) A.in1 (Builtin.«list.__init__» ⟨[.ref S,.ref I],[]⟩)
   (fun fin s'=>match fin with | .done f=>R (.ok f) s' | .again c'=>c'.quiet=true∧codeAny (model prog w) A c' R s') (fun e s'=>R (.error e) s') s:=by
 show wpAny _ _ (Builtin.List.listItems (.ref S) >>= fun old=>Builtin.List.listUpdate (.ref S) (fun _=>#[]) >>= fun _=>letGo old.toList.reverse >>= fun _=>Builtin.List.listExtendWith (.ref S) (.ref I) .none) _ _ s
 refine wpAny_bind ?_
 unfold Builtin.List.listItems
 refine wpAny_bind (wpAny_seqItems hS rfl (wpAny_pure (wpAny_bind ?_)))
 show wpAny _ _ (updateSeq S (fun _=>#[])) _ _ _
 refine wpAny_updateSeq hS rfl (wpAny_bind (wpAny_letGo ?_))
 have hS2:=Heap.get?_update_self (Obj.mapSeq (fun _=>(#[]:Array Value))) hS rfl
 have oth:∀b o,b≠S→s.heap.get? b=some o→(s.heap.update S (Obj.mapSeq (fun _=>(#[]:Array Value)))).get? b=some o:=fun b o hb q=>by
  rw [Heap.get?_update_other _ _ (Ne.symm hb)]
  exact q
 exact extend_rev (c₀:=_) hh (hI.at fun o q=>oth I o (Ne.symm hSI) q) (hl.at fun o q=>oth l o (Ne.symm hSl) q) hne hSI hSl hS2 hn fun h' tk acc' c' hk hS' hacc=>hR h' tk acc' c' (fun b o h1 h2 q=>hk b o h1 h2 (oth b o h1 q)) hS' hacc
theorem list_rev {Q:Value→Shared→Prop} (hh:A.handled=none) (hI:s.heap.IsRevIter I l ((items.size:Int) - 1)) (hl:s.heap.IsList l items) (hne:l≠I) (hn:items.size≤sizeLine)
  (hQ:∀h' tk acc' c',(∀b o,b≠I→s.heap.get? b=some o→h'.get? b=some o)→h'.get? s.heap.objs.size=some { cls:=.type "list", dict:=none,data:=.seq acc' c',slots:=#[] } →
   PySem.ItemsOf (fun i v=>items[items.size - 1 - i]?=some v) acc' items.size→Q (.ref s.heap.objs.size) { s with heap:=h',toks:=tk }) :
  wpAny (model prog w) A (call (.type "list") [.ref I]) Q E s:=by
 have hS:(s.heap.push { cls:=.type "list", data:=.seq #[] }).get? s.heap.objs.size=some { cls:=.type "list", data:=.seq #[] }:=Heap.get?_push_size _ rfl
 have up:∀b o,s.heap.get? b=some o→(s.heap.push { cls:=.type "list", data:=.seq #[] }).get? b=some o:=fun b o q=>Heap.get?_push_of_some _ q
 have hIlt:I < s.heap.objs.size:=by
  obtain ⟨o,q,_⟩:=hI
  exact Heap.lt_size q
 have hllt:l < s.heap.objs.size:=by
  obtain ⟨o,q,_⟩:=hl
  exact Heap.lt_size q
 refine callType_codes PySem.F.called_list (PySem.F.typeCall_list_1 _) PySem.F.entry_list_init
  (Q₁:=fun v z=>v=.ref s.heap.objs.size∧z={ s with heap:=s.heap.push { cls:=.type "list", data:=.seq #[] } }) (code_list_new _ ⟨rfl,rfl⟩) ?_
 rintro _ _ ⟨rfl,rfl⟩
 refine ⟨⟨_,hS,rfl⟩,PySem.F.args_list_init_2 _ _,?_⟩
 refine init_rev (A:=A.in1) (s:={ s with heap:=s.heap.push { cls:=.type "list", data:=.seq #[] } }) hh (hI.at fun o q=>up I o q) (hl.at fun o q=>up l o q) hne (Nat.ne_of_gt hIlt) (Nat.ne_of_gt hllt) hS hn fun h' tk acc' c' hk hS' hacc=>?_
 exact ⟨rfl,hQ h' tk acc' c' (fun b o hb q=>hk b o (Nat.ne_of_lt (Heap.lt_size q)) hb (up b o q)) hS' hacc⟩
end
def tLRev (K:W.Frag) (ta:TA):TE:=fun σ H Q=>ta σ H fun vs H1=>∃a xs,vs=[.ref a]∧SqL K H1 a xs∧∀l H',New H1 H' l (.lst xs.reverse)→Q (.ref l) H'
theorem pe_listRev {X:Cx} {e:Expr} {ta:TA} {p1 p2 pos1 pos2:Pos} (hc:X.calm=true) (gl:Gl X "list") (ml:X.mg "list" = none) (gr:Gl X "reversed") (mr:X.mg "reversed" = none) (ha:PA X [e] ta)
  (h1:starEach [.Call (.Name "reversed" p2) [e] [] pos2] X.env=[(false,eval (.Call (.Name "reversed" p2) [e] [] pos2) X.env)]:=by rfl) (h2:starEach [e] X.env=[(false,eval e X.env)]:=by rfl) :
  PE X (.Call (.Name "list" p1) [.Call (.Name "reversed" p2) [e] [] pos2] [] pos1) (tLRev X.K ta):=by
 intro pins s σ H Q I h
 refine wpAny_Call_Name_kw (ld_blt I gl ml boot_list (PyProof.Rows.callWith_type1 ?_ h1 rfl))
 rw [h1]
 refine Calls.spliced_cons ?_
 refine Call_ (ld_blt I gr mr boot_reversed (PyProof.Rows.callWith_type1 (thn (ha pos2 pins s σ H _ I h) fun us s1 ⟨vs,H1,I1,r1,q1⟩=>?_) h2 rfl))
 obtain ⟨a,xs,rfl,hq,q⟩:=q1
 obtain ⟨u,rfl,rx⟩:=vals1 r1
 cases rx
 obtain ⟨its,rv,pl,hz⟩:=I1.list hq
 have hlen:=rv.length
 refine call_reversed_list pl.isList (Calls.spliced_nil ?_)
 have hlt:a < s1.heap.objs.size:=by
  obtain ⟨o,q,_⟩:=pl.isList
  exact Heap.lt_size q
 have hrev:(s1.heap.push (revObj a ((its.toArray.size:Int) - 1))).IsRevIter s1.heap.objs.size a ((its.toArray.size:Int) - 1):=⟨_,Heap.get?_push_size _ rfl,rfl,rfl⟩
 refine list_rev (s:={ s1 with heap:=s1.heap.push (revObj a ((its.toArray.size:Int) - 1)) }) (I1.ok.hd hc) hrev (pl.isList.at fun o z=>Heap.get?_push_of_some _ z) (Nat.ne_of_lt hlt) (by rw [List.size_toArray,← hlen];exact hz) fun h' tk acc c hk hD hI=>?_
 have hk':∀b o,s1.heap.get? b=some o→h'.get? b=some o:=fun b o z=>hk b o (Nat.ne_of_lt (Heap.lt_size z)) (Heap.get?_push_of_some _ z)
 have hsz:(s1.heap.push (revObj a ((its.toArray.size:Int) - 1))).objs.size=s1.heap.objs.size + 1:=Heap.size_push ..
 have hge:s1.heap.objs.size≤(s1.heap.push (revObj a ((its.toArray.size:Int) - 1))).objs.size:=by rw [hsz];exact Nat.le_succ _
 refine ⟨.ref (s1.heap.push (revObj a ((its.toArray.size:Int) - 1))).objs.size,_,I1.laid (t':=tk) (o:=.lst xs.reverse) hk' hge ?_,rfl,q _ _ (.mk' (I1.hok.fresh hge))⟩
 refine ⟨by rw [List.length_reverse];exact hz,acc.toList,c,vals_by (by
  have e:=hI.1
  have e2:acc.toList.length=acc.size:=Array.length_toList
  have e3:its.toArray.size=its.length:=List.size_toArray ..
  have e4:xs.reverse.length=xs.length:=List.length_reverse
  lia) fun j x u e1 e2=>?_,by simpa using hD⟩
 have e3:=hI.2 j u (by rw [← Array.getElem?_toList];exact e2)
 have hj:j < xs.length:=by
  have:=(List.getElem?_eq_some_iff.mp e1).1
  rwa [List.length_reverse] at this
 rw [List.getElem?_reverse hj] at e1
 obtain ⟨u',e4,r4⟩:=rv.get e1
 have e5:its[xs.length - 1 - j]?=some u:=by
  rw [List.size_toArray,← hlen] at e3
  simpa using e3
 rw [e5] at e4
 cases e4
 exact r4
section
variable {X:Cx}
def rSetA:V→V→V→Hp→(Hp→Prop)→Prop:=fun o i v H Q=>∃p xs k j,o=.ref p∧i=.int k∧H p=some (.lst xs)∧ixN xs.length k=some j∧∀H',Off p H H'→H' p=some (.lst (xs.set j v))→Q H'
theorem set_listA:PSet X rSetA:=by
 intro pins s σ H o i v ov iv u Q I ro ri rv h
 obtain ⟨p,xs,k,j,e1,e2,hp,hj,q⟩:=h
 exact set_list pins s σ H o i v ov iv u Q I ro ri rv ⟨p,xs,k,j,e1,e2,hp,hj,q _ Off.upd upd_same⟩
def rSlA (K:W.Frag):V→Option Int→Option Int→Hp→VK→Prop:=fun x lo hi H Q=>∃a xs,x=.ref a∧SqL K H a xs∧∀p H',New H H' p (.lst (cutV xs lo hi))→Q (.ref p) H'
theorem sl_listA:SlR X (rSlA X.K):=by
 intro pins s σ H x v vl vu lo hi sl Q I rx hs pl pu h
 obtain ⟨a,xs,e,hx,q⟩:=h
 exact sl_list pins s σ H x v vl vu lo hi sl Q I rx hs pl pu ⟨a,xs,e,hx,fun p hp=>q p _ (.mk' hp)⟩
def rLOfA (K:W.Frag):List V→Hp→VK→Prop:=fun xs H Q=>∃p ys,xs=[.ref p]∧(SqL K H p ys∨SqT K H p ys)∧∀l H',New H H' l (.lst ys)→Q (.ref l) H'
theorem call_list_ofA:CallR X (.type "list") (rLOfA X.K):=by
 intro pins s σ H xs us Q I r h
 obtain ⟨p,ys,e,hq,q⟩:=h
 exact call_list_of pins s σ H xs us Q I r ⟨p,ys,e,hq,fun l hl=>q l _ (.mk' hl)⟩
end
section
variable {σ:St} {H:Hp} {Q:VK} {v x y:V} {i j:Int} {K:W.Frag} {t ta tb tc:TE} {tr:TA} {s u:TS} {D:Ends} {c d:TT}
theorem wv0 {r:St} (h:Q v H):tVar 0 (some v::r) H Q:=⟨v,rfl,h⟩
theorem wn0 {o:Option V} {r:St} {R:St→Hp→Prop} (h:R (some v::r) H):gName 0 v (o::r) H R:=h
theorem wv1 {o0:Option V} {r:St} (h:Q v H):tVar 1 (o0::some v::r) H Q:=⟨v,rfl,h⟩
theorem wn1 {o0:Option V} {o:Option V} {r:St} {R:St→Hp→Prop} (h:R (o0::some v::r) H):gName 1 v (o0::o::r) H R:=h
theorem wv2 {o0 o1:Option V} {r:St} (h:Q v H):tVar 2 (o0::o1::some v::r) H Q:=⟨v,rfl,h⟩
theorem wn2 {o0 o1:Option V} {o:Option V} {r:St} {R:St→Hp→Prop} (h:R (o0::o1::some v::r) H):gName 2 v (o0::o1::o::r) H R:=h
theorem wv3 {o0 o1 o2:Option V} {r:St} (h:Q v H):tVar 3 (o0::o1::o2::some v::r) H Q:=⟨v,rfl,h⟩
theorem wn3 {o0 o1 o2:Option V} {o:Option V} {r:St} {R:St→Hp→Prop} (h:R (o0::o1::o2::some v::r) H):gName 3 v (o0::o1::o2::o::r) H R:=h
theorem wv4 {o0 o1 o2 o3:Option V} {r:St} (h:Q v H):tVar 4 (o0::o1::o2::o3::some v::r) H Q:=⟨v,rfl,h⟩
theorem wn4 {o0 o1 o2 o3:Option V} {o:Option V} {r:St} {R:St→Hp→Prop} (h:R (o0::o1::o2::o3::some v::r) H):gName 4 v (o0::o1::o2::o3::o::r) H R:=h
theorem wv5 {o0 o1 o2 o3 o4:Option V} {r:St} (h:Q v H):tVar 5 (o0::o1::o2::o3::o4::some v::r) H Q:=⟨v,rfl,h⟩
theorem wn5 {o0 o1 o2 o3 o4:Option V} {o:Option V} {r:St} {R:St→Hp→Prop} (h:R (o0::o1::o2::o3::o4::some v::r) H):gName 5 v (o0::o1::o2::o3::o4::o::r) H R:=h
theorem wv6 {o0 o1 o2 o3 o4 o5:Option V} {r:St} (h:Q v H):tVar 6 (o0::o1::o2::o3::o4::o5::some v::r) H Q:=⟨v,rfl,h⟩
theorem wn6 {o0 o1 o2 o3 o4 o5:Option V} {o:Option V} {r:St} {R:St→Hp→Prop} (h:R (o0::o1::o2::o3::o4::o5::some v::r) H):gName 6 v (o0::o1::o2::o3::o4::o5::o::r) H R:=h
theorem wv7 {o0 o1 o2 o3 o4 o5 o6:Option V} {r:St} (h:Q v H):tVar 7 (o0::o1::o2::o3::o4::o5::o6::some v::r) H Q:=⟨v,rfl,h⟩
theorem wn7 {o0 o1 o2 o3 o4 o5 o6:Option V} {o:Option V} {r:St} {R:St→Hp→Prop} (h:R (o0::o1::o2::o3::o4::o5::o6::some v::r) H):gName 7 v (o0::o1::o2::o3::o4::o5::o6::o::r) H R:=h
theorem wv8 {o0 o1 o2 o3 o4 o5 o6 o7:Option V} {r:St} (h:Q v H):tVar 8 (o0::o1::o2::o3::o4::o5::o6::o7::some v::r) H Q:=⟨v,rfl,h⟩
theorem wn8 {o0 o1 o2 o3 o4 o5 o6 o7:Option V} {o:Option V} {r:St} {R:St→Hp→Prop} (h:R (o0::o1::o2::o3::o4::o5::o6::o7::some v::r) H):gName 8 v (o0::o1::o2::o3::o4::o5::o6::o7::o::r) H R:=h
theorem wv9 {o0 o1 o2 o3 o4 o5 o6 o7 o8:Option V} {r:St} (h:Q v H):tVar 9 (o0::o1::o2::o3::o4::o5::o6::o7::o8::some v::r) H Q:=⟨v,rfl,h⟩
theorem wn9 {o0 o1 o2 o3 o4 o5 o6 o7 o8:Option V} {o:Option V} {r:St} {R:St→Hp→Prop} (h:R (o0::o1::o2::o3::o4::o5::o6::o7::o8::some v::r) H):gName 9 v (o0::o1::o2::o3::o4::o5::o6::o7::o8::o::r) H R:=h
theorem wv10 {o0 o1 o2 o3 o4 o5 o6 o7 o8 o9:Option V} {r:St} (h:Q v H):tVar 10 (o0::o1::o2::o3::o4::o5::o6::o7::o8::o9::some v::r) H Q:=⟨v,rfl,h⟩
theorem wn10 {o0 o1 o2 o3 o4 o5 o6 o7 o8 o9:Option V} {o:Option V} {r:St} {R:St→Hp→Prop} (h:R (o0::o1::o2::o3::o4::o5::o6::o7::o8::o9::some v::r) H):gName 10 v (o0::o1::o2::o3::o4::o5::o6::o7::o8::o9::o::r) H R:=h
theorem wv11 {o0 o1 o2 o3 o4 o5 o6 o7 o8 o9 o10:Option V} {r:St} (h:Q v H):tVar 11 (o0::o1::o2::o3::o4::o5::o6::o7::o8::o9::o10::some v::r) H Q:=⟨v,rfl,h⟩
theorem wn11 {o0 o1 o2 o3 o4 o5 o6 o7 o8 o9 o10:Option V} {o:Option V} {r:St} {R:St→Hp→Prop} (h:R (o0::o1::o2::o3::o4::o5::o6::o7::o8::o9::o10::some v::r) H):gName 11 v (o0::o1::o2::o3::o4::o5::o6::o7::o8::o9::o10::o::r) H R:=h
theorem wv12 {o0 o1 o2 o3 o4 o5 o6 o7 o8 o9 o10 o11:Option V} {r:St} (h:Q v H):tVar 12 (o0::o1::o2::o3::o4::o5::o6::o7::o8::o9::o10::o11::some v::r) H Q:=⟨v,rfl,h⟩
theorem wn12 {o0 o1 o2 o3 o4 o5 o6 o7 o8 o9 o10 o11:Option V} {o:Option V} {r:St} {R:St→Hp→Prop} (h:R (o0::o1::o2::o3::o4::o5::o6::o7::o8::o9::o10::o11::some v::r) H):gName 12 v (o0::o1::o2::o3::o4::o5::o6::o7::o8::o9::o10::o11::o::r) H R:=h
theorem wv13 {o0 o1 o2 o3 o4 o5 o6 o7 o8 o9 o10 o11 o12:Option V} {r:St} (h:Q v H):tVar 13 (o0::o1::o2::o3::o4::o5::o6::o7::o8::o9::o10::o11::o12::some v::r) H Q:=⟨v,rfl,h⟩
theorem wn13 {o0 o1 o2 o3 o4 o5 o6 o7 o8 o9 o10 o11 o12:Option V} {o:Option V} {r:St} {R:St→Hp→Prop} (h:R (o0::o1::o2::o3::o4::o5::o6::o7::o8::o9::o10::o11::o12::some v::r) H):gName 13 v (o0::o1::o2::o3::o4::o5::o6::o7::o8::o9::o10::o11::o12::o::r) H R:=h
theorem w_c (h:Q v H):tC v σ H Q:=h
theorem w_i0 {f:Int→Int→V} (h:Q (f i j) H):rI0 f (.int i) (.int j) H Q:=⟨i,j,rfl,rfl,h⟩
theorem w_mod {f:Int→Int→V} (hj:0 < j) (h:Q (f i j) H):rI (fun _ j=>0 < j) f (.int i) (.int j) H Q:=⟨i,j,rfl,rfl,hj,h⟩
theorem w_div {f:Int→Int→V} (h0:0 < j) (h1:j < 1073741824) (h:Q (f i j) H):rI CDiv f (.int i) (.int j) H Q:=⟨i,j,rfl,rfl,⟨h0,h1⟩,h⟩
theorem w_pow {f:Int→Int→V} (h0:0≤j) (h1:j≤1000000) (h2:i.natAbs < 2 ^ 64) (h:Q (f i j) H):rI CPow f (.int i) (.int j) H Q:=⟨i,j,rfl,rfl,⟨h0,h1,h2⟩,h⟩
theorem w_mulL {f:Int→Int→V} (h0:-(2 ^ 64) < i) (h1:i < 2 ^ 64) (h:Q (f i j) H):rI CMul f (.int i) (.int j) H Q:=⟨i,j,rfl,rfl,.inl ⟨h0,h1⟩,h⟩
theorem w_mulR {f:Int→Int→V} (h0:-(2 ^ 64) < j) (h1:j < 2 ^ 64) (h:Q (f i j) H):rI CMul f (.int i) (.int j) H Q:=⟨i,j,rfl,rfl,.inr ⟨h0,h1⟩,h⟩
theorem w_u {g:Int→V} (h:Q (g i) H):rU g (.int i) H Q:=⟨i,rfl,h⟩
theorem w_un {r:V→Hp→VK→Prop} (h:ta σ H fun x H1=>r x H1 Q):tUn r ta σ H Q:=h
theorem w_eqi (h:Q (.bl (decide (i=j))) H):rEq (.int i) (.int j) H Q:=⟨rfl,by rw [show decide (V.int i=V.int j)=decide (i=j) from decide_eq_decide.mpr ⟨fun e=>by cases e;rfl,fun e=>by rw [e]⟩];exact h⟩
theorem w_nei (h:Q (.bl (!decide (i=j))) H):rNe (.int i) (.int j) H Q:=⟨rfl,by rw [show decide (V.int i=V.int j)=decide (i=j) from decide_eq_decide.mpr ⟨fun e=>by cases e;rfl,fun e=>by rw [e]⟩];exact h⟩
theorem w_eqs {a b:Str} (h:Q (.bl (decide (a=b))) H):rEq (.str a) (.str b) H Q:=⟨rfl,by rw [show decide (V.str a=V.str b)=decide (a=b) from decide_eq_decide.mpr ⟨fun e=>by cases e;rfl,fun e=>by rw [e]⟩];exact h⟩
theorem w_eqb {a b:Bool} (h:Q (.bl (decide (a=b))) H):rEq (.bl a) (.bl b) H Q:=⟨rfl,by rw [show decide (V.bl a=V.bl b)=decide (a=b) from decide_eq_decide.mpr ⟨fun e=>by cases e;rfl,fun e=>by rw [e]⟩];exact h⟩
theorem w_bl {k:Bool} {R:Bool→Prop} (h:R k):∃c,V.bl k=.bl c∧R c:=⟨k,rfl,h⟩
theorem w_not {R:Bool→Hp→Prop} (h:c σ H fun b H1=>R (!b) H1):tNot c σ H R:=h
theorem w_and {R:Bool→Hp→Prop} (h:c σ H fun b H1=>if b=true then d σ H1 R else R false H1):tAnd c d σ H R:=h
theorem w_or {R:Bool→Hp→Prop} (h:c σ H fun b H1=>if b=true then R true H1 else d σ H1 R):tOr c d σ H R:=h
theorem w_notV (h:ta σ H fun x H1=>∃c,x=.bl c∧Q (.bl (!c)) H1):tNotV ta σ H Q:=h
theorem w_andV (h:ta σ H fun x H1=>∃c,x=.bl c∧if c=true then tb σ H1 Q else Q (.bl false) H1):tAndV ta tb σ H Q:=h
theorem w_chain {r r':R2} (h:ta σ H fun x H1=>tb σ H1 fun y H2=>r x y H2 fun z H3=>∃k,z=.bl k∧if k=true then tc σ H3 fun w H4=>r' y w H4 Q else Q (.bl false) H3):tChain r r' ta tb tc σ H Q:=h
theorem w_rt {nx bk ct:St→Hp→Prop} {rt:VK} (h:rt v H):(Ends.mk nx rt bk ct).rt v H:=h
theorem w_call {sp:Sp} {E:XK} (h:tr σ H fun vs H1=>sp vs H1 Q E):tCall sp [] E tr σ H Q:=by
 have e:(fun vs H1=>sp (vs++[]) H1 Q E)=fun vs H1=>sp vs H1 Q E:=by
  funext vs H1
  rw [List.append_nil]
 show tr σ H fun vs H1=>sp (vs++[]) H1 Q E
 rw [e]
 exact h
theorem w_bm {T:String} {r:V→List V→Hp→VK→Prop} {to:TE} (h:to σ H fun x H1=>tyV K T x H1∧tr σ H1 fun xs H2=>r x xs H2 Q):tBM K T r to tr σ H Q:=h
theorem w_sub {to ti:TE} {ts:TSet} {R:St→Hp→Prop} (h:to σ H fun o H1=>ti σ H1 fun i H2=>ts o i v H2 fun H3=>R σ H3):gSub to ti ts v σ H R:=h
theorem w_slice {r:V→Option Int→Option Int→Hp→VK→Prop} {tl th:TO} (h:t σ H fun x H1=>tl σ H1 fun l H2=>th σ H2 fun u H3=>r x l u H3 Q):tSl r t tl th σ H Q:=h
theorem w_noPart {R:Option Int→Hp→Prop} (h:R none H):tNoPart σ H R:=h
theorem w_part {R:Option Int→Hp→Prop} (h:t σ H fun x H1=>∃i,x=.int i∧R (some i) H1):tPart t σ H R:=h
theorem w_int {R:Int→Prop} (h:R i):∃k,V.int i=.int k∧R k:=⟨i,rfl,h⟩
theorem w_ixL {p:Addr} {xs:List V} (h:SqL K H p xs) (e:atI xs i=some v) (k:Q v H):rIxL K (.ref p) (.int i) H Q:=⟨p,xs,i,v,rfl,rfl,h,e,k⟩
theorem w_ixT {p:Addr} {xs:List V} (h:SqT K H p xs) (e:atI xs i=some v) (k:Q v H):rIxT K (.ref p) (.int i) H Q:=⟨p,xs,i,v,rfl,rfl,h,e,k⟩
def rLen (K:W.Frag):List V→Hp→VK→Prop:=fun xs H Q=>∃x n,xs=[x]∧LenV K x H n∧Q (.int n) H
theorem w_lenL {p:Addr} {xs:List V} (h:SqL K H p xs) (k:Q (.int xs.length) H):rLen K [.ref p] H Q:=⟨_,xs.length,rfl,.inl ⟨xs,h,rfl⟩,k⟩
theorem w_lenT {p:Addr} {xs:List V} (h:SqT K H p xs) (k:Q (.int xs.length) H):rLen K [.ref p] H Q:=⟨_,xs.length,rfl,.inr ⟨xs,h,rfl⟩,k⟩
theorem w_lenS {z:Str} (h:z.length≤sizeLine) (k:Q (.int z.length) H):rLen K [.str z] H Q:=⟨_,z.length,rfl,⟨h,rfl⟩,k⟩
def rMax2:List V→Hp→VK→Prop:=fun xs H Q=>∃i j,xs=[.int i,.int j]∧Q (.int (if j > i then j else i)) H
def rMin2:List V→Hp→VK→Prop:=fun xs H Q=>∃i j,xs=[.int i,.int j]∧Q (.int (if j < i then j else i)) H
theorem w_max (h:Q (.int (max i j)) H):rMax2 [.int i,.int j] H Q:=⟨i,j,rfl,by
 rw [show (if j > i then j else i)=max i j by rw [Int.max_def];split <;> split <;> lia]
 exact h⟩
theorem w_min (h:Q (.int (min i j)) H):rMin2 [.int i,.int j] H Q:=⟨i,j,rfl,by
 rw [show (if j < i then j else i)=min i j by rw [Int.min_def];split <;> split <;> lia]
 exact h⟩
def rInt1:List V→Hp→VK→Prop:=fun xs H Q=>(∃i,xs=[.int i]∧Q (.int i) H)∨∃k,xs=[.bl k]∧Q (.int (if k then 1 else 0)) H
theorem w_intB {k:Bool} (h:Q (.int (if k then 1 else 0)) H):rInt1 [.bl k] H Q:=.inr ⟨k,rfl,h⟩
theorem w_is {x d:V} {tv:Value} {b:Bool} (ty:TyOf K H x tv) (e:clsIs K tv d=some b) (h:Q (.bl b) H):rIsT K [x,d] H Q:=⟨x,d,tv,b,rfl,ty,e,h⟩
def rIsN:R2:=fun x y H Q=>y=.non∧Q (.bl (decide (x=.non))) H
def rNotN:R2:=fun x y H Q=>y=.non∧Q (.bl (!decide (x=.non))) H
end
section
variable {X:Cx}
theorem call_lenN:CallR X (.builtin "len") (rLen X.K):=call_len
theorem call_maxN (hc:X.calm=true):CallR X (.builtin "max") rMax2:=call_max2 hc
theorem call_minN (hc:X.calm=true):CallR X (.builtin "min") rMin2:=call_min2 hc
theorem call_intN:CallR X (.type "int") rInt1:=call_int1
theorem op_isNN:OpR X (compareOp .Is) rIsN:=op_isN
theorem op_notNN:OpR X (compareOp .IsNot) rNotN:=op_notN
end
section
variable {A B p:Prop} [Decidable p] {b:Bool}
theorem i_dec (h1:p→A) (h2:¬ p→B):if decide p=true then A else B:=by
 by_cases h:p
 ·rw [if_pos (decide_eq_true h)];exact h1 h
 ·rw [if_neg (by simpa using h)];exact h2 h
theorem i_b (h1:b=true→A) (h2:b=false→B):if b=true then A else B:=by
 cases b with
 | true=>exact iteT (h1 rfl)
 | false=>exact iteF (h2 rfl)
theorem i_T (h:b=true) (k:A):if b=true then A else B:=by rw [if_pos h];exact k
theorem i_F (h:b=false) (k:B):if b=true then A else B:=by rw [if_neg (by rw [h];exact Bool.false_ne_true)];exact k
theorem i_pos (h:p) (k:A):if decide p=true then A else B:=by rw [if_pos (decide_eq_true h)];exact k
theorem i_neg (h:¬ p) (k:B):if decide p=true then A else B:=by rw [if_neg (by simpa using h)];exact k
theorem i_npos (h:p) (k:B):if (!decide p)=true then A else B:=by rw [if_neg (by simpa using h)];exact k
end
section
variable {H H0 H1 H2 H':Hp} {p q a:Addr} {o u:HO} {xs ys:List V}
theorem New.trans (n1:New H H1 p o) (n2:New H1 H2 q u):New H H2 q u:=⟨n1.s.trans n2.s,n2.e,fun a v e=>n2.n a v (n1.s a v e)⟩
def TupsAt (H:Hp) (ys:List V) (rows:List (List V)):Prop:=ys.length=rows.length∧∀(j:Nat) (r:List V),rows[j]?=some r→∃q,ys[j]?=some (.ref q)∧H q=some (.tup r)
theorem TupsAt.same {rows:List (List V)} (s:Same H H') (h:TupsAt H ys rows):TupsAt H' ys rows:=⟨h.1,fun j r e=>let ⟨q,a,b⟩:=h.2 j r e;⟨q,a,s _ _ b⟩⟩
theorem TupsAt.off {rows:List (List V)} (h:TupsAt H ys rows) (f:Off p H H') (hl:H p=some (.lst xs)):TupsAt H' ys rows:=⟨h.1,fun j r e=>by
 obtain ⟨q,a,b⟩:=h.2 j r e
 have ne:q≠p:=ne_of b hl (fun z=>by cases z)
 exact ⟨q,a,by rw [f q ne];exact b⟩⟩
theorem TupsAt.nil:TupsAt H [] []:=⟨rfl,fun j r e=>by simp at e⟩
end
section
variable {σ:St} {H:Hp} {Q:VK} {K:W.Frag} {tr:TA} {D:Ends} {i j:Int} {g:TG} {tb:TS} {a b:V} {p:Addr}
theorem w_tup2 {i0 i1:Nat} {R:St→Hp→Prop} (hp:SqT K H p [a,b]) (h:gName i0 a σ H fun σ1 H1=>gName i1 b σ1 H1 R):gTup K 2 (gCons (gName i0) (gCons (gName i1) gNil)) (.ref p) σ H R :=
 ⟨p,_,rfl,hp,rfl,_,_,rfl,_,_,rfl,rfl,h⟩
end
def rEqD (K:W.Frag):R2:=fun x y H Q=>∃d d',Rep K H d x∧Rep K H d' y∧depD d≤100∧Q (.bl (eqDt d d')) H
def rNeD (K:W.Frag):R2:=fun x y H Q=>∃d d',Rep K H d x∧Rep K H d' y∧depD d≤100∧Q (.bl (!eqDt d d')) H
theorem op_eq_dN {X:Cx} {k:Nat} (hr:Room k X.A):OpR X (compareOp .Eq) (rEqD X.K):=op_eq_d hr
theorem op_ne_dN {X:Cx} {k:Nat} (hr:Room k X.A):OpR X (compareOp .NotEq) (rNeD X.K):=op_ne_d hr
theorem map_set {α:Type} {N j:Nat} {F:Nat→α} {v:α} (hj:j < N):((List.range N).map F).set j v=(List.range N).map (fun k=>if k=j then v else F k):=by
 apply List.ext_getElem?
 intro k
 rw [List.getElem?_set]
 by_cases hk:k < N
 ·by_cases e:j=k
  ·subst e
   simp [hj]
  ·have e':¬ k=j:=fun z=>e z.symm
   simp [hk,e,e']
 ·have e:¬ j=k:=by lia
  have h1:((List.range N).map F)[k]?=none:=by simp;lia
  have h2:((List.range N).map (fun k=>if k=j then v else F k))[k]?=none:=by simp;lia
  rw [if_neg e,h1,h2]
end L2
namespace L2
open PySem PySem.Spec PyProof.Rows PySem.SeqAt
section
variable {X:Cx} {a:Expr} {ta:TE} {pos:Pos}
def rIsNB:R2:=fun x y H Q=>∃a b,x=.bl a∧y=.bl b∧Q (.bl (!decide (a=b))) H
theorem op_isNB:OpR X (compareOp .IsNot) rIsNB:=by
 intro pins s σ H x y v u Q I rx ry h
 obtain ⟨a,b,rfl,rfl,q⟩:=h
 cases rx
 cases ry
 exact wpAny_isNot_plain rfl (fin_bl I q (by cases a <;> cases b <;> rfl))
theorem w_isNB {H:Hp} {Q:VK} {a b:Bool} (h:Q (.bl (!decide (a=b))) H):rIsNB (.bl a) (.bl b) H Q:=⟨a,b,rfl,rfl,h⟩
def idV:V→Bool
 | .non=>true
 | .bl _=>true
 | .int _=>true
 | .str _=>true
 | .ref _=>true
 | _=>false
theorem same_eqAt {A:Around} {s:Shared} {x:V} {u v:Value} (f:idV x=true) (ru:RelV x u) (rv:RelV x v):EqAt A s u v true:=by
 cases x with
 | non=>cases ru;cases rv;exact EqAt.same _
 | bl b=>cases ru;cases rv;exact EqAt.same _
 | ref b=>cases ru;cases rv;exact EqAt.same _
 | int i =>
  obtain ⟨t,rfl⟩:=ru
  obtain ⟨t',rfl⟩:=rv
  have:=EqAt.int_int (A:=A) (s:=s) i t i t'
  rwa [beq_self_eq_true] at this
 | str z =>
  obtain ⟨t,rfl⟩:=ru
  obtain ⟨t',rfl⟩:=rv
  have:=EqAt.str_str (A:=A) (s:=s) z t z t'
  rwa [beq_self_eq_true] at this
 | _=>exact absurd (show false=true from f) Bool.false_ne_true
def rNeI (K:W.Frag):R2:=fun x y H Q=>∃p q xs,x=.ref p∧y=.ref q∧SqL K H p xs∧SqL K H q xs∧xs.all idV=true∧Q (.bl false) H
theorem op_neI {k:Nat} (hr:Room k X.A):OpR X (compareOp .NotEq) (rNeI X.K):=by
 intro pins s σ H x y v u Q I rx ry h
 obtain ⟨p,q,xs,rfl,rfl,hp,hq,hf,qq⟩:=h
 cases rx
 cases ry
 obtain ⟨us,ru,pu,_⟩:=I.list hp
 obtain ⟨vs,rv,pw,_⟩:=I.list hq
 have hsz:us.toArray.size=vs.toArray.size:=by simp [← ru.length,← rv.length]
 have b:=RcNeAt.lists (A:=X.A) (s:=s) (e:=fun _=>true) pu.isList pw.isList hsz (by have:=hr.un;lia) (fun j h1 h2=>by
  have l1:j < us.length:=by simpa using h1
  have l2:j < vs.length:=by simpa using h2
  have l3:j < xs.length:=by rw [ru.length];exact l1
  have e3:xs[j]?=some xs[j]:=by simp [l3]
  obtain ⟨u,eu,qu⟩:=ru.get e3
  obtain ⟨v,ev,qv⟩:=rv.get e3
  have z1:us.toArray[j]=u:=by
   have:us[j]?=some us[j]:=by simp [l1]
   rw [this] at eu
   simpa using eu
  have z2:vs.toArray[j]=v:=by
   have:vs[j]?=some vs[j]:=by simp [l2]
   rw [this] at ev
   simpa using ev
  rw [z1,z2]
  exact same_eqAt (List.all_eq_true.mp hf _ (List.getElem_mem l3)) qu qv)
 rw [show ((List.range us.toArray.size).all fun _=>true)=true by simp] at b
 exact b X.prog X.w X.xe _ ⟨.bl _,H,I,rfl,qq⟩
end
section
variable {σ:St} {H:Hp} {Q:VK} {D:Ends} {td ty tv:TE} {p:Addr} {kvs:List (Key×V)} {i:Int} {v:V}
theorem w_dnew (h:∀p H',New H H' p (.dK [])→Q (.ref p) H'):tDNewK σ H Q:=fun p hp=>h p _ (.mk' hp)
end
def Kp (b:Addr) (H H':Hp):Prop:=∀x u,x≠b→H x=some u→H' x=some u
section
variable {b p:Addr} {H H1 H2:Hp} {o:HO}
theorem Kp.trans (a:Kp b H H1) (c:Kp b H1 H2):Kp b H H2:=fun x u n h=>c x u n (a x u n h)
theorem Same.kp (s:Same H H1):Kp b H H1:=fun x u _ h=>s x u h
theorem Off.kp (f:Off b H H1):Kp b H H1:=fun x u n h=>by rw [f x n];exact h
theorem Kp.same {H0:Hp} (s:Same H0 H) (k:Kp b H H1) (n:∀x u,H0 x=some u→x≠b):Same H0 H1:=fun x u e=>k x u (n x u e) (s x u e)
end
section
variable {X:Cx} {K:W.Frag}
theorem ix_listK (h:X.K=K):IxR X (rIxL K):=h▸ix_list
theorem ix_tupK (h:X.K=K):IxR X (rIxT K):=h▸ix_tup
end
def ForL (K:PySem.W.Frag) (a:Addr) (g:TG) (tb:TS) (D:Ends) (σ:St) (H:Hp):Prop:=∃W:Nat→Nat→St→Hp→Prop,(∃m,W 0 m σ H)∧∀i m σ H,W i m σ H →
 ((Itl K a).stop i H∧D.nx σ H)∨((Itl K a).go i H∧∃N:St→Hp→Prop,(∀σ' H',N σ' H'→∃m',m' < m∧W (i + 1) m' σ' H')∧∀x H',(Itl K a).yld i H x H'→g x σ H' fun σ2 H2=>tb { D with nx:=N,ct:=N,bk:=D.nx } σ2 H2)
theorem w_forL {K:W.Frag} {te:TE} {g:TG} {tb:TS} {D:Ends} {σ:St} {H:Hp} (h:te σ H fun x H1=>∃a,x=.ref a∧(∃xs,SqL K H1 a xs)∧ForL K a g tb D σ H1):tFor (iList K te) g tb D σ H:=h
theorem forL_by {K:W.Frag} {a:Addr} {xs:List V} {g:TG} {tb:TS} {D:Ends} {σ:St} {H:Hp} (Pv:Nat→St→Hp→Prop) (h0:Pv 0 σ H) (hl:∀i σ H,i≤xs.length→Pv i σ H→SqL K H a xs)
  (hs:∀i x σ H,xs[i]?=some x→Pv i σ H→g x σ H fun σ2 H2=>tb { D with nx:=Pv (i + 1),ct:=Pv (i + 1),bk:=D.nx } σ2 H2) (hd:∀σ H,Pv xs.length σ H→D.nx σ H):ForL K a g tb D σ H:=for_list Pv h0 hl hs hd
def CompAll (J:It) (nt:Nat) (fr:List Nat) (g:TG) (c:TT) (te:TE) (σ:St) (H1:Hp) (Q:VK):Prop:=∀acc,H1 acc=none→CompGoal J nt fr g c te σ H1 Q acc
theorem w_compL {K:W.Frag} {t0 te:TE} {nt:Nat} {fr:List Nat} {g:TG} {c:TT} {σ:St} {H:Hp} {Q:VK} (h:t0 σ H fun x H1=>∃a,x=.ref a∧(∃xs,SqL K H1 a xs)∧CompAll (Itl K a) nt fr g c te σ H1 Q):tComp (iList K t0) nt fr g c te σ H Q:=h
theorem comp_map {J:It} {xs:List V} {Lk:Hp→Prop} {te:TE} {σ:St} {H:Hp} {Q:VK} {fr:List Nat} {fvs:St} {P:Nat→V→Prop} (it:L2.ItemsOf J xs Lk) (hz:xs.length≤1000000) (hf:(fr.map fun i=>(σ[i]?).getD none)=fvs) (hL:∀H',Same H H'→Lk H')
  (turn:∀(i:Nat) (v:V) (H':Hp) (R:VK),xs[i]?=some v→Same H H'→(∀y H2,Same H' H2→P i y→R y H2)→te (some v::fvs) H' R)
  (k:∀l H' ys,New H H' l (.lst ys)→ys.length=xs.length→(∀(i:Nat) (y:V),ys[i]?=some y→P i y)→Q (.ref l) H'):CompAll J 1 fr (gName 0) tTrue te σ H Q:=by
 intro acc hacc
 subst hf
 have nacc:∀b u,H b=some u→b≠acc:=fun b u e=>ne_of_none e hacc
 refine comp_by it (fun i ys H'=>H' acc=some (.lst ys)∧Same H H'∧ys.length=i∧∀(j:Nat) (y:V),ys[j]?=some y→P j y) ⟨upd_same,Same.new hacc,rfl,fun j y e=>by simp at e⟩ (fun i ys H' _ h=>⟨hL H' h.2.1,h.1⟩) ?_ ?_
 ·rintro i x tv ys H' hx hi ⟨ha,hs,hl,hp⟩ htv
  obtain ⟨tv0,rfl⟩:∃a,tv=[a]:=List.length_eq_one_iff.mp htv
  unfold gName tTrue
  dsimp only
  rw [if_pos rfl]
  refine turn i x H' _ hx hs fun y H2 s2 py=>⟨?_,s2 _ _ ha,CompW.next (tv:=[some x]) hi ⟨upd_same,fun b u e=>?_,by rw [List.length_append,hl];rfl,fun j z e=>?_⟩ rfl⟩
  ·rw [hl]
   exact Nat.lt_of_lt_of_le hi (small_line hz)
  ·rw [upd_ne (nacc b u e)]
   exact s2 _ _ (hs _ _ e)
  ·by_cases hj:j < ys.length
   ·rw [List.getElem?_append_left hj] at e
    exact hp j z e
   ·rw [List.getElem?_append_right (by lia)] at e
    have hj2:j - ys.length=0:=by
     by_cases h0:j - ys.length=0
     ·exact h0
     ·rw [List.getElem?_eq_none (by simp;lia)] at e
      cases e
    rw [hj2] at e
    cases e
    have:j=i:=by lia
    rw [this]
    exact py
 ·rintro ys H' ⟨ha,hs,hl,hp⟩
  exact k acc H' ys ⟨hs,ha,nacc⟩ hl hp
section
variable {X:Cx} {pins:List (Addr×Obj)} {EX:St→XK} {k m:Nat} {x:Str} {ps:List Str} {sp:Sp} {p pos apos:Pos} {e o:Expr} {es:List Expr} {t:TA} {ta:TE} {f C:Addr} {fd:FuncData} {nm:Str}
structure CMeth (K:W.Frag) (C:Addr) (m:Str) (f:Addr):Prop where
 ga:W.specialIn K (.ref C) "__getattribute__" = some (some (.builtin "type.__getattribute__"))
 rd:W.readsIn K C (.type "type")=true
 at_:W.findCls K (.ref C) (.type "type") m=some (.val (.ref f))
 hi:W.handedIn (.ref f)=true
 kp:W.keepIn K (.ref f)=true
end
section
variable {P:Program} {w:World} {K:W.Frag} {mg:Str→Option Value} {base:Heap} {CX:CXT} {k:Nat} {x nm qual:Str} {ps:List Str} {sp:Sp} {C:Addr}
structure Met (P:Program) (w:World) (K:W.Frag) (mg:Str→Option Value) (base:Heap) (CX:CXT) (k:Nat) (C:Addr) (nm:Str) (ps:List Str) (sp:Sp):Prop where
 ex:∃(f:Addr) (fd:FuncData),FnOk P w K mg base CX k f fd ps sp∧Meth K C nm f∧Binds K fd ps []
structure Mak (P:Program) (w:World) (K:W.Frag) (mg:Str→Option Value) (base:Heap) (CX:CXT) (k:Nat) (x:Str) (C:Addr) (ps:List Str) (sp:Sp):Prop where
 ex:∃(f:Addr) (fd:FuncData),FnOk P w K mg base CX k f fd ps sp∧Mk K C f∧mg x=some (.ref C)∧Binds K fd ps []
def FnAt (K:W.Frag) (nm qual:Str) (st:Stmt) (f:Addr):Prop:=∃fd:FuncData,Fun K nm qual st f fd
structure FnTells (P:Program) (w:World) (K:W.Frag) (mg:Str→Option Value) (base:Heap) (CX:CXT) (k:Nat) (f:Addr) (ps:List Str) (sp:Sp):Prop where
 ex:∃fd:FuncData,FnOk P w K mg base CX k f fd ps sp∧Binds K fd ps []
theorem FnTells.met {f:Addr} (t:FnTells P w K mg base CX k f ps sp) (m:Meth K C nm f):Met P w K mg base CX k C nm ps sp:=let ⟨fd,F,b⟩:=t.ex;⟨f,fd,F,m,b⟩
theorem FnTells.mak {f:Addr} (t:FnTells P w K mg base CX k f ps sp) (m:Mk K C f) (g:mg x=some (.ref C)):Mak P w K mg base CX k x C ps sp:=let ⟨fd,F,b⟩:=t.ex;⟨f,fd,F,m,g,b⟩
variable {st:Stmt} {N:List Str} {f:Addr}
theorem fn_tells (h:FnAt K nm qual st f) (S:FnScope N ps (defScope st)) (len:∀vs H Q E,sp vs H Q E→vs.length=ps.length)
  (hb:∀(kV doc pm:Value) (an:Option Addr) (cdv ct:Value) (us:List Value),us.length=ps.length→bindArgs (W.fnOf nm qual (defArgs st) (defBody st) (defScope st) .none kV doc pm an cdv ct) ⟨us,[]⟩=pure (ps.zip us))
  (hbody:∀(f:Addr) (cdv:Value) (A:Around) (outer:List Env) (s:Shared) (H:Hp) (vs:List V) (Q:VK) (E:XK),Room k (A.deeper (envOfC qual (defScope st) s.heap.objs.size f cdv))→sp vs H Q E →
   ∃t,PSs (cxOf CX P w K mg base N qual (defScope st) f cdv A outer s H E).nox (defBody st) t∧t { nx:=fun _ H'=>Q .non H',rt:=Q } (start N vs) H):FnTells P w K mg base CX (k + 1) f ps sp:=by
 obtain ⟨fd,F⟩:=h
 refine ⟨fd,?_,F.binds hb⟩
 obtain ⟨oc,od,kV,doc,pm,an,cdv,ct,osl,rfl,lk,hcd⟩:=F.ex
 refine fn_of lk hcd S len fun A outer s H vs Q E hr hsp=>?_
 obtain ⟨t,h,q⟩:=hbody f cdv A outer s H vs Q E hr hsp
 exact ⟨t,h.nox,q⟩
theorem fn_tellsX (h:FnAt K nm qual st f) (S:FnScope N ps (defScope st)) (len:∀vs H Q E,sp vs H Q E→vs.length=ps.length)
  (hb:∀(kV doc pm:Value) (an:Option Addr) (cdv ct:Value) (us:List Value),us.length=ps.length→bindArgs (W.fnOf nm qual (defArgs st) (defBody st) (defScope st) .none kV doc pm an cdv ct) ⟨us,[]⟩=pure (ps.zip us))
  (hbody:∀(f:Addr) (cdv:Value) (A:Around) (outer:List Env) (s:Shared) (H:Hp) (vs:List V) (Q:VK) (E:XK),Room k (A.deeper (envOfC qual (defScope st) s.heap.objs.size f cdv))→sp vs H Q E →
   ∃t,PSs (cxOf (CX1 P w) P w K mg base N qual (defScope st) f cdv A outer s H E) (defBody st) t∧t { nx:=fun _ H'=>Q .non H',rt:=Q } (start N vs) H):FnTells P w K mg base (CX1 P w) (k + 1) f ps sp:=by
 obtain ⟨fd,F⟩:=h
 refine ⟨fd,?_,F.binds hb⟩
 obtain ⟨oc,od,kV,doc,pm,an,cdv,ct,osl,rfl,lk,hcd⟩:=F.ex
 exact fn_of lk hcd S len fun A outer s H vs Q E hr hsp=>hbody f cdv A outer s H vs Q E hr hsp
end
section
variable {X:Cx} {CX:CXT} {k m:Nat} {x nm:Str} {ps:List Str} {sp:Sp} {E:XK} {p pos apos:Pos} {e o:Expr} {es:List Expr} {t:TA} {ta:TE} {C:Addr} {pins:List (Addr×Obj)} {EX:St→XK}
theorem pe_met {pl:Sem Bool} (he:PE X o ta) (c:Cls X.K C) (D:Met X.prog X.w X.K X.mg X.base CX k C nm ps sp) (hr:Room m X.A) (ha:PA X (e::es) t) (hk:k≤m:=by decide) (hx:Passes CX X E:=by exact pass0)
  (hst:starEach (e::es) X.env=(false,eval e X.env)::starEach es X.env:=by rfl) (hpl:(backTo pos (starEach es X.env)).any (·.1)=false:=by rfl)
  (ht:eval (.Call (.Attribute o nm apos) (e::es) [] pos) X.env=(do
   let ov ← eval o X.env
   standAt apos.atName
   let (f,first) ← holding [ov] (getMethod ov nm pl)
   callWith pos f first (backTo pos (starEach (e::es) X.env)) (backToKw pos (keywordEach [] X.env))):=by rfl) :
  PE X (.Call (.Attribute o nm apos) (e::es) [] pos) (tMeth C nm sp [] E ta t):=by
 obtain ⟨f,fd,F,mt,b⟩:=D.ex
 exact pe_meth (pl:=pl) he c mt F (hr.mono hk) b .nil hx ha hst hpl ht
theorem pe_met0 {pl:Sem Bool} (he:PE X o ta) (c:Cls X.K C) (D:Met X.prog X.w X.K X.mg X.base CX k C nm ps sp) (hr:Room m X.A) (hk:k≤m:=by decide) (hx:Passes CX X E:=by exact pass0)
  (ht:eval (.Call (.Attribute o nm apos) [] [] pos) X.env=(do
   let ov ← eval o X.env
   standAt apos.atName
   let (f,first) ← holding [ov] (getMethod ov nm pl)
   callWith pos f first (backTo pos (starEach [] X.env)) (backToKw pos (keywordEach [] X.env))):=by rfl) :
  PE X (.Call (.Attribute o nm apos) [] [] pos) (tMeth C nm sp [] E ta tNil):=by
 obtain ⟨f,fd,F,mt,b⟩:=D.ex
 exact pe_meth0 (pl:=pl) he c mt F (hr.mono hk) b .nil hx ht
end
end L2
namespace L2
open PySem PySem.Spec PyProof.Rows
def Bd (k:Nat) (x:Int):Prop:=0≤x∧x < 2 ^ k
theorem p2_pos (k:Nat):(0:Int) < 2 ^ k:=by
 have:(0:Nat) < 2 ^ k:=Nat.pow_pos (by decide)
 exact_mod_cast this
theorem Bd.mul {a b:Nat} {x y:Int} (hx:Bd a x) (hy:Bd b y):Bd (a + b) (x * y):=by
 refine ⟨Int.mul_nonneg hx.1 hy.1,?_⟩
 rw [Int.pow_add]
 exact Int.lt_of_le_of_lt (Int.mul_le_mul_of_nonneg_left (Int.le_of_lt hy.2) hx.1) (Int.mul_lt_mul_of_pos_right hx.2 (p2_pos b))
theorem go_compR {σ:St} {H:Hp} {te:TE} {tr:TA} {Q:VK} {fr:List Nat} {fvs:St} {n:Nat} (Iv:Addr→Nat→List V→Hp→Prop) (hr:TelA tr σ H [.int (n:Int)]) (hz:n≤1000000) (hf:(fr.map fun i=>(σ[i]?).getD none)=fvs)
  (h0:∀acc H',New H H' acc (.lst [])→Iv acc 0 [] H') (ha:∀acc i ys H',Iv acc i ys H'→H' acc=some (.lst ys)∧ys.length=i)
  (turn:∀acc i ys H' (R:VK),i < n→Iv acc i ys H'→(∀y H2,H2 acc=some (.lst ys)→(∀H3,Off acc H2 H3→H3 acc=some (.lst (ys++[y]))→Iv acc (i + 1) (ys++[y]) H3)→R y H2)→te (some (.int i)::fvs) H' R)
  (k:∀acc ys H',Iv acc n ys H'→Q (.ref acc) H'):tComp (iRng1 tr) 1 fr (gName 0) tTrue te σ H Q:=by
 refine hr _ ⟨n,rfl,by lia,by lia,fun acc hacc=>?_⟩
 subst hf
 rw [Int.toNat_natCast]
 refine comp_by items_range (fun i ys H'=>Iv acc i ys H') (h0 acc _ (.mk' hacc)) (fun i ys H' _ h=>⟨trivial,(ha acc i ys H' h).1⟩) ?_ ?_
 ·rintro i x tv ys H' hx hi h htv
  obtain ⟨tv0,rfl⟩:∃a,tv=[a]:=List.length_eq_one_iff.mp htv
  have hi':i < n:=by simpa [rangeV] using hi
  obtain rfl:=rangeV_get hx hi'
  unfold gName tTrue
  dsimp only
  rw [if_pos rfl]
  refine turn acc i ys H' _ hi' h fun y H2 h1 h2=>⟨?_,h1,CompW.next (tv:=[some (V.int i)]) hi (h2 _ Off.upd upd_same) rfl⟩
  rw [(ha acc i ys H' h).2]
  exact Nat.lt_of_lt_of_le hi' (small_line hz)
 ·rintro ys H' h
  rw [show (rangeV 0 n).length=n by simp [rangeV]] at h
  exact k acc ys H' h
def rAddS:R2:=fun x y H Q=>∃i j,x=.str i∧y=.str j∧i.length + j.length≤sizeLine∧Q (.str (i++j)) H
def rJoin (K:W.Frag):V→List V→Hp→VK→Prop:=fun x xs H Q=>∃sep p ts,x=.str sep∧xs=[.ref p]∧SqL K H p (ts.map V.str)∧sep.length≤16∧(ts.map (fun t=>t.length)).sum + ts.length≤1048576∧Q (.str (sep.join ts)) H
theorem strsAre_of:∀{ts:List Str} {us:List Value},Vals (ts.map V.str) us→StrsAre us ts
 | [],_,.nil=>.nil
 | t::ts,_,.cons r h=>by
  obtain ⟨k,rfl⟩:=r
  exact .cons t k (strsAre_of h)
section
variable {X:Cx} {pos:Pos}
theorem op_addS:OpR X (binaryOp .Add) rAddS:=op_add_str
theorem mt_join:MtR X "str.join" (rJoin X.K):=by
 intro pins s σ H x xs v us Q I rx rs h
 obtain ⟨sep,p,ts,rfl,rfl,hq,h1,h2,q⟩:=h
 obtain ⟨t,rfl⟩:=rx
 obtain ⟨u,rfl,r1⟩:=vals1 rs
 cases r1
 obtain ⟨its,r,pl,hz⟩:=I.list hq
 refine join_listW (items:=its.toArray) (ys:=ts) pl.isList (strsAre_of r) h1 h2 fun t' k=>⟨.str (sep.join ts),H,I.tok _,⟨t',?_⟩,q⟩
 show Value.str (Builtin.Str.glued sep ts) t'=_
 rw [StrLaws.glued_eq_join]
theorem pe_join {o e:Expr} {to te:TE} {apos cpos:Pos} (ho:PE X o to) (he:PE X e te) (hbase:attributeBase o "join" X.env (eval o X.env)=eval o X.env:=by rfl)
  (hfew:((backTo cpos (starEach [e] X.env)).all (fun x=>!x.1) && (backToKw cpos (keywordEach [] X.env)).all (fun x=>x.1.isSome)
   && decide (([e]:List Expr).length + ([]:List Keyword).length + (if ([]:List Keyword).isEmpty then 0 else 1) < 30))=true:=by rfl)
  (hline:(apos.endLine == cpos.line)=true:=by rfl) (hs:starEach [e] X.env=(false,eval e X.env)::starEach [] X.env:=by rfl) :
  PE X (.Call (.Attribute o "join" apos) [e] [] cpos) (tBM X.K "str" (rJoin X.K) to (tCons te tNil)) :=
 pe_bm PySem.F.plainAttrs_str PySem.F.slot_str_join PySem.F.type_str_join mt_join ho (pa_cons he pa_nil hs) hbase hfew hline hs (by rfl)
end
def flatDt:V→Dt
 | .int i=>.int i
 | .str x=>.str x
 | .bl b=>.bl b
 | _=>.non
def isFlat:V→Bool
 | .int _=>true
 | .str _=>true
 | .bl _=>true
 | .non=>true
 | _=>false
section
variable {K:W.Frag} {H:Hp}
theorem rep_flat {v:V} (h:isFlat v=true):Rep K H (flatDt v) v:=by
 cases v <;> simp_all [isFlat,flatDt,Rep]
theorem reps_flat:∀{vs:List V},(∀v∈vs,isFlat v=true)→Reps K H (vs.map flatDt) vs
 | [],_=>by simp [Reps]
 | v::vs,h=>by
  simp only [List.map_cons,Reps]
  exact ⟨_,_,rfl,rep_flat (h v (List.mem_cons_self ..)),reps_flat fun x hx=>h x (List.mem_cons_of_mem _ hx)⟩
theorem dep_flat:∀vs:List V,depDs (vs.map flatDt)=0
 | []=>rfl
 | v::vs=>by
  have:depD (flatDt v)=0:=by cases v <;> rfl
  simp [depDs,this,dep_flat vs]
abbrev rowDt (r:List V):Dt:=.tup (r.map flatDt)
theorem reps_rows:∀{rows:List (List V)} {ys:List V},TupsAt H ys rows→(∀r∈rows,∀v∈r,isFlat v=true)→Reps K H (rows.map rowDt) ys
 | [],ys,h,_=>by
  have:ys=[]:=List.eq_nil_of_length_eq_zero h.1
  subst this
  simp [Reps]
 | r::rows,[],h,_=>by simp [TupsAt] at h
 | r::rows,y::ys,h,hf=>by
  obtain ⟨q,e,hq⟩:=h.2 0 r rfl
  cases e
  simp only [List.map_cons,Reps]
  refine ⟨_,_,rfl,?_,reps_rows (rows:=rows) (ys:=ys) ⟨by simpa using h.1,fun j r' e=>h.2 (j + 1) r' e⟩ fun x hx=>hf x (List.mem_cons_of_mem _ hx)⟩
  simp only [Rep]
  exact ⟨q,r,rfl,SqT.of hq,reps_flat (hf r (List.mem_cons_self ..))⟩
theorem dep_rows:∀rows:List (List V),depDs (rows.map rowDt)≤1
 | []=>by decide
 | r::rows=>by
  have h1:depD (rowDt r)=1:=by simp only [depD,dep_flat]
  have h2:=dep_rows rows
  simp only [List.map_cons,depDs,h1]
  lia
theorem rep_rows {p:Addr} {rows:List (List V)} {ys:List V} (hp:SqL K H p ys) (h:TupsAt H ys rows) (hf:∀r∈rows,∀v∈r,isFlat v=true):Rep K H (.lst (rows.map rowDt)) (.ref p):=by
 simp only [Rep]
 exact ⟨p,ys,rfl,hp,reps_rows h hf⟩
theorem dep_rowsL (rows:List (List V)):depD (.lst (rows.map rowDt))≤2:=by
 have:=dep_rows rows
 simp only [depD]
 lia
theorem w_neSame {d:Dt} {x y:V} {Q:VK} (hx:Rep K H d x) (hy:Rep K H d y) (hd:depD d≤100) (k:Q (.bl false) H):rNeD K x y H Q :=
 ⟨d,d,hx,hy,hd,by rw [eqDt_refl];exact k⟩
end
section
variable {K:W.Frag} {σ:St} {H:Hp} {Q:VK} {ta tv:TE} {t:TA} {f m:Str} {C:Addr} {sp:Sp} {dvs:List V} {E:XK} {D:Ends}
theorem go_fld (h:ta σ H fun x H1=>∃a C dx fs v,x=.ref a∧H1 a=some (.ins C dx fs)∧Cls K C∧NoAttr K C f∧fs.lookup f=some v∧Q v H1):tFld K ta f σ H Q:=h
theorem w_fld {a dx:Addr} {fs:List (Str×V)} {v:V} {R:V→Prop} (ho:H a=some (.ins C dx fs)) (c:Cls K C) (n:NoAttr K C f) (l:fs.lookup f=some v) (k:R v) :
  ∃a' C' dx' fs' v',V.ref a=.ref a'∧H a'=some (.ins C' dx' fs')∧Cls K C'∧NoAttr K C' f∧fs'.lookup f=some v'∧R v':=⟨a,C,dx,fs,v,rfl,ho,c,n,l,k⟩
end
theorem made_same {H:Hp} {x dx C:Addr} (hx:H x=none) (hd:H dx=none):Same H (upd (upd H dx (.own x)) x (.ins C dx [])):=fun b u e=>by
 rw [upd_ne (ne_of_none e hx),upd_ne (ne_of_none e hd)]
 exact e
theorem comp_empty {K:W.Frag} {a:Addr} {te:TE} {g:TG} {c:TT} {σ:St} {H:Hp} {Q:VK} {fr:List Nat} {nt:Nat} (hq:SqL K H a []) (k:∀l H',New H H' l (.lst [])→Q (.ref l) H'):CompAll (Itl K a) nt fr g c te σ H Q:=by
 intro acc hacc
 refine comp_by (items_list (xs:=[])) (fun i ys H'=>ys=[]∧H'=upd H acc (.lst [])) ⟨rfl,rfl⟩ ?_ ?_ ?_
 ·rintro i ys H' _ ⟨rfl,rfl⟩
  exact ⟨(Same.new hacc).seq hq,upd_same⟩
 ·intro i x tv ys H' hx
  simp at hx
 ·rintro ys H' ⟨rfl,rfl⟩
  exact k acc _ (.mk' hacc)
end L2
namespace L2
open PySem PySem.Spec PyProof.Rows PySem.SeqAt
section
variable {H H':Hp} {p a l:Addr} {o u:HO}
theorem New.at (n:New H H' p o) (h:H a=some u):H' a=some u:=n.s a u h
theorem Same.at (s:Same H H') (h:H a=some u):H' a=some u:=s a u h
theorem Off.at (f:Off l H H') (ne:a≠l) (h:H a=some u):H' a=some u:=by rw [f a ne];exact h
theorem Kp.at (k:Kp l H H') (ne:a≠l) (h:H a=some u):H' a=some u:=k a u ne h
theorem ne_tl {x y:List V} (h1:H a=some (.tup x)) (h2:H l=some (.lst y)):a≠l:=fun z=>by rw [z,h2] at h1;cases h1
def RowsAt (H:Hp) (p:Addr) (rows:List (List V)):Prop:=∃ys,H p=some (.lst ys)∧TupsAt H ys rows
theorem RowsAt.same {rows:List (List V)} (s:Same H H') (h:RowsAt H p rows):RowsAt H' p rows:=let ⟨ys,a,b⟩:=h;⟨ys,s _ _ a,b.same s⟩
theorem RowsAt.snoc {q:Addr} {ys r:List V} {rows:List (List V)} (h:TupsAt H ys rows) (hl:H l=some (.lst ys)) (hq:H q=some (.tup r)) (f:Off l H H') (e:H' l=some (.lst (ys++[.ref q]))):RowsAt H' l (rows++[r]):=by
 refine ⟨_,e,?_⟩
 have h':=h.off f hl
 have nq:q≠l:=ne_tl hq hl
 refine ⟨by rw [List.length_append,List.length_append,h'.1];rfl,fun j s z=>?_⟩
 by_cases hj:j < rows.length
 ·rw [List.getElem?_append_left hj] at z
  obtain ⟨x,e1,e2⟩:=h'.2 j s z
  exact ⟨x,by rw [List.getElem?_append_left (by rw [h'.1];exact hj)];exact e1,e2⟩
 ·have hj2:j=rows.length:=by
   have:=(List.getElem?_eq_some_iff.mp z).1
   rw [List.length_append,List.length_singleton] at this
   lia
  subst hj2
  rw [List.getElem?_append_right (Nat.le_refl _),Nat.sub_self] at z
  cases z
  exact ⟨q,by rw [← h'.1,List.getElem?_append_right (Nat.le_refl _),Nat.sub_self];rfl,f.at nq hq⟩
end
section
variable {X:Cx} {id:String} {x nm:Str} {e v:Expr} {es:List Expr} {t:TA} {tv:TE} {p kp pos:Pos}
def CallK (X:Cx) (id:String) (nm:Str) (r:List V→V→Hp→VK→Prop):Prop:=∀(pins:List (Addr×Obj)) (s:Shared) (σ:St) (H:Hp) (xs:List V) (us:List Value) (y:V) (u:Value) (Q:VK),Inv X pins σ H s→Vals xs us→RelV y u→r xs y H Q →
 wpAny (model X.prog X.w) X.A (call (.builtin id) us [(nm,u)]) (EP X pins σ Q) X.xe s
def tCK (r:List V→V→Hp→VK→Prop) (t:TA) (tv:TE):TE:=fun σ H Q=>t σ H fun xs H1=>tv σ H1 fun y H2=>r xs y H2 Q
theorem go_ck {r:List V→V→Hp→VK→Prop} {σ:St} {H:Hp} {Q:VK} (h:t σ H fun xs H1=>tv σ H1 fun y H2=>r xs y H2 Q):tCK r t tv σ H Q:=h
theorem pe_ckw {r:List V→V→Hp→VK→Prop} (hc:CallK X id nm r) (hg:Gl X x) (hm:X.mg x=none) (hv:bootBuiltins x=some (.builtin id)) (ha:PA X (e::es) t) (hw:PE X v tv) (hn:x ≠ "__name__" := by decide) (hdb:(x == ("__debug__" : Str))=false:=by decide)
  (he:backTo pos (starEach (e::es) X.env)=(false,eval e X.env)::backTo pos (starEach es X.env):=by rfl) (hpl:(backTo pos (starEach (e::es) X.env)).any (·.1)=false:=by rfl):PE X (.Call (.Name x p) (e::es) [⟨some nm,v,kp⟩] pos) (tCK r t tv):=by
 intro pins s σ H Q I h
 refine wpAny_Call_Name_kw (ld_blt I hg hm hv ?_ hn hdb)
 refine callWith_kw (thn (ha pos pins s σ H _ I h) fun us s1 ⟨vs,H1,I1,r1,q1⟩=>?_) he hpl
 refine kws_cons (thn (hw pins s1 σ H1 _ I1 q1) fun z s2 ⟨y,H2,I2,r2,q2⟩=>kws_nil ?_)
 have hv2:Vals vs us:=r1
 exact hc pins s2 σ H2 vs us y z Q I2 hv2 r2 q2
end
theorem valsInts:∀{ns:List Int} {us:List Value},Vals (ns.map V.int) us→IntsAre us ns
 | [],_,.nil=>.nil
 | n::ns,_,.cons r t=>by
  obtain ⟨k,rfl⟩:=r
  exact .cons n k (valsInts t)
theorem intsAre_get:∀{us:List Value} {ns:List Int} {i:Nat} {v:Value},IntsAre us ns→us[i]?=some v→∃t,v=.int (ns.getD i 0) t
 | _,_,_,_,.nil,e=>by simp at e
 | _,_,0,_,.cons n t h,e=>by
  simp at e
  exact ⟨t,e.symm⟩
 | _,_,i + 1,_,.cons n t h,e=>by
  obtain ⟨t',e'⟩:=intsAre_get (i:=i) h (by simpa using e)
  exact ⟨t',by rw [e'];simp⟩
theorem preSum_take (ns:List Int):∀n,n≤ns.length→preSum (fun i=>ns.getD i 0) n=(ns.take n).sum
 | 0,_=>by simp [preSum]
 | n + 1,h=>by
  rw [preSum,preSum_take ns n (by lia),List.take_succ,List.sum_append]
  have:ns[n]?=some ns[n]:=by simp
  rw [List.getD_eq_getElem?_getD,this]
  simp
theorem sum_bounds {ns:List Int} (h:∀n∈ns,0≤n∧n≤1000000):0≤ns.sum∧ns.sum≤1000000 * (ns.length:Int):=by
 induction ns with
 | nil=>simp
 | cons a t ih =>
  have h1:=h a List.mem_cons_self
  have h2:=ih fun n hn=>h n (List.mem_cons_of_mem _ hn)
  rw [List.sum_cons,List.length_cons]
  lia
def maxI (d:Int) (ns:List Int):Int:=ns.foldl max d
section
variable {X:Cx}
def rSumL (K:W.Frag):List V→Hp→VK→Prop:=fun xs H Q=>∃(p:Addr) (ns:List Int),xs=[.ref p]∧SqL K H p (ns.map V.int)∧(∀n∈ns,0≤n∧n≤1000000)∧ns.length≤1000000∧Q (.int ns.sum) H
theorem call_sumL (hc:X.calm=true):CallR X (.builtin "sum") (rSumL X.K):=by
 intro pins s σ H xs us Q I r h
 obtain ⟨p,ns,rfl,hq,hb,hz,q⟩:=h
 obtain ⟨u,rfl,rx⟩:=vals1 r
 cases rx
 obtain ⟨its,rv,pl,_⟩:=I.list hq
 have hi:=valsInts rv
 have hn:its.length=ns.length:=by have:=rv.length;simpa using this.symm
 have hl:=pl.isList
 have hlt:p < s.heap.objs.size:=let ⟨_,e,_⟩:=hl;Heap.lt_size e
 have part:∀j,j≤ns.length→0≤(ns.take j).sum∧(ns.take j).sum≤1000000 * 1000000:=fun j hj=>by
  have b:=sum_bounds (ns:=ns.take j) fun n hn=>hb n (List.mem_of_mem_take hn)
  have:(ns.take j).length≤1000000:=by rw [List.length_take];lia
  lia
 refine call_sum_walk (wpAny_pyIter_list hl ?_)
 refine ⟨s.heap.objs.size,[s.heap.objs.size,p],[s.heap.objs.size],its.toArray.size,_,_,fun i=>ns.getD i 0,rfl,Walks.list (A:=X.A.in1) (I.ok.hd hc) _ p (Nat.ne_of_lt hlt) its.toArray,
  ⟨⟨_,Heap.get?_push_size _ rfl,rfl,rfl⟩,hl.push _⟩,fun b hb'=>?_,fun i v hP=>intsAre_get hi (by simpa using hP),fun j hj=>?_,fun h' tk t' hk=>?_⟩
 ·rcases List.mem_cons.mp hb' with rfl | hb'
  ·show _ < (s.heap.push _).objs.size
   rw [size_push']
   exact Nat.lt_succ_self _
  ·rw [List.mem_singleton.mp hb']
   show _ < (s.heap.push _).objs.size
   rw [size_push']
   exact Nat.lt_succ_of_lt hlt
 ·have hj':j < ns.length:=by rw [← hn];simpa using hj
  rw [preSum_take ns (j + 1) hj']
  have b1:=part (j + 1) hj'
  have b2:=hb (ns.getD j 0) (by rw [List.getD_eq_getElem?_getD,List.getElem?_eq_getElem hj'];exact List.getElem_mem hj')
  exact ⟨⟨by show _≤ns.getD j 0;lia,by show ns.getD j 0 < _;lia⟩,by lia,by lia⟩
 ·rw [List.size_toArray,hn,preSum_take ns _ (Nat.le_refl _),List.take_length]
  exact ⟨.int _,H,I.kept (LSm.kept_iter hk),⟨_,rfl⟩,q⟩
theorem gt_ints {P:Program} {w:World} {A:Around} {E:Value→Shared→Prop} {s:Shared} {i j:Int} {t u:Tok} {Q:Value→Shared→Prop} (h:Q (.bool (decide (j < i))) s):wpAny (model P w) A (richCompare .Gt (.int i t) (.int j u)) Q E s:=gt_int h
section
variable {P:Program} {w:World} {A:Around} {R:Result→Shared→Prop} {it:Addr} {fp wr:List Addr} {ns:List Int} {V0:Nat→Value→Prop} {St0:Nat→Heap→Prop} {kw:List (Str×Value)}
abbrev bestObj (vs:Array Value) (c:Nat):Obj:={ cls:=.type "list", dict:=none,data:=.seq vs c,slots:=#[] }
theorem max_goes (W:Walks P w A.in1 it fp wr ns.length V0 St0) (hv:∀i v,V0 i v→∃t,v=.int (ns.getD i 0) t) (B:Addr) (hB:B ∉ fp) (left:Nat) :
  ∀(j:Nat) (s:Shared) (m:Int) (t:Tok) (c:Nat),j + left=ns.length→St0 j s.heap→m=maxI (ns.getD 0 0) (ns.take j)→s.heap.get? B=some (bestObj #[.int m t,.int m t] c) →
  (∀h' tk t',(∀b ob,b ∉ wr→b≠B→s.heap.get? b=some ob→h'.get? b=some ob)→R (.ok (.ret (.int (maxI (ns.getD 0 0) ns) t'))) { s with heap:=h',toks:=tk }) →
  codeAny (model P w) A (.builtin "max.loop" ⟨[.ref it,.none,.ref B],kw⟩) R s:=by
 have hBw:B ∉ wr:=fun z=>hB (W.sub _ z)
 induction left with
 | zero =>
  intro j s m t c hj st hm hb k
  have ej:j=ns.length:=by lia
  subst ej
  refine codeAny_builtin F.entry_max_loop ?_
  rw [Around.under_plainId F.plain_max_loop _]
  show wpAny _ _ (seqItems? (Value.ref B) >>= _) _ _ _
  refine wpAny_bind (wpAny_seqItems hb rfl ?_)
  show wpAny _ _ (tryCatch (pyNext (Value.ref it)) _ >>= _) _ _ _
  refine wpAny_bind (wpAny_tryCatch (W.done s _ _ st fun h1 tk1 k1=>?_))
  have hb1:=k1 B _ hBw hb
  show wpAny _ _ (updateSeq B _ >>= _) _ _ _
  refine wpAny_bind (wpAny_updateSeq hb1 rfl (wpAny_bind (wpAny_letGo (wpAny_pure ?_))))
  rw [List.take_length] at hm
  rw [hm]
  exact k _ _ t fun b ob n1 n2 q=>(Heap.get?_update_other _ _ (fun z=>n2 z.symm)).trans (k1 b ob n1 q)
 | succ left ih =>
  intro j s m t c hj st hm hb k
  have hlt:j < ns.length:=by lia
  refine codeAny_builtin F.entry_max_loop ?_
  rw [Around.under_plainId F.plain_max_loop _]
  show wpAny _ _ (seqItems? (Value.ref B) >>= _) _ _ _
  refine wpAny_bind (wpAny_seqItems hb rfl ?_)
  show wpAny _ _ (tryCatch (pyNext (Value.ref it)) _ >>= _) _ _ _
  refine wpAny_bind (wpAny_tryCatch (W.item j s _ _ hlt st fun v h1 tk1 pv st1 k1=>?_))
  obtain ⟨t1,rfl⟩:=hv j v pv
  have hb1:=k1 B _ hBw hb
  have nx:maxI (ns.getD 0 0) (ns.take (j + 1))=max m (ns.getD j 0):=by
   have e:ns[j]?=some ns[j]:=by simp
   rw [List.take_succ,e,hm,List.getD_eq_getElem?_getD (i:=j),e]
   show List.foldl max _ _=_
   rw [List.foldl_append]
   rfl
  show wpAny _ _ (tryCatch (holding _ (richCompare .Gt _ _ >>= _)) _ >>= _) _ _ _
  refine wpAny_bind (wpAny_tryCatch (wpAny_holding (wpAny_bind (gt_ints ?_))))
  refine wpAny_bind (wpAny_holding (wpAny_truthy_bool ?_))
  refine wpAny_bind (wpAny_letGo (wpAny_pure ?_))
  have hs:(toString "max" ++ toString ".loop" : String) = "max.loop" := by decide
  by_cases hg:m < ns.getD j 0
  ·rw [decide_eq_true hg]
   simp only [if_true]
   refine wpAny_bind (wpAny_updateSeq hb1 rfl (wpAny_bind (wpAny_letGo ?_)))
   rw [hs]
   refine wpAny_pure ⟨plainId_quiet F.plain_max_loop _,ih (j + 1) _ (ns.getD j 0) t1 _ (by lia) (W.frame _ _ _ st1 fun b hbf ob q=>?_) (by rw [nx];lia) (Heap.get?_update_self _ hb1 rfl) fun h2 tk2 t2 k2=>?_⟩
   ·exact (Heap.get?_update_other _ _ (fun z=>hB (by rw [z];exact hbf))).trans q
   ·exact k h2 tk2 t2 fun b ob n1 n2 q=>k2 b ob n1 n2 ((Heap.get?_update_other _ _ (fun z=>n2 z.symm)).trans (k1 b ob n1 q))
  ·rw [decide_eq_false hg]
   simp only [Bool.false_eq_true,if_false]
   refine wpAny_bind (wpAny_letGo ?_)
   rw [hs]
   refine wpAny_pure ⟨plainId_quiet F.plain_max_loop _,ih (j + 1) _ m t c (by lia) st1 (by rw [nx];lia) hb1 fun h2 tk2 t2 k2=>k h2 tk2 t2 fun b ob n1 n2 q=>k2 b ob n1 n2 (k1 b ob n1 q)⟩
theorem max_all {d:Int} {td:Tok} (W:Walks P w A.in1 it fp wr ns.length V0 St0) (hv:∀i v,V0 i v→∃t,v=.int (ns.getD i 0) t) (B:Addr) (hB:B ∉ fp) {s:Shared} {c:Nat} (st:St0 0 s.heap)
  (hkw:ns=[]→kw=[(("default" : Str),Value.int d td)]) (hb:s.heap.get? B=some (bestObj #[] c))
  (k:∀h' tk t',(∀b ob,b ∉ wr→b≠B→s.heap.get? b=some ob→h'.get? b=some ob)→R (.ok (.ret (.int (if ns=[] then d else maxI (ns.getD 0 0) ns) t'))) { s with heap:=h',toks:=tk }) :
  codeAny (model P w) A (.builtin "max.loop" ⟨[.ref it,.none,.ref B],kw⟩) R s:=by
 have hBw:B ∉ wr:=fun z=>hB (W.sub _ z)
 have hs:(toString "max" ++ toString ".loop" : String) = "max.loop" := by decide
 refine codeAny_builtin F.entry_max_loop ?_
 rw [Around.under_plainId F.plain_max_loop _]
 show wpAny _ _ (seqItems? (Value.ref B) >>= _) _ _ _
 refine wpAny_bind (wpAny_seqItems hb rfl ?_)
 show wpAny _ _ (tryCatch (pyNext (Value.ref it)) _ >>= _) _ _ _
 by_cases hn:ns=[]
 ·subst hn
  rw [hkw rfl]
  refine wpAny_bind (wpAny_tryCatch (W.done s _ _ st fun h1 tk1 k1=>?_))
  refine wpAny_bind (wpAny_rule ?_)
  exact wpAny_pure (k h1 tk1 td fun b ob n1 _ q=>k1 b ob n1 q)
 ·have hlt:0 < ns.length:=List.length_pos_iff.mpr hn
  refine wpAny_bind (wpAny_tryCatch (W.item 0 s _ _ hlt st fun v h1 tk1 pv st1 k1=>?_))
  obtain ⟨t1,rfl⟩:=hv 0 v pv
  have hb1:=k1 B _ hBw hb
  show wpAny _ _ (updateSeq B _ >>= _) _ _ _
  refine wpAny_bind (wpAny_updateSeq hb1 rfl ?_)
  rw [hs]
  rw [if_neg hn] at k
  refine wpAny_pure ⟨plainId_quiet F.plain_max_loop _,max_goes W hv B hB (ns.length - 1) 1 _ (ns.getD 0 0) t1 _ (by lia) (W.frame _ _ _ st1 fun b hbf ob q=>?_) ?_ (Heap.get?_update_self _ hb1 rfl) fun h2 tk2 t2 k2=>?_⟩
  ·exact (Heap.get?_update_other _ _ (fun z=>hB (by rw [z];exact hbf))).trans q
  ·have e:ns[0]?=some ns[0]:=by simp
   rw [List.take_succ,e,List.getD_eq_getElem?_getD,e]
   simp [maxI]
  ·exact k h2 tk2 t2 fun b ob n1 n2 q=>k2 b ob n1 n2 ((Heap.get?_update_other _ _ (fun z=>n2 z.symm)).trans (k1 b ob n1 q))
end
theorem maxI_mem:∀(ns:List Int) (d:Int),maxI d ns=d∨maxI d ns∈ns
 | [],d=>.inl rfl
 | a::t,d=>by
  rcases maxI_mem t (max d a) with h | h
  ·have e:maxI d (a::t)=max d a:=h
   by_cases hd:a≤d
   ·exact .inl (by rw [e];lia)
   ·exact .inr (by rw [e,show max d a=a by lia];exact List.mem_cons_self)
  ·exact .inr (List.mem_cons_of_mem _ h)
theorem maxI_head {ns:List Int} {d:Int} (hd:∀n∈ns,d≤n) (hn:ns≠[]):maxI (ns.getD 0 0) ns=maxI d ns:=by
 cases ns with
 | nil=>exact absurd rfl hn
 | cons a t =>
  have h:=hd a List.mem_cons_self
  show List.foldl max a (a::t)=List.foldl max d (a::t)
  simp only [List.foldl_cons]
  rw [show max a a=a by lia,show max d a=a by lia]
theorem call_kw_tree {P:Program} {w:World} {A:Around} {E:Value→Shared→Prop} {s:Shared} {id:String} {b:Builtin} {args:List Value} {kw:List (Str×Value)} {Q:Value→Shared→Prop} (hk:builtinKind id=none) (hp:plainId id=true)
  (hb:entryFor table id=some b) (ha:argsOk id ⟨args,kw⟩)
  (hc:wpAny (model P w) A.in1 (b ⟨args,kw⟩) (fun fin s1=>match fin with
   | .done f=>(match (Except.ok f:Result) with | .ok (.ret v)=>Q v s1 | .ok _=>False | .error e=>E e s1)
   | .again c=>c.quiet=true∧codeAny (model P w) A c (fun r s2=>match r with | .ok (.ret v)=>Q v s2 | .ok _=>False | .error e=>E e s2) s1) E s):wpAny (model P w) A (call (.builtin id) args kw) Q E s:=by
 refine wpAny_call (codeAny_call_builtin hp hb ?_)
 simp only [checkBuiltinCall,hk]
 unfold argsOk at ha
 cases hg:Manifest.signature? id with
 | none=>exact wpAny_pure hc
 | some sg =>
  rw [hg] at ha
  have ha2:Bind.checkArgs id sg ⟨args,kw⟩=pure ():=ha
  simp only [ha2]
  exact wpAny_pure hc
theorem args_maxD (a d:Value):argsOk "max" ⟨[a],[(("default" : Str),d)]⟩:=by unfold argsOk;kernel_rfl
def rMaxD (K:W.Frag):List V→V→Hp→VK→Prop:=fun xs y H Q=>∃(p:Addr) (ns:List Int) (d:Int),xs=[.ref p]∧y=.int d∧SqL K H p (ns.map V.int)∧(∀n∈ns,d≤n)∧Q (.int (maxI d ns)) H
theorem call_maxD (hc:X.calm=true):CallK X "max" "default" (rMaxD X.K):=by
 intro pins s σ H xs us y u Q I r ry h
 obtain ⟨p,ns,d,rfl,rfl,hq,hd,q⟩:=h
 obtain ⟨v,rfl,rx⟩:=vals1 r
 cases rx
 obtain ⟨td,rfl⟩:=ry
 obtain ⟨its,rv,pl,_⟩:=I.list hq
 have hi:=valsInts rv
 have hn:its.length=ns.length:=by have:=rv.length;simpa using this.symm
 have hl:=pl.isList
 have hlt:p < s.heap.objs.size:=let ⟨_,e,_⟩:=hl;Heap.lt_size e
 have hs:(toString "max" ++ toString ".loop" : String) = "max.loop" := by decide
 refine call_kw_tree F.kind_max F.plain_max F.entry_max (args_maxD _ _) ?_
 show wpAny _ _ (Builtin.Builtins.bindParams "max" ["key", "default"] 0 ⟨[],[(("default" : Str),Value.int d td)]⟩ >>= _) _ _ s
 refine wpAny_bind (wpAny_of_eq (show Builtin.Builtins.bindParams "max" ["key", "default"] 0 ⟨[],[(("default" : Str),Value.int d td)]⟩=pure [none,some (.int d td)] from rfl) ?_)
 refine wpAny_bind (wpAny_pure ?_)
 refine wpAny_bind (wpAny_pyIter_list hl ?_)
 refine wpAny_bind (wpAny_newObj_type ?_)
 rw [hs]
 have W:=Walks.list (prog:=X.prog) (w:=X.w) (A:=X.A.in1) (I.ok.hd hc) s.heap.objs.size p (Nat.ne_of_lt hlt) its.toArray
 rw [show its.toArray.size=ns.length by rw [List.size_toArray];exact hn] at W
 refine wpAny_pure ⟨plainId_quiet F.plain_max_loop _,max_all (d:=d) (td:=td) W (fun i v hP=>intsAre_get hi (by simpa using hP)) _ (fun z=>?_) (W.frame _ _ _ ⟨⟨_,Heap.get?_push_size _ rfl,rfl,rfl⟩,hl.push _⟩ fun b _ ob e=>Heap.get?_push_of_some _ e) (fun _=>rfl) (Heap.get?_push_size _ rfl) fun h' tk t' hk=>?_⟩
 ·rcases List.mem_cons.mp z with z | z
  ·exact absurd z (by rw [size_push'];exact Nat.succ_ne_self _)
  ·exact absurd (List.mem_singleton.mp z) (by rw [size_push'];exact Nat.ne_of_gt (Nat.lt_succ_of_lt hlt))
 ·have e:(if ns=[] then d else maxI (ns.getD 0 0) ns)=maxI d ns:=by
   by_cases h0:ns=[]
   ·rw [if_pos h0,h0];rfl
   ·rw [if_neg h0,maxI_head hd h0]
  rw [e]
  refine ⟨.int _,H,I.kept fun b ob q=>?_,⟨_,rfl⟩,by assumption⟩
  have hb:b < s.heap.objs.size:=Heap.lt_size q
  exact hk b ob (fun z=>absurd (List.mem_singleton.mp z) (Nat.ne_of_lt hb)) (by rw [size_push'];exact Nat.ne_of_lt (Nat.lt_succ_of_lt hb)) (Heap.get?_push_of_some _ (Heap.get?_push_of_some _ q))
end
theorem cx_K {CX:CXT} {P:Program} {w:World} {K:W.Frag} {mg:Str→Option Value} {base:Heap} {N:List Str} {q:Str} {sc:Scope} {f:Addr} {cdv:Value} {A:Around} {outer:List Env} {s:Shared} {H:Hp} {E:XK}:(cxOf CX P w K mg base N q sc f cdv A outer s H E).nox.K=K:=rfl
theorem cx_K2 {CX:CXT} {P:Program} {w:World} {K:W.Frag} {mg:Str→Option Value} {base:Heap} {N:List Str} {q:Str} {sc:Scope} {f:Addr} {cdv:Value} {A:Around} {outer:List Env} {s:Shared} {H:Hp} {E:XK}:(cxOf CX P w K mg base N q sc f cdv A outer s H E).K=K:=rfl
def Hs (H:Hp) (a:Addr):Prop:=∃u,H a=some u
section
variable {H H':Hp} {a p l:Addr} {o u:HO}
theorem Hs.of (h:H a=some u):Hs H a:=⟨u,h⟩
theorem New.hs (n:New H H' p o):Hs H' p:=⟨o,n.e⟩
theorem New.hsAt (n:New H H' p o) (h:Hs H a):Hs H' a:=let ⟨u,e⟩:=h;⟨u,n.s _ _ e⟩
theorem New.neA (n:New H H' p o) (h:Hs H a):a≠p:=let ⟨u,e⟩:=h;n.n a u e
end
section
variable {H:Hp} {Q:VK} {K:W.Frag} {l b:Addr} {xs ys:List V} {y:V} {σ:St} {D:Ends}
theorem made_ok {o:HO} {n:Nat} {Z:Addr→Hp→Prop} (z:n≤sizeLine) (k:∀p H',New H H' p o→Z p H'):n≤sizeLine∧∀p H',New H H' p o→Z p H':=⟨z,k⟩
theorem w_tyL {R:Prop} (h:SqL K H l xs) (k:R):tyV K "list" (.ref l) H∧R:=⟨.inl ⟨rfl,_,h⟩,k⟩
theorem w_app (h:H l=some (.lst xs)) (z:xs.length < sizeLine) (k:∀H',Off l H H'→H' l=some (.lst (xs++[y]))→Q .non H'):rAppA (.ref l) [y] H Q:=⟨l,xs,y,rfl,rfl,h,z,k⟩
theorem w_setA {i:Int} {j:Nat} {v:V} {R:Hp→Prop} (h:H l=some (.lst xs)) (e:ixN xs.length i=some j) (k:∀H',Off l H H'→H' l=some (.lst (xs.set j v))→R H'):rSetA (.ref l) (.int i) v H R:=⟨l,xs,i,j,rfl,rfl,h,e,k⟩
theorem w_slA {lo hi:Option Int} (h:SqL K H l xs) (k:∀p H',New H H' p (.lst (cutV xs lo hi))→Q (.ref p) H'):rSlA K (.ref l) lo hi H Q:=⟨l,xs,rfl,h,k⟩
theorem w_catA (h:H l=some (.lst xs)) (e:H b=some (.lst ys)) (z:xs.length + ys.length≤sizeLine) (k:∀p H',New H H' p (.lst (xs++ys))→Q (.ref p) H'):rCatA (.ref l) (.ref b) H Q:=⟨l,b,xs,ys,rfl,rfl,h,e,z,k⟩
theorem w_rep1 {n:Nat} (h:H l=some (.lst [y])) (z:n≤1000000) (k:∀p H',New H H' p (.lst (List.replicate n y))→Q (.ref p) H'):rRepA (.ref l) (.int (n:Int)) H Q :=
 ⟨l,n,[y],rfl,rfl,h,by lia,by lia,by simp only [List.length_singleton,Int.toNat_natCast,Nat.one_mul];exact small_line z,fun p H' q=>k p H' (by
  have e:(List.replicate ((n:Int).toNat) [y]).flatten=List.replicate n y:=by
   rw [Int.toNat_natCast]
   clear z q k h
   induction n with
   | zero=>rfl
   | succ n ih=>rw [List.replicate_succ,List.flatten_cons,ih];rfl
  rw [← e];exact q)⟩
theorem w_lofL (h:SqL K H l xs) (k:∀p H',New H H' p (.lst xs)→Q (.ref p) H'):rLOfA K [.ref l] H Q:=⟨l,xs,rfl,.inl h,k⟩
theorem w_sumL {ns:List Int} (h:SqL K H l (ns.map V.int)) (hb:∀n∈ns,0≤n∧n≤1000000) (hz:ns.length≤1000000) (k:Q (.int ns.sum) H):rSumL K [.ref l] H Q:=⟨l,ns,rfl,h,hb,hz,k⟩
theorem w_maxD {ns:List Int} {d:Int} (h:SqL K H l (ns.map V.int)) (hd:∀n∈ns,d≤n) (k:Q (.int (maxI d ns)) H):rMaxD K [.ref l] (.int d) H Q:=⟨l,ns,d,rfl,rfl,h,hd,k⟩
theorem w_meth {C dx:Addr} {fs:List (Str×V)} {m:Str} {R:Prop} (h:H l=some (.ins C dx fs)) (e:fs.lookup m=none) (k:R):∃a' dx' fs',V.ref l=.ref a'∧H a'=some (.ins C dx' fs')∧fs'.lookup m=none∧R:=⟨l,dx,fs,rfl,h,e,k⟩
theorem go_aug {i:Nat} {te:TE} {ti:TIp} {v:V} (e:σ[i]?=some (some v)) (h:te σ H fun y H1=>ti v y H1 fun z H2=>D.nx (σ.set i (some z)) H2):tAug i te ti D σ H:=⟨v,e,h⟩
theorem i_idx {n:Nat} {i:Int} (h0:0≤i) (h1:i < n):ixN n i=some i.toNat:=by unfold ixN;rw [if_pos h0,if_pos h1]
theorem atL1 {x y:V} {r:List V}:atI (x::y::r) 1=some y:=atI_nat (j:=1) rfl
theorem atL2 {x y z:V} {r:List V}:atI (x::y::z::r) 2=some z:=atI_nat (j:=2) rfl
theorem atL3 {x y z w:V} {r:List V}:atI (x::y::z::w::r) 3=some w:=atI_nat (j:=3) rfl
theorem i_tt {A B:Prop} (k:A):if (true:Bool)=true then A else B:=by rw [if_pos rfl];exact k
theorem i_ff {A B:Prop} (k:B):if (false:Bool)=true then A else B:=by rw [if_neg (by decide)];exact k
theorem i_ntt {A B:Prop} (k:B):if (!true:Bool)=true then A else B:=by rw [if_neg (by decide)];exact k
theorem i_nff {A B:Prop} (k:A):if (!false:Bool)=true then A else B:=by rw [if_pos (by decide)];exact k
theorem w_isTT (h:H l=some (.tup xs)) (k:Q (.bl true) H):rIsT K [.ref l,.ty "tuple"] H Q:=w_is (.tup h) (bt_tuple (.tup h)) k
theorem w_isLL (h:H l=some (.lst xs)) (k:Q (.bl true) H):rIsT K [.ref l,.ty "list"] H Q:=w_is (.lst h) (bt_list (.lst h)) k
theorem w_isIB {i:Int} (k:Q (.bl false) H):rIsT K [.int i,.ty "bool"] H Q:=w_is (TyOf.int (K:=K) (H:=H) i) (bt_bool (TyOf.int (K:=K) (H:=H) i)) k
theorem w_isBB {b:Bool} (k:Q (.bl true) H):rIsT K [.bl b,.ty "bool"] H Q:=w_is (TyOf.bl (K:=K) (H:=H) b) (bt_bool (TyOf.bl (K:=K) (H:=H) b)) k
theorem small_lt {n:Nat} (h:n < 1000000):n < sizeLine:=Nat.lt_of_lt_of_le h (small_line (Nat.le_refl _))
theorem w_tupB {n i0 i1:Nat} {a b:V} {R:St→Hp→Prop} (hn:n=2) (hp:SqT K H l [a,b]) (h:gName i0 a σ H fun σ1 H1=>gName i1 b σ1 H1 R):gTup K n (gCons (gName i0) (gCons (gName i1) gNil)) (.ref l) σ H R:=by
 subst hn
 exact w_tup2 hp h
theorem w_ixM {i:Int} (h:SqL K H l xs) (h0:0≤i) (h1:i < xs.length) (k:∀v∈xs,Q v H):rIxL K (.ref l) (.int i) H Q:=let ⟨v,e,m⟩:=atI_lt h0 h1;w_ixL h e (k v m)
theorem tups_at {rows:List (List V)} {i:Nat} {v:V} (h:TupsAt H xs rows) (e:xs[i]?=some v):∃r q,rows[i]?=some r∧v=.ref q∧H q=some (.tup r):=by
 have hi:i < rows.length:=by rw [← h.1];exact (List.getElem?_eq_some_iff.mp e).1
 obtain ⟨q,e1,e2⟩:=h.2 i rows[i] (by simp)
 rw [e] at e1
 exact ⟨rows[i],q,by simp,Option.some.inj e1,e2⟩
theorem comp_rows {te:TE} {fr:List Nat} {fvs:St} {rows:List (List V)} {F:List V→V} (hq:H l=some (.lst xs)) (tp:TupsAt H xs rows) (hz:xs.length≤1000000) (hf:(fr.map fun i=>(σ[i]?).getD none)=fvs)
  (turn:∀(q:Addr) (r:List V) (H':Hp) (R:VK),r∈rows→Same H H'→H' q=some (.tup r)→(∀H2,Same H' H2→R (F r) H2)→te (some (.ref q)::fvs) H' R)
  (k:∀p H',New H H' p (.lst (rows.map F))→Q (.ref p) H'):CompAll (Itl K l) 1 fr (gName 0) tTrue te σ H Q:=by
 refine comp_map (P:=fun i y=>∃r,rows[i]?=some r∧y=F r) (items_list (xs:=xs)) hz hf (fun H' s=>s.seq (SqL.of hq)) (fun i v H' R hv s kk=>?_) fun p H' ys n hl hP=>k p H' ?_
 ·obtain ⟨r,q,e1,rfl,e2⟩:=tups_at tp hv
  exact turn q r H' R (List.mem_of_getElem? e1) s (s _ _ e2) fun H2 s2=>kk _ _ s2 ⟨r,e1,rfl⟩
 ·have e:ys=rows.map F:=by
   apply List.ext_getElem?
   intro i
   rw [List.getElem?_map]
   by_cases hi:i < ys.length
   ·obtain ⟨r,e1,e2⟩:=hP i ys[i] (by simp)
    rw [e1,List.getElem?_eq_getElem hi,e2]
    rfl
   ·have:¬ i < rows.length:=by rw [← tp.1];lia
    rw [List.getElem?_eq_none (by lia),List.getElem?_eq_none (by lia)]
    rfl
  rw [e] at n
  exact n
end
section
variable {K:W.Frag} {g:TG} {tb:TS} {D:Ends} {σ:St} {H:Hp} {tr:TA}
def ForR (lo:Int) (n:Nat) (g:TG) (tb:TS) (D:Ends) (σ:St) (H:Hp):Prop:=∃W:Nat→Nat→St→Hp→Prop,(∃m,W 0 m σ H)∧∀i m σ H,W i m σ H →
 ((Itr lo n).stop i H∧D.nx σ H)∨((Itr lo n).go i H∧∃N:St→Hp→Prop,(∀σ' H',N σ' H'→∃m',m' < m∧W (i + 1) m' σ' H')∧∀x H',(Itr lo n).yld i H x H'→g x σ H' fun σ2 H2=>tb { D with nx:=N,ct:=N,bk:=D.nx } σ2 H2)
theorem forR_by {lo:Int} {n:Nat} (Pv:Nat→St→Hp→Prop) (h0:Pv 0 σ H) (hs:∀i σ H,i < n→Pv i σ H→g (.int (lo + i)) σ H fun σ2 H2=>tb { D with nx:=Pv (i + 1),ct:=Pv (i + 1),bk:=D.nx } σ2 H2) (hd:∀σ H,Pv n σ H→D.nx σ H):ForR lo n g tb D σ H:=for_range Pv h0 hs hd
theorem w_forR1 (h:tr σ H fun vs H1=>∃j:Int,vs=[.int j]∧-(2 ^ 62)≤j∧j < 2 ^ 62∧ForR 0 j.toNat g tb D σ H1):tFor (iRng1 tr) g tb D σ H:=h
theorem w_forR2 (h:tr σ H fun vs H1=>∃i j:Int,vs=[.int i,.int j]∧(-(2 ^ 62)≤i∧i < 2 ^ 62∧-(2 ^ 62)≤j∧j < 2 ^ 62)∧ForR i (j - i).toNat g tb D σ H1):tFor (iRng2 tr) g tb D σ H:=h
def ForE (K:PySem.W.Frag) (a:Addr) (xs:List V) (g:TG) (tb:TS) (D:Ends) (σ:St) (H:Hp):Prop:=∃W:Nat→Nat→St→Hp→Prop,(∃m,W 0 m σ H)∧∀i m σ H,W i m σ H →
      ((Ite K a xs).stop i H∧D.nx σ H)∨((Ite K a xs).go i H∧∃N:St→Hp→Prop,(∀σ' H',N σ' H'→∃m',m' < m∧W (i + 1) m' σ' H')∧∀x H',(Ite K a xs).yld i H x H'→g x σ H' fun σ2 H2=>tb { D with nx:=N,ct:=N,bk:=D.nx } σ2 H2)
theorem w_forE (h:tr σ H fun vs H1=>∃a xs,vs=[.ref a]∧SqL K H1 a xs∧ForE K a xs g tb D σ H1):tFor (iEnum K tr) g tb D σ H:=h
theorem e_by {a:Addr} {xs:List V} (h:SqL K H a xs) (k:ForE K a xs g tb D σ H):∃a' xs',[V.ref a]=[.ref a']∧SqL K H a' xs'∧ForE K a' xs' g tb D σ H:=⟨a,xs,rfl,h,k⟩
theorem forE_by {a:Addr} {xs:List V} (Pv:Nat→St→Hp→Prop) (h0:Pv 0 σ H) (hl:∀i σ H,i≤xs.length→Pv i σ H→SqL K H a xs)
  (hs:∀i x T σ H H',xs[i]?=some x→Pv i σ H→New H H' T (.tup [.int i,x])→g (.ref T) σ H' fun σ2 H2=>tb { D with nx:=Pv (i + 1),ct:=Pv (i + 1),bk:=D.nx } σ2 H2) (hd:∀σ H,Pv xs.length σ H→D.nx σ H):ForE K a xs g tb D σ H:=for_enum Pv h0 hl hs hd
theorem l_by {a:Addr} {xs:List V} (h:SqL K H a xs) (k:ForL K a g tb D σ H):∃a',V.ref a=.ref a'∧(∃xs,SqL K H a' xs)∧ForL K a' g tb D σ H:=⟨a,rfl,⟨xs,h⟩,k⟩
theorem c_by {a:Addr} {xs:List V} {nt:Nat} {fr:List Nat} {c:TT} {te:TE} {Q:VK} (h:SqL K H a xs) (k:CompAll (Itl K a) nt fr g c te σ H Q):∃a',V.ref a=.ref a'∧(∃xs,SqL K H a' xs)∧CompAll (Itl K a') nt fr g c te σ H Q:=⟨a,rfl,⟨xs,h⟩,k⟩
end
section
variable {K:W.Frag} {σ:St} {H:Hp} {Q:VK} {ta tv:TE} {t:TA} {f m:Str} {C:Addr} {sp:Sp} {E:XK} {D:Ends}
def SetF (K:W.Frag) (f:Str) (y x:V) (H:Hp) (R:Hp→Prop):Prop:=∃a C dx fs,x=.ref a∧H a=some (.ins C dx fs)∧Cls K C∧NoAttr K C f∧fs.length < 1000∧R (upd H a (.ins C dx (putF f y fs)))
theorem go_sfldB (h:tv σ H fun y H1=>ta σ H1 fun x H2=>SetF K f y x H2 fun H3=>D.nx σ H3):sFld K ta tv f D σ H:=h
theorem w_setF {l dx:Addr} {fs:List (Str×V)} {y:V} {R:Hp→Prop} (ho:H l=some (.ins C dx fs)) (c:Cls K C) (n:NoAttr K C f) (z:fs.length < 1000) (k:∀H',Off l H H'→H' l=some (.ins C dx (putF f y fs))→R H'):SetF K f y (.ref l) H R :=
 ⟨l,C,dx,fs,rfl,ho,c,n,z,k _ Off.upd upd_same⟩
def tMakeB (C:Addr) (sp:Sp) (E:XK) (t:TA):TE:=fun σ H Q=>t σ H fun vs H1=>∀x dx H2,New H1 H2 x (.ins C dx [])→sp (.ref x::vs) H2 (fun v H3=>v=.non∧Q (.ref x) H3) E
theorem go_makeB (h:t σ H fun vs H1=>∀x dx H2,New H1 H2 x (.ins C dx [])→sp (.ref x::vs) H2 (fun v H3=>v=.non∧Q (.ref x) H3) E):tMakeB C sp E t σ H Q:=h
theorem go_methB (h:ta σ H fun x H1=>∃a dx fs,x=.ref a∧H1 a=some (.ins C dx fs)∧fs.lookup m=none∧t σ H1 fun vs H2=>sp (x::vs) H2 Q E):tMeth C m sp [] E ta t σ H Q:=by
 have e:(fun (x:V) (H1:Hp)=>∃a dx fs,x=.ref a∧H1 a=some (.ins C dx fs)∧fs.lookup m=none∧t σ H1 fun vs H2=>sp (x::(vs++[])) H2 Q E)=fun x H1=>∃a dx fs,x=.ref a∧H1 a=some (.ins C dx fs)∧fs.lookup m=none∧t σ H1 fun vs H2=>sp (x::vs) H2 Q E:=by
  simp only [List.append_nil]
 show ta σ H fun x H1=>∃a dx fs,x=.ref a∧H1 a=some (.ins C dx fs)∧fs.lookup m=none∧t σ H1 fun vs H2=>sp (x::(vs++[])) H2 Q E
 rw [e]
 exact h
end
section
variable {X:Cx} {CX:CXT} {k m:Nat} {x:Str} {ps:List Str} {sp:Sp} {E:XK} {p pos:Pos} {e:Expr} {es:List Expr} {t:TA} {C:Addr}
theorem pe_makB (D:Mak X.prog X.w X.K X.mg X.base CX k x C ps sp) (hr:Room m X.A) (ha:PA X (e::es) t) (hk:k + 1≤m:=by decide) (hx:Passes CX X E:=by exact pass0) (hg:Gl X x:=by rfl)
  (hdb:(x == ("__debug__" : Str))=false:=by decide) (he:starEach (e::es) X.env=(false,eval e X.env)::starEach es X.env:=by rfl) (hpl:(backTo pos (starEach es X.env)).any (·.1)=false:=by rfl) :
  PE X (.Call (.Name x p) (e::es) [] pos) (tMakeB C sp E t):=by
 obtain ⟨f,fd,F,M,g,b⟩:=D.ex
 intro pins s σ H Q I h
 refine wpAny_Call_Name_kw (ld_glob I hg g ?_ hdb)
 refine W.callWith_K (h₀:=X.base) I.ok.mod.kin M.kp (thn (ha pos pins s σ H _ I h) fun us s1 ⟨vs,H1,I1,r,q⟩=>⟨I1.kIn,?_⟩) he hpl
 refine run_make M F (hr.mono hk) b .nil hx I1 r fun y dy h1 h2 h3=>?_
 rw [List.append_nil]
 exact q y dy _ ⟨made_same h1 h2,upd_same,fun a u z=>ne_of_none z h1⟩
end
def isFr:V→Int→Bool
 | .int i,lo=>decide (lo≤i)
 | _,_=>false
def inB:V→Int→Int→Bool
 | .int i,lo,hi=>decide (lo≤i) && decide (i≤hi)
 | _,_,_=>false
section
variable {K:W.Frag} {H:Hp} {Q:VK} {E:XK} {x:V} {n:String} {p q:Addr} {a b c lo hi:Int}
def sp_whole (K:W.Frag):Sp:=fun vs H Q _=>∃x n,vs=[x]∧TyOf K H x (.type n)∧Q (.bl (isW x)) H
theorem u_whole (ty:TyOf K H x (.type n)) (k:Q (.bl (isW x)) H):sp_whole K [x] H Q E:=⟨x,n,rfl,ty,k⟩
def sp_is_from (K:W.Frag):Sp:=fun vs H Q _=>∃x n lo,vs=[x,.int lo]∧TyOf K H x (.type n)∧Q (.bl (isFr x lo)) H
theorem u_from (ty:TyOf K H x (.type n)) (k:Q (.bl (isFr x lo)) H):sp_is_from K [x,.int lo] H Q E:=⟨x,n,lo,rfl,ty,k⟩
theorem u_fromI (k:Q (.bl (decide (lo≤a))) H):sp_is_from K [.int a,.int lo] H Q E:=⟨_,_,lo,rfl,.int _,k⟩
def sp_is_within (K:W.Frag):Sp:=fun vs H Q _=>∃x n lo hi,vs=[x,.int lo,.int hi]∧TyOf K H x (.type n)∧Q (.bl (inB x lo hi)) H
theorem u_within (ty:TyOf K H x (.type n)) (k:Q (.bl (inB x lo hi)) H):sp_is_within K [x,.int lo,.int hi] H Q E:=⟨x,n,lo,hi,rfl,ty,k⟩
def sp_is_many (K:W.Frag):Sp:=fun vs H Q _=>∃x n,vs=[x]∧TyOf K H x (.type n)∧Q (.bl (inB x 16 240)) H
def sp_end_of:Sp:=fun vs H Q _=>∃(q:Addr) (a b:Int),vs=[.ref q]∧H q=some (.tup [.int a,.int b])∧Q (.int (a + b)) H
theorem u_end (h:H q=some (.tup [.int a,.int b])) (k:Q (.int (a + b)) H):sp_end_of [.ref q] H Q E:=⟨q,a,b,rfl,h,k⟩
def rowsN (ws:List (Nat×Nat)):List (List V):=ws.map fun w=>[V.int (w.1:Nat),V.int (w.2:Nat)]
def sizesN (ws:List (Nat×Nat)):List Int:=ws.map fun w=>((w.2:Nat):Int)
theorem rowsN_len (ws:List (Nat×Nat)):(rowsN ws).length=ws.length:=List.length_map ..
def sp_largest:Sp:=fun vs H Q _=>∃(p:Addr) (ys:List V) (ws:List (Nat×Nat)),vs=[.ref p]∧H p=some (.lst ys)∧TupsAt H ys (rowsN ws)∧ws.length≤1000∧∀H',Same H H'→Q (.int (maxI 0 (sizesN ws))) H'
def sp_cellA (K:W.Frag):Sp:=fun vs H Q _=>∃(a:Addr) (ns:List Int) (k:Int),vs=[.ref a,.int k]∧SqL K H a (ns.map V.int)∧0≤k∧∀c:Int,Q (.int c) H
theorem u_cellA {ns:List Int} {m:Int} (h:SqL K H p (ns.map V.int)) (h0:0≤m) (k:∀c:Int,Q (.int c) H):sp_cellA K [.ref p,.int m] H Q E:=⟨p,ns,m,rfl,h,h0,k⟩
def sp_boxA:Sp:=fun vs H Q _=>∃c:Int,vs=[.int c]∧∀(p:Addr) (a b:Int) (H':Hp),New H H' p (.lst [.int a,.int b,.int 0])→Q (.ref p) H'
theorem u_boxA (k:∀(p:Addr) (x y:Int) (H':Hp),New H H' p (.lst [.int x,.int y,.int 0])→Q (.ref p) H'):sp_boxA [.int a] H Q E:=⟨a,rfl,k⟩
end
section
variable {K:W.Frag} {g:TG} {tb:TS} {D:Ends} {σ:St} {H H':Hp} {Q:VK} {l p q:Addr} {xs ys:List V} {rows:List (List V)}
theorem forR0_by {n:Nat} (Pv:Nat→St→Hp→Prop) (h0:Pv 0 σ H) (hs:∀i σ H,i < n→Pv i σ H→g (.int i) σ H fun σ2 H2=>tb { D with nx:=Pv (i + 1),ct:=Pv (i + 1),bk:=D.nx } σ2 H2) (hd:∀σ H,Pv n σ H→D.nx σ H):ForR 0 n g tb D σ H :=
 for_range Pv h0 (fun i σ H hi h=>by rw [Int.zero_add];exact hs i σ H hi h) hd
theorem TupsAt.snoc {r:List V} (h:TupsAt H ys rows) (hq:H q=some (.tup r)):TupsAt H (ys++[.ref q]) (rows++[r]):=by
 refine ⟨by rw [List.length_append,List.length_append,h.1];rfl,fun j s z=>?_⟩
 by_cases hj:j < rows.length
 ·rw [List.getElem?_append_left hj] at z
  obtain ⟨x,e1,e2⟩:=h.2 j s z
  exact ⟨x,by rw [List.getElem?_append_left (by rw [h.1];exact hj)];exact e1,e2⟩
 ·have hj2:j=rows.length:=by
   have:=(List.getElem?_eq_some_iff.mp z).1
   rw [List.length_append,List.length_singleton] at this
   lia
  subst hj2
  rw [List.getElem?_append_right (Nat.le_refl _),Nat.sub_self] at z
  cases z
  exact ⟨q,by rw [← h.1,List.getElem?_append_right (Nat.le_refl _),Nat.sub_self];rfl,hq⟩
def IsPair (H:Hp) (v:V):Option (Nat×Nat)→Prop
 | none=>v=.non
 | some w=>∃q,v=.ref q∧H q=some (.tup [.int (w.1:Nat),.int (w.2:Nat)])
theorem IsPair.same {v:V} {o:Option (Nat×Nat)} (s:Same H H') (h:IsPair H v o):IsPair H' v o:=by
 cases o with
 | none=>exact h
 | some w=>obtain ⟨q,e1,e2⟩:=h;exact ⟨q,e1,s _ _ e2⟩
end
def isTup:HO→Bool
 | .tup _=>true
 | .frz _ _=>true
 | _=>false
def Tst (H H':Hp):Prop:=∀q u,isTup u=true→H q=some u→H' q=some u
inductive Im where
 | tup (q:Addr) (r:List V)
 | tps (ys:List V) (rs:List (List V))
 | fct (φ:Hp→Prop) (st:∀H H',Tst H H'→φ H→φ H')
def Im.holds (H:Hp):Im→Prop
 | .tup q r=>H q=some (.tup r)
 | .tps ys rs=>TupsAt H ys rs
 | .fct φ _=>φ H
theorem Im.stay {H H':Hp} (t:Tst H H'):∀{f:Im},f.holds H→f.holds H'
 | .tup q r,h=>t q _ rfl h
 | .tps ys rs,h=>⟨h.1,fun j r e=>let ⟨q,a,b⟩:=h.2 j r e;⟨q,a,t q _ rfl b⟩⟩
 | .fct φ st,h=>st H H' t h
class SH (H0:outParam Hp) (M:outParam (List Addr)) (H:Hp) (L:outParam (List (Addr×HO))) (I:outParam (List Im)):Prop where
 fr:∀b u,b ∉ M→H0 b=some u→H b=some u
 im:∀f∈I,f.holds H
 at':∀c∈L,H c.1=some c.2
 nd:(L.map (·.1)).Nodup
 mu:∀c∈L,isTup c.2=false
 ch:∀c∈L,c.1∈M∨∀b u,H0 b=some u→b≠c.1
inductive Up (l:Addr) (o':HO):List (Addr×HO)→List (Addr×HO)→Prop
 | head {o:HO} {L:List (Addr×HO)}:Up l o' ((l,o)::L) ((l,o')::L)
 | tail {c:Addr×HO} {L L':List (Addr×HO)} (h:Up l o' L L'):Up l o' (c::L) (c::L')
theorem Up.keys {l:Addr} {o':HO} {L L':List (Addr×HO)} (h:Up l o' L L'):L'.map (·.1)=L.map (·.1):=by
 induction h with
 | head=>rfl
 | tail h ih=>rw [List.map_cons,List.map_cons,ih]
theorem Up.mem {l:Addr} {o':HO} {L L':List (Addr×HO)} (h:Up l o' L L'):l∈L.map (·.1):=by
 induction h with
 | head=>exact List.mem_cons_self
 | tail h ih=>exact List.mem_cons_of_mem _ ih
theorem Up.each {l:Addr} {o':HO} {L L':List (Addr×HO)} (h:Up l o' L L') (nd:(L.map (·.1)).Nodup):∀c∈L',c=(l,o')∨(c∈L∧c.1≠l):=by
 induction h with
 | @head o L =>
  intro c hc
  rcases List.mem_cons.mp hc with rfl | hc
  ·exact .inl rfl
  ·refine .inr ⟨List.mem_cons_of_mem _ hc,fun z=>?_⟩
   rw [List.map_cons] at nd
   exact (List.nodup_cons.mp nd).1 (by show l∈_;rw [← z];exact List.mem_map_of_mem (f:=(·.1)) hc)
 | @tail d L L' h ih =>
  intro c hc
  rw [List.map_cons] at nd
  have nd':=List.nodup_cons.mp nd
  rcases List.mem_cons.mp hc with rfl | hc
  ·exact .inr ⟨List.mem_cons_self,fun z=>nd'.1 (z▸h.mem)⟩
  ·rcases ih nd'.2 c hc with e | ⟨e1,e2⟩
   ·exact .inl e
   ·exact .inr ⟨List.mem_cons_of_mem _ e1,e2⟩
theorem Up.src {l:Addr} {o':HO} {L L':List (Addr×HO)} (h:Up l o' L L'):∃o,(l,o)∈L:=by
 induction h with
 | head=>exact ⟨_,List.mem_cons_self⟩
 | tail h ih=>obtain ⟨o,ho⟩:=ih;exact ⟨o,List.mem_cons_of_mem _ ho⟩
inductive Pk (c:Addr×HO):List (Addr×HO)→List (Addr×HO)→Prop
 | head {L:List (Addr×HO)}:Pk c (c::L) L
 | tail {d:Addr×HO} {L R:List (Addr×HO)} (h:Pk c L R):Pk c (d::L) (d::R)
inductive Sb:List (Addr×HO)→List (Addr×HO)→Prop
 | nil {L:List (Addr×HO)}:Sb [] L
 | cons {c:Addr×HO} {L' L R:List (Addr×HO)} (h:Pk c L R) (t:Sb L' R):Sb (c::L') L
theorem Pk.mem {c:Addr×HO} {L R:List (Addr×HO)} (h:Pk c L R):c∈L∧∀d∈R,d∈L:=by
 induction h with
 | head=>exact ⟨List.mem_cons_self,fun d hd=>List.mem_cons_of_mem _ hd⟩
 | tail h ih =>
  refine ⟨List.mem_cons_of_mem _ ih.1,fun d hd=>?_⟩
  rcases List.mem_cons.mp hd with rfl | hd
  ·exact List.mem_cons_self
  ·exact List.mem_cons_of_mem _ (ih.2 d hd)
theorem Pk.nd {c:Addr×HO} {L R:List (Addr×HO)} (h:Pk c L R) (nd:(L.map (·.1)).Nodup):(R.map (·.1)).Nodup∧∀d∈R,d.1≠c.1:=by
 induction h with
 | head =>
  rw [List.map_cons] at nd
  have:=List.nodup_cons.mp nd
  exact ⟨this.2,fun d hd z=>this.1 (z▸List.mem_map_of_mem hd)⟩
 | @tail d L R h ih =>
  rw [List.map_cons] at nd
  have nd':=List.nodup_cons.mp nd
  obtain ⟨i1,i2⟩:=ih nd'.2
  refine ⟨by
   rw [List.map_cons,List.nodup_cons]
   refine ⟨fun z=>?_,i1⟩
   obtain ⟨x,hx,ex⟩:=List.mem_map.mp z
   exact nd'.1 (ex▸List.mem_map_of_mem (h.mem.2 x hx)),fun x hx=>?_⟩
  rcases List.mem_cons.mp hx with rfl | hx
  ·exact fun z=>nd'.1 (z▸List.mem_map_of_mem h.mem.1)
  ·exact i2 x hx
theorem Sb.mem {L' L:List (Addr×HO)} (h:Sb L' L):∀c∈L',c∈L:=by
 induction h with
 | nil=>intro c hc;cases hc
 | cons h t ih =>
  intro c hc
  rcases List.mem_cons.mp hc with rfl | hc
  ·exact h.mem.1
  ·exact h.mem.2 c (ih c hc)
theorem Sb.nd {L' L:List (Addr×HO)} (h:Sb L' L):(L.map (·.1)).Nodup→(L'.map (·.1)).Nodup:=by
 induction h with
 | nil=>intro _;exact List.nodup_nil
 | cons h t ih =>
  intro nd
  obtain ⟨n1,n2⟩:=h.nd nd
  rw [List.map_cons,List.nodup_cons]
  refine ⟨fun z=>?_,ih n1⟩
  obtain ⟨x,hx,ex⟩:=List.mem_map.mp z
  exact n2 x (t.mem x hx) ex
section
variable {H0 H H':Hp} {M:List Addr} {L L':List (Addr×HO)} {I I':List Im} {p q l a:Addr} {o o' u:HO} {xs ys r:List V} {rs:List (List V)} {K:W.Frag}
theorem SH.nil:SH H M H [] []:=⟨fun _ _ _ h=>h,(fun _ h=>by cases h),(fun _ h=>by cases h),List.nodup_nil,(fun _ h=>by cases h),(fun _ h=>by cases h)⟩
theorem SH.addM (F:SH H0 M H0 L I) (hm:p∈M) (h:H0 p=some o) (ht:isTup o=false) (ne:∀c∈L,c.1≠p):SH H0 M H0 ((p,o)::L) I:=by
 refine ⟨F.fr,F.im,?_,?_,?_,?_⟩
 ·intro c hc
  rcases List.mem_cons.mp hc with rfl | hc
  ·exact h
  ·exact F.at' c hc
 ·rw [List.map_cons,List.nodup_cons]
  refine ⟨fun z=>?_,F.nd⟩
  obtain ⟨x,hx,ex⟩:=List.mem_map.mp z
  exact ne x hx ex
 ·intro c hc
  rcases List.mem_cons.mp hc with rfl | hc
  ·exact ht
  ·exact F.mu c hc
 ·intro c hc
  rcases List.mem_cons.mp hc with rfl | hc
  ·exact .inl hm
  ·exact F.ch c hc
theorem SH.addT (F:SH H0 M H L I) (h:H q=some (.tup r)):SH H0 M H L (.tup q r::I):=⟨F.fr,fun f hf=>by
 rcases List.mem_cons.mp hf with rfl | hf
 ·exact h
 ·exact F.im f hf,F.at',F.nd,F.mu,F.ch⟩
theorem SH.addP (F:SH H0 M H L I) (h:TupsAt H ys rs):SH H0 M H L (.tps ys rs::I):=⟨F.fr,fun f hf=>by
 rcases List.mem_cons.mp hf with rfl | hf
 ·exact h
 ·exact F.im f hf,F.at',F.nd,F.mu,F.ch⟩
theorem SH.addF {φ:Hp→Prop} {st:∀H H',Tst H H'→φ H→φ H'} (F:SH H0 M H L I) (h:φ H):SH H0 M H L (.fct φ st::I):=⟨F.fr,fun f hf=>by
 rcases List.mem_cons.mp hf with rfl | hf
 ·exact h
 ·exact F.im f hf,F.at',F.nd,F.mu,F.ch⟩
theorem SH.same (F:SH H0 M H L I) (s:Same H H'):SH H0 M H' L I:=⟨fun b u n e=>s b u (F.fr b u n e),fun f hf=>Im.stay (fun q u _ e=>s q u e) (F.im f hf),fun c hc=>s _ _ (F.at' c hc),F.nd,F.mu,F.ch⟩
theorem SH.newT (F:SH H0 M H L I) (n:New H H' q (.tup r)):SH H0 M H' L (.tup q r::I):=(F.same n.s).addT n.e
theorem SH.newO (F:SH H0 M H L I) (n:New H H' p o) (ht:isTup o=false):SH H0 M H' ((p,o)::L) I:=by
 have F':=F.same n.s
 refine ⟨F'.fr,F'.im,?_,?_,?_,?_⟩
 ·intro c hc
  rcases List.mem_cons.mp hc with rfl | hc
  ·exact n.e
  ·exact F'.at' c hc
 ·rw [List.map_cons,List.nodup_cons]
  refine ⟨fun z=>?_,F.nd⟩
  obtain ⟨x,hx,ex⟩:=List.mem_map.mp z
  exact n.n _ _ (F.at' x hx) ex
 ·intro c hc
  rcases List.mem_cons.mp hc with rfl | hc
  ·exact ht
  ·exact F.mu c hc
 ·intro c hc
  rcases List.mem_cons.mp hc with rfl | hc
  ·by_cases hm:p∈M
   ·exact .inl hm
   ·exact .inr fun b u e z=>by
     by_cases hb:b∈M
     ·exact hm (by have z':b=p:=z;rw [← z'];exact hb)
     ·exact n.n b u (F.fr b u hb e) z
  ·exact F.ch c hc
theorem SH.newL (F:SH H0 M H L I) (n:New H H' p (.lst xs)):SH H0 M H' ((p,.lst xs)::L) I:=F.newO n rfl
theorem SH.newI {C dx:Addr} {fs:List (Str×V)} (F:SH H0 M H L I) (n:New H H' p (.ins C dx fs)):SH H0 M H' ((p,.ins C dx fs)::L) I:=F.newO n rfl
theorem SH.newR (F:SH H0 M H L I) (n:New H H' p (.lst ys)) (t:TupsAt H' ys rs):SH H0 M H' ((p,.lst ys)::L) (.tps ys rs::I):=(F.newL n).addP t
theorem SH.kp (F:SH H0 M H L I) (k:Kp l H H') (e:H' l=some o') (u:Up l o' L L') (ht:isTup o'=false:=by rfl):SH H0 M H' L' I:=by
 obtain ⟨o,ho⟩:=u.src
 have hl:=F.at' _ ho
 have hu:=F.mu _ ho
 refine ⟨fun b w nb e0=>k b w (fun z=>?_) (F.fr b w nb e0),fun f hf=>Im.stay (fun q v hv e1=>k q _ (fun z=>?_) e1) (F.im f hf),fun c hc=>?_,by rw [u.keys];exact F.nd,fun c hc=>?_,fun c hc=>?_⟩
 ·rcases F.ch _ ho with h | h
  ·exact nb (by rw [z];exact h)
  ·exact h b w e0 z
 ·rw [z,hl] at e1
  cases e1
  rw [hu] at hv
  cases hv
 ·rcases u.each F.nd c hc with rfl | ⟨h1,h2⟩
  ·exact e
  ·exact k _ _ h2 (F.at' c h1)
 ·rcases u.each F.nd c hc with rfl | ⟨h1,h2⟩
  ·exact ht
  ·exact F.mu c h1
 ·rcases u.each F.nd c hc with rfl | ⟨h1,h2⟩
  ·exact F.ch (l,o) ho
  ·exact F.ch c h1
theorem SH.offL (F:SH H0 M H L I) (f:Off l H H') (e:H' l=some (.lst xs)) (u:Up l (.lst xs) L L'):SH H0 M H' L' I:=F.kp f.kp e u rfl
theorem SH.kpL (F:SH H0 M H L I) (f:Kp l H H') (e:H' l=some (.lst xs)) (u:Up l (.lst xs) L L'):SH H0 M H' L' I:=F.kp f e u rfl
theorem SH.offI {C dx:Addr} {fs:List (Str×V)} (F:SH H0 M H L I) (f:Off l H H') (e:H' l=some (.ins C dx fs)) (u:Up l (.ins C dx fs) L L'):SH H0 M H' L' I:=F.kp f.kp e u rfl
theorem SH.raw (F:SH H0 M H L I) (m:(a,o)∈L):H a=some o:=F.at' _ m
theorem SH.tup (F:SH H0 M H L I) (m:.tup q r∈I):H q=some (.tup r):=F.im _ m
theorem SH.tps (F:SH H0 M H L I) (m:.tps ys rs∈I):TupsAt H ys rs:=F.im _ m
theorem SH.old (F:SH H0 M H L I) (h:H0 a=some u) (n:a ∉ M):H a=some u:=F.fr a u n h
theorem SH.sq (F:SH H0 M H L I) (h:SqL K H0 a xs) (n:a ∉ M):SqL K H a xs:=by
 rcases h with (h | ⟨o,h⟩) | h
 ·exact .inl (.inl (F.fr a _ n h))
 ·exact .inl (.inr ⟨o,F.fr a _ n h⟩)
 ·exact .inr h
theorem SH.sub (F:SH H0 M H L I) (s:Sb L' L) (t:∀f∈I',f∈I):SH H0 M H L' I':=⟨F.fr,fun f hf=>F.im f (t f hf),fun c hc=>F.at' c (s.mem c hc),s.nd F.nd,fun c hc=>F.mu c (s.mem c hc),fun c hc=>F.ch c (s.mem c hc)⟩
theorem SH.sm (F:SH H0 [] H L I):Same H0 H:=fun b u e=>F.fr b u List.not_mem_nil e
theorem SH.kpo (F:SH H0 [p] H L I):Kp p H0 H:=fun b u n e=>F.fr b u (fun z=>n (List.mem_singleton.mp z)) e
theorem SH.nw (F:SH H0 [] H L I) (m:(q,o)∈L):New H0 H q o:=⟨F.sm,F.at' _ m,fun b u e=>by
 rcases F.ch _ m with h | h
 ·exact absurd h List.not_mem_nil
 ·exact h b u e⟩
theorem SH.fresh (F:SH H0 M H L I) (m:(q,o)∈L) (n:q ∉ M):∀b u,H0 b=some u→b≠q:=fun b u e=>by
 rcases F.ch _ m with h | h
 ·exact absurd h n
 ·exact h b u e
theorem nm0:a ∉ ([]:List Addr):=List.not_mem_nil
theorem nm1 (h:a≠p):a ∉ [p]:=fun z=>h (List.mem_singleton.mp z)
theorem SH.app (F:SH H0 M H L I) (m:.tps ys rs∈I) (m':.tup q r∈I):SH H0 M H L (.tps (ys++[.ref q]) (rs++[r])::I):=F.addP ((F.tps m).snoc (F.tup m'))
end
class Go (G:Prop) (G':outParam Prop):Prop where
 go:G'→G
theorem go1 {G G':Prop} [h:Go G G'] (k:G'):G:=h.go k
class LkL (L:List (Addr×HO)) (a:Addr) (o:outParam HO):Prop where
 m:(a,o)∈L
class LkI (I:List Im) (a:Addr) (r:outParam (List V)):Prop where
 m:.tup a r∈I
class LkP (I:List Im) (ys:List V) (rs:outParam (List (List V))):Prop where
 m:.tps ys rs∈I
class LkU (L:List (Addr×HO)) (l:Addr) (o:HO) (L':outParam (List (Addr×HO))):Prop where
 u:Up l o L L'
class Old (H0:Hp) (M:List Addr) (a:Addr) (o:outParam HO):Prop where
 e:H0 a=some o
 n:a ∉ M
class OldQ (K:W.Frag) (H0:Hp) (M:List Addr) (a:Addr) (xs:outParam (List V)):Prop where
 e:SqL K H0 a xs
 n:a ∉ M
class OldP (H0:Hp) (ys:List V) (rs:outParam (List (List V))):Prop where
 e:TupsAt H0 ys rs
class Hat (H:Hp) (a:Addr) (o:outParam HO):Prop where
 e:H a=some o
class SqA (K:W.Frag) (H:Hp) (a:Addr) (xs:outParam (List V)):Prop where
 e:SqL K H a xs
class SqB (K:W.Frag) (H:Hp) (a:Addr) (xs:outParam (List V)):Prop where
 e:SqT K H a xs
class TpA (H:Hp) (ys:List V) (rs:outParam (List (List V))):Prop where
 e:TupsAt H ys rs
class AtI (xs:List V) (i:Int) (v:outParam V):Prop where
 e:atI xs i=some v
section
variable {H0 H H':Hp} {M:List Addr} {L L':List (Addr×HO)} {I:List Im} {a p l:Addr} {o o':HO} {c:Addr×HO} {f:Im} {r xs ys:List V} {rs:List (List V)} {K:W.Frag} {v v0 v1 v2 v3:V}
instance lkL1 [h:LkL L a o]:LkL (c::L) a o:=⟨List.mem_cons_of_mem _ h.m⟩
instance lkL0:LkL ((a,o)::L) a o:=⟨List.mem_cons_self⟩
instance lkI1 [h:LkI I a r]:LkI (f::I) a r:=⟨List.mem_cons_of_mem _ h.m⟩
instance lkI0:LkI (.tup a r::I) a r:=⟨List.mem_cons_self⟩
instance lkP1 [h:LkP I ys rs]:LkP (f::I) ys rs:=⟨List.mem_cons_of_mem _ h.m⟩
instance lkP0:LkP (.tps ys rs::I) ys rs:=⟨List.mem_cons_self⟩
instance lkU1 [h:LkU L l o L']:LkU (c::L) l o (c::L'):=⟨.tail h.u⟩
instance lkU0:LkU ((l,o')::L) l o ((l,o)::L):=⟨.head⟩
instance hat_old [F:SH H0 M H L I] [h:Old H0 M a o]:Hat H a o:=⟨F.fr a o h.n h.e⟩
instance hat_tup [F:SH H0 M H L I] [h:LkI I a r]:Hat H a (.tup r):=⟨F.tup h.m⟩
instance hat_lst [F:SH H0 M H L I] [h:LkL L a o]:Hat H a o:=⟨F.raw h.m⟩
instance sqA_old [F:SH H0 M H L I] [h:OldQ K H0 M a xs]:SqA K H a xs:=⟨F.sq h.e h.n⟩
instance sqA_hat [h:Hat H a (.lst xs)]:SqA K H a xs:=⟨.of h.e⟩
instance sqB_hat [h:Hat H a (.tup xs)]:SqB K H a xs:=⟨.of h.e⟩
instance tpA_old {H0:Hp} {L:List (Addr×HO)} {I:List Im} [F:SH H0 [] H L I] [h:OldP H0 ys rs]:TpA H ys rs:=⟨h.e.same F.sm⟩
instance tpA_tps [F:SH H0 M H L I] [h:LkP I ys rs]:TpA H ys rs:=⟨F.tps h.m⟩
instance at0:AtI (v::r) 0 v:=⟨atI_0⟩
instance at1:AtI (v0::v::r) 1 v:=⟨atL1⟩
instance at2:AtI (v0::v1::v::r) 2 v:=⟨atL2⟩
instance at3:AtI (v0::v1::v2::v::r) 3 v:=⟨atL3⟩
variable {Z:Addr→Hp→Prop} {R:Hp→Prop} {C dx:Addr} {fs:List (Str×V)}
instance nx_tup [F:SH H0 M H L I]:Go (∀p H',New H H' p (.tup xs)→Z p H') (∀H' p,SH H0 M H' L (.tup p xs::I)→Z p H'):=⟨fun k p H' n=>k H' p (F.newT n)⟩
instance nx_lst [F:SH H0 M H L I]:Go (∀p H',New H H' p (.lst xs)→Z p H') (∀H' p,SH H0 M H' ((p,.lst xs)::L) I→Z p H'):=⟨fun k p H' n=>k H' p (F.newL n)⟩
instance nx_off [F:SH H0 M H L I] [u:LkU L l (.lst xs) L']:Go (∀H',Off l H H'→H' l=some (.lst xs)→R H') (∀H',SH H0 M H' L' I→R H'):=⟨fun k H' f e=>k H' (F.offL f e u.u)⟩
instance nx_offI [F:SH H0 M H L I] [u:LkU L l (.ins C dx fs) L']:Go (∀H',Off l H H'→H' l=some (.ins C dx fs)→R H') (∀H',SH H0 M H' L' I→R H'):=⟨fun k H' f e=>k H' (F.offI f e u.u)⟩
instance nx_kp [F:SH H0 M H L I] [u:LkU L l (.lst xs) L']:Go (∀H',Kp l H H'→H' l=some (.lst xs)→R H') (∀H',SH H0 M H' L' I→R H'):=⟨fun k H' f e=>k H' (F.kpL f e u.u)⟩
instance nx_same [F:SH H0 M H L I]:Go (∀H',Same H H'→R H') (∀H',SH H0 M H' L I→R H'):=⟨fun k H' s=>k H' (F.same s)⟩
def Sd (A B:Prop):Prop:=A∧B
theorem sd {A B:Prop} (a:A) (b:B):Sd A B:=⟨a,b⟩
class FldOk (K:W.Frag) (C:Addr) (f:Str):Prop where
 c:Cls K C
 n:NoAttr K C f
class FLk (fs:List (Str×V)) (f:Str) (v:outParam V):Prop where
 e:fs.lookup f=some v
class FNo (fs:List (Str×V)) (f:Str):Prop where
 e:fs.lookup f=none
theorem SH.nwC {H0:Hp} {L:List (Addr×HO)} {I:List Im} [F:SH H0 [] H L I] [h:LkL L p o]:New H0 H p o:=F.nw h.m
theorem hatC [h:Hat H a o]:H a=some o:=h.e
variable {Q:VK} {E:XK} {R':Prop} {σ:St} {i j:Int} {f m:Str} {y:V} {b:Addr} {lo hi:Option Int}
instance nx_ins [F:SH H0 M H L I] {Z:Addr→Addr→Hp→Prop}:Go (∀x dx H',New H H' x (.ins C dx [])→Z x dx H') (∀H' x dx,SH H0 M H' ((x,.ins C dx [])::L) I→Z x dx H'):=⟨fun k p dx H' n=>k H' p dx (F.newI n)⟩
instance go_made {n:Nat}:Go (n≤sizeLine∧∀p H',New H H' p o→Z p H') (Sd (n≤sizeLine) (∀p H',New H H' p o→Z p H')):=⟨id⟩
instance go_isTT [h:Hat H l (.tup xs)]:Go (rIsT K [.ref l,.ty "tuple"] H Q) (Q (.bl true) H):=⟨w_isTT h.e⟩
instance go_isLL [h:Hat H l (.lst xs)]:Go (rIsT K [.ref l,.ty "list"] H Q) (Q (.bl true) H):=⟨w_isLL h.e⟩
instance go_lenT [h:SqB K H l xs]:Go (rLen K [.ref l] H Q) (Q (.int xs.length) H):=⟨w_lenT h.e⟩
instance go_lenL [h:SqA K H l xs]:Go (rLen K [.ref l] H Q) (Q (.int xs.length) H):=⟨w_lenL h.e⟩
instance go_ixL [h:SqA K H l xs] [e:AtI xs i v]:Go (rIxL K (.ref l) (.int i) H Q) (Q v H):=⟨w_ixL h.e e.e⟩
instance go_ixT [h:SqB K H l xs] [e:AtI xs i v]:Go (rIxT K (.ref l) (.int i) H Q) (Q v H):=⟨w_ixT h.e e.e⟩
instance go_tyL [h:SqA K H l xs]:Go (tyV K "list" (.ref l) H∧R') R':=⟨w_tyL h.e⟩
instance go_app [h:Hat H l (.lst xs)]:Go (rAppA (.ref l) [y] H Q) (Sd (xs.length < sizeLine) (∀H',Off l H H'→H' l=some (.lst (xs++[y]))→Q .non H')):=⟨fun s=>w_app h.e s.1 s.2⟩
instance go_slA [h:SqA K H l xs]:Go (rSlA K (.ref l) lo hi H Q) (∀p H',New H H' p (.lst (cutV xs lo hi))→Q (.ref p) H'):=⟨w_slA h.e⟩
instance go_catA [h:Hat H l (.lst xs)] [h2:Hat H b (.lst ys)]:Go (rCatA (.ref l) (.ref b) H Q) (Sd (xs.length + ys.length≤sizeLine) (∀p H',New H H' p (.lst (xs++ys))→Q (.ref p) H')):=⟨fun s=>w_catA h.e h2.e s.1 s.2⟩
instance go_lofL [h:SqA K H l xs]:Go (rLOfA K [.ref l] H Q) (∀p H',New H H' p (.lst xs)→Q (.ref p) H'):=⟨w_lofL h.e⟩
instance go_rep1 {n:Nat} [h:Hat H l (.lst [y])]:Go (rRepA (.ref l) (.int (n:Int)) H Q) (Sd (n≤1000000) (∀p H',New H H' p (.lst (List.replicate n y))→Q (.ref p) H')):=⟨fun s=>w_rep1 h.e s.1 s.2⟩
instance go_tup2 {n i0 i1:Nat} {a b:V} {R:St→Hp→Prop} [h:SqB K H l [a,b]]:Go (gTup K n (gCons (gName i0) (gCons (gName i1) gNil)) (.ref l) σ H R) (Sd (n=2) (gName i0 a σ H fun σ1 H1=>gName i1 b σ1 H1 R)):=⟨fun s=>w_tupB s.1 h.e s.2⟩
instance go_mod {f:Int→Int→V}:Go (rI (fun _ j=>0 < j) f (.int i) (.int j) H Q) (Sd (0 < j) (Q (f i j) H)):=⟨fun s=>w_mod s.1 s.2⟩
instance go_div {f:Int→Int→V}:Go (rI CDiv f (.int i) (.int j) H Q) (Sd (0 < j∧j < 1073741824) (Q (f i j) H)):=⟨fun s=>w_div s.1.1 s.1.2 s.2⟩
instance go_pow {f:Int→Int→V}:Go (rI CPow f (.int i) (.int j) H Q) (Sd (0≤j∧j≤1000000∧i.natAbs < 2 ^ 64) (Q (f i j) H)):=⟨fun s=>w_pow s.1.1 s.1.2.1 s.1.2.2 s.2⟩
instance go_mul {f:Int→Int→V}:Go (rI CMul f (.int i) (.int j) H Q) (Sd ((-(2 ^ 64) < i∧i < 2 ^ 64)∨(-(2 ^ 64) < j∧j < 2 ^ 64)) (Q (f i j) H)):=⟨fun s=>s.1.elim (fun h=>w_mulL h.1 h.2 s.2) (fun h=>w_mulR h.1 h.2 s.2)⟩
instance go_w_fld [h:Hat H a (.ins C dx fs)] [k:FldOk K C f] [e:FLk fs f v] {R:V→Prop}:Go (∃a' C' dx' fs' v',V.ref a=.ref a'∧H a'=some (.ins C' dx' fs')∧Cls K C'∧NoAttr K C' f∧fs'.lookup f=some v'∧R v') (R v):=⟨w_fld h.e k.c k.n e.e⟩
instance go_w_meth [h:Hat H l (.ins C dx fs)] [e:FNo fs m]:Go (∃a' dx' fs',V.ref l=.ref a'∧H a'=some (.ins C dx' fs')∧fs'.lookup m=none∧R') R':=⟨w_meth h.e e.e⟩
instance go_setF [h:Hat H l (.ins C dx fs)] [k:FldOk K C f]:Go (SetF K f y (.ref l) H R) (Sd (fs.length < 1000) (∀H',Off l H H'→H' l=some (.ins C dx (putF f y fs))→R H')):=⟨fun s=>w_setF h.e k.c k.n s.1 s.2⟩
end
instance go_go_seq {σ:L2.St} {H:Hp} {D:Ends} {s u:TS}:Go (tSeq s u D σ H) (s (Ends.mk (u D) (Ends.rt D) (Ends.bk D) (Ends.ct D)) σ H):=⟨go_seq⟩
instance go_go_asg {σ:L2.St} {H:Hp} {t:TE} {D:Ends} {tg:TG}:Go (tAsg t tg D σ H) ((t σ H fun (x:V) (H1:Hp) ↦ tg x σ H1 (Ends.nx D))):=⟨go_asg⟩
instance go_go_ret {σ:L2.St} {H:Hp} {t:TE} {D:Ends}:Go (tRet t D σ H) (t σ H (Ends.rt D)):=⟨go_ret⟩
instance go_go_if {σ:L2.St} {H:Hp} {D:Ends} {s u:TS} {c:TT}:Go (tIfS c s u D σ H) ((c σ H fun (b:Bool) (H1:Hp) ↦ if b=true then s D σ H1 else u D σ H1)):=⟨go_if⟩
instance go_go_drop {σ:L2.St} {H:Hp} {t:TE} {D:Ends}:Go (tDrop t D σ H) ((t σ H fun (x:V) (H1:Hp) ↦ Ends.nx D σ H1)):=⟨go_drop⟩
instance go_go_next {σ:L2.St} {H:Hp} {D:Ends}:Go (tNext D σ H) (Ends.nx D σ H):=⟨go_next⟩
instance go_go_nx {σ:L2.St} {H:Hp} {nx bk ct:L2.St→Hp→Prop} {rt:VK}:Go (Ends.nx (Ends.mk nx rt bk ct) σ H) (nx σ H):=⟨go_nx⟩
instance go_w_rt {H:Hp} {v:V} {nx bk ct:L2.St→Hp→Prop} {rt:VK}:Go (Ends.rt (Ends.mk nx rt bk ct) v H) (rt v H):=⟨w_rt⟩
instance go_go_test {σ:L2.St} {H:Hp} {t:TE} {Q:Bool→Hp→Prop}:Go (tTest t σ H Q) ((t σ H fun (x:V) (H':Hp) ↦ ∃(k:Bool),x=V.bl k∧Q k H')):=⟨go_test⟩
instance go_go_b {σ:L2.St} {H:Hp} {t:TE} {Q:Bool→Hp→Prop}:Go (tB t σ H Q) ((t σ H fun (x:V) (H':Hp) ↦ ∃(k:Bool),x=V.bl k∧Q k H')):=⟨go_b⟩
instance go_go_op {σ:L2.St} {H:Hp} {ta tb:TE} {Q:VK} {r:R2}:Go (tOp r ta tb σ H Q) ((ta σ H fun (x:V) (H1:Hp) ↦ tb σ H1 fun (y:V) (H2:Hp) ↦ r x y H2 Q)):=⟨go_op⟩
instance go_go_cb {σ:L2.St} {H:Hp} {tr:TA} {Q:VK} {r:List V→Hp→VK→Prop}:Go (tCB r tr σ H Q) ((tr σ H fun (vs:List V) (H1:Hp) ↦ r vs H1 Q)):=⟨go_cb⟩
instance go_go_cons {σ:L2.St} {H:Hp} {t:TE} {tr:TA} {Q:List V→Hp→Prop}:Go (tCons t tr σ H Q) ((t σ H fun (x:V) (H1:Hp) ↦ tr σ H1 fun (xs:List V) (H2:Hp) ↦ Q (x::xs) H2)):=⟨go_cons⟩
instance go_go_nil {σ:L2.St} {H:Hp} {Q:List V→Hp→Prop}:Go (tNil σ H Q) (Q [] H):=⟨go_nil⟩
instance go_w_call {σ:L2.St} {H:Hp} {Q:VK} {tr:TA} {sp:Sp} {E:XK}:Go (tCall sp [] E tr σ H Q) ((tr σ H fun (vs:List V) (H1:Hp) ↦ sp vs H1 Q E)):=⟨w_call⟩
instance go_w_c {σ:L2.St} {H:Hp} {Q:VK} {v:V}:Go (tC v σ H Q) (Q v H):=⟨w_c⟩
instance go_wv0 {H:Hp} {Q:VK} {v:V} {r:L2.St}:Go (tVar 0 (some v::r) H Q) (Q v H):=⟨wv0⟩
instance go_wv1 {H:Hp} {Q:VK} {v:V} {o0:Option V} {r:L2.St}:Go (tVar 1 (o0::some v::r) H Q) (Q v H):=⟨wv1⟩
instance go_wv2 {H:Hp} {Q:VK} {v:V} {o0 o1:Option V} {r:L2.St}:Go (tVar 2 (o0::o1::some v::r) H Q) (Q v H):=⟨wv2⟩
instance go_wv3 {H:Hp} {Q:VK} {v:V} {o0 o1 o2:Option V} {r:L2.St}:Go (tVar 3 (o0::o1::o2::some v::r) H Q) (Q v H):=⟨wv3⟩
instance go_wv4 {H:Hp} {Q:VK} {v:V} {o0 o1 o2 o3:Option V} {r:L2.St}:Go (tVar 4 (o0::o1::o2::o3::some v::r) H Q) (Q v H):=⟨wv4⟩
instance go_wv5 {H:Hp} {Q:VK} {v:V} {o0 o1 o2 o3 o4:Option V} {r:L2.St}:Go (tVar 5 (o0::o1::o2::o3::o4::some v::r) H Q) (Q v H):=⟨wv5⟩
instance go_wv6 {H:Hp} {Q:VK} {v:V} {o0 o1 o2 o3 o4 o5:Option V} {r:L2.St}:Go (tVar 6 (o0::o1::o2::o3::o4::o5::some v::r) H Q) (Q v H):=⟨wv6⟩
instance go_wv7 {H:Hp} {Q:VK} {v:V} {o0 o1 o2 o3 o4 o5 o6:Option V} {r:L2.St}:Go (tVar 7 (o0::o1::o2::o3::o4::o5::o6::some v::r) H Q) (Q v H):=⟨wv7⟩
instance go_wv8 {H:Hp} {Q:VK} {v:V} {o0 o1 o2 o3 o4 o5 o6 o7:Option V} {r:L2.St}:Go (tVar 8 (o0::o1::o2::o3::o4::o5::o6::o7::some v::r) H Q) (Q v H):=⟨wv8⟩
instance go_wv9 {H:Hp} {Q:VK} {v:V} {o0 o1 o2 o3 o4 o5 o6 o7 o8:Option V} {r:L2.St}:Go (tVar 9 (o0::o1::o2::o3::o4::o5::o6::o7::o8::some v::r) H Q) (Q v H):=⟨wv9⟩
instance go_wv10 {H:Hp} {Q:VK} {v:V} {o0 o1 o2 o3 o4 o5 o6 o7 o8 o9:Option V} {r:L2.St}:Go (tVar 10 (o0::o1::o2::o3::o4::o5::o6::o7::o8::o9::some v::r) H Q) (Q v H):=⟨wv10⟩
instance go_wv11 {H:Hp} {Q:VK} {v:V} {o0 o1 o2 o3 o4 o5 o6 o7 o8 o9 o10:Option V} {r:L2.St}:Go (tVar 11 (o0::o1::o2::o3::o4::o5::o6::o7::o8::o9::o10::some v::r) H Q) (Q v H):=⟨wv11⟩
instance go_wv12 {H:Hp} {Q:VK} {v:V} {o0 o1 o2 o3 o4 o5 o6 o7 o8 o9 o10 o11:Option V} {r:L2.St}:Go (tVar 12 (o0::o1::o2::o3::o4::o5::o6::o7::o8::o9::o10::o11::some v::r) H Q) (Q v H):=⟨wv12⟩
instance go_wv13 {H:Hp} {Q:VK} {v:V} {o0 o1 o2 o3 o4 o5 o6 o7 o8 o9 o10 o11 o12:Option V} {r:L2.St}:Go (tVar 13 (o0::o1::o2::o3::o4::o5::o6::o7::o8::o9::o10::o11::o12::some v::r) H Q) (Q v H):=⟨wv13⟩
instance go_wn1 {H:Hp} {v:V} {o0 o:Option V} {r:L2.St} {R:L2.St→Hp→Prop}:Go (gName 1 v (o0::o::r) H R) (R (o0::some v::r) H):=⟨wn1⟩
instance go_wn2 {H:Hp} {v:V} {o0 o1 o:Option V} {r:L2.St} {R:L2.St→Hp→Prop}:Go (gName 2 v (o0::o1::o::r) H R) (R (o0::o1::some v::r) H):=⟨wn2⟩
instance go_wn3 {H:Hp} {v:V} {o0 o1 o2 o:Option V} {r:L2.St} {R:L2.St→Hp→Prop}:Go (gName 3 v (o0::o1::o2::o::r) H R) (R (o0::o1::o2::some v::r) H):=⟨wn3⟩
instance go_wn4 {H:Hp} {v:V} {o0 o1 o2 o3 o:Option V} {r:L2.St} {R:L2.St→Hp→Prop}:Go (gName 4 v (o0::o1::o2::o3::o::r) H R) (R (o0::o1::o2::o3::some v::r) H):=⟨wn4⟩
instance go_wn5 {H:Hp} {v:V} {o0 o1 o2 o3 o4 o:Option V} {r:L2.St} {R:L2.St→Hp→Prop}:Go (gName 5 v (o0::o1::o2::o3::o4::o::r) H R) (R (o0::o1::o2::o3::o4::some v::r) H):=⟨wn5⟩
instance go_wn6 {H:Hp} {v:V} {o0 o1 o2 o3 o4 o5 o:Option V} {r:L2.St} {R:L2.St→Hp→Prop}:Go (gName 6 v (o0::o1::o2::o3::o4::o5::o::r) H R) (R (o0::o1::o2::o3::o4::o5::some v::r) H):=⟨wn6⟩
instance go_wn7 {H:Hp} {v:V} {o0 o1 o2 o3 o4 o5 o6 o:Option V} {r:L2.St} {R:L2.St→Hp→Prop}:Go (gName 7 v (o0::o1::o2::o3::o4::o5::o6::o::r) H R) (R (o0::o1::o2::o3::o4::o5::o6::some v::r) H):=⟨wn7⟩
instance go_wn8 {H:Hp} {v:V} {o0 o1 o2 o3 o4 o5 o6 o7 o:Option V} {r:L2.St} {R:L2.St→Hp→Prop}:Go (gName 8 v (o0::o1::o2::o3::o4::o5::o6::o7::o::r) H R) (R (o0::o1::o2::o3::o4::o5::o6::o7::some v::r) H):=⟨wn8⟩
instance go_wn9 {H:Hp} {v:V} {o0 o1 o2 o3 o4 o5 o6 o7 o8 o:Option V} {r:L2.St} {R:L2.St→Hp→Prop}:Go (gName 9 v (o0::o1::o2::o3::o4::o5::o6::o7::o8::o::r) H R) (R (o0::o1::o2::o3::o4::o5::o6::o7::o8::some v::r) H):=⟨wn9⟩
instance go_wn10 {H:Hp} {v:V} {o0 o1 o2 o3 o4 o5 o6 o7 o8 o9 o:Option V} {r:L2.St} {R:L2.St→Hp→Prop}:Go (gName 10 v (o0::o1::o2::o3::o4::o5::o6::o7::o8::o9::o::r) H R) (R (o0::o1::o2::o3::o4::o5::o6::o7::o8::o9::some v::r) H):=⟨wn10⟩
instance go_wn11 {H:Hp} {v:V} {o0 o1 o2 o3 o4 o5 o6 o7 o8 o9 o10 o:Option V} {r:L2.St} {R:L2.St→Hp→Prop}:Go (gName 11 v (o0::o1::o2::o3::o4::o5::o6::o7::o8::o9::o10::o::r) H R) (R (o0::o1::o2::o3::o4::o5::o6::o7::o8::o9::o10::some v::r) H):=⟨wn11⟩
instance go_wn12 {H:Hp} {v:V} {o0 o1 o2 o3 o4 o5 o6 o7 o8 o9 o10 o11 o:Option V} {r:L2.St} {R:L2.St→Hp→Prop}:Go (gName 12 v (o0::o1::o2::o3::o4::o5::o6::o7::o8::o9::o10::o11::o::r) H R) (R (o0::o1::o2::o3::o4::o5::o6::o7::o8::o9::o10::o11::some v::r) H):=⟨wn12⟩
instance go_wn13 {H:Hp} {v:V} {o0 o1 o2 o3 o4 o5 o6 o7 o8 o9 o10 o11 o12 o:Option V} {r:L2.St} {R:L2.St→Hp→Prop}:Go (gName 13 v (o0::o1::o2::o3::o4::o5::o6::o7::o8::o9::o10::o11::o12::o::r) H R) (R (o0::o1::o2::o3::o4::o5::o6::o7::o8::o9::o10::o11::o12::some v::r) H):=⟨wn13⟩
instance go_w_i0 {H:Hp} {Q:VK} {i j:Int} {f:Int→Int→V}:Go (rI0 f (V.int i) (V.int j) H Q) (Q (f i j) H):=⟨w_i0⟩
instance go_w_u {H:Hp} {Q:VK} {i:Int} {g:Int→V}:Go (rU g (V.int i) H Q) (Q (g i) H):=⟨w_u⟩
instance go_w_un {σ:L2.St} {H:Hp} {Q:VK} {ta:TE} {r:V→Hp→VK→Prop}:Go (tUn r ta σ H Q) ((ta σ H fun (x:V) (H1:Hp) ↦ r x H1 Q)):=⟨w_un⟩
instance go_w_eqi {H:Hp} {Q:VK} {i j:Int}:Go (rEq (V.int i) (V.int j) H Q) (Q (V.bl (decide (i=j))) H):=⟨w_eqi⟩
instance go_w_nei {H:Hp} {Q:VK} {i j:Int}:Go (rNe (V.int i) (V.int j) H Q) (Q (V.bl !decide (i=j)) H):=⟨w_nei⟩
instance go_w_eqs {H:Hp} {Q:VK} {a b:Str}:Go (rEq (V.str a) (V.str b) H Q) (Q (V.bl (decide (a=b))) H):=⟨w_eqs⟩
instance go_w_eqb {H:Hp} {Q:VK} {a b:Bool}:Go (rEq (V.bl a) (V.bl b) H Q) (Q (V.bl (decide (a=b))) H):=⟨w_eqb⟩
instance go_w_bl {k:Bool} {R:Bool→Prop}:Go (∃(c:Bool),V.bl k=V.bl c∧R c) (R k):=⟨w_bl⟩
instance go_w_not {σ:L2.St} {H:Hp} {c:TT} {R:Bool→Hp→Prop}:Go (tNot c σ H R) ((c σ H fun (b:Bool) (H1:Hp) ↦ R (!b) H1)):=⟨w_not⟩
instance go_w_and {σ:L2.St} {H:Hp} {c d:TT} {R:Bool→Hp→Prop}:Go (tAnd c d σ H R) ((c σ H fun (b:Bool) (H1:Hp) ↦ if b=true then d σ H1 R else R false H1)):=⟨w_and⟩
instance go_w_or {σ:L2.St} {H:Hp} {c d:TT} {R:Bool→Hp→Prop}:Go (tOr c d σ H R) ((c σ H fun (b:Bool) (H1:Hp) ↦ if b=true then R true H1 else d σ H1 R)):=⟨w_or⟩
instance go_w_notV {σ:L2.St} {H:Hp} {Q:VK} {ta:TE}:Go (tNotV ta σ H Q) ((ta σ H fun (x:V) (H1:Hp) ↦ ∃(c:Bool),x=V.bl c∧Q (V.bl !c) H1)):=⟨w_notV⟩
instance go_w_andV {σ:L2.St} {H:Hp} {Q:VK} {ta tb:TE}:Go (tAndV ta tb σ H Q) ((ta σ H fun (x:V) (H1:Hp) ↦ ∃(c:Bool),x=V.bl c∧if c=true then tb σ H1 Q else Q (V.bl false) H1)):=⟨w_andV⟩
instance go_w_chain {σ:L2.St} {H:Hp} {Q:VK} {ta tb tc:TE} {r r':R2}:Go (tChain r r' ta tb tc σ H Q) ((ta σ H fun (x:V) (H1:Hp) ↦ tb σ H1 fun (y:V) (H2:Hp) ↦ r x y H2 fun (z:V) (H3:Hp) ↦ ∃(k:Bool),z=V.bl k∧if k=true then tc σ H3 fun (w:V) (H4:Hp) ↦ r' y w H4 Q else Q (V.bl false) H3)):=⟨w_chain⟩
instance go_w_bm {σ:L2.St} {H:Hp} {Q:VK} {K:W.Frag} {tr:TA} {T:String} {r:V→List V→Hp→VK→Prop} {to:TE}:Go (tBM K T r to tr σ H Q) ((to σ H fun (x:V) (H1:Hp) ↦ tyV K T x H1∧tr σ H1 fun (xs:List V) (H2:Hp) ↦ r x xs H2 Q)):=⟨w_bm⟩
instance go_w_sub {σ:L2.St} {H:Hp} {v:V} {to ti:TE} {ts:TSet} {R:L2.St→Hp→Prop}:Go (gSub to ti ts v σ H R) ((to σ H fun (o:V) (H1:Hp) ↦ ti σ H1 fun (i:V) (H2:Hp) ↦ ts o i v H2 fun (H3:Hp) ↦ R σ H3)):=⟨w_sub⟩
instance go_w_slice {σ:L2.St} {H:Hp} {Q:VK} {t:TE} {r:V→Option Int→Option Int→Hp→VK→Prop} {tl th:TO}:Go (tSl r t tl th σ H Q) ((t σ H fun (x:V) (H1:Hp) ↦ tl σ H1 fun (l:Option Int) (H2:Hp) ↦ th σ H2 fun (u:Option Int) (H3:Hp) ↦ r x l u H3 Q)):=⟨w_slice⟩
instance go_w_noPart {σ:L2.St} {H:Hp} {R:Option Int→Hp→Prop}:Go (tNoPart σ H R) (R none H):=⟨w_noPart⟩
instance go_w_part {σ:L2.St} {H:Hp} {t:TE} {R:Option Int→Hp→Prop}:Go (tPart t σ H R) ((t σ H fun (x:V) (H1:Hp) ↦ ∃(i:Int),x=V.int i∧R (some i) H1)):=⟨w_part⟩
instance go_w_int {i:Int} {R:Int→Prop}:Go (∃(k:Int),V.int i=V.int k∧R k) (R i):=⟨w_int⟩
instance go_w_max {H:Hp} {Q:VK} {i j:Int}:Go (rMax2 [V.int i,V.int j] H Q) (Q (V.int (max i j)) H):=⟨w_max⟩
instance go_w_min {H:Hp} {Q:VK} {i j:Int}:Go (rMin2 [V.int i,V.int j] H Q) (Q (V.int (min i j)) H):=⟨w_min⟩
instance go_w_intB {H:Hp} {Q:VK} {k:Bool}:Go (rInt1 [V.bl k] H Q) (Q (V.int (if k=true then 1 else 0)) H):=⟨w_intB⟩
instance go_go_tupA {σ:L2.St} {H:Hp} {tr:TA} {Q:VK}:Go (tTupA tr σ H Q) ((tr σ H fun (xs:List V) (H1:Hp) ↦ List.length xs≤sizeLine∧∀(p:Addr) (H':Hp),New H1 H' p (HO.tup xs)→Q (V.ref p) H')):=⟨go_tupA⟩
instance go_go_lstA {σ:L2.St} {H:Hp} {tr:TA} {Q:VK}:Go (tLstA tr σ H Q) ((tr σ H fun (xs:List V) (H1:Hp) ↦ List.length xs≤sizeLine∧∀(p:Addr) (H':Hp),New H1 H' p (HO.lst xs)→Q (V.ref p) H')):=⟨go_lstA⟩
instance go_w_isNB {H:Hp} {Q:VK} {a b:Bool}:Go (rIsNB (V.bl a) (V.bl b) H Q) (Q (V.bl !decide (a=b)) H):=⟨w_isNB⟩
instance go_go_fld {K:W.Frag} {σ:L2.St} {H:Hp} {Q:VK} {ta:TE} {f:Str}:Go (tFld K ta f σ H Q) ((ta σ H fun (x:V) (H1:Hp) ↦ ∃(a:Addr),∃(C:Addr),∃(dx:Addr),∃(fs:List (Str×V)),∃(v:V),x=V.ref a∧H1 a=some (HO.ins C dx fs)∧Cls K C∧NoAttr K C f∧List.lookup f fs=some v∧Q v H1)):=⟨go_fld⟩
instance go_go_methB {σ:L2.St} {H:Hp} {Q:VK} {ta:TE} {t:TA} {m:Str} {C:Addr} {sp:Sp} {E:XK}:Go (tMeth C m sp [] E ta t σ H Q) ((ta σ H fun (x:V) (H1:Hp) ↦ ∃(a:Addr),∃(dx:Addr),∃(fs:List (Str×V)),x=V.ref a∧H1 a=some (HO.ins C dx fs)∧List.lookup m fs=none∧t σ H1 fun (vs:List V) (H2:Hp) ↦ sp (x::vs) H2 Q E)):=⟨go_methB⟩
instance go_go_makeB {σ:L2.St} {H:Hp} {Q:VK} {t:TA} {C:Addr} {sp:Sp} {E:XK}:Go (tMakeB C sp E t σ H Q) ((t σ H fun (vs:List V) (H1:Hp) ↦ ∀(x dx:Addr) (H2:Hp),New H1 H2 x (HO.ins C dx [])→sp (V.ref x::vs) H2 (fun (v:V) (H3:Hp) ↦ v=V.non∧Q (V.ref x) H3) E)):=⟨go_makeB⟩
instance go_go_sfldB {K:W.Frag} {σ:L2.St} {H:Hp} {ta tv:TE} {f:Str} {D:Ends}:Go (sFld K ta tv f D σ H) ((tv σ H fun (y:V) (H1:Hp) ↦ ta σ H1 fun (x:V) (H2:Hp) ↦ SetF K f y x H2 fun (H3:Hp) ↦ Ends.nx D σ H3)):=⟨go_sfldB⟩
instance go_w_isIB {H:Hp} {Q:VK} {K:W.Frag} {i:Int}:Go (rIsT K [V.int i,V.ty "bool"] H Q) (Q (V.bl false) H):=⟨w_isIB⟩
instance go_w_isBB {H:Hp} {Q:VK} {K:W.Frag} {b:Bool}:Go (rIsT K [V.bl b,V.ty "bool"] H Q) (Q (V.bl true) H):=⟨w_isBB⟩
instance go_i_tt {A B:Prop}:Go (if true=true then A else B) (A):=⟨i_tt⟩
instance go_i_ff {A B:Prop}:Go (if false=true then A else B) (B):=⟨i_ff⟩
instance go_i_ntt {A B:Prop}:Go (if (!true)=true then A else B) (B):=⟨i_ntt⟩
instance go_i_nff {A B:Prop}:Go (if (!false)=true then A else B) (A):=⟨i_nff⟩
instance go_go_ck {t:TA} {tv:TE} {r:List V→V→Hp→VK→Prop} {σ:L2.St} {H:Hp} {Q:VK}:Go (tCK r t tv σ H Q) ((t σ H fun (xs:List V) (H1:Hp) ↦ tv σ H1 fun (y:V) (H2:Hp) ↦ r xs y H2 Q)):=⟨go_ck⟩
instance go_w_forE {K:W.Frag} {g:TG} {tb:TS} {D:Ends} {σ:L2.St} {H:Hp} {tr:TA}:Go (tFor (iEnum K tr) g tb D σ H) ((tr σ H fun (vs:List V) (H1:Hp) ↦ ∃(a:Addr),∃(xs:List V),vs=[V.ref a]∧SqL K H1 a xs∧ForE K a xs g tb D σ H1)):=⟨w_forE⟩
instance go_w_forR1 {g:TG} {tb:TS} {D:Ends} {σ:L2.St} {H:Hp} {tr:TA}:Go (tFor (iRng1 tr) g tb D σ H) ((tr σ H fun (vs:List V) (H1:Hp) ↦ ∃(j:Int),vs=[V.int j]∧-2 ^ 62≤j∧j < 2 ^ 62∧ForR 0 (Int.toNat j) g tb D σ H1)):=⟨w_forR1⟩
instance go_w_forR2 {g:TG} {tb:TS} {D:Ends} {σ:L2.St} {H:Hp} {tr:TA}:Go (tFor (iRng2 tr) g tb D σ H) ((tr σ H fun (vs:List V) (H1:Hp) ↦ ∃(i:Int),∃(j:Int),vs=[V.int i,V.int j]∧(-2 ^ 62≤i∧i < 2 ^ 62∧-2 ^ 62≤j∧j < 2 ^ 62)∧ForR i (Int.toNat (j - i)) g tb D σ H1)):=⟨w_forR2⟩
instance go_w_forL {K:W.Frag} {te:TE} {g:TG} {tb:TS} {D:Ends} {σ:L2.St} {H:Hp}:Go (tFor (iList K te) g tb D σ H) ((te σ H fun (x:V) (H1:Hp) ↦ ∃(a:Addr),x=V.ref a∧(∃(xs:List V),SqL K H1 a xs)∧ForL K a g tb D σ H1)):=⟨w_forL⟩
instance go_w_compL {K:W.Frag} {t0 te:TE} {nt:Nat} {fr:List Nat} {g:TG} {c:TT} {σ:L2.St} {H:Hp} {Q:VK}:Go (tComp (iList K t0) nt fr g c te σ H Q) ((t0 σ H fun (x:V) (H1:Hp) ↦ ∃(a:Addr),x=V.ref a∧(∃(xs:List V),SqL K H1 a xs)∧CompAll (Itl K a) nt fr g c te σ H1 Q)):=⟨w_compL⟩
section
variable {K:W.Frag} {H:Hp} {Q:VK} {E:XK} {x:V} {n:String} {p q:Addr} {a b c lo hi:Int} {ns:List Int} {m:Int}
instance go_fromI:Go (sp_is_from K [.int a,.int lo] H Q E) (Q (.bl (decide (lo≤a))) H):=⟨u_fromI⟩
instance go_withinT:Go (sp_is_within K [.int a,.int lo,.int hi] H Q E) (Q (.bl (decide (lo≤a) && decide (a≤hi))) H):=⟨fun k=>⟨_,_,lo,hi,rfl,.int _,k⟩⟩
instance go_manyI:Go (sp_is_many K [.int a] H Q E) (Q (.bl (decide (16≤a) && decide (a≤240))) H):=⟨fun k=>⟨_,_,rfl,.int _,k⟩⟩
instance go_endof [h:Hat H q (.tup [.int a,.int b])]:Go (sp_end_of [.ref q] H Q E) (Q (.int (a + b)) H):=⟨u_end h.e⟩
instance go_cellA [h:SqA K H p (ns.map V.int)]:Go (sp_cellA K [.ref p,.int m] H Q E) (Sd (0≤m) (∀c:Int,Q (.int c) H)):=⟨fun s=>u_cellA h.e s.1 s.2⟩
instance go_boxA:Go (sp_boxA [.int a] H Q E) (∀x y:Int,∀(p:Addr) (H':Hp),New H H' p (.lst [.int x,.int y,.int 0])→Q (.ref p) H'):=⟨fun k=>u_boxA fun p x y H' n=>k x y p H' n⟩
end
end L2
namespace L2
open PySem PySem.Spec PyProof.Rows
def Itq (lo st:Int) (n:Nat):It:={ go:=fun i _=>i < n,yld:=fun i H x H'=>H'=H∧x=.int (lo + i * st),stop:=fun i _=>n≤i }
theorem turn_steps {P:Program} {w:World} {K:W.Frag} {tg:Expr} (z:Addr) (lo st:Int) (n:Nat):Turn P w K tg (Itq lo st n) [z] z (fun i h=>IsRangeIter h z (lo + (i:Nat) * st) ((n:Int) - (i:Nat)) st):=by
 refine ⟨List.mem_singleton.mpr rfl,?_,?_,?_,?_,fun _ _ _ _ _ g h=>wpAny_pyIter_rangeiter g h⟩
 ·intro i h g b hb
  rw [List.mem_singleton.mp hb]
  refine ⟨_,g,fun v y=>?_⟩
  have y:Data.fields _=Data.cell v:=y
  cases y
 ·exact fun i h h' g k=>k z (List.mem_singleton.mpr rfl) _ g
 ·intro X e1 e2 e3 hc i pins s σ H E I hf g hg
  subst e1
  subst e2
  subst e3
  have fp:=hf z (List.mem_singleton.mpr rfl)
  refine (Walks.range (prog:=X.prog) (w:=X.w) (I.ok.hd hc) z lo st n).item i s _ _ hg g ?_
  rintro v h' tk ⟨t,rfl⟩ g2 kk
  have I1:Inv X pins σ H { s with heap:=h',toks:=tk }:=by
   refine I.turned (it:=z) (fun b o hb e=>kk b o (fun y=>hb (List.mem_singleton.mp y)) e) ?_ ?_ ?_ ?_ ?_
   ·exact fp.1
   ·exact fp.2.1
   ·exact fp.2.2.2.1
   ·exact fp.2.2.2.2.1
   ·exact fp.2.2.2.2.2
  exact ⟨_,rfl,go_of (s:={ s with heap:=h',toks:=tk }) (n := "range_iterator") g2 rfl rfl (by decide) ⟨.int (lo + i * st),H,I1,⟨t,rfl⟩,⟨rfl,rfl⟩,g2,fun b hb=>(hf b hb).1⟩⟩
 ·intro X e1 e2 e3 hc i pins s σ H E I hf g hg
  subst e1
  subst e2
  subst e3
  have fp:=hf z (List.mem_singleton.mpr rfl)
  have hg:n≤i:=hg
  refine wpAny_pyNext_range_end (I.ok.hd hc) g (by lia) fun h' eb=>⟨rfl,?_⟩
  refine I.turned (it:=z) (t':=s.toks) (fun b o hb e=>eb b o hb e) ?_ ?_ ?_ ?_ ?_
  ·exact fp.1
  ·exact fp.2.1
  ·exact fp.2.2.2.1
  ·exact fp.2.2.2.2.1
  ·exact fp.2.2.2.2.2
section
variable {tr:TA} {g:TG} {tb:TS} {D:Ends} {σ:St} {H:Hp}
def ForS (lo st:Int) (n:Nat) (g:TG) (tb:TS) (D:Ends) (σ:St) (H:Hp):Prop:=∃W:Nat→Nat→St→Hp→Prop,(∃m,W 0 m σ H)∧∀i m σ H,W i m σ H →
      ((Itq lo st n).stop i H∧D.nx σ H)∨((Itq lo st n).go i H∧∃N:St→Hp→Prop,(∀σ' H',N σ' H'→∃m',m' < m∧W (i + 1) m' σ' H')∧∀x H',(Itq lo st n).yld i H x H'→g x σ H' fun σ2 H2=>tb { D with nx:=N,ct:=N,bk:=D.nx } σ2 H2)
theorem forS_by {lo st:Int} {n:Nat} (Pv:Nat→St→Hp→Prop) (h0:Pv 0 σ H) (hs:∀i σ H,i < n→Pv i σ H→g (.int (lo + i * st)) σ H fun σ2 H2=>tb { D with nx:=Pv (i + 1),ct:=Pv (i + 1),bk:=D.nx } σ2 H2) (hd:∀σ H,Pv n σ H→D.nx σ H):ForS lo st n g tb D σ H:=by
 refine ⟨fun i m σ H=>m=n - i∧i≤n∧Pv i σ H,⟨n,by simp,Nat.zero_le _,h0⟩,?_⟩
 rintro i m σ H ⟨rfl,hi,p⟩
 by_cases hl:i < n
 ·refine .inr ⟨hl,Pv (i + 1),fun σ' H' p'=>⟨n - (i + 1),by lia,rfl,hl,p'⟩,?_⟩
  rintro x H' ⟨rfl,rfl⟩
  exact hs i σ H' hl p
 ·have e:i=n:=by lia
  subst e
  exact .inl ⟨Nat.le_refl _,hd σ H p⟩
variable {K:W.Frag} {a:Addr} {xs:List V} {nt:Nat} {fr:List Nat} {c:TT} {te:TE} {Q:VK} {n m:Int}
instance go_cby [h:SqA K H a xs]:Go (∃a',V.ref a=.ref a'∧(∃xs,SqL K H a' xs)∧CompAll (Itl K a') nt fr g c te σ H Q) (CompAll (Itl K a) nt fr g c te σ H Q):=⟨c_by h.e⟩
instance go_lby [h:SqA K H a xs]:Go (∃a',V.ref a=.ref a'∧(∃xs,SqL K H a' xs)∧ForL K a' g tb D σ H) (ForL K a g tb D σ H):=⟨l_by h.e⟩
instance go_eby [h:SqA K H a xs]:Go (∃a' xs',[V.ref a]=[.ref a']∧SqL K H a' xs'∧ForE K a' xs' g tb D σ H) (ForE K a xs g tb D σ H):=⟨e_by h.e⟩
end
instance nx_rowsN {H0 H:Hp} {M:List Addr} {L:List (Addr×HO)} {I:List Im} {Z:Addr→Hp→Prop} {ws:List (Nat×Nat)} [F:SH H0 M H L I]:Go (∀p ys H',New H H' p (.lst ys)→TupsAt H' ys (rowsN ws)→Z p H') (∀H' p ys,ys.length=ws.length→SH H0 M H' ((p,.lst ys)::L) (.tps ys (rowsN ws)::I)→Z p H'):=⟨fun k p ys H' n t=>k H' p ys (by rw [t.1,rowsN_len]) (F.newR n t)⟩
class LkNe (L:List (Addr×HO)) (a b:Addr):Prop where
 ne:(L.map (·.1)).Nodup→a≠b
section
variable {L R L':List (Addr×HO)} {a b:Addr} {o:HO} {c:Addr×HO} {H0 H:Hp} {M:List Addr} {I:List Im}
instance lkNe2 [h:LkNe L a b]:LkNe (c::L) a b:=⟨fun nd=>h.ne (by rw [List.map_cons] at nd;exact (List.nodup_cons.mp nd).2)⟩
instance lkNe1 {o':HO} [h:LkL L a o]:LkNe ((b,o')::L) a b:=⟨fun nd z=>by
 rw [List.map_cons] at nd
 exact (List.nodup_cons.mp nd).1 (by show b∈_;rw [← z];exact List.mem_map_of_mem (f:=(·.1)) h.m)⟩
instance lkNe0 {o':HO} [h:LkL L b o]:LkNe ((a,o')::L) a b:=⟨fun nd z=>by
 rw [List.map_cons] at nd
 exact (List.nodup_cons.mp nd).1 (by show a∈_;rw [z];exact List.mem_map_of_mem (f:=(·.1)) h.m)⟩
theorem SH.neC [F:SH H0 M H L I] [h:LkNe L a b]:a≠b:=h.ne F.nd
class PkC (c:Addr×HO) (L:List (Addr×HO)) (R:outParam (List (Addr×HO))):Prop where
 p:Pk c L R
class SbC (L' L:List (Addr×HO)):Prop where
 s:Sb L' L
instance pkC1 {d:Addr×HO} [h:PkC c L R]:PkC c (d::L) (d::R):=⟨.tail h.p⟩
instance pkC0:PkC c (c::L) L:=⟨.head⟩
instance sbC0:SbC [] L:=⟨.nil⟩
instance sbC1 [h:PkC c L R] [t:SbC L' R]:SbC (c::L') L:=⟨.cons h.p t.s⟩
theorem SH.subC (F:SH H0 M H L I) [h:SbC L' L]:SH H0 M H L' []:=F.sub h.s (fun _ h=>by cases h)
end
instance go_wv14 {H:Hp} {Q:VK} {v:V} {o0 o1 o2 o3 o4 o5 o6 o7 o8 o9 o10 o11 o12 o13:Option V} {r:St}:Go (tVar 14 (o0::o1::o2::o3::o4::o5::o6::o7::o8::o9::o10::o11::o12::o13::some v::r) H Q) (Q v H):=⟨fun h=>⟨v,rfl,h⟩⟩
instance go_wn14 {H:Hp} {v:V} {o0 o1 o2 o3 o4 o5 o6 o7 o8 o9 o10 o11 o12 o13 o:Option V} {r:St} {R:St→Hp→Prop}:Go (gName 14 v (o0::o1::o2::o3::o4::o5::o6::o7::o8::o9::o10::o11::o12::o13::o::r) H R) (R (o0::o1::o2::o3::o4::o5::o6::o7::o8::o9::o10::o11::o12::o13::some v::r) H):=⟨fun h=>h⟩
end L2
namespace L2
open PySem PySem.Spec PyProof.Rows PySem.SeqAt
section
variable {K:W.Frag} {H0 H:Hp} {M:List Addr} {L L':List (Addr×HO)} {I:List Im} {l b a p:Addr} {xs ys r:List V} {v v0 v1 y:V} {Q:VK} {R:Hp→Prop} {R':Prop} {te:TE} {fvs σ:St} {fr:List Nat} {i j:Int} {Z:Addr→Hp→Prop}
instance go_nonAnd:Go (V.non=V.non∧R') R':=⟨fun k=>⟨rfl,k⟩⟩
instance go_setA [h:Hat H l (.lst xs)]:Go (rSetA (.ref l) (.int i) v H R) (Sd (0≤i∧i < xs.length) (∀H',Off l H H'→H' l=some (.lst (xs.set i.toNat v))→R H')):=⟨fun s=>w_setA h.e (i_idx s.1.1 s.1.2) s.2⟩
instance go_rep1b {n:Nat} {c:Bool} [h:Hat H l (.lst [.bl c])]:Go (rRepA (.ref l) (.int (n:Int)) H Q) (Sd (n≤1000000) (∀p H',New H H' p (.lst ((List.replicate n c).map V.bl))→Q (.ref p) H')):=⟨fun s=>w_rep1 h.e s.1 (by have:=s.2;rw [List.map_replicate] at this;exact this)⟩
instance go_forR1 {g:TG} {tb:TS} {D:Ends}:Go (∃j:Int,[V.int i]=[.int j]∧-(2 ^ 62)≤j∧j < 2 ^ 62∧ForR 0 j.toNat g tb D σ H) (Sd (-(2 ^ 62)≤i∧i < 2 ^ 62) (ForR 0 i.toNat g tb D σ H)):=⟨fun s=>⟨i,rfl,s.1.1,s.1.2,s.2⟩⟩
instance go_forR2 {g:TG} {tb:TS} {D:Ends}:Go (∃i' j':Int,[V.int i,V.int j]=[.int i',.int j']∧(-(2 ^ 62)≤i'∧i' < 2 ^ 62∧-(2 ^ 62)≤j'∧j' < 2 ^ 62)∧ForR i' (j' - i').toNat g tb D σ H) (Sd (-(2 ^ 62)≤i∧i < 2 ^ 62∧-(2 ^ 62)≤j∧j < 2 ^ 62) (ForR i (j - i).toNat g tb D σ H)):=⟨fun s=>⟨i,j,rfl,s.1,s.2⟩⟩
end
end L2
namespace L2
open PySem PySem.Spec PyProof.Rows
abbrev ixBody (x:Str) (p1 p2 p3:Pos) (j:Nat):Expr:=.Subscript (.Name x p1) (.Constant (.int 1) j p2) p3
structure LamScope (x:Str) (scope:Scope):Prop where
 kind:scope.kind=.function
 co:scope.isCoroutine=false
 gen:scope.isGenerator=false
 loc:scope.names.lookup x=some .local
 nocell:∀y∈scope.names,y.2≠.cell
 nodeb:(x == ("__debug__" : Str))=false
theorem lam_ix {prog:Program} {w:World} {A:Around} {s:Shared} {f q c':Addr} {x qual:Str} {params:Arguments} {scope:Scope} {pm ctv u:Value} {p1 p2 p3:Pos} {j:Nat} {its:List Value} {Q:Value→Shared→Prop} {E:Value→Shared→Prop}
  (hroom:A.depth < recursionLimit) (ho:s.heap.get? f=some (W.kla_obj "<lambda>" qual params (ixBody x p1 p2 p3 j) scope [] pm c' ctv)) (hcd:s.heap.CodeRec (.ref c') qual) (hlim:s.heap.NoLimit) (S:LamScope x scope)
  (hbind:bindArgs (W.kla_fn "<lambda>" qual params (ixBody x p1 p2 p3 j) scope [] pm (.ref c') ctv) ⟨[.ref q],[]⟩=pure [(x,.ref q)])
  (ht:IsTup s.heap q its.toArray) (hi:its[1]?=some u) (h:∀h' tk,(∀b o,s.heap.get? b=some o→h'.get? b=some o)→Q u { s with heap:=h',toks:=tk }):wpAny (model prog w) A (call (.ref f) [.ref q]) Q E s:=by
 refine wpAny_call ?_
 refine W.kla_callFunE hroom ho rfl S.co S.gen rfl hcd ?_
 rw [hbind]
 refine wpAny_pure ?_
 refine wpAny_newFunctionEnv S.nocell (fun y hy=>?_) (fun h1 hns hsb=>?_) S.kind
 ·rw [List.mem_singleton.mp hy]
  exact S.loc
 ·have hk1:∀b o,s.heap.get? b=some o→h1.get? b=some o:=fun b o e=>hsb.extBut b o (Nat.ne_of_lt (Heap.lt_size e)) (Heap.get?_push_of_some _ e)
  refine ⟨hlim.keeps hk1,W.kla_codeExpr ?_⟩
  refine Subscript_ (wpAny_Name (wpAny_loadName_local S.kind S.loc hns (v:=.ref q) (by simp) ?_) S.nodeb)
  refine wpAny_Constant_int ?_
  have ht1:IsTup h1 q its.toArray:=by
   obtain ⟨o,e,r⟩:=ht
   exact ⟨o,hk1 _ _ e,r⟩
  have hlen:1 < its.length:=(List.getElem?_eq_some_iff.mp hi).1
  refine subscriptTail_builtinR (x:=u) (IsTup.typeIs ht1) slot_tuple_getitem.lookup (getItem_tuple (j:=1) ht1 (by decide) (by decide) ?_ (by simpa using hi) ⟨rfl,?_⟩) ?_
  ·rw [List.size_toArray]
   unfold seqIndex?
   simp
   lia
  ·exact h h1 _ hk1
  ·rfl
theorem ObjOk.is {P:Program} {w:World} {H:Hp} {h:Heap} {a:Addr} {o:HO} (x:ObjOk P w H h a o):∃ob,h.get? a=some ob:=by
 cases o with
 | lst xs=>obtain ⟨_,_,_,_,e⟩:=x;exact ⟨_,e⟩
 | tup xs=>obtain ⟨_,_,_,ob,e,_⟩:=x;exact ⟨_,e⟩
 | dK kvs=>obtain ⟨_,_,_,_,ob,_,_,e,_⟩:=x;exact ⟨_,e⟩
 | dT kvs=>obtain ⟨_,_,_,_,ob,_,_,e,_⟩:=x;exact ⟨_,e⟩
 | set S n=>obtain ⟨ob,_,_,_,e,_⟩:=x;exact ⟨_,e⟩
 | ins C dx fs=>obtain ⟨_,_,_,e,_⟩:=x;exact ⟨_,e⟩
 | own y=>exact x
 | xd fs=>obtain ⟨_,⟨ob,_,_,e,_⟩,_⟩:=x;exact ⟨_,e⟩
 | rng lo hi=>obtain ⟨_,_,_,e⟩:=x;exact ⟨_,e⟩
 | frz ob u=>exact ⟨_,x.1⟩
 | tbl ps=>exact ⟨_,x⟩
 | met f y=>exact ⟨_,x⟩
 | ext φ=>exact x.2.1
def allBut (h:Heap) (L:Addr):List (Addr×Obj):=(List.range h.objs.size).filterMap fun b=>if b=L then none else (h.get? b).map fun o=>(b,o)
theorem allBut_mem {h:Heap} {L b:Addr} {o:Obj} (e:h.get? b=some o) (n:b≠L):(b,o)∈allBut h L:=by
 unfold allBut
 refine List.mem_filterMap.mpr ⟨b,List.mem_range.mpr (Heap.lt_size e),?_⟩
 rw [if_neg n,e]
 rfl
theorem of_allBut {h:Heap} {L:Addr} {p:Addr×Obj} (m:p∈allBut h L):h.get? p.1=some p.2∧p.1≠L:=by
 unfold allBut at m
 obtain ⟨b,_,e⟩:=List.mem_filterMap.mp m
 split at e
 ·cases e
 ·rename_i n
  cases q:h.get? b with
  | none=>rw [q] at e;cases e
  | some o =>
   rw [q] at e
   cases e
   exact ⟨q,n⟩
theorem ns_one {h:Heap} {a:Addr} {m m':Str→Option Value} (x:h.Ns a m) (y:h.Ns a m'):m=m':=by
 obtain ⟨o,es,ep,e,d,_,f⟩:=x
 obtain ⟨o',es',ep',e',d',_,f'⟩:=y
 rw [e] at e'
 cases e'
 rw [d] at d'
 cases d'
 funext k
 rw [← f k,← f' k]
theorem Inv.newIn {X:Cx} {pins:List (Addr×Obj)} {σ:St} {H:Hp} {s:Shared} {h':Heap} {t':Nat} {D:Addr} {o:HO} {m:Str→Option Value} (I:Inv X pins σ H s) (k:∀b u,b≠X.env.locals→s.heap.get? b=some u→h'.get? b=some u)
  (hm:s.heap.Ns X.env.locals m) (hm':h'.Ns X.env.locals m) (hn:s.heap.get? D=none) (new:ObjOk X.prog X.w (upd H D o) h' D o):Inv X pins σ (upd H D o) { s with heap:=h',toks:=t' }:=by
 have hD:H D=none:=by
  cases q:H D with
  | none=>rfl
  | some u =>
   obtain ⟨ob,e⟩:=(I.hok D u q).is
   rw [hn] at e
   cases e
 have nL:∀b u,H b=some u→b≠X.env.locals:=fun b u e z=>by rw [z,I.free] at e;cases e
 have nD:∀{b:Addr} {u:HO},H b=some u→upd H D o b=some u:=fun {b u} e=>by rw [upd_ne (fun z=>by rw [z,hD] at e;cases e)];exact e
 refine I.step (g':=s.gens) (d':=s.drawn) (ch:=[]) (fun _ z=>nomatch z) (fun b u n _ _ e _=>k b u n e) (fun b u n _ _ e _=>⟨u.slots,k b u n e⟩) (fun b u _ e q=>?_) (fun b u _ e=>?_) (fun b xs e=>nD e) (fun b u v e=>nD e) (fun b ps e=>⟨#[],by rw [nD e];simp⟩) (fun m2 hm2=>?_) (fun b u e=>?_) I.bare
 ·rw [upd_ne (fun z=>by rw [z,hn] at e;cases e)]
  exact q
 ·by_cases n:b=X.env.locals
  ·obtain ⟨ob,_,_,e2,_⟩:=hm'
   exact ⟨ob,by rw [n];exact e2⟩
  ·exact ⟨u,k b u n e⟩
 ·rw [ns_one hm2 hm]
  exact hm'
 ·by_cases hb:b=D
  ·rw [hb,upd_same] at e
   cases e
   rw [hb]
   exact new
  ·rw [upd_ne hb] at e
   refine (I.hok b u e).stay (fun c v hc q=>k c v ?_ q) (fun c q=>nD q) fun c xs q=>nD q
   rcases hc with z | z
   ·rw [z]
    exact nL b u e
   ·exact nL c _ z
def IsLam (H:Hp) (f:Addr):Prop:=∃(qual x:Str) (params:Arguments) (p1 p2 p3:Pos) (j:Nat) (scope:Scope) (pm ctv:Value) (c':Addr) (oc:Obj) (vs:Array Value) (t:Tok),
 H f=some (.frz (W.kla_obj "<lambda>" qual params (ixBody x p1 p2 p3 j) scope [] pm c' ctv) (.own f))∧H c'=some (.frz oc (.own c'))∧oc.data=.fields vs∧vs[1]?=some (.str qual t)∧LamScope x scope ∧
 ∀q:Addr,bindArgs (W.kla_fn "<lambda>" qual params (ixBody x p1 p2 p3 j) scope [] pm (.ref c') ctv) ⟨[.ref q],[]⟩=pure [(x,.ref q)]
def SortedBy (ks:List Int) (xs ys:List V):Prop:=∃ps:List (Int×V),ps.Perm (ks.zip xs)∧ys=ps.map Prod.snd∧ps.Pairwise fun a b=>a.1≤b.1
def rSortK (K:W.Frag):List V→V→Hp→VK→Prop:=fun vs y H Q=>∃(l f:Addr) (xs:List V) (ks:List Int),vs=[.ref l]∧y=.ref f∧IsLam H f∧SqL K H l xs∧ks.length=xs.length∧xs.length < 64 ∧
 (∀(i:Nat) v k,xs[i]?=some v→ks[i]?=some k→∃q r,v=.ref q∧H q=some (.tup r)∧r[1]?=some (.int k))∧∀D ys H',New H H' D (.lst ys)→SortedBy ks xs ys→Q (.ref D) H'
def backV:Value→V
 | .ref a=>.ref a
 | _=>.non
theorem vals_refs:∀{xs:List V} {us:List Value},Vals xs us→(∀v∈xs,∃q,v=.ref q)→xs=us.map backV∧∀u∈us,∃q,u=.ref q
 | _,_,.nil,_=>⟨rfl,fun _ h=>by cases h⟩
 | _,_,.cons r t,h=>by
  obtain ⟨e1,e2⟩:=vals_refs t fun v hv=>h v (List.mem_cons_of_mem _ hv)
  obtain ⟨q,rfl⟩:=h _ List.mem_cons_self
  cases r
  refine ⟨by rw [List.map_cons,← e1];rfl,fun u hu=>?_⟩
  rcases List.mem_cons.mp hu with rfl | hu
  ·exact ⟨q,rfl⟩
  ·exact e2 u hu
theorem vals_back:∀{us:List Value},(∀u∈us,∃q,u=.ref q)→Vals (us.map backV) us
 | [],_=>.nil
 | u::us,h=>by
  obtain ⟨q,rfl⟩:=h u List.mem_cons_self
  exact .cons rfl (vals_back fun v hv=>h v (List.mem_cons_of_mem _ hv))
theorem call_sortK {X:Cx} {K:W.Frag} {k:Nat} (hK:X.K=K) (hr:Room k X.A):CallK X "sorted" "key" (rSortK K):=by
 intro pins s σ H vs us y u Q I rv ry h
 subst hK
 obtain ⟨l,f,xs,ks,rfl,rfl,lam,hq,hl,h64,hk,q⟩:=h
 cases ry
 rcases rv with _ | ⟨r,_ | _⟩
 cases r
 obtain ⟨its,rv,p,hz⟩:=I.list hq
 obtain ⟨m,hm,_⟩:=id I.loc
 obtain ⟨qual,x,params,p1,p2,p3,j,scope,pm,ctv,c',oc,cv,t,ef,ec,ed,e1,S,hb⟩:=lam
 have hlen:its.length=xs.length:=rv.length.symm
 have nL:∀{b:Addr} {u:HO},H b=some u→b≠X.env.locals:=fun {b u} e z=>by rw [z,I.free] at e;cases e
 have refs:∀v∈xs,∃q,v=V.ref q:=fun v hv=>by
  obtain ⟨i,hi,e⟩:=List.getElem_of_mem hv
  obtain ⟨q,r,e2,_⟩:=hk i v (ks[i]'(by lia)) (by rw [← e];simp) (by simp)
  exact ⟨q,e2⟩
 obtain ⟨xb,ub⟩:=vals_refs rv refs
 have keep:∀{h:Heap} {own:List (Addr×Obj)},News { objs:=#[] } X.env.locals h (allBut s.heap X.env.locals++own)→∀b o,b≠X.env.locals→s.heap.get? b=some o→h.get? b=some o:=fun N b o n e=>(N (b,o) (List.mem_append_left _ (allBut_mem e n))).1
 refine ksk_sorted (h₀:={ objs:=#[] }) (L:=X.env.locals) (m:=m) (news:=allBut s.heap X.env.locals) (b:=false) (vs:=its) (kz:=ks) (f:=.ref f) ⟨hm,fun b o e=>?_,Nat.zero_le _⟩ (fun p hp=>⟨(of_allBut hp).1,(of_allBut hp).2,rfl⟩) p.isList (by lia) (by lia) (ksk_s1 _ _) (fun x=>ksk_l1 _ _) (fun x=>ksk_t1 f x) ?_ ?_
 ·have e:Heap.get? { objs:=#[] } b=some o:=e
  simp [Heap.get?] at e
 ·intro i v k hv hki h tk own F N
  have kp:=keep N
  have hx:xs[i]?=some (backV v):=by rw [xb,List.getElem?_map,hv];rfl
  obtain ⟨q,r,e2,e3,e4⟩:=hk i _ k hx hki
  obtain ⟨q',rfl⟩:=ub v (List.mem_of_getElem? hv)
  cases e2
  obtain ⟨_,its2,rv2,ob,et,ec2⟩:=I.hok q _ e3
  obtain ⟨u2,eu,ru⟩:=rv2.get e4
  obtain ⟨t2,rfl⟩:=ru
  have lim:h.NoLimit:=I.ok.mod.nolimit.keeps fun b o e=>kp b o (Nat.ne_of_lt (Nat.lt_of_lt_of_le (Heap.lt_size e) (Nat.le_trans I.ok.bsz I.ok.above))) (I.bk b o e)
  refine lam_ix (A:=X.A.in1.in1) (s:={ s with heap:=h,toks:=tk }) (show X.A.depth < _ from hr.depth) (kp _ _ (nL ef) (I.hok f _ ef).1) ⟨c',oc,cv,t,rfl,kp _ _ (nL ec) (I.hok c' _ ec).1,ed,e1⟩ lim S (hb q) (its:=its2) ⟨ob,kp _ _ (nL e3) et,ec2⟩ eu fun h' tk' k2=>?_
  exact KskEnd.intro (s₁:={ s with heap:=h,toks:=tk }) (news':=allBut s.heap X.env.locals++own) ⟨F.ns.keeps k2,fun b o e=>k2 b o (F.keep b o e),F.above⟩ (fun p hp=>⟨k2 _ _ (N p hp).1,(N p hp).2⟩) fun p hp=>hp
 ·intro D h' tk out c F N hD out'
  obtain ⟨ps,pp,eo,pw⟩:=out'
  have hn:s.heap.get? D=none:=by
   cases e:s.heap.get? D with
   | none=>rfl
   | some o =>
    have:=hD (D,o) (allBut_mem e (N (D,seqObj "list" out c) List.mem_cons_self).2.1)
    exact absurd this (Nat.lt_irrefl _)
  have hin:∀u∈out.toList,∃q,u=Value.ref q:=fun u hu=>by
   rw [eo] at hu
   obtain ⟨pr,h1,rfl⟩:=List.mem_map.mp hu
   have:=pp.mem_iff.mp h1
   exact ub _ (List.of_mem_zip (show (pr.1,pr.2)∈ks.zip its from this)).2
  have lo:out.toList.length=xs.length:=by
   rw [eo,List.length_map,pp.length_eq,List.length_zip]
   lia
  refine ⟨.ref D,upd H D (.lst (out.toList.map backV)),I.newIn (t':=tk) (fun b u n e=>(N (b,u) (List.mem_cons_of_mem _ (allBut_mem e n))).1) hm F.ns hn ?_,rfl,q D _ _ (New.mk' ?_) ⟨ps.map fun pr=>(pr.1,backV pr.2),?_,?_,?_⟩⟩
  ·refine ⟨by rw [List.length_map,lo];exact hz,out.toList,c,vals_back hin,?_⟩
   exact (N (D,seqObj "list" out c) List.mem_cons_self).1
  ·cases e:H D with
   | none=>rfl
   | some u =>
    obtain ⟨ob,e2⟩:=(I.hok D u e).is
    rw [hn] at e2
    cases e2
  ·have:=pp.map fun pr:Int×Value=>(pr.1,backV pr.2)
   rw [xb]
   have e3:(ks.zip its).map (fun pr:Int×Value=>(pr.1,backV pr.2))=ks.zip (its.map backV):=by
    rw [List.zip_map_right]
    rfl
   rw [← e3]
   exact this
  ·rw [eo,List.map_map,List.map_map]
   rfl
  ·exact List.pairwise_map.mpr (pw.imp fun h=>by simpa using h)
theorem Inv.grow {X:Cx} {pins:List (Addr×Obj)} {σ:St} {H H':Hp} {s:Shared} {h':Heap} {t':Nat} (I:Inv X pins σ H s) (k:∀b u,H b=none→s.heap.get? b=some u→h'.get? b=some u∧H' b=none)
  (kt:∀b u,H b=some u→(H' b=some u∧∀o,s.heap.get? b=some o→h'.get? b=some o)∨∃ps more,u=.tbl ps∧H' b=some (.tbl (ps++more))∧h'.get? b=some { cls:=.none,data:=.fields (ps++more) })
  (new:∀b u,H b=none→H' b=some u→ObjOk X.prog X.w H' h' b u):Inv X pins σ H' { s with heap:=h',toks:=t' }:=by
 have same:∀{b:Addr} {u:HO},H b=some u→(∀ps,u≠.tbl ps)→H' b=some u∧∀o,s.heap.get? b=some o→h'.get? b=some o:=fun {b u} e n=>by
  rcases kt b u e with z | ⟨ps,_,z,_⟩
  ·exact z
  ·exact absurd z (n ps)
 obtain ⟨m0,⟨oL,esL,epL,eL,rL⟩,_⟩:=id I.loc
 have kL:=(k _ _ I.free eL).1
 refine I.step (g':=s.gens) (d':=s.drawn) (ch:=[]) (fun _ z=>nomatch z) (fun b u n _ _ e q=>(k b u q e).1) (fun b u n _ _ e q=>⟨u.slots,(k b u q e).1⟩) (fun b u _ e q=>(k b u q e).2) (fun b u _ e=>?_) (fun b xs e=>(same e (by intro _ z;cases z)).1) (fun b u v e=>(same e (by intro _ z;cases z)).1) (fun b ps e=>?_) (fun m2 hm2=>?_) (fun b u e=>?_) I.bare
 ·cases q:H b with
  | none=>exact ⟨u,(k b u q e).1⟩
  | some v =>
   rcases kt b v q with z | ⟨ps,more,_,_,z⟩
   ·exact ⟨u,z.2 u e⟩
   ·exact ⟨_,z⟩
 ·rcases kt b _ e with z | ⟨ps',more,z,z2,_⟩
  ·exact ⟨#[],by rw [z.1];simp⟩
  ·cases z
   exact ⟨more,z2⟩
 ·obtain ⟨o,es,ep,e,r⟩:=hm2
  rw [eL] at e
  cases e
  exact ⟨_,es,ep,kL,r⟩
 ·cases q:H b with
  | none=>exact new b u q e
  | some v =>
   rcases kt b v q with z | ⟨ps,more,rfl,z2,z3⟩
   ·rw [z.1] at e
    cases e
    refine (I.hok b _ q).stay (fun c o hc e2=>?_) (fun c e2=>(same e2 (by intro _ z;cases z)).1) fun c xs e2=>(same e2 (by intro _ z;cases z)).1
    rcases hc with rfl | hc
    ·exact z.2 o e2
    ·exact (same hc (by intro _ z;cases z)).2 o e2
   ·rw [z2] at e
    cases e
    exact z3
def TabOk (pos:Pos) (qual:Str) (ps:Array Value) (H:Hp):Prop:=ps=#[]∨∃(c':Addr) (oc:Obj) (vs:Array Value) (t:Tok),ps=#[rawInt pos.line,rawInt pos.col,.ref c']∧H c'=some (.frz oc (.own c'))∧oc.data=.fields vs∧vs[1]?=some (.str qual t)
def Bm (mg:Str→Option Value) (base:Heap):Prop:=∃bm ob,mg "__builtins__" = some (.ref bm)∧bm≠builtinsNs∧base.get? bm=some ob∧ob.cls=.type "module" ∧ ob.dict=some builtinsNs∧ob.data=.plain
def tLam (P:Addr) (pos:Pos) (qual:Str):TE:=fun _ H Q=>∃ps,H P=some (.tbl ps)∧TabOk pos qual ps H∧∀f ps' H',Kp P H H'→H' P=some (.tbl ps')→TabOk pos qual ps' H'→IsLam H' f→Q (.ref f) H'
theorem pe_lam {X:Cx} {c P:Addr} {qual x:Str} {params:Arguments} {scope:Scope} {p1 p2 p3 pos:Pos} {j:Nat} (B:Bm X.mg X.base) (hc:X.env.code=.ref c) (hK:W.codeHdIn X.K c P=true) (hq:X.env.qual++("<lambda>" : Str)=qual) (S:LamScope x scope)
  (hdef:defaultsOf params X.env=([],[]):=by rfl) (hcl:closureFor scope X.env=pure []:=by rfl)
  (hb:∀(pm ctv:Value) (c' q:Addr),bindArgs (W.kla_fn "<lambda>" qual params (ixBody x p1 p2 p3 j) scope [] pm (.ref c') ctv) ⟨[.ref q],[]⟩=pure [(x,.ref q)]:=by intros;rfl) :
  PE X (.Lambda params (ixBody x p1 p2 p3 j) scope pos) (tLam P pos qual):=by
 intro pins s σ H Q I h
 obtain ⟨ps,eP,tk,q⟩:=h
 have hP:s.heap.get? P=some (W.tabObj ps):=I.hok P _ eP
 obtain ⟨bm,ob,b1,b2,b3,b4,b5,b6⟩:=B
 have hg:s.heap.Ns mainGlobals X.mg:=I.ok.mod.glob.keeps I.bk
 have nob:∀{b:Addr} {o:Obj},X.base.get? b=some o→b≠P:=fun {b o} e z=>by
  have:=(I.bs b o e).2
  rw [z,eP] at this
  cases this
 have nG:mainGlobals≠P:=by
  obtain ⟨o,_,_,e,_⟩:=I.ok.mod.glob
  exact nob e
 have nbG:bm≠mainGlobals:=fun z=>by
  obtain ⟨o,es,ep,e,hd,_⟩:=I.ok.mod.glob
  rw [z,e] at b3
  cases b3
  rw [hd] at b6
  cases b6
 have BA:s.heap.BuiltinsAt X.mg P:=⟨bm,ob,b1,b2,nbG,nob b3,I.bk _ _ b3,b4,b5,b6⟩
 have CH:=W.codeHd_of_K I.kIn hK
 refine W.kla_eval hdef ?_
 rw [hq]
 have nP:∀{b:Addr},H b=none→b≠P:=fun {b} e z=>by rw [z,eP] at e;cases e
 rcases tk with rfl | ⟨c',oc,vs,t,rfl,e1,e2,e3⟩
 ·refine W.kla_makeFunction hcl I.ok.glob hg hc CH hP trivial rfl nG BA fun c' ctv h' tk' hx hge hlt hrec hP'=>?_
  obtain ⟨c2,oc,vs,t,z,hoc,hd,hv⟩:=hrec
  cases z
  have fc:H c'=none:=I.hok.fresh hge
  have hsz:s.heap.objs.size≤h'.objs.size:=Nat.le_trans hge (Nat.le_of_lt hlt)
  have ff:H h'.objs.size=none:=I.hok.fresh hsz
  have ncf:c'≠h'.objs.size:=Nat.ne_of_lt hlt
  have ncP:c'≠P:=nP fc
  have nfP:h'.objs.size≠P:=nP ff
  generalize hf:h'.objs.size=f at *
  generalize hob:W.kla_obj "<lambda>" qual params (ixBody x p1 p2 p3 j) scope [] ((X.mg "__name__").getD .none) c' ctv=fo
  let H':Hp:=upd (upd (upd H P (.tbl (#[]++#[rawInt pos.line,rawInt pos.col,.ref c']))) c' (.frz oc (.own c'))) f (.frz fo (.own f))
  have hP2:H' P=some (.tbl #[rawInt pos.line,rawInt pos.col,.ref c']):=by
   show upd _ _ _ _=_
   rw [upd_ne (Ne.symm nfP),upd_ne (Ne.symm ncP),upd_same]
   simp
  have hc2:H' c'=some (.frz oc (.own c')):=by
   show upd _ _ _ _=_
   rw [upd_ne ncf,upd_same]
  have hf2:H' f=some (.frz fo (.own f)):=upd_same
  have old:∀{b:Addr},b≠P→b≠c'→b≠f→H' b=H b:=fun {b} n1 n2 n3=>by
   show upd _ _ _ _=_
   rw [upd_ne n3,upd_ne n2,upd_ne n1]
  have push:∀{b:Addr} {o:Obj},h'.get? b=some o→(h'.push fo).get? b=some o:=fun e=>Heap.get?_push_of_some _ e
  have I':Inv X pins σ H' { s with heap:=h'.push fo,toks:=tk' }:=by
   refine I.grow (fun b u n e=>?_) (fun b u e=>?_) fun b u n e=>?_
   ·have lt:=Heap.lt_size e
    have n2:b≠c':=Nat.ne_of_lt (Nat.lt_of_lt_of_le lt hge)
    have n3:b≠f:=Nat.ne_of_lt (Nat.lt_of_lt_of_le lt hsz)
    exact ⟨push (hx b u (nP n) e),by rw [old (nP n) n2 n3];exact n⟩
   ·by_cases hbP:b=P
    ·right
     rw [hbP,eP] at e
     cases e
     exact ⟨#[],#[rawInt pos.line,rawInt pos.col,.ref c'],rfl,by rw [hbP,hP2];simp,by rw [hbP];exact push hP'⟩
    ·left
     have n2:b≠c':=fun z=>by rw [z,fc] at e;cases e
     have n3:b≠f:=fun z=>by rw [z,ff] at e;cases e
     exact ⟨by rw [old hbP n2 n3];exact e,fun o e4=>push (hx b o hbP e4)⟩
   ·by_cases hbf:b=f
    ·rw [hbf,hf2] at e
     cases e
     have e5:(h'.push fo).get? f=some fo:=by
      rw [← hf]
      exact Heap.get?_push_size _ (by rw [← hob];rfl)
     rw [hbf]
     exact ⟨e5,_,e5⟩
    ·by_cases hbc:b=c'
     ·rw [hbc,hc2] at e
      cases e
      rw [hbc]
      exact ⟨push hoc,_,push hoc⟩
     ·have hbP:b≠P:=nP n
      rw [old hbP hbc hbf,n] at e
      cases e
  refine ⟨.ref f,H',I',rfl,q f _ H' (fun b u n e=>?_) hP2 (.inr ⟨c',oc,vs,t,rfl,hc2,hd,hv⟩) ⟨qual,x,params,p1,p2,p3,j,scope,_,ctv,c',oc,vs,t,by rw [hf2,← hob],hc2,hd,hv,S,hb _ _ _⟩⟩
  have n2:b≠c':=fun z=>by rw [z,fc] at e;cases e
  have n3:b≠f:=fun z=>by rw [z,ff] at e;cases e
  rw [old n n2 n3]
  exact e
 ·have hcode:codeAmong pos (#[rawInt pos.line,rawInt pos.col,Value.ref c']).toList=some (.ref c'):=by
   show (if ((pos.line:Int) == (pos.line:Int) && (pos.col:Int) == (pos.col:Int))=true then some (Value.ref c') else _)=_
   simp
  refine W.kla_makeFunctionHit hcl I.ok.glob hg hc CH hP trivial hcode BA fun ctv h' tk' hx hsz=>?_
  have ff:H h'.objs.size=none:=I.hok.fresh hsz
  generalize hob:({ cls:=Value.type "function", data:=Data.func (W.kla_fn "<lambda>" qual params (ixBody x p1 p2 p3 j) scope [] ((X.mg "__name__").getD .none) (.ref c') ctv) }:Obj)=fo
  have e5:(h'.push fo).get? h'.objs.size=some fo:=Heap.get?_push_size _ (by rw [← hob];rfl)
  have k2:∀{b:Addr} {u:HO},H b=some u→upd H h'.objs.size (.frz fo (.own h'.objs.size)) b=some u:=fun {b u} e=>by
   rw [upd_ne (fun z=>by rw [z,ff] at e;cases e)]
   exact e
  refine ⟨.ref h'.objs.size,upd H h'.objs.size (.frz fo (.own h'.objs.size)),I.laid (t':=tk') (fun b u e=>Heap.get?_push_of_some _ (hx b u e)) hsz ⟨e5,_,e5⟩,rfl,q _ _ _ (fun b u n e=>k2 e) (k2 eP) (.inr ⟨c',oc,vs,t,rfl,k2 e1,e2,e3⟩) ⟨qual,x,params,p1,p2,p3,j,scope,_,ctv,c',oc,vs,t,by rw [upd_same,← hob],k2 e1,e2,e3,S,hb _ _ _⟩⟩
section
variable {P:Program} {w:World} {K:W.Frag} {mg:Str→Option Value} {base:Heap} {CX:CXT} {k:Nat} {nm qual:Str} {st:Stmt} {f c:Addr} {N ps:List Str} {sp:Sp}
theorem fn_tellsC (h:∃fd,Fun K nm qual st f fd∧fd.code=.ref c) (S:FnScope N ps (defScope st)) (len:∀vs H Q E,sp vs H Q E→vs.length=ps.length)
  (hb:∀(kV doc pm:Value) (an:Option Addr) (cdv ct:Value) (us:List Value),us.length=ps.length→bindArgs (W.fnOf nm qual (defArgs st) (defBody st) (defScope st) .none kV doc pm an cdv ct) ⟨us,[]⟩=pure (ps.zip us))
  (hbody:∀(f:Addr) (A:Around) (outer:List Env) (s:Shared) (H:Hp) (vs:List V) (Q:VK) (E:XK),Room k (A.deeper (envOfC qual (defScope st) s.heap.objs.size f (.ref c)))→sp vs H Q E →
   ∃t,PSs (cxOf CX P w K mg base N qual (defScope st) f (.ref c) A outer s H E).nox (defBody st) t∧t { nx:=fun _ H'=>Q .non H',rt:=Q } (start N vs) H):FnTells P w K mg base CX (k + 1) f ps sp:=by
 obtain ⟨fd,F,hc⟩:=h
 refine ⟨fd,?_,F.binds hb⟩
 obtain ⟨oc,od,kV,doc,pm,an,cdv,ct,osl,rfl,lk,hcd⟩:=F.ex
 obtain rfl:cdv=.ref c:=hc
 refine fn_of lk hcd S len fun A outer s H vs Q E hr hsp=>?_
 obtain ⟨t,h,q⟩:=hbody f A outer s H vs Q E hr hsp
 exact ⟨t,h.nox,q⟩
end
def OnlyT (ts:List Addr) (H:Hp):Prop:=(∀p∈ts,H p=some (.tbl #[]))∧∀b,b ∉ ts→H b=none∨∃o xs,H b=some (.frz o (.lst xs))
theorem law_callT {P:Program} {w:World} {K:W.Frag} {mg mb:Str→Option Value} {CX:CXT} {k:Nat} {fa a:Addr} {fd:FuncData} {x:Str} {sp:Sp} {s₁:Shared} {vs:List Value} {ns:List Int} {ts:List Addr}
  (KX:K.In s₁.heap) (hns:s₁.heap.Ns mainGlobals mg) (hb:s₁.heap.Ns builtinsNs mb) (hbb:∀x:Str,x ≠ "__name__" → mb x=bootBuiltins x) (hlim:s₁.heap.NoLimit) (hg:s₁.gens=#[]) (hB:Bm mg s₁.heap)
  (hts:∀p∈ts,s₁.heap.get? p=some (W.tabObj #[])) (hct:∀p∈ts,isCodeTable s₁.heap p) (hKt:∀p∈ts,K.lookup p=none)
  (ha:s₁.heap.get? a=some { cls:=.type "list", data:=.seq vs.toArray }) (hi:IntsAre vs ns) (hl:ns.length≤sizeLine) (hr:Room k callerA)
  (F:∀base:Heap,K.In base→base.Ns mainGlobals mg→Bm mg base→FnOk P w K mg base CX k fa fd [x] sp) (hbind:∀(s:Shared) (u:Value),BindsTo s fd ⟨[u],[]⟩ [(x,u)])
  (hsp:∀H:Hp,OnlyT ts H→a ∉ ts→SqL K H a (ns.map V.int)→sp [.ref a] H (fun v _=>v=.bl true) fun _ _ _=>False)
  (hCX:∀H e s',CX [] H s₁ (fun _ _ _=>False) e s'→False) :
  codeAny (model P w) callerA (.call (.ref fa) ⟨[.ref a],[]⟩) (fun r s'=>r=.ok (.ret (.bool true))∧OldK s₁.heap s'.heap∧s'.os=s₁.os∧AllBare s'.gens) s₁:=by
 have rv:=vals_ints hi
 have lenV:=hi.length
 have nat:a ∉ ts:=fun z=>by
  have:=hts a z
  rw [ha] at this
  cases this
 have core:∀H:Hp,OnlyT ts H→SqL K H a (ns.map V.int)→HOk P w H s₁.heap→(∀b,b ∉ ts→H b≠none→b=a)→(H a≠none→K.lookup a=none) →
   codeAny (model P w) callerA (.call (.ref fa) ⟨[.ref a],[]⟩) (fun r s'=>r=.ok (.ret (.bool true))∧OldK s₁.heap s'.heap∧s'.os=s₁.os∧AllBare s'.gens) s₁:=by
  intro H hO hS hok hA hK
  have kindOf:∀{b:Addr} {o:Obj},s₁.heap.get? b=some o→H b≠none→o=W.tabObj #[]∨o={ cls:=.type "list", data:=.seq vs.toArray }:=fun {b o} e n=>by
   by_cases hb:b∈ts
   ·left
    have:=hts b hb
    rw [e] at this
    exact Option.some.inj this
   ·right
    have:=hA b hb n
    rw [this,ha] at e
    exact (Option.some.inj e).symm
  have keep:∀{b:Addr} {o:Obj},s₁.heap.get? b=some o→o≠W.tabObj #[]→o≠{ cls:=.type "list", data:=.seq vs.toArray }→(hidT s₁.heap H).get? b=some o:=fun {b o} e n1 n2=>hidT_get e (by
   cases q:H b with
   | none=>rfl
   | some u =>
    rcases kindOf e (by rw [q];simp) with z | z
    ·exact absurd z n1
    ·exact absurd z n2)
  have nsK:∀{b:Addr} {m:Str→Option Value},s₁.heap.Ns b m→(hidT s₁.heap H).Ns b m:=fun {b m} ⟨o,es,ep,e,d,r⟩=>⟨o,es,ep,keep e (fun z=>by rw [z] at d;cases d) (fun z=>by rw [z] at d;cases d),d,r⟩
  have hKb:K.In (hidT s₁.heap H):=fun b o e=>hidT_get (KX b o e) (by
   cases q:H b with
   | none=>rfl
   | some u =>
    by_cases hb:b∈ts
    ·rw [hKt b hb] at e
     cases e
    ·have z:=hA b hb (by rw [q];simp)
     rw [z] at e q
     rw [hK (by rw [q];simp)] at e
     cases e)
  have hBb:Bm mg (hidT s₁.heap H):=by
   obtain ⟨bm,ob,b1,b2,b3,b4,b5,b6⟩:=hB
   exact ⟨bm,ob,b1,b2,keep b3 (fun z=>by rw [z] at b4;cases b4) (fun z=>by rw [z] at b6;cases b6),b4,b5,b6⟩
  have hM:Mod K mg (hidT s₁.heap H):=⟨hKb,nsK hns,⟨mb,nsK hb,hbb⟩,let ⟨mc,h1,h2⟩:=hlim;⟨mc,nsK h1,h2⟩⟩
  have e0:Env0 P w K mg (hidT s₁.heap H) callerA [] s₁ H:=⟨rfl,hM,fun b o e=>of_hidT e,Nat.le_of_eq (hidT_size _ _),trivial,fun b hb=>absurd (show b∈([]:List Addr) from hb) (by simp),hok,.of_eq hg⟩
  refine codeAny_mono ((F _ hKb (nsK hns) hBb).run callerA [] s₁ H ⟨[.ref a],[]⟩ [.ref a] [.ref a] _ _ hr e0 (hbind s₁ (.ref a)) (.cons rfl .nil) (hsp H hO nat hS)) fun r s' h=>?_
  rcases r with e | fl
  ·exact (hCX H e s' h).elim
  ·rcases fl with _ | _ | _ | u
   ·exact False.elim h
   ·exact False.elim h
   ·exact False.elim h
   ·obtain ⟨v,H',os,bare,un,hok',r',q⟩:=h
    obtain rfl:v=.bl true:=q
    obtain rfl:u=Value.bool true:=r'
    refine ⟨rfl,?_,os,bare⟩
    have each:∀b o,s₁.heap.get? b=some o→s'.heap.get? b=some o∨(b∈ts∧o=W.tabObj #[]∧∃more,s'.heap.get? b=some (W.tabObj (#[]++more))):=fun b o e=>by
     cases q:H b with
     | none=>exact .inl (un.keep b o e q (fun z=>absurd (show b∈([]:List Addr) from z) (by simp)) (by simp))
     | some u =>
      by_cases hb:b∈ts
      ·right
       have e1:=hts b hb
       rw [e] at e1
       obtain ⟨more,e2⟩:=un.tbls b #[] (hO.1 b hb)
       exact ⟨hb,Option.some.inj e1,more,hok' b _ e2⟩
      ·left
       rcases hO.2 b hb with z | ⟨ob,xs,z⟩
       ·rw [q] at z
        cases z
       ·have e1:=(hok b _ z).1
        rw [e] at e1
        cases e1
        exact (hok' b _ (un.frzs b _ _ z)).1
    refine ⟨fun b o e=>?_,fun b o e=>?_⟩
    ·rcases each b o e with z | ⟨hb,rfl,more,z⟩
     ·exact .inl z
     ·exact .inr (.inl ⟨hct b hb,rfl,#[],more,rfl,z⟩)
    ·rcases each b o e with z | ⟨_,_,more,z⟩
     ·exact ⟨_,z⟩
     ·exact ⟨_,z⟩
 cases hk:K.lookup a with
 | some o =>
  have e:=KX a o hk
  rw [ha] at e
  cases e
  refine core (fun b=>if b∈ts then some (.tbl #[]) else none) ⟨fun p hp=>if_pos hp,fun b hb=>.inl (if_neg hb)⟩ (.inr ⟨_,vs.toArray,_,hk,rfl,rfl,rfl,by rw [List.size_toArray,lenV];exact hl,by simpa using rv⟩) (fun b u z=>?_) (fun b hb z=>absurd (if_neg hb) z) fun z=>absurd (if_neg nat) z
  by_cases hb:b∈ts
  ·have z':=(if_pos hb).symm.trans z
   cases z'
   exact hts b hb
  ·have z':=(if_neg hb).symm.trans z
   cases z'
 | none =>
  refine core (fun b=>if b∈ts then some (.tbl #[]) else if b=a then some (.frz { cls:=.type "list", data:=.seq vs.toArray } (.lst (ns.map V.int))) else none) ⟨fun p hp=>if_pos hp,fun b hb=>?_⟩ (.inl (.inr ⟨{ cls:=.type "list", data:=.seq vs.toArray },?_⟩)) (fun b u z=>?_) (fun b hb z=>?_) fun _=>hk
  ·by_cases h:b=a
   ·exact .inr ⟨_,_,(if_neg hb).trans (if_pos h)⟩
   ·exact .inl ((if_neg hb).trans (if_neg h))
  ·exact (if_neg nat).trans (if_pos rfl)
  ·by_cases hb:b∈ts
   ·have z':=(if_pos hb).symm.trans z
    cases z'
    exact hts b hb
   ·by_cases h:b=a
    ·have z':=((if_neg hb).trans (if_pos h)).symm.trans z
     cases z'
     rw [h]
     exact ⟨ha,by rw [List.length_map];exact hl,vs,_,rv,ha⟩
    ·have z':=((if_neg hb).trans (if_neg h)).symm.trans z
     cases z'
  ·by_cases h:b=a
   ·exact h
   ·exact absurd ((if_neg hb).trans (if_neg h)) z
theorem walk_ofT {l:W.OpenLaw} {n k:Nat} {q:Program} {loose:List Str} {XP:(Str→Option Value)→Heap→Prop} {YP:World→Heap→Prop} {d:DefRec} {K:Params→W.Frag} {CX:World→CXT} {sp:World→Sp} {x:Str} {ts:List Addr}
  (hn:l.most=some n) (hn2:n≤sizeLine) (hdf:d.params.defaults=[]) (hr:Room k callerA)
  (hY:∀(w:World) (h:Heap),YP w h→(K w.params).In h∧∀p∈ts,h.get? p=some (W.tabObj #[]))
  (F:∀(w:World) (mg:Str→Option Value) (fa:Addr) (h:Heap),(K w.params).In h→h.Ns mainGlobals mg→mg d.name=some (.ref fa)→(∀p∈ts,(K w.params).lookup p=none∧∃c,W.codeHdIn (K w.params) c p=true) ∧
   ∃fd:FuncData,(∀(s:Shared) (u:Value),BindsTo s fd ⟨[u],[]⟩ [(x,u)]) ∧
    ∀base:Heap,(K w.params).In base→base.Ns mainGlobals mg→Bm mg base→FnOk l.prog w (K w.params) mg base (CX w) k fa fd [x] (sp w))
  (hsp:∀(w:World) (H:Hp) (a:Addr) (ns:List Int),ns.length≤n→OnlyT ts H→a ∉ ts→SqL (K w.params) H a (ns.map V.int)→sp w [.ref a] H (fun v _=>v=.bl true) fun _ _ _=>False)
  (hCX:∀(w:World) (H:Hp) (s:Shared) (e:Value) (s':Shared),CX w [] H s (fun _ _ _=>False) e s'→False) :
  W.WalkO q loose XP YP l.row.toRowW d [] (fun f vs=>PySem.call f vs):=by
 refine Att.attach_call hn hdf fun w s₀ s₁ mg mb fa o pm cd doc a vs ns G Y ho hd hcd hmg hobj hints hlen hg=>?_
 obtain ⟨KX,hts⟩:=hY w _ Y
 obtain ⟨hT,fd,hb,hF⟩:=F w mg fa _ KX G.T.g hmg
 refine law_callT KX G.T.g G.T.b G.T.builtins G.T.nolimit hg G.T.bmain hts (fun p hp=>?_) (fun p hp=>(hT p hp).1) hobj hints (Nat.le_trans hlen hn2) hr hF hb (fun H hO hn hS=>hsp w H a ns hlen hO hn hS) fun H e s'=>hCX w H s₁ e s'
 obtain ⟨c,hc⟩:=(hT p hp).2
 obtain ⟨o,vs,_,_,_,_,_,_,_,e1,e2,e3,e4,_⟩:=W.codeHd_of_K KX hc
 exact ⟨c,o,vs,e1,e2,e3,e4⟩
end L2
namespace L2
open PySem PySem.Spec PyProof.Rows PySem.SeqAt
def tx (cs:List Nat):Str:=⟨cs.toArray⟩
theorem tx_len (cs:List Nat):(tx cs).length=cs.length:=by simp [tx,Str.length]
theorem tx_cps (cs:List Nat):(tx cs).cps.toList=cs:=by simp [tx]
theorem tx_inj {a b:List Nat} (h:tx a=tx b):a=b:=by
 have:=congrArg (fun z:Str=>z.cps.toList) h
 simpa [tx] using this
def rSlS:R2:=fun x y H Q=>∃z j,x=.str z∧y=.int j∧z.length≤sizeLine∧Q (.str (Txt.slice z none (some j))) H
def tSlS (te th:TE):TE:=fun σ H Q=>te σ H fun x H1=>th σ H1 fun y H2=>rSlS x y H2 Q
section
variable {X:Cx} {e hi:Expr} {te th:TE} {p2 pos:Pos}
theorem pe_slS (he:PE X e te) (hu:PE X hi th):PE X (.Subscript e (.Slice none (some hi) none p2) pos) (tSlS te th):=by
 intro pins s σ H Q I h
 refine Subscript_ (thn (he pins s σ H _ I h) fun v s1 ⟨x,H1,I1,r1,q1⟩=>?_)
 refine wpAny_Slice (wpAny_evalPart_none (wpAny_evalPart_some (thn (hu pins s1 σ H1 _ I1 q1) fun vu s3 ⟨y,H3,I3,pu,z,j,e1,e2,hz,q3⟩=>wpAny_evalPart_none ?_)))
 subst e1
 subst e2
 obtain ⟨t,rfl⟩:=r1
 obtain ⟨t2,rfl⟩:=pu
 obtain ⟨Tn,id,h1,h2,h3⟩:=SBH.sliceItem_ns (prog:=X.prog) (w:=X.w) (A:=X.A) (E:=X.xe) (s:=s3) (P:=fun h=>∀b o,s3.heap.get? b=some o→h.get? b=some o) (Q:=EP X pins σ Q) (x:=z) (t:=t) (j:=j) (uj:=t2) (fun h ob k b o e4=>Heap.get?_push_of_some _ (k b o e4)) (fun _ _ e4=>e4) (fun h' t' k kp=>⟨.str _,H3,I3.kept kp,⟨t',rfl⟩,q3⟩) hz
 exact tail_any (ops:=[.ref s3.heap.objs.size,.str z t]) h2 h1 h3 (by with_unfolding_all rfl)
def rMulS:R2:=fun x y H Q=>∃z n,x=.str z∧y=.int n∧MulOk z n∧Q (.str (Txt.mul z n)) H
theorem op_mulS:OpR X (binaryOp .Mult) rMulS:=op_mul_str
end
theorem slice_tx (cs:List Nat) (j:Nat):Txt.slice (tx cs) none (some (j:Int))=tx (cs.take j):=by
 have hn:¬ ((j:Int) < 0):=by lia
 have hix:Builtin.Str.strSliceIndices none (some (j:Int)) 1 (tx cs).length=List.range (min j cs.length):=by
  unfold Builtin.Str.strSliceIndices sliceRange
  dsimp only
  rw [tx_len]
  simp only [show (1:Int) > 0 from by decide,if_true,hn,if_false]
  have e1:max (0:Int) (min (j:Int) (cs.length:Int))=((min j cs.length:Nat):Int):=by lia
  rw [e1]
  by_cases h:(0:Int) < ((min j cs.length:Nat):Int)
  ·rw [if_pos h]
   have e2:((((min j cs.length:Nat):Int) - 0 + 1 - 1) / 1).toNat=min j cs.length:=by
    rw [Int.ediv_one]
    lia
   rw [e2]
   have e3:(fun k:Nat=>((0:Int) + 1 * (k:Int)).toNat)=id:=by
    funext k
    show ((0:Int) + 1 * (k:Int)).toNat=k
    lia
   rw [e3,List.map_id]
  ·rw [if_neg h]
   have:min j cs.length=0:=by lia
   rw [this]
   rfl
 unfold Txt.slice
 rw [hix,List.length_range,tx_len]
 by_cases h:min j cs.length=cs.length
 ·rw [if_pos (by rw [h];simp)]
  rw [List.take_of_length_le (by lia)]
 ·rw [if_neg (by simp [h])]
  unfold tx
  congr 2
  have hfm:∀(n:Nat),n≤cs.length→(List.range n).filterMap (fun i=>cs.toArray[i]?)=cs.take n:=by
   intro n
   induction n with
   | zero=>intro _;rfl
   | succ n ih =>
    intro hn
    rw [List.range_succ,List.filterMap_append,ih (by lia),List.take_succ,List.filterMap_cons,List.filterMap_nil]
    have:cs.toArray[n]?=cs[n]?:=by simp
    rw [this]
    cases cs[n]? <;> rfl
  have:=hfm (min j cs.length) (by lia)
  rw [this]
  by_cases hj:j≤cs.length
  ·rw [show min j cs.length=j by lia]
  ·exact absurd (by lia) h
theorem mul_tx (c:Nat) (n:Int):Txt.mul (tx [c]) n=tx (List.replicate n.toNat c):=by
 have h:=mul_one_list c n
 have e:(tx [c])=⟨#[c]⟩:=rfl
 rw [e]
 have:∀z:Str,z=tx z.cps.toList:=fun z=>by cases z;simp [tx]
 rw [this (Txt.mul ⟨#[c]⟩ n),h]
theorem append_tx (a b:List Nat):tx a++tx b=tx (a++b):=by
 show Str.append _ _=_
 unfold Str.append tx
 simp
section
variable {K:W.Frag} {H0 H:Hp} {M:List Addr} {L L':List (Addr×HO)} {I:List Im} {l P f:Addr} {xs ys:List V} {v y:V} {Q:VK} {R:Hp→Prop} {te th:TE} {σ:St} {i:Int} {cs ds:List Nat} {j c:Nat} {pos:Pos} {qual:Str} {ps:Array Value}
instance go_slS:Go (tSlS te th σ H Q) (te σ H fun x H1=>th σ H1 fun y H2=>rSlS x y H2 Q):=⟨id⟩
instance go_rslS:Go (rSlS (.str (tx cs)) (.int i) H Q) (Sd (0≤i∧cs.length≤1000) (Q (.str (tx (cs.take i.toNat))) H)):=⟨fun s=>⟨_,i,rfl,rfl,by rw [tx_len];exact small_line (by have:=s.1.2;lia),by
 have:=slice_tx cs i.toNat
 rw [show ((i.toNat:Nat):Int)=i by have:=s.1.1;lia] at this
 rw [this]
 exact s.2⟩⟩
instance go_rixS:Go (rIxS (.str (tx cs)) (.int i) H Q) (Sd (0≤i∧i < cs.length∧cs.length≤1000) (∀c:Nat,cs[i.toNat]?=some c→Q (.str (tx [c])) H)):=⟨fun s=>by
 obtain ⟨⟨h0,h1,h2⟩,k⟩:=s
 have hl:i.toNat < cs.length:=by lia
 refine ⟨tx cs,i,cs[i.toNat],rfl,rfl,by rw [tx_len];exact small_line (by lia),?_,k _ (by simp)⟩
 rw [tx_cps]
 obtain ⟨n,rfl⟩:∃n:Nat,i=(n:Int):=⟨i.toNat,by lia⟩
 exact atI_nat (by simp)⟩
instance go_raddS:Go (rAddS (.str (tx cs)) (.str (tx ds)) H Q) (Sd (cs.length + ds.length≤1000) (Q (.str (tx (cs++ds))) H)):=⟨fun s=>⟨_,_,rfl,rfl,by rw [tx_len,tx_len];exact small_line (by have:=s.1;lia),by rw [append_tx];exact s.2⟩⟩
instance go_rmulS:Go (rMulS (.str (tx [c])) (.int i) H Q) (Sd (0≤i∧i≤1000) (Q (.str (tx (List.replicate i.toNat c))) H)):=⟨fun s=>by
 obtain ⟨⟨h0,h1⟩,k⟩:=s
 refine ⟨_,i,rfl,rfl,⟨?_,fun a b=>?_,fun a b=>?_⟩,by rw [mul_tx];exact k⟩
 ·rw [decide_eq_false (by lia),decide_eq_false (by lia)]
  rfl
 ·rw [tx_len]
  have:(1:Int)≤(2 ^ 63 - 1) / i:=by
   rw [Int.le_ediv_iff_mul_le (by lia)]
   lia
  simp only [List.length_cons,List.length_nil]
  lia
 ·unfold Builtin.Str.tooLong
  rw [tx_len]
  refine decide_eq_false ?_
  have:=small_line (n:=1 * i.toNat) (by lia)
  simp only [List.length_cons,List.length_nil]
  lia⟩
theorem TabOk.st:∀H H',Tst H H'→TabOk pos qual ps H→TabOk pos qual ps H':=fun H H' t h=>by
 rcases h with h | ⟨c',oc,vs,t',e,e1,e2⟩
 ·exact .inl h
 ·exact .inr ⟨c',oc,vs,t',e,t _ _ rfl e1,e2⟩
theorem IsLam.st:∀H H',Tst H H'→IsLam H f→IsLam H' f:=fun H H' t h=>by
 obtain ⟨a1,a2,a3,a4,a5,a6,a7,a8,a9,a10,a11,a12,a13,a14,e1,e2,r⟩:=h
 exact ⟨a1,a2,a3,a4,a5,a6,a7,a8,a9,a10,a11,a12,a13,a14,t _ _ rfl e1,t _ _ rfl e2,r⟩
abbrev TabI (pos:Pos) (qual:Str) (ps:Array Value):Im:=.fct (TabOk pos qual ps) TabOk.st
abbrev LamI (f:Addr):Im:=.fct (fun H=>IsLam H f) IsLam.st
class TabA (I:List Im) (pos:Pos) (qual:Str) (ps:Array Value):Prop where
 m:TabI pos qual ps∈I
class LamA (I:List Im) (f:Addr):Prop where
 m:LamI f∈I
instance tabA1 {g:Im} [h:TabA I pos qual ps]:TabA (g::I) pos qual ps:=⟨List.mem_cons_of_mem _ h.m⟩
instance tabA0:TabA (TabI pos qual ps::I) pos qual ps:=⟨List.mem_cons_self⟩
instance lamA0:LamA (LamI f::I) f:=⟨List.mem_cons_self⟩
theorem SH.tab [F:SH H0 M H L I] [h:TabA I pos qual ps]:TabOk pos qual ps H:=F.im _ h.m
instance go_lam [F:SH H0 M H L I] [e:LkL L P (.tbl ps)] [t:TabA I pos qual ps]:Go (tLam P pos qual σ H Q) (∀(f:Addr) (ps':Array Value) (H':Hp),Kp P H H'→H' P=some (.tbl ps')→TabOk pos qual ps' H'→IsLam H' f→Q (.ref f) H'):=⟨fun k=>⟨ps,F.raw e.m,F.im _ t.m,k⟩⟩
instance nx_tab [F:SH H0 M H L I] [u:LkU L P (.tbl ps) L']:Go (∀H',Kp P H H'→H' P=some (.tbl ps)→TabOk pos qual ps H'→R H') (∀H',SH H0 M H' L' (TabI pos qual ps::I)→R H'):=⟨fun k H' f e t=>k H' ((F.kp f e u.u rfl).addF t)⟩
instance nx_lam [F:SH H0 M H L I] [u:LkU L P (.tbl ps) L']:Go (∀H',Kp P H H'→H' P=some (.tbl ps)→TabOk pos qual ps H'→IsLam H' f→R H') (∀H',SH H0 M H' L' (LamI f::TabI pos qual ps::I)→R H'):=⟨fun k H' f e t g=>k H' (((F.kp f e u.u rfl).addF t).addF g)⟩
end
def isLow (c:Nat):Bool:=decide (97≤c) && decide (c≤122)
def isFig (c:Nat):Bool:=decide (48≤c) && decide (c≤57)
def LET:Str := "abcdefghijklmnopqrstuvwxyz"
def SGN:Str := "abcdefghijklmnopqrstuvwxyz0123456789"
theorem let_low (c:Nat):decide (c∈LET.cps.toList)=isLow c:=by
 rw [show LET.cps.toList=List.range' 97 26 by decide +kernel]
 unfold isLow
 rw [Bool.eq_iff_iff]
 simp only [decide_eq_true_eq,List.mem_range'_1,Bool.and_eq_true]
 lia
theorem sgn_low (c:Nat):decide (c∈SGN.cps.toList)=(isLow c || isFig c):=by
 rw [show SGN.cps.toList=List.range' 97 26++List.range' 48 10 by decide +kernel]
 unfold isLow isFig
 rw [Bool.eq_iff_iff]
 simp only [decide_eq_true_eq,List.mem_append,List.mem_range'_1,Bool.and_eq_true,Bool.or_eq_true]
 lia
structure NameOk (cs:List Nat):Prop where
 lo:1≤cs.length
 hi:cs.length≤8
 hd:∀c,cs[0]?=some c→isLow c=true
 all:∀c∈cs,(isLow c || isFig c)=true
structure Rw where
 nm:List Nat
 st:Nat
 sz:Nat
 pn:Nat
abbrev rowV (r:Rw):List V:=[.str (tx r.nm),.int (r.st:Nat),.int (r.sz:Nat),.int (r.pn:Nat)]
def rowsV (rs:List Rw):List (List V):=rs.map rowV
theorem rowsV_len (rs:List Rw):(rowsV rs).length=rs.length:=List.length_map ..
structure GoodR (n:Nat) (r:Rw):Prop where
 nm:NameOk r.nm
 sz:1≤r.sz
 le:r.st + r.sz≤n
def Apart (r s:Rw):Prop:=r.nm≠s.nm∧(r.st + r.sz≤s.st∨s.st + s.sz≤r.st)
theorem Apart.symm {r s:Rw} (h:Apart r s):Apart s r:=⟨fun z=>h.1 z.symm,h.2.elim .inr .inl⟩
structure Lay (n:Nat) (rs:List Rw):Prop where
 good:∀r∈rs,GoodR n r
 ap:rs.Pairwise Apart
 few:rs.length≤40
def Asc (rs:List Rw):Prop:=rs.Pairwise fun r s=>r.st + r.sz≤s.st
theorem Lay.perm {n:Nat} {rs qs:List Rw} (h:Lay n rs) (p:rs.Perm qs):Lay n qs:=⟨fun r hr=>h.good r (p.mem_iff.mpr hr),(p.pairwise_iff (fun {a b}=>Apart.symm)).mp h.ap,by rw [← p.length_eq];exact h.few⟩
theorem rowsV_at {H:Hp} {rs:List Rw} {ys:List V} {i:Nat} {v:V} (h:TupsAt H ys (rowsV rs)) (e:ys[i]?=some v):∃r q,rs[i]?=some r∧v=.ref q∧H q=some (.tup (rowV r)):=by
 obtain ⟨r,q,e1,e2,e3⟩:=tups_at h e
 unfold rowsV at e1
 rw [List.getElem?_map] at e1
 cases e4:rs[i]? with
 | none=>rw [e4] at e1;cases e1
 | some w=>rw [e4] at e1;cases e1;exact ⟨w,q,rfl,e2,e3⟩
theorem perm_of_map {α β:Type} {f:α→β} {l:List β} {m:List α} (p:l.Perm (m.map f)):∃k:List α,k.Perm m∧l=k.map f:=by
 generalize hm:m.map f=m' at p
 induction p generalizing m with
 | nil=>exact ⟨[],by rw [List.map_eq_nil_iff.mp hm],rfl⟩
 | cons x p ih =>
  cases m with
  | nil=>cases hm
  | cons a t =>
   rw [List.map_cons] at hm
   injection hm with h1 h2
   obtain ⟨k,pk,ek⟩:=ih h2
   exact ⟨a::k,pk.cons a,by rw [List.map_cons,h1,ek]⟩
 | swap x y l =>
  cases m with
  | nil=>cases hm
  | cons a t =>
   cases t with
   | nil=>rw [List.map_cons] at hm;injection hm with h1 h2;cases h2
   | cons b u =>
    rw [List.map_cons,List.map_cons] at hm
    injection hm with h1 h2
    injection h2 with h2 h3
    exact ⟨b::a::u,List.Perm.swap a b u,by rw [List.map_cons,List.map_cons,h1,h2,h3]⟩
 | trans p1 p2 ih1 ih2 =>
  obtain ⟨k,pk,ek⟩:=ih2 hm
  obtain ⟨k2,pk2,ek2⟩:=ih1 ek.symm
  exact ⟨k2,pk2.trans pk,ek2⟩
theorem rise_one:∀{as bs:List Rw},as.Perm bs→as.Pairwise (fun r s=>r.st≤s.st)→bs.Pairwise (fun r s=>r.st < s.st)→as=bs:=by
 intro as
 induction as with
 | nil=>intro bs p _ _;exact (List.nil_perm.mp p).symm
 | cons a t ih =>
  intro bs p ha hb
  cases bs with
  | nil=>exact absurd p.length_eq (by simp)
  | cons b u =>
   have e:a=b:=by
    rcases List.mem_cons.mp (p.mem_iff.mp List.mem_cons_self) with h | h
    ·exact h
    ·have h1:=(List.pairwise_cons.mp hb).1 a h
     rcases List.mem_cons.mp (p.mem_iff.mpr (List.mem_cons_self (a:=b) (l:=u))) with h2 | h2
     ·exact h2.symm
     ·have h3:=(List.pairwise_cons.mp ha).1 b h2
      lia
   subst e
   rw [ih (List.perm_cons a |>.mp p) (List.pairwise_cons.mp ha).2 (List.pairwise_cons.mp hb).2]
theorem zip_map1 {rs:List Rw} {ys:List V}:(rs.map fun r=>((r.st:Nat):Int)).zip ys=(rs.zip ys).map fun p=>(((p.1.st:Nat):Int),p.2):=by
 rw [List.zip_map_left]
 rfl
theorem sort_rows {H:Hp} {rs as:List Rw} {ys zs:List V} (t:TupsAt H ys (rowsV rs)) (p:rs.Perm as) (ha:as.Pairwise fun r s=>r.st < s.st) (s:SortedBy (rs.map fun r=>((r.st:Nat):Int)) ys zs):TupsAt H zs (rowsV as):=by
 obtain ⟨ps,pp,rfl,pw⟩:=s
 rw [zip_map1] at pp
 obtain ⟨qs,pq,rfl⟩:=perm_of_map pp
 have hl:ys.length=rs.length:=by rw [t.1,rowsV_len]
 have e1:(rs.zip ys).map Prod.fst=rs:=List.map_fst_zip (by lia)
 have pf:(qs.map Prod.fst).Perm rs:=by
  have:=pq.map Prod.fst
  rw [e1] at this
  exact this
 have hq:qs.map Prod.fst=as:=by
  refine rise_one (pf.trans p) ?_ ha
  rw [List.pairwise_map] at pw ⊢
  exact pw.imp fun h=>by lia
 have each:∀x∈qs,∃q,x.2=.ref q∧H q=some (.tup (rowV x.1)):=fun x hx=>by
  have hx:=pq.mem_iff.mp hx
  obtain ⟨i,hi,e⟩:=List.getElem_of_mem hx
  rw [List.length_zip] at hi
  rw [List.getElem_zip] at e
  obtain ⟨r,q,e2,e3,e4⟩:=rowsV_at t (v:=ys[i]'(by lia)) (i:=i) (by simp)
  rw [List.getElem?_eq_getElem (by lia)] at e2
  refine ⟨q,by rw [← e];exact e3,?_⟩
  rw [← e]
  show H q=some (.tup (rowV rs[i]))
  rw [Option.some.inj e2]
  exact e4
 refine ⟨by rw [rowsV_len,← hq,List.length_map,List.length_map,List.length_map],fun j r e=>?_⟩
 unfold rowsV at e
 rw [← hq,List.map_map,List.getElem?_map] at e
 cases e5:qs[j]? with
 | none=>rw [e5] at e;cases e
 | some x =>
  rw [e5] at e
  cases e
  obtain ⟨q,e6,e7⟩:=each x (List.mem_of_getElem? e5)
  exact ⟨q,by rw [List.map_map,List.getElem?_map,e5];show some x.2=_;rw [e6],e7⟩
theorem Asc.lt {n:Nat} {rs:List Rw} (h:Asc rs) (g:∀r∈rs,GoodR n r):rs.Pairwise fun r s=>r.st < s.st:=by
 refine List.Pairwise.imp_of_mem ?_ h
 intro a b ha hb hab
 have:=(g a ha).sz
 lia
def rInS:R2:=fun x y H Q=>∃c j,x=.str ⟨#[c]⟩∧y=.str j∧Q (.bl (decide (c∈j.cps.toList))) H
section
variable {X:Cx} {K:W.Frag} {H:Hp} {Q:VK} {z:Str} {cs:List Nat} {c:Nat} {t0 te:TE} {nt:Nat} {fr:List Nat} {g:TG} {cc:TT} {σ fvs:St} {p f l:Addr} {bs:List Bool} {ys:List V} {rs:List Rw}
theorem op_inS:OpR X (compareOp .In) rInS:=op_in_str1
instance go_inS:Go (rInS (.str (tx [c])) (.str z) H Q) (Q (.bl (decide (c∈z.cps.toList))) H):=⟨fun k=>⟨c,z,rfl,rfl,k⟩⟩
instance go_isSS:Go (rIsT K [.str z,.ty "str"] H Q) (Q (.bl true) H):=⟨fun k=>w_is (TyOf.str (K:=K) (H:=H) z) (bt_str (TyOf.str (K:=K) (H:=H) z)) k⟩
instance go_lenS:Go (rLen K [.str (tx cs)] H Q) (Sd (cs.length≤1000) (Q (.int cs.length) H)):=⟨fun s=>w_lenS (by rw [tx_len];exact small_line (by have:=s.1;lia)) (by rw [tx_len];exact s.2)⟩
instance go_compS:Go (tComp (iStr t0) nt fr g cc te σ H Q) (t0 σ H fun x H1=>∃z,x=.str z∧CompAll (Its z) nt fr g cc te σ H1 Q):=⟨id⟩
instance go_compS1:Go (∃z',V.str z=.str z'∧CompAll (Its z') nt fr g cc te σ H Q) (CompAll (Its z) nt fr g cc te σ H Q):=⟨fun k=>⟨z,rfl,k⟩⟩
theorem comp_S {F:Nat→V} (hz:cs.length≤1000) (hf:(fr.map fun i=>(σ[i]?).getD none)=fvs) (turn:∀(c:Nat) (H':Hp) (R:VK),c∈cs→Same H H'→(∀H2,Same H' H2→R (F c) H2)→te (some (.str (tx [c]))::fvs) H' R)
  (k:∀p H',New H H' p (.lst (cs.map F))→Q (.ref p) H'):CompAll (Its (tx cs)) 1 fr (gName 0) tTrue te σ H Q:=by
 have e0:signsV (tx cs)=cs.map fun c=>V.str (tx [c]):=by
  unfold signsV
  rw [tx_cps]
  rfl
 refine comp_map (P:=fun i y=>∃c,cs[i]?=some c∧y=F c) (items_str (z:=tx cs)) (by rw [e0,List.length_map];lia) hf (fun _ _=>trivial) (fun i v H' R hv s kk=>?_) fun p H' ys n hl hP=>k p H' ?_
 ·rw [e0,List.getElem?_map] at hv
  cases e:cs[i]? with
  | none=>rw [e] at hv;cases hv
  | some c =>
   rw [e] at hv
   cases hv
   exact turn c H' R (List.mem_of_getElem? e) s fun H2 s2=>kk _ _ s2 ⟨c,e,rfl⟩
 ·have e:ys=cs.map F:=by
   rw [e0,List.length_map] at hl
   apply List.ext_getElem?
   intro i
   rw [List.getElem?_map]
   by_cases hi:i < ys.length
   ·obtain ⟨c,e1,e2⟩:=hP i ys[i] (by simp)
    rw [e1,List.getElem?_eq_getElem hi,e2]
    rfl
   ·rw [List.getElem?_eq_none (by lia),List.getElem?_eq_none (by lia)]
    rfl
  rw [e] at n
  exact n
instance go_all [h:SqA K H p (bs.map V.bl)]:Go (∃(p':Addr) (bs':List Bool),[V.ref p]=[.ref p']∧SqL K H p' (bs'.map V.bl)∧Q (.bl (bs'.all id)) H) (Q (.bl (bs.all id)) H):=⟨fun k=>⟨p,bs,rfl,h.e,k⟩⟩
instance go_sortK {H0:Hp} {M:List Addr} {L:List (Addr×HO)} {I:List Im} [F:SH H0 M H L I] [h:SqA K H l ys] [t:TpA H ys (rowsV rs)] [m:LamA I f]:Go (rSortK K [.ref l] (.ref f) H Q) (Sd (rs.length < 64) (∀D zs H',New H H' D (.lst zs)→SortedBy (rs.map fun r=>((r.st:Nat):Int)) ys zs→Q (.ref D) H')):=⟨fun s=>by
 have hl:ys.length=rs.length:=by rw [t.e.1,rowsV_len]
 refine ⟨l,f,ys,rs.map fun r=>((r.st:Nat):Int),rfl,rfl,F.im _ m.m,h.e,by rw [List.length_map,hl],by rw [hl];exact s.1,fun i v k hv hk=>?_,s.2⟩
 obtain ⟨r,q,e1,e2,e3⟩:=rowsV_at t.e hv
 rw [List.getElem?_map,e1] at hk
 cases hk
 exact ⟨q,_,e2,e3,rfl⟩⟩
instance nx_rowsV {H0:Hp} {M:List Addr} {L:List (Addr×HO)} {I:List Im} {Z:Addr→Hp→Prop} [F:SH H0 M H L I]:Go (∀p ys H',New H H' p (.lst ys)→TupsAt H' ys (rowsV rs)→Z p H') (∀H' p ys,ys.length=rs.length→SH H0 M H' ((p,.lst ys)::L) (.tps ys (rowsV rs)::I)→Z p H'):=⟨fun k p ys H' n t=>k H' p ys (by rw [t.1,rowsV_len]) (F.newR n t)⟩
end
end L2
namespace L2
open PySem PySem.Spec PyProof.Rows
end L2
namespace L2
open PySem PySem.W PySem.Spec PyProof.Rows
section
variable {n:Nat} {rk:Nat→Int} {α β:Type}
def Pp (n:Nat) (p:Array Nat):Prop:=p.Perm (List.range n).toArray
theorem Pp.size {p:Array Nat} (h:Pp n p):p.size=n:=by
 have:=h.size_eq
 simpa using this
theorem Pp.lt {p:Array Nat} (h:Pp n p) {k:Nat} (hk:k < n):p.getD k 0 < n:=by
 have hs:=h.size
 have e:p.getD k 0=p[k]'(by lia):=by rw [Array.getD_eq_getD_getElem?,Array.getElem?_eq_getElem (by lia)];rfl
 rw [e]
 have:=(Array.perm_iff_toList_perm.mp h).mem_iff.mp (show p[k]'(by lia)∈p.toList by simp)
 simpa using this
theorem Pp.ne {p:Array Nat} (h:Pp n p) {a b:Nat} (ha:a < n) (hb:b < n) (hab:a≠b):p.getD a 0≠p.getD b 0:=by
 have hs:=h.size
 have e:∀k (hk:k < n),p.getD k 0=p.toList[k]'(by simpa [hs] using hk):=fun k hk=>by
  rw [Array.getD_eq_getD_getElem?,Array.getElem?_eq_getElem (by lia)]
  rfl
 have nd:p.toList.Nodup:=(Array.perm_iff_toList_perm.mp h).nodup_iff.mpr (by simpa using List.nodup_range)
 rw [e a ha,e b hb]
 intro z
 exact hab ((List.getElem_inj nd).mp z)
end
end L2
namespace L2
open PySem PySem.W PySem.Calls PySem.Spec PyProof.Rows
section
variable {prog:Program} {w:World} {A:Around} {E:Value→Shared→Prop} {s:Shared} {h₀:Heap} {L:Addr} {m:Str→Option Value} {news:List (Addr×Obj)} {vs:List Value}
inductive F2 {α β:Type} (R:α→β→Prop):List α→List β→Prop
 | nil:F2 R [] []
 | cons {a b l m}:R a b→F2 R l m→F2 R (a::l) (b::m)
theorem F2.length_eq {α β:Type} {R:α→β→Prop}:∀{l:List α} {m:List β},F2 R l m→l.length=m.length
 | _,_,.nil=>rfl
 | _,_,.cons _ h=>congrArg (· + 1) h.length_eq
end
end L2
namespace L2
open PySem PySem.Spec PyProof.Rows PySem.SeqAt
end L2
namespace L2
open PySem PySem.W PySem.Spec PyProof.Rows
section
variable {CX:CXT} {P:Program} {w:World} {K:W.Frag} {mg:Str→Option Value} {base:Heap} {k m:Nat} {x:Str} {ps:List Str} {sp:Sp} {ds:List Value} {dvs:List V}
structure DefD (P:Program) (w:World) (K:W.Frag) (mg:Str→Option Value) (base:Heap) (CX:CXT) (k:Nat) (x:Str) (ps:List Str) (sp:Sp) (ds:List Value):Prop where
 ex:∃(f:Addr) (fd:FuncData),FnOk P w K mg base CX k f fd ps sp∧mg x=some (.ref f)∧W.keepIn K (.ref f)=true∧Binds K fd ps []∧Binds K fd ps ds
theorem DefD.all (D:DefD P w K mg base CX k x ps sp ds):Def P w K mg base CX k x ps sp :=
 let ⟨f,fd,F,a,b,c,_⟩:=D.ex
 ⟨f,fd,F,a,b,c⟩
end
end L2
namespace L2
open PySem PySem.Spec PyProof.Rows PySem.SeqAt
section
variable {K:W.Frag} {H:Hp} {Q:VK} {σ:St} {t:TE} {ts:List TE} {a b cs:List Nat} {c n:Nat} {ps:List (List Nat)} {p l q:Addr} {xs ys r:List V} {lo hi:Option Int} {R:Str→Prop} {S:Int→Prop} {v v0 v1 v2 v3 v4 v5:V} {i:Int} {z:Str} {bb:Bool}
instance go_isNr:Go (rIsN (.ref p) .non H Q) (Q (.bl false) H):=⟨fun k=>⟨rfl,k⟩⟩
instance go_isNn:Go (rIsN .non .non H Q) (Q (.bl true) H):=⟨fun k=>⟨rfl,k⟩⟩
instance go_notNi:Go (rNotN (.int i) .non H Q) (Q (.bl true) H):=⟨fun k=>⟨rfl,k⟩⟩
instance go_notNn:Go (rNotN .non .non H Q) (Q (.bl false) H):=⟨fun k=>⟨rfl,k⟩⟩
end
end L2
namespace L2
open PySem PySem.W PySem.Calls PySem.Spec PyProof.Rows
end L2
namespace L2
open PySem PySem.Spec PyProof.Rows PySem.SeqAt
theorem cx_s0 {CX:CXT} {P:Program} {w:World} {K:W.Frag} {mg:Str→Option Value} {base:Heap} {N:List Str} {qual:Str} {scope:Scope} {f:Addr} {cd:Value} {A:Around} {outer:List Env} {s:Shared} {H:Hp} {E:XK}:(cxOf CX P w K mg base N qual scope f cd A outer s H E).s₀=s:=rfl
def tEX (th:THd) (D:Ends):St→XK:=fun σ cv dx H=>∃C,cv=.ref C∧∀a,H a=none→th D C a dx σ (upd H a (excT a C dx))
class ExA (H:Hp) (a:Addr) (C:outParam Addr) (fs:outParam (List (Str×V))):Prop where
 e:ExcT H a C fs
class ExM (K:W.Frag) (C d:Addr) (b:outParam Bool):Prop where
 e:W.exmOne K (.ref C) (.ref d)=some b
def RaiseG1 (n:Nat) (C:Addr) (H0:Hp) (E:XK) (f:Str) (vs:List V) (H1:Hp):Prop:=∃v,vs=[v]∧∀z H',n≤z→H1 z=none→Same H1 H'→ExcAt H' z C [(f,v)]→∃a dx,V.ref z=.ref a∧n≤a∧H0 a=none∧H' a=some (excO a C dx)∧E (.ref C) dx (del H' a)
section
variable {K:W.Frag} {H H0:Hp} {M:List Addr} {L:List (Addr×HO)} {I:List Im} {Q:VK} {σ:St} {D:Ends} {th rest:THd} {tbE:(St→XK)→TS} {t:TA} {ta:TE} {sp:Sp} {EX:St→XK} {E:XK} {C d a:Addr} {dx:Option Addr} {fs:List (Str×V)} {f g m:Str} {v y:V} {n:Nat} {ts:Addr→TS} {b:Bool}
instance go_tryI:Go (tTry (fun _ EX=>tbE EX) th D σ H) (tbE (tEX th D) D σ H):=⟨fun h _=>h⟩
instance go_raised [F:SH H0 M H L I]:Go (∀dx H',Same H H'→H' dx=some (dctO dx fs)→tEX th D σ (.ref C) (some dx) H') (∀(H':Hp) (a dx:Addr),SH H0 M H' L I→ExcT H' a C fs→th D C a (some dx) σ H'):=⟨fun k dx H' s e=>⟨C,rfl,fun a ha=>k _ a dx ((F.same s).same (Same.new ha)) (ExcT.mk e ha)⟩⟩
instance go_callxI:Go (tCallx EX sp t σ H Q) (t σ H fun vs H1=>sp vs H1 Q (EX σ)):=⟨id⟩
instance go_raise1I:Go (tRaise C H0 n E (tEx1N n C f t) D σ H) (t σ H fun vs H1=>RaiseG1 n C H0 E f vs H1):=⟨fun h=>h⟩
instance go_rg1 [F:SH H0 [] H L I]:Go (RaiseG1 n C H0 E f [v] H) (∀dx H2,Same H H2→H2 dx=some (dctO dx [(f,v)])→E (.ref C) (some dx) H2):=⟨fun k=>⟨v,rfl,fun z H' hn hz s e=>go_raise (by simp) hn hz (F.sm.free hz) s e k⟩⟩
instance go_exfI:Go (tExFT C ta f σ H Q) (ta σ H fun x H1=>∃a fs v,x=.ref a∧ExcT H1 a C fs∧fs.lookup f=some v∧Q v H1):=⟨id⟩
instance go_exf2 [h:ExA H a C fs] [e:FLk fs f v] {R:V→Prop}:Go (∃a' fs' v',V.ref a=.ref a'∧ExcT H a' C fs'∧fs'.lookup f=some v'∧R v') (R v):=⟨fun k=>⟨a,fs,v,rfl,h.e,e.e,k⟩⟩
instance flk0 {r:List (Str×V)}:FLk ((f,v)::r) f v:=⟨by simp [List.lookup]⟩
instance go_hPlY [e:ExM K C d true]:Go (hPl K d ts rest D C a dx σ H) (ts a D σ H):=⟨fun h=>⟨true,e.e,by rw [if_pos rfl];exact h⟩⟩
instance go_hAs5 {o0 o1 o2 o3 o4 o:Option V} {r:St} [e:ExM K C d true]:Go (hAs K d 5 ts rest D C a dx (o0::o1::o2::o3::o4::o::r) H) (ts a (D.forget 5) (o0::o1::o2::o3::o4::some (.ref a)::r) H):=⟨fun h=>go_caught e.e h⟩
instance go_fgt5 {o0 o1 o2 o3 o4 o:Option V} {r:St}:Go (Ends.nx (Ends.forget D 5) (o0::o1::o2::o3::o4::o::r) H) (Ends.nx D (o0::o1::o2::o3::o4::none::r) H):=⟨fun h=>h⟩
end
end L2
namespace L2
open PySem PySem.W PySem.Spec PyProof.Rows
end L2
namespace L2
open PySem PySem.Spec PyProof.Rows
theorem small_down {a:Int} (h0:-1≤a) (h1:a≤1000000):Builtin.Range.small a (-1) (-1)=true∧Builtin.Range.rangeSize a (-1) (-1)=a + 1:=by
 have hs:Builtin.Range.rangeSize a (-1) (-1)=a + 1:=by
  unfold Builtin.Range.rangeSize
  rw [if_neg (by decide)]
  split
  ·rw [show (-(-1):Int)=1 by decide,Int.ediv_one]
   lia
  ·lia
 have fit:∀x:Int,-2000000≤x→x≤2000000→Builtin.Range.rangeFitsLong x=true:=fun x y1 y2=>by
  unfold Builtin.Range.rangeFitsLong
  rw [decide_eq_true (by lia),decide_eq_true (by lia)]
  rfl
 refine ⟨?_,hs⟩
 unfold Builtin.Range.small
 rw [hs,fit a (by lia) (by lia),fit (-1) (by decide) (by decide),fit _ (by lia) (by lia)]
 first
  | rfl
  | (rw [if_neg (by decide)];rw [fit _ (by lia) (by lia)];first | rfl | simp)
  | simp
theorem nopl1 {x:Int}:Builtin.divisionGoesByPylong x (-1)=false:=by
 unfold Builtin.divisionGoesByPylong
 have e:(if ((-1:Int) == 0)=true then 0 else (-1:Int).natAbs.log2 / 30 + 1)=1:=by decide
 simp only [Bool.and_eq_false_iff,decide_eq_false_iff_not]
 left
 rw [e]
 lia
section
variable {X:Cx} {tg:Expr}
def iRngD (ta:TA):TI:=fun σ H R=>ta σ H fun vs H1=>∃i:Int,vs=[.int i,.int (-1),.int (-1)]∧(-1≤i∧i≤1000000)∧R (Itq i (-1) (i + 1).toNat) H1
theorem falls_it {pins:List (Addr×Obj)} {σ:St} {H:Hp} {s:Shared} {R:It→Hp→Prop} {E:Value→Shared→Prop} {lo:Int} {t u v:Tok} {tk:Nat} (I:Inv X pins σ H s) (h0:-1≤lo) (h1:lo≤1000000)
  (q:R (Itq lo (-1) (lo + 1).toNat) H):wpAny (model X.prog X.w) X.A (pyIter (.ref s.heap.objs.size)) (PIE X pins σ tg R) E { s with heap:=s.heap.push { cls:=.type "range", data:=.fields #[.int lo t,.int (-1) u,.int (-1) v] },toks:=tk }:=by
 obtain ⟨sm,sz⟩:=small_down h0 h1
 refine wpAny_pyIter_range (IsRange.new ..) sm ?_
 generalize hh:s.heap.push { cls:=.type "range", data:=.fields #[.int lo t,.int (-1) u,.int (-1) v] }=hp
 have I1:Inv X pins σ H { s with heap:=hp,toks:=tk }:=by
  rw [← hh]
  exact I.kept fun b o e=>Heap.get?_push_of_some _ e
 refine ⟨hp.objs.size,[hp.objs.size],_,_,H,rfl,I1.kept (t':=tk) fun b o e=>Heap.get?_push_of_some _ e,turn_steps _ lo (-1) (lo + 1).toNat,?_,fun b hb=>?_,q⟩
 ·show IsRangeIter _ _ (lo + ((0:Nat):Int) * (-1)) (((((lo + 1).toNat:Nat):Int)) - ((0:Nat):Int)) (-1)
  rw [show lo + ((0:Nat):Int) * (-1)=lo by simp,show (((lo + 1).toNat:Nat):Int) - ((0:Nat):Int)=Builtin.Range.rangeSize lo (-1) (-1) by rw [sz];lia]
  exact Heap.get?_push_size _ rfl
 ·rw [List.mem_singleton.mp hb]
  exact I1.fpOk (Nat.le_refl _) (I1.hok.fresh (Nat.le_refl _))
theorem pi_rangeD {a b c:Expr} {ta:TA} {p pos:Pos} (hg:Gl X "range") (hm:X.mg "range" = none) (ha:PA X [a,b,c] ta) (h1:starEach [a,b,c] X.env=(false,eval a X.env)::starEach [b,c] X.env:=by rfl) (h2:((backTo pos (starEach [b,c] X.env)).any fun x=>x.fst)=false:=by rfl) :
  PI X tg (.Call (.Name "range" p) [a,b,c] [] pos) (iRngD ta):=by
 intro pins s σ H R I h
 refine Call_ (ld_blt I hg hm boot_range (PyProof.Rows.callWith_type1 (thn (ha pos pins s σ H _ I h) fun us s1 ⟨vs,H1,I1,r1,i,e,⟨q1,q2⟩,q⟩=>?_) h1 h2))
 subst e
 rcases r1 with _ | ⟨⟨t,rfl⟩,_ | ⟨⟨t2,rfl⟩,_ | ⟨⟨t3,rfl⟩,_ | _⟩⟩⟩
 exact call_range_3 (by decide) (falls_it I1 q1 q2 q) (.inl nopl1)
end
section
variable {K:W.Frag} {H:Hp} {Q:VK} {σ:St} {tr:TA} {g:TG} {tb:TS} {D:Ends} {i:Int} {p q:Addr} {ns:List Int} {d:Int} {a b c:V} {R:St→Hp→Prop}
instance go_forD:Go (tFor (iRngD tr) g tb D σ H) (tr σ H fun vs H1=>∃i:Int,vs=[.int i,.int (-1),.int (-1)]∧(-1≤i∧i≤1000000)∧ForS i (-1) (i + 1).toNat g tb D σ H1):=⟨id⟩
instance go_dby:Go (∃i':Int,[V.int i,V.int (-1),V.int (-1)]=[.int i',.int (-1),.int (-1)]∧(-1≤i'∧i'≤1000000)∧ForS i' (-1) (i' + 1).toNat g tb D σ H) (Sd (-1≤i∧i≤1000000) (ForS i (-1) (i + 1).toNat g tb D σ H)):=⟨fun s=>⟨i,rfl,s.1,s.2⟩⟩
end
end L2
namespace L2
open PySem PySem.W PySem.Calls PySem.Spec PyProof.Rows
end L2
namespace L2
open PySem PySem.Spec PyProof.Rows PySem.SeqAt
class TyA (K:W.Frag) (H:Hp) (v:V) (n:outParam String):Prop where
 e:TyOf K H v (.type n)
class OldT (K:W.Frag) (H0:Hp) (M:List Addr) (v:V) (n:outParam String):Prop where
 e:TyOf K H0 v (.type n)
 n:∀a,v=.ref a→a ∉ M
theorem TyOf.kept {K:W.Frag} {H H':Hp} {v:V} {t:Value} (h:TyOf K H v t) (k:∀a u,v=.ref a→H a=some u→H' a=some u):TyOf K H' v t:=by
 cases h with
 | non=>exact .non
 | bl b=>exact .bl b
 | int i=>exact .int i
 | str x=>exact .str x
 | flt x=>exact .flt x
 | lst e=>exact .lst (k _ _ rfl e)
 | frz e=>exact .frz (k _ _ rfl e)
 | tup e=>exact .tup (k _ _ rfl e)
 | dK e=>exact .dK (k _ _ rfl e)
 | dT e=>exact .dT (k _ _ rfl e)
 | ins e a b c d f=>exact .ins (k _ _ rfl e) a b c d f
section
variable {K:W.Frag} {H0 H:Hp} {M:List Addr} {L:List (Addr×HO)} {I:List Im} {v:V} {n:String} {a:Addr} {xs:List V} {b:Bool} {i lo hi:Int} {z:Str} {kvs:List (Key×V)} {Q:VK} {E:XK}
instance ty_non:TyA K H .non "NoneType" := ⟨.non⟩
instance ty_int:TyA K H (.int i) "int" := ⟨.int i⟩
instance ty_str:TyA K H (.str z) "str" := ⟨.str z⟩
instance (priority:=low) ty_old [F:SH H0 M H L I] [h:OldT K H0 M v n]:TyA K H v n:=⟨h.e.kept fun a u e hu=>F.fr a u (h.n a e) hu⟩
instance (priority:=low) go_isB [t:TyA K H v n]:Go (rIsT K [v,.ty "bool"] H Q) (Q (.bl (isB v)) H):=⟨fun k=>w_is t.e (bt_bool t.e) k⟩
instance (priority:=low) go_isL [t:TyA K H v n]:Go (rIsT K [v,.ty "list"] H Q) (Q (.bl (n == "list")) H):=⟨fun k=>w_is t.e (bt_list t.e) k⟩
instance (priority:=low) go_fromV [t:TyA K H v n]:Go (sp_is_from K [v,.int lo] H Q E) (Q (.bl (isFr v lo)) H):=⟨u_from t.e⟩
instance (priority:=low) go_withinV [t:TyA K H v n]:Go (sp_is_within K [v,.int lo,.int hi] H Q E) (Q (.bl (inB v lo hi)) H):=⟨u_within t.e⟩
end
def EqVV (x y:V) (b:Bool):Prop:=(x=y∧idV x=true∧b=true)∨∃s t,x=.str s∧y=.str t∧b=(s == t)
theorem EqVV.at {A:Around} {s:Shared} {x y:V} {u v:Value} {b:Bool} (h:EqVV x y b) (ru:RelV x u) (rv:RelV y v):EqAt A s u v b:=by
 rcases h with ⟨rfl,hi,rfl⟩ | ⟨p,q,rfl,rfl,rfl⟩
 ·exact same_eqAt hi ru rv
 ·obtain ⟨t,rfl⟩:=ru
  obtain ⟨t',rfl⟩:=rv
  exact EqAt.str_str (A:=A) (s:=s) p t q t'
end L2
namespace L2
open PySem PySem.W PySem.Spec PyProof.Rows PySem.SeqAt
section
variable {X:Cx}
def rNeE (K:W.Frag):R2:=fun x y H Q=>∃p q xs,x=.ref p∧y=.ref q∧SqL K H p xs∧SqL K H q []∧Q (.bl (!decide (xs=[]))) H
theorem op_neE {k:Nat} (hr:Room k X.A):OpR X (compareOp .NotEq) (rNeE X.K):=by
 intro pins s σ H x y v u Q I rx ry h
 obtain ⟨p,q,xs,rfl,rfl,hp,hq,qq⟩:=h
 cases xs with
 | nil=>exact op_neI hr pins s σ H _ _ v u Q I rx ry ⟨p,q,[],rfl,rfl,hp,hq,rfl,qq⟩
 | cons a t =>
  cases rx
  cases ry
  obtain ⟨us,ru,pu,_⟩:=I.list hp
  obtain ⟨vs,rv,pw,_⟩:=I.list hq
  have h1:=ru.length
  have h2:=rv.length
  have b:=RcNeAt.lists_lengths (A:=X.A) (s:=s) pu.isList pw.isList (by simp [← h1,← h2]) (by have:=hr.un;lia)
  exact b X.prog X.w X.xe _ ⟨.bl _,H,I,rfl,qq⟩
end
section
variable {K:W.Frag} {H:Hp} {Q:VK} {σ:St} {p q:Addr} {xs ys:List V} {te th:TE} {cs ds:List Nat} {j i:Int} {nms:List (List Nat)} {b:Bool} {a c:Nat}
instance go_neE1 [h:SqA K H p xs] [h2:Hat H q (.lst [])]:Go (rNeE K (.ref p) (.ref q) H Q) (Q (.bl (!decide (xs=[]))) H):=⟨fun k=>⟨p,q,xs,rfl,rfl,h.e,SqL.of h2.e,k⟩⟩
end
theorem SH.over {H0 H H':Hp} {M M2:List Addr} {A R L2:List (Addr×HO)} {I I2:List Im} (F:SH H0 M H (A++R) I) (G:SH H M2 H' L2 I2) (e:A.map (·.1)=M2):SH H0 M H' (L2++R) (I2++I):=by
 have nd:=F.nd
 rw [List.map_append,e] at nd
 obtain ⟨nd1,nd2,nd3⟩:=List.nodup_append.mp nd
 have inA:∀{b},b∈M2→∃c∈A,c.1=b:=fun h=>by rw [← e] at h;exact List.mem_map.mp h
 have st:Tst H H':=fun q u tu hq=>by
  refine G.fr q u (fun hm=>?_) hq
  obtain ⟨c,hc,rfl⟩:=inA hm
  have h1:=F.at' c (List.mem_append_left _ hc)
  have h2:=F.mu c (List.mem_append_left _ hc)
  rw [hq] at h1
  cases h1
  rw [h2] at tu
  cases tu
 have rn:∀{c},c∈R→c.1 ∉ M2:=fun hc hm=>nd3 _ hm _ (List.mem_map.mpr ⟨_,hc,rfl⟩) rfl
 refine ⟨fun b u nb e0=>?_,fun f hf=>?_,fun c hc=>?_,?_,fun c hc=>?_,fun c hc=>?_⟩
 ·refine G.fr b u (fun hm=>?_) (F.fr b u nb e0)
  obtain ⟨c,hc,rfl⟩:=inA hm
  rcases F.ch c (List.mem_append_left _ hc) with h | h
  ·exact nb h
  ·exact h _ u e0 rfl
 ·rcases List.mem_append.mp hf with hf | hf
  ·exact G.im f hf
  ·exact Im.stay st (F.im f hf)
 ·rcases List.mem_append.mp hc with hc | hc
  ·exact G.at' c hc
  ·exact G.fr _ _ (rn hc) (F.at' c (List.mem_append_right _ hc))
 ·rw [List.map_append]
  refine List.nodup_append.mpr ⟨G.nd,nd2,fun a ha b hb=>?_⟩
  obtain ⟨c,hc,rfl⟩:=List.mem_map.mp ha
  obtain ⟨d,hd,rfl⟩:=List.mem_map.mp hb
  rcases G.ch c hc with h | h
  ·exact fun z=>rn hd (z▸h)
  ·exact fun z=>h d.1 _ (F.at' d (List.mem_append_right _ hd)) z.symm
 ·rcases List.mem_append.mp hc with hc | hc
  ·exact G.mu c hc
  ·exact F.mu c (List.mem_append_right _ hc)
 ·rcases List.mem_append.mp hc with hc | hc
  ·rcases G.ch c hc with h | h
   ·obtain ⟨d,hd,ed⟩:=inA h
    rw [← ed]
    exact F.ch d (List.mem_append_left _ hd)
   ·by_cases hm:c.1∈M
    ·exact .inl hm
    ·exact .inr fun b u e0 z=>h b u (F.fr b u (by rw [z];exact hm) e0) z
  ·exact F.ch c (List.mem_append_right _ hc)
section
variable {H:Hp} {Q:VK}
instance go_dnew {σ:L2.St}:Go (tDNewK σ H Q) (∀p H',New H H' p (.dK [])→Q (.ref p) H'):=⟨w_dnew⟩
instance nx_dnew {H0:Hp} {M:List Addr} {L:List (Addr×HO)} {I:List Im} {Z:Addr→Hp→Prop} [F:SH H0 M H L I]:Go (∀p H',New H H' p (.dK [])→Z p H') (∀H' p,SH H0 M H' ((p,.dK [])::L) I→Z p H'):=⟨fun k p H' n=>k H' p (F.newO n rfl)⟩
end
inductive AnyK (H:Hp):V→Prop
 | flt {v:V} (h:v=.non∨(∃b,v=.bl b)∨(∃i,v=.int i)∨∃z,v=.str z):AnyK H v
 | lst {q:Addr} {xs:List V} (e:H q=some (.lst xs)):AnyK H (.ref q)
 | tup {q:Addr} {xs:List V} (e:H q=some (.tup xs)):AnyK H (.ref q)
theorem AnyK.kept {H H':Hp} {v:V} (h:AnyK H v) (k:∀a u,v=.ref a→H a=some u→H' a=some u):AnyK H' v:=by
 cases h with
 | flt h=>exact .flt h
 | lst e=>exact .lst (k _ _ rfl e)
 | tup e=>exact .tup (k _ _ rfl e)
theorem AnyK.same {H H':Hp} {v:V} (h:AnyK H v) (s:Same H H'):AnyK H' v:=h.kept fun a u _ e=>s a u e
theorem AnyK.ty {H:Hp} {v:V} (h:AnyK H v) (K:W.Frag):∃n,TyOf K H v (.type n):=by
 cases h with
 | flt h =>
  rcases h with rfl | ⟨b,rfl⟩ | ⟨i,rfl⟩ | ⟨z,rfl⟩
  ·exact ⟨_,.non⟩
  ·exact ⟨_,.bl b⟩
  ·exact ⟨_,.int i⟩
  ·exact ⟨_,.str z⟩
 | lst e=>exact ⟨_,.lst e⟩
 | tup e=>exact ⟨_,.tup e⟩
theorem AnyK.id {H:Hp} {v:V} (h:AnyK H v):idV v=true:=by
 cases h with
 | flt h=>rcases h with rfl | ⟨b,rfl⟩ | ⟨i,rfl⟩ | ⟨z,rfl⟩ <;> rfl
 | lst e=>rfl
 | tup e=>rfl
end L2
namespace L2
open PySem PySem.W PySem.Calls PySem.Spec PyProof.Rows
abbrev swBody (x:Str) (p1 p2 p3 p4 p5 p6 p7:Pos) (j j2 j3:Nat):Expr:=.Tuple [.Subscript (.Name x p1) (.Constant (.int 1) j p2) p3,.Subscript (.Name x p4) (.Constant (.int 0) j2 p5) p6] j3 p7
def IsLam2 (H:Hp) (f:Addr):Prop:=∃(qual x:Str) (params:Arguments) (p1 p2 p3 p4 p5 p6 p7:Pos) (j j2 j3:Nat) (scope:Scope) (pm ctv:Value) (c':Addr) (oc:Obj) (vs:Array Value) (t:Tok),
 H f=some (.frz (W.kla_obj "<lambda>" qual params (swBody x p1 p2 p3 p4 p5 p6 p7 j j2 j3) scope [] pm c' ctv) (.own f))∧H c'=some (.frz oc (.own c'))∧oc.data=.fields vs∧vs[1]?=some (.str qual t)∧LamScope x scope ∧
 ∀q:Addr,bindArgs (W.kla_fn "<lambda>" qual params (swBody x p1 p2 p3 p4 p5 p6 p7 j j2 j3) scope [] pm (.ref c') ctv) ⟨[.ref q],[]⟩=pure [(x,.ref q)]
section
variable {K:W.Frag} {H0 H:Hp} {M:List Addr} {L L':List (Addr×HO)} {I:List Im} {Q:VK} {l f P:Addr} {ys:List V} {ws:List (Nat×Nat)} {pos:Pos} {qual:Str} {ps:Array Value} {σ:St} {R:Hp→Prop}
theorem IsLam2.st:∀H H',Tst H H'→IsLam2 H f→IsLam2 H' f:=fun H H' t h=>by
 obtain ⟨a1,a2,a3,a4,a5,a6,a7,a8,a9,a10,a11,a12,a13,a14,a15,a16,a17,a18,a19,a20,e1,e2,r⟩:=h
 exact ⟨a1,a2,a3,a4,a5,a6,a7,a8,a9,a10,a11,a12,a13,a14,a15,a16,a17,a18,a19,a20,t _ _ rfl e1,t _ _ rfl e2,r⟩
end
end L2
namespace L2
open PySem PySem.W PySem.Spec PyProof.Rows
end L2
namespace L2
open PySem PySem.Spec PyProof.Rows PySem.SeqAt
abbrev flD (v:V):PyData:=pyD (flatDt v)
inductive ThD (H:Hp):V→PyData→Prop
 | flat {v:V} (h:isFlat v=true) (z:Shm 500 1 (flD v)):ThD H v (flD v)
 | lst {p:Addr} {vs:List V} (e:H p=some (.lst vs)) (h:∀v∈vs,isFlat v=true) (z:Shm 500 1 (.list (vs.map flD))):ThD H (.ref p) (.list (vs.map flD))
 | tup {p:Addr} {vs:List V} (e:H p=some (.tup vs)) (h:∀v∈vs,isFlat v=true) (z:Shm 500 1 (.tuple (vs.map flD))):ThD H (.ref p) (.tuple (vs.map flD))
 | dct {p:Addr} (e:H p=some (.dK [])):ThD H (.ref p) (.dict [])
section
variable {H H':Hp} {v:V} {d:PyData} {K:W.Frag}
theorem ThD.kept (h:ThD H v d) (k:∀a u,v=.ref a→H a=some u→H' a=some u):ThD H' v d:=by
 cases h with
 | flat h z=>exact .flat h z
 | lst e h z=>exact .lst (k _ _ rfl e) h z
 | tup e h z=>exact .tup (k _ _ rfl e) h z
 | dct e=>exact .dct (k _ _ rfl e)
theorem ThD.ty (h:ThD H v d):∃n,TyOf K H v (.type n):=by
 cases h with
 | flat h z =>
  cases v with
  | non=>exact ⟨_,.non⟩
  | bl b=>exact ⟨_,.bl b⟩
  | int i=>exact ⟨_,.int i⟩
  | str x=>exact ⟨_,.str x⟩
  | _=>simp [isFlat] at h
 | lst e h z=>exact ⟨_,.lst e⟩
 | tup e h z=>exact ⟨_,.tup e⟩
 | dct e=>exact ⟨_,.dK e⟩
end
end L2
set_option maxHeartbeats 400000
namespace L2
open PySem PySem.Spec PyProof.Rows PySem.SeqAt
end L2
set_option maxHeartbeats 1000000
namespace L2
open PySem PySem.Spec PyProof.Rows PySem.SeqAt
theorem any_LT {K:W.Frag} {H:Hp} {x:V} {n:String} (t:TyOf K H x (.type n)):W.kitAny K (.type n) [.type "list", .type "tuple"]=some (n == "list" || n == "tuple"):=by
 have h1:W.kitOne K (.type n) (.type "list")=some (n == "list"):=bt_list t
 have h2:W.kitOne K (.type n) (.type "tuple")=some (n == "tuple"):=bt_tuple t
 unfold W.kitAny
 rw [h1]
 cases n == "list" with
 | true=>rfl
 | false =>
  unfold W.kitAny
  rw [h2]
  cases n == "tuple" <;> rfl
def rIsLT:List V→Hp→VK→Prop:=fun xs H Q=>∃x p,xs=[x,.ref p]∧H p=some (.tup [.ty "list", .ty "tuple"])∧((isFlat x=true∧Q (.bl false) H)∨∃a ys,x=.ref a∧(H a=some (.lst ys)∨H a=some (.tup ys))∧Q (.bl true) H)
theorem call_isLT {X:Cx}:CallR X (.builtin "isinstance") rIsLT:=by
 intro pins s σ H xs us Q I r h
 obtain ⟨x,p,rfl,hp,h⟩:=h
 obtain ⟨u,v,rfl,rx,rv⟩:=vals2 r
 obtain rfl:v=Value.ref p:=rv
 obtain ⟨_,its,rt,o,ho,hc,m,hd⟩:=(show ObjOk X.prog X.w H s.heap p (.tup [.ty "list", .ty "tuple"]) from I.hok p _ hp)
 obtain ⟨cls,dd,data,sl⟩:=o
 obtain rfl:cls=.type "tuple" := hc
 obtain rfl:data=.seq its.toArray m:=hd
 have ei:its=[.type "list", .type "tuple"]:=by
  cases rt with
  | cons r1 r2 =>
   cases r2 with
   | cons r3 r4 =>
    cases r4
    rw [show _=Value.type "list" from r1,show _=Value.type "tuple" from r3]
 subst ei
 rcases h with ⟨hf,q⟩ | ⟨a,ys,rfl,ha | ha,q⟩
 ·cases x with
  | non=>cases (show u=Value.none from rx);exact W.kia_tup W.kitx_none I.kIn True.intro ho (any_LT (K:=X.K) (H:=H) .non) (fun z=>nomatch z) fun tk=>⟨.bl _,H,I.tok _,rfl,q⟩
  | bl y=>cases (show u=Value.bool y from rx);exact W.kia_tup W.kitx_bool I.kIn True.intro ho (any_LT (K:=X.K) (H:=H) (.bl y)) (fun z=>nomatch z) fun tk=>⟨.bl _,H,I.tok _,rfl,q⟩
  | int i=>obtain ⟨t,z⟩:=(show ∃t,u=Value.int i t from rx);cases z;exact W.kia_tup W.kitx_int I.kIn True.intro ho (any_LT (K:=X.K) (H:=H) (.int i)) (fun z=>nomatch z) fun tk=>⟨.bl _,H,I.tok _,rfl,q⟩
  | str y=>obtain ⟨t,z⟩:=(show ∃t,u=Value.str y t from rx);cases z;exact W.kia_tup W.kitx_str I.kIn True.intro ho (any_LT (K:=X.K) (H:=H) (.str y)) (fun z=>nomatch z) fun tk=>⟨.bl _,H,I.tok _,rfl,q⟩
  | _=>simp [isFlat] at hf
 ·cases (show u=Value.ref a from rx)
  obtain ⟨_,_,m,_,h1⟩:=(show ObjOk X.prog X.w H s.heap a (.lst ys) from I.hok a _ ha)
  exact W.kia_tup W.kitx_list I.kIn ⟨_,h1,rfl⟩ ho (any_LT (K:=X.K) (H:=H) (.lst ha)) (fun z=>nomatch z) fun tk=>⟨.bl _,H,I.tok _,rfl,q⟩
 ·cases (show u=Value.ref a from rx)
  obtain ⟨_,_,_,o,h1,h2,_⟩:=(show ObjOk X.prog X.w H s.heap a (.tup ys) from I.hok a _ ha)
  exact W.kia_tup W.kitx_tuple I.kIn ⟨o,h1,h2⟩ ho (any_LT (K:=X.K) (H:=H) (.tup ha)) (fun z=>nomatch z) fun tk=>⟨.bl _,H,I.tok _,rfl,q⟩
section
variable {H:Hp} {Q:VK} {a p:Addr} {ys:List V} {i:Int}
instance go_isLTl [h:Hat H p (.tup [.ty "list", .ty "tuple"])] [h2:Hat H a (.lst ys)]:Go (rIsLT [.ref a,.ref p] H Q) (Q (.bl true) H):=⟨fun k=>⟨_,p,rfl,h.e,.inr ⟨a,ys,rfl,.inl h2.e,k⟩⟩⟩
instance go_isLTt [h:Hat H p (.tup [.ty "list", .ty "tuple"])] [h2:Hat H a (.tup ys)]:Go (rIsLT [.ref a,.ref p] H Q) (Q (.bl true) H):=⟨fun k=>⟨_,p,rfl,h.e,.inr ⟨a,ys,rfl,.inr h2.e,k⟩⟩⟩
instance go_isLTi [h:Hat H p (.tup [.ty "list", .ty "tuple"])]:Go (rIsLT [.int i,.ref p] H Q) (Q (.bl false) H):=⟨fun k=>⟨_,p,rfl,h.e,.inl ⟨rfl,k⟩⟩⟩
instance go_isLTn [h:Hat H p (.tup [.ty "list", .ty "tuple"])]:Go (rIsLT [.non,.ref p] H Q) (Q (.bl false) H):=⟨fun k=>⟨_,p,rfl,h.e,.inl ⟨rfl,k⟩⟩⟩
end
def iOr (w1 w2:TI):TI:=fun σ H R=>w1 σ H R∨w2 σ H R
theorem pi_or {X:Cx} {tg it:Expr} {w1 w2:TI} (h1:PI X tg it w1) (h2:PI X tg it w2):PI X tg it (iOr w1 w2):=fun pins s σ H R I h=>h.elim (h1 pins s σ H R I) (h2 pins s σ H R I)
section
variable {w1 w2:TI} {nt:Nat} {fr:List Nat} {g:TG} {c:TT} {te:TE} {σ:L2.St} {H:Hp} {Q:VK}
theorem comp_inl (h:tComp w1 nt fr g c te σ H Q):tComp (iOr w1 w2) nt fr g c te σ H Q:=.inl h
theorem comp_inr (h:tComp w2 nt fr g c te σ H Q):tComp (iOr w1 w2) nt fr g c te σ H Q:=.inr h
end
mutual
def TrH (H:Hp):Dt→V→Prop
 | .non,v=>v=.non
 | .bl b,v=>v=.bl b
 | .int i,v=>v=.int i
 | .str x,v=>v=.str x
 | .lst ds,v=>∃p xs,v=.ref p∧H p=some (.lst xs)∧TrsH H ds xs
 | .tup ds,v=>∃p xs,v=.ref p∧H p=some (.tup xs)∧TrsH H ds xs
def TrsH (H:Hp):List Dt→List V→Prop
 | [],xs=>xs=[]
 | d::ds,xs=>∃x r,xs=x::r∧TrH H d x∧TrsH H ds r
end
mutual
theorem TrH.same {H H':Hp} (s:Same H H'):∀{d:Dt} {v:V},TrH H d v→TrH H' d v
 | .non,v,h=>h
 | .bl _,v,h=>h
 | .int _,v,h=>h
 | .str _,v,h=>h
 | .lst ds,v,h=>by
  simp only [TrH] at h ⊢
  obtain ⟨p,xs,e,hp,hs⟩:=h
  exact ⟨p,xs,e,s _ _ hp,TrsH.same s hs⟩
 | .tup ds,v,h=>by
  simp only [TrH] at h ⊢
  obtain ⟨p,xs,e,hp,hs⟩:=h
  exact ⟨p,xs,e,s _ _ hp,TrsH.same s hs⟩
theorem TrsH.same {H H':Hp} (s:Same H H'):∀{ds:List Dt} {xs:List V},TrsH H ds xs→TrsH H' ds xs
 | [],xs,h=>h
 | d::ds,xs,h=>by
  simp only [TrsH] at h ⊢
  obtain ⟨x,r,e,h1,h2⟩:=h
  exact ⟨x,r,e,TrH.same s h1,TrsH.same s h2⟩
end
theorem TrsH.len {H:Hp}:∀{ds:List Dt} {xs:List V},TrsH H ds xs→xs.length=ds.length
 | [],xs,h=>by simp only [TrsH] at h;rw [h];rfl
 | d::ds,xs,h=>by
  simp only [TrsH] at h
  obtain ⟨x,r,rfl,h1,h2⟩:=h
  rw [List.length_cons,List.length_cons,h2.len]
theorem TrsH.at {H:Hp}:∀{ds:List Dt} {xs:List V},TrsH H ds xs→∀{i:Nat} {v:V},xs[i]?=some v→∃d,ds[i]?=some d∧TrH H d v
 | [],xs,h,i,v,e=>by simp only [TrsH] at h;rw [h] at e;cases e
 | d::ds,xs,h,i,v,e=>by
  simp only [TrsH] at h
  obtain ⟨x,r,rfl,h1,h2⟩:=h
  cases i with
  | zero=>cases e;exact ⟨d,rfl,h1⟩
  | succ i=>exact h2.at (i:=i) e
theorem TrsH.of {H:Hp}:∀{ds:List Dt} {xs:List V},xs.length=ds.length→(∀(i:Nat) (v:V),xs[i]?=some v→∃d,ds[i]?=some d∧TrH H d v)→TrsH H ds xs
 | [],xs,hl,_=>by simp only [TrsH];exact List.eq_nil_of_length_eq_zero hl
 | d::ds,[],hl,_=>by cases hl
 | d::ds,x::r,hl,h=>by
  simp only [TrsH]
  refine ⟨x,r,rfl,?_,TrsH.of (by simpa using hl) fun i v e=>h (i + 1) v e⟩
  obtain ⟨d',e,t⟩:=h 0 x rfl
  cases e
  exact t
mutual
theorem TrH.rep {K:W.Frag} {H:Hp}:∀{d:Dt} {v:V},TrH H d v→Rep K H d v
 | .non,v,h=>h
 | .bl _,v,h=>h
 | .int _,v,h=>h
 | .str _,v,h=>h
 | .lst ds,v,h=>by
  simp only [TrH] at h
  obtain ⟨p,xs,e,hp,hs⟩:=h
  simp only [Rep]
  exact ⟨p,xs,e,SqL.of hp,TrsH.reps hs⟩
 | .tup ds,v,h=>by
  simp only [TrH] at h
  obtain ⟨p,xs,e,hp,hs⟩:=h
  simp only [Rep]
  exact ⟨p,xs,e,SqT.of hp,TrsH.reps hs⟩
theorem TrsH.reps {K:W.Frag} {H:Hp}:∀{ds:List Dt} {xs:List V},TrsH H ds xs→Reps K H ds xs
 | [],xs,h=>by simpa [TrsH,Reps] using h
 | d::ds,xs,h=>by
  simp only [TrsH] at h
  obtain ⟨x,r,e,h1,h2⟩:=h
  simp only [Reps]
  exact ⟨x,r,e,TrH.rep h1,TrsH.reps h2⟩
end
mutual
def hasT:Dt→Bool
 | .bl _=>true
 | .lst ds=>hasTs ds
 | .tup ds=>hasTs ds
 | _=>false
def hasTs:List Dt→Bool
 | []=>false
 | d::ds=>hasT d || hasTs ds
end
theorem hasTs_any:∀ds:List Dt,(ds.map hasT).any id=hasTs ds
 | []=>rfl
 | d::ds=>by rw [List.map_cons,List.any_cons,hasTs_any ds,hasTs];rfl
mutual
def widD:Dt→Prop
 | .lst ds=>ds.length≤1000∧widDs ds
 | .tup ds=>ds.length≤1000∧widDs ds
 | _=>True
def widDs:List Dt→Prop
 | []=>True
 | d::ds=>widD d∧widDs ds
end
theorem widDs_at:∀{ds:List Dt},widDs ds→∀{i:Nat} {d:Dt},ds[i]?=some d→widD d
 | [],_,i,d,e=>by cases e
 | x::ds,h,i,d,e=>by
  simp only [widDs] at h
  cases i with
  | zero=>cases e;exact h.1
  | succ i=>exact widDs_at h.2 (i:=i) e
theorem depDs_at:∀{ds:List Dt} {i:Nat} {d:Dt},ds[i]?=some d→depD d≤depDs ds
 | [],i,d,e=>by cases e
 | x::ds,i,d,e=>by
  simp only [depDs]
  cases i with
  | zero=>cases e;lia
  | succ i=>have:=depDs_at (ds:=ds) (i:=i) e;lia
theorem bls_of {ds:List Dt} {ys:List V} (hl:ys.length=ds.length) (h:∀(i:Nat) (y:V),ys[i]?=some y→∃d,ds[i]?=some d∧y=.bl (hasT d)):ys=(ds.map hasT).map V.bl:=by
 apply List.ext_getElem?
 intro i
 rw [List.getElem?_map,List.getElem?_map]
 cases e:ys[i]? with
 | none =>
  have:ds[i]?=none:=by rw [List.getElem?_eq_none_iff] at e ⊢;lia
  rw [this]
  rfl
 | some y =>
  obtain ⟨d,e1,e2⟩:=h i y e
  rw [e1,e2]
  rfl
def Al (H:Hp) (B:List Addr):Prop:=∀b∈B,∃xs,H b=some (.lst xs)
theorem Al.same {H H':Hp} {B:List Addr} (h:Al H B) (s:Same H H'):Al H' B:=fun b hb=>(h b hb).imp fun u e=>s _ _ e
section
variable {H:Hp} {ds es:List Dt} {xs ys:List V}
theorem TrsH.append:∀{ds:List Dt} {xs:List V},TrsH H ds xs→TrsH H es ys→TrsH H (ds++es) (xs++ys)
 | [],xs,h,h2=>by simp only [TrsH] at h;rw [h];exact h2
 | d::ds,xs,h,h2=>by
  simp only [TrsH] at h
  obtain ⟨x,r,rfl,a,b⟩:=h
  simp only [List.cons_append,TrsH]
  exact ⟨x,r++ys,rfl,a,b.append h2⟩
theorem TrsH.take (h:TrsH H ds xs) (n:Nat):TrsH H (ds.take n) (xs.take n):=TrsH.of (by rw [List.length_take,List.length_take,h.len]) fun i v e=>by
 rw [List.getElem?_take] at e ⊢
 by_cases hi:i < n
 ·rw [if_pos hi] at e ⊢
  exact h.at e
 ·rw [if_neg hi] at e
  cases e
theorem TrsH.one {d:Dt} {v:V} (h:TrH H d v):TrsH H [d] [v]:=by
 simp only [TrsH]
 exact ⟨v,[],rfl,h,rfl⟩
theorem TrH.flat {v:V} (h:isFlat v=true):TrH H (flatDt v) v:=by
 cases v <;> simp [isFlat] at h <;> simp [flatDt,TrH]
theorem TrsH.flats:∀{xs:List V},(∀v∈xs,isFlat v=true)→TrsH H (xs.map flatDt) xs
 | [],_=>by simp [TrsH]
 | x::xs,h=>by
  simp only [List.map_cons,TrsH]
  exact ⟨x,xs,rfl,TrH.flat (h x List.mem_cons_self),TrsH.flats fun v hv=>h v (List.mem_cons_of_mem _ hv)⟩
theorem TrH.lst {p:Addr} (h:H p=some (.lst xs)) (t:TrsH H ds xs):TrH H (.lst ds) (.ref p):=by
 simp only [TrH]
 exact ⟨p,xs,rfl,h,t⟩
theorem TrH.tup {p:Addr} (h:H p=some (.tup xs)) (t:TrsH H ds xs):TrH H (.tup ds) (.ref p):=by
 simp only [TrH]
 exact ⟨p,xs,rfl,h,t⟩
end
def Sm (n:Nat) (ds:List Dt):Prop:=∀d∈ds,depD d≤n∧widD d
theorem Sm.append {n:Nat} {ds es:List Dt} (h:Sm n ds) (h2:Sm n es):Sm n (ds++es):=fun d hd=>(List.mem_append.mp hd).elim (h d) (h2 d)
theorem Sm.take {n:Nat} {ds:List Dt} (h:Sm n ds) (k:Nat):Sm n (ds.take k):=fun d hd=>h d (List.mem_of_mem_take hd)
theorem Sm.one {n:Nat} {d:Dt} (h:depD d≤n) (w:widD d):Sm n [d]:=fun e he=>by rw [List.mem_singleton.mp he];exact ⟨h,w⟩
end L2
set_option maxHeartbeats 4000000
namespace L2
open PySem PySem.Spec PyProof.Rows PySem.SeqAt
theorem dct_tup {l b:Addr} {es:Array DictEntry} {n n2:Nat} {dd dd2:Option Addr} {sl sl2:Array (Option Value)} {its:Array Value} :
  Meets (Builtin.«dict.__eq__» ⟨[.ref l,.ref b],[]⟩) (fun _ R s=>s.heap.get? l=some ⟨.type "dict", dd,.dict es n,sl⟩∧s.heap.get? b=some ⟨.type "tuple", dd2,.seq its n2,sl2⟩∧R (.ok (.ret .notImplemented)) s):=by
 refine .of_wp fun prog w A R s h=>?_
 obtain ⟨hp,g,d,tk,os⟩:=s
 obtain ⟨hl,hb,h⟩:=h
 have f1:=F.sub_tuple_dict
 wp_walk using wpAny_loadPart' hl,wpAny_loadPart' hb
 exact ⟨_,rfl,h⟩
theorem tup_dct {l b:Addr} {es:Array DictEntry} {n n2:Nat} {dd dd2:Option Addr} {sl sl2:Array (Option Value)} {its:Array Value} :
  Meets (Builtin.«tuple.__eq__» ⟨[.ref b,.ref l],[]⟩) (fun _ R s=>s.heap.get? l=some ⟨.type "dict", dd,.dict es n,sl⟩∧s.heap.get? b=some ⟨.type "tuple", dd2,.seq its n2,sl2⟩∧R (.ok (.ret .notImplemented)) s):=by
 refine .of_wp fun prog w A R s h=>?_
 obtain ⟨hp,g,d,tk,os⟩:=s
 obtain ⟨hl,hb,h⟩:=h
 have f1:=F.sub_dict_tuple
 wp_walk using wpAny_loadPart' hl,wpAny_loadPart' hb
 exact ⟨_,rfl,h⟩
def rEqDD (K:W.Frag):R2:=fun x y H Q=>rEqD K x y H Q∨∃p,x=.ref p∧H p=some (.dK [])∧((∃q xs,y=.ref q∧SqT K H q xs∧Q (.bl false) H)∨(y=.ref p∧Q (.bl true) H))
theorem op_eqDD {X:Cx} {K:W.Frag} {k:Nat} (hK:X.K=K) (hr:Room k X.A):OpR X (compareOp .Eq) (rEqDD K):=by
 subst hK
 intro pins s σ H x y v u Q I rx ry h
 have hu:X.A.units < cLine:=by have:=hr.un;lia
 rcases h with h | ⟨p,rfl,hp,h⟩
 ·exact op_eq_dN hr pins s σ H x y v u Q I rx ry h
 ·cases rx
  obtain ⟨_,hs,vs,kv,dof⟩:=dk_of I.hok hp
  rcases h with ⟨q,xs,rfl,hq,k2⟩ | ⟨rfl,k2⟩
  ·cases ry
   obtain ⟨o,es,ep,ho,hx,hd,hk,hp',hnd⟩:=dof
   obtain ⟨cls,dd,data,sl⟩:=o
   obtain rfl:cls=.type "dict" := hx.1
   obtain rfl:data=.dict es ep:=hd
   obtain ⟨us,ru,pu,_⟩:=I.tuple hq
   obtain ⟨⟨cls2,dd2,data2,sl2⟩,ho2,hc2,n2,hd2⟩:=id pu
   obtain rfl:cls2=.type "tuple" := hc2
   obtain rfl:data2=.seq us.toArray n2:=hd2
   have ne:p≠q:=fun z=>by
    subst z
    rw [ho] at ho2
    exact absurd (Value.type.inj (congrArg Obj.cls (Option.some.inj ho2))) (by decide)
   exact rc_eq_decline_or (k:=false) ⟨_,ho,rfl⟩ ⟨_,ho2,rfl⟩ (by decide) F.sub_tuple_dict F.slot_dict_eq F.slot_tuple_eq_refl
    (fun _ hq=>call_meets F.slot_dict_eq ⟨_,ho,rfl⟩ F.entry_dict_eq (F.args_dict_eq_2 _ _) dct_tup ⟨ho,ho2,hq⟩)
    (fun _ hq=>call_meets F.slot_tuple_eq_refl ⟨_,ho2,rfl⟩ F.entry_tuple_eq (F.args_tuple_eq_2 _ _) tup_dct ⟨ho,ho2,hq⟩)
    (fun _ hq=>wpAny_isSame_ref_other ne ho ho2 (by simp) hq) (.inr hu) ⟨.bl _,H,I,rfl,k2⟩
  ·cases ry
   cases kv
   exact W.keq_eq hs hs dof dof hu (fun _=>.nil) ⟨.bl _,H,I,rfl,k2⟩
end L2
namespace L2
open PySem PySem.W PySem.Spec PyProof.Rows
end L2
namespace L2
open PySem PySem.Spec PyProof.Rows PySem.SeqAt
end L2
namespace L2
open PySem PySem.Spec PyProof.Rows
section
variable {X:Cx} {pins:List (Addr×Obj)} {σ:St} {H:Hp} {s:Shared} {b:Addr}
theorem FpOk.to {H':Hp} (f:FpOk X pins H b) (h:H' b=none):FpOk X pins H' b:=⟨h,f.2⟩
end
end L2
set_option maxHeartbeats 1000000
namespace L2
open PySem PySem.Spec PyProof.Rows
section
variable {P:List Value→Prop}
theorem el1 (h:∀a,P [a]):∀us:List Value,us.length=1→P us
 | [a],_=>h a
theorem el2 (h:∀a b,P [a,b]):∀us:List Value,us.length=2→P us
 | [a,b],_=>h a b
theorem el3 (h:∀a b c,P [a,b,c]):∀us:List Value,us.length=3→P us
 | [a,b,c],_=>h a b c
theorem el4 (h:∀a b c d,P [a,b,c,d]):∀us:List Value,us.length=4→P us
 | [a,b,c,d],_=>h a b c d
end
class ImI (f:Im) (I:List Im):Prop where
 m:f∈I
class SbI (I' I:List Im):Prop where
 s:∀f∈I',f∈I
section
variable {f g:Im} {I I':List Im}
instance imI1 [h:ImI f I]:ImI f (g::I):=⟨List.mem_cons_of_mem _ h.m⟩
instance imI0:ImI f (f::I):=⟨List.mem_cons_self⟩
instance sbI0:SbI [] I:=⟨fun _ h=>absurd h List.not_mem_nil⟩
instance sbI1 [h:ImI f I] [t:SbI I' I]:SbI (f::I') I:=⟨fun g hg=>(List.mem_cons.mp hg).elim (fun e=>e▸h.m) (t.s g)⟩
end
end L2
set_option maxHeartbeats 4000000
namespace L2
open PySem PySem.Spec PyProof.Rows
def rIsXN (K:W.Frag):List V→Hp→VK→Prop:=fun xs H Q=>∃x p C R fs Ds b,xs=[.ref x,.ref p]∧H p=some (.tup (List.map V.ref Ds))∧ExcT H x C fs∧ExcI K C R∧W.kitAny K (.ref C) (Ds.map Value.ref)=some b∧Q (.bl b) H
theorem vals_refsN:∀{Ds:List Addr} {us:List Value},Vals (Ds.map V.ref) us→us=Ds.map Value.ref
 | [],_,h=>by cases h;rfl
 | D::Ds,_,h=>by
  cases h with
  | cons a b=>rw [show _=Value.ref D from a,vals_refsN b];rfl
theorem call_isXN {X:Cx}:CallR X (.builtin "isinstance") (rIsXN X.K):=by
 intro pins s σ H xs us Q I r h
 obtain ⟨x,p,C,R,fs,Ds,b,rfl,hp,ex,G,e,q⟩:=h
 obtain ⟨u,v,rfl,ru,rv⟩:=vals2 r
 obtain rfl:u=Value.ref x:=ru
 obtain rfl:v=Value.ref p:=rv
 obtain ⟨_,its,rt,o,ho,hc,m,hd⟩:=(show ObjOk X.prog X.w H s.heap p (.tup (Ds.map V.ref)) from I.hok p _ hp)
 obtain ⟨cls,dd,data,sl⟩:=o
 obtain rfl:cls=.type "tuple" := hc
 obtain rfl:data=.seq its.toArray m:=hd
 have ei:=vals_refsN rt
 subst ei
 exact W.kia_tup (kitx_exc G) I.kIn (exc_instT I ex) ho e (fun z=>nomatch z) fun tk=>⟨.bl b,H,I.tok _,rfl,q⟩
theorem one_exm {K:W.Frag} {C D R:Addr} (G:ExcI K C R) (h:ExcI K D R) (x:W.exmOne K (.ref C) (.ref D)=some false):W.kitOne K (.ref C) (.ref D)=some false:=by
 have ne:C≠D:=fun z=>by
  subst z
  rw [exm_same G] at x
  cases x
 unfold W.kitOne
 rw [if_neg (by simpa using ne)]
 have hb:W.subIn K (.ref D) (.type "BaseException")=some true:=h.g.mb
 unfold W.exmOne at x
 rw [hb,if_pos (by rfl)] at x
 exact x
theorem any_no3 {K:W.Frag} {C D1 D2 D3 R:Addr} (G:ExcI K C R) (h1:ExcI K D1 R) (h2:ExcI K D2 R) (h3:ExcI K D3 R) (x1:W.exmOne K (.ref C) (.ref D1)=some false) (x2:W.exmOne K (.ref C) (.ref D2)=some false) (x3:W.exmOne K (.ref C) (.ref D3)=some false):W.kitAny K (.ref C) ([D1,D2,D3].map Value.ref)=some false:=by
 simp only [List.map_cons,List.map_nil]
 unfold W.kitAny
 rw [one_exm G h1 x1]
 unfold W.kitAny
 rw [one_exm G h2 x2]
 unfold W.kitAny
 rw [one_exm G h3 x3]
 rfl
end L2
namespace M22
abbrev Sc:=List (Nat×Nat)×Nat×Nat
def stp (st:Sc) (b:Bool):Sc:=if b then (st.1,st.2.1 + 1,st.2.2 + 1) else if 0 < st.2.1 then (st.1++[(st.2.2 - st.2.1,st.2.1)],0,st.2.2 + 1) else (st.1,0,st.2.2 + 1)
def scan (fs:List Bool):Sc:=fs.foldl stp ([],0,0)
def holesF (fs:List Bool):List (Nat×Nat):=if 0 < (scan fs).2.1 then (scan fs).1++[((scan fs).2.2 - (scan fs).2.1,(scan fs).2.1)] else (scan fs).1
theorem scan_snoc (fs:List Bool) (b:Bool):scan (fs++[b])=stp (scan fs) b:=by unfold scan;rw [List.foldl_append];rfl
theorem snoc_ind {P:List Bool→Prop} (h0:P []) (h1:∀fs b,P fs→P (fs++[b])) (fs:List Bool):P fs:=by
 have:∀r:List Bool,P r.reverse:=by
  intro r
  induction r with
  | nil=>exact h0
  | cons a t ih=>rw [List.reverse_cons];exact h1 _ _ ih
 have:=this fs.reverse
 rwa [List.reverse_reverse] at this
theorem scan_len (fs:List Bool):(scan fs).2.2=fs.length:=by
 refine snoc_ind (P:=fun fs=>(scan fs).2.2=fs.length) rfl (fun fs b ih=>?_) fs
 rw [scan_snoc,List.length_append,List.length_singleton,← ih]
 unfold stp
 split
 ·rfl
 ·split <;> rfl
theorem scan_false (fs:List Bool):(scan (fs++[false])).1=holesF fs∧(scan (fs++[false])).2.1=0:=by
 rw [scan_snoc]
 unfold stp holesF
 simp only [Bool.false_eq_true,if_false]
 split <;> exact ⟨rfl,rfl⟩
structure Ok (fs:List Bool) (st:Sc):Prop where
 le:st.2.1≤fs.length
 tail:∀j,fs.length - st.2.1≤j→j < fs.length→fs[j]?=some true
 edge:st.2.1=0→fs=[]∨fs[fs.length - 1]?=some false
 hs:∀x∈st.1,1≤x.2∧x.1 + x.2≤fs.length∧∀j,x.1≤j→j < x.1 + x.2→fs[j]?=some true
 sm:(st.1.map (·.2)).sum + st.2.1=fs.count true
theorem scan_ok (fs:List Bool):Ok fs (scan fs):=by
 refine snoc_ind (P:=fun fs=>Ok fs (scan fs)) ⟨by decide,fun j _ h=>absurd h (Nat.not_lt_zero _),fun _=>.inl rfl,(fun x hx=>by cases hx),rfl⟩ (fun fs b ih=>?_) fs
 obtain ⟨h1,h2,h3,h4,h5⟩:=ih
 have up:∀j,j < fs.length→(fs++[b])[j]?=fs[j]?:=fun j hj=>List.getElem?_append_left hj
 have at_:(fs++[b])[fs.length]?=some b:=by rw [List.getElem?_append_right (Nat.le_refl _),Nat.sub_self];rfl
 have hl:(fs++[b]).length=fs.length + 1:=by simp
 have sl:=scan_len fs
 have old:∀x∈(scan fs).1,1≤x.2∧x.1 + x.2≤(fs++[b]).length∧∀j,x.1≤j→j < x.1 + x.2→(fs++[b])[j]?=some true:=fun x hx=>by
  obtain ⟨a1,a2,a3⟩:=h4 x hx
  exact ⟨a1,by lia,fun j p q=>by rw [up j (by lia)];exact a3 j p q⟩
 have hc:(fs++[b]).count true=fs.count true + (if b then 1 else 0):=by rw [List.count_append];cases b <;> rfl
 rw [scan_snoc]
 unfold stp
 cases b with
 | true =>
  rw [if_pos rfl]
  refine ⟨by show _ + 1≤_;lia,fun j p q=>?_,fun h=>absurd h (Nat.succ_ne_zero _),old,?_⟩
  ·by_cases hj:j < fs.length
   ·rw [up j hj]
    have p':(fs++[true]).length - ((scan fs).2.1 + 1)≤j:=p
    exact h2 j (by lia) hj
   ·rw [show j=fs.length by lia];exact at_
  ·show _ + (_ + 1)=_
   rw [hc,← h5]
   simp only [if_true]
   lia
 | false =>
  simp only [Bool.false_eq_true,if_false] at hc ⊢
  by_cases hz:0 < (scan fs).2.1
  ·rw [if_pos hz]
   refine ⟨Nat.zero_le _,fun j p q=>?_,fun _=>.inr (by rw [hl];exact at_),fun x hx=>?_,?_⟩
   ·have p':(fs++[false]).length - 0≤j:=p
    lia
   ·rcases List.mem_append.mp hx with hx | hx
    ·exact old x hx
    ·rw [List.mem_singleton.mp hx]
     refine ⟨hz,by show _ - _ + _≤_;lia,fun j p q=>?_⟩
     have p':(scan fs).2.2 - (scan fs).2.1≤j:=p
     have q':j < (scan fs).2.2 - (scan fs).2.1 + (scan fs).2.1:=q
     rw [up j (by lia)]
     exact h2 j (by lia) (by lia)
   ·rw [hc,← h5,List.map_append,List.sum_append]
    simp
  ·rw [if_neg hz]
   refine ⟨Nat.zero_le _,fun j p q=>?_,fun _=>.inr (by rw [hl];exact at_),old,by show ((scan fs).1.map (·.2)).sum + 0=_;rw [hc,← h5];lia⟩
   have p':(fs++[false]).length - 0≤j:=p
   lia
theorem hole_ok {fs:List Bool} {x:Nat×Nat} (h:x∈holesF fs):1≤x.2∧x.1 + x.2≤fs.length∧∀j,x.1≤j→j < x.1 + x.2→fs[j]?=some true:=by
 obtain ⟨h1,h2,h3,h4,h5⟩:=scan_ok fs
 have sl:=scan_len fs
 unfold holesF at h
 by_cases hz:0 < (scan fs).2.1
 ·rw [if_pos hz] at h
  rcases List.mem_append.mp h with h | h
  ·exact h4 x h
  ·rw [List.mem_singleton.mp h]
   refine ⟨hz,by show _ - _ + _≤_;lia,fun j p q=>?_⟩
   have p':(scan fs).2.2 - (scan fs).2.1≤j:=p
   have q':j < (scan fs).2.2 - (scan fs).2.1 + (scan fs).2.1:=q
   exact h2 j (by lia) (by lia)
 ·rw [if_neg hz] at h
  exact h4 x h
theorem hole_sum (fs:List Bool):((holesF fs).map (·.2)).sum=fs.count true:=by
 have h5:=(scan_ok fs).sm
 unfold holesF
 by_cases hz:0 < (scan fs).2.1
 ·rw [if_pos hz,List.map_append,List.sum_append,← h5];simp
 ·rw [if_neg hz,← h5];lia
def putB {α:Type} (fs:List α) (a i:Nat) (b:α):List α:=fs.take a++List.replicate i b++fs.drop (a + i)
theorem putB_len {α:Type} {fs:List α} {a i:Nat} {b:α} (h:a + i≤fs.length):(putB fs a i b).length=fs.length:=by
 unfold putB
 rw [List.length_append,List.length_append,List.length_take,List.length_replicate,List.length_drop]
 lia
theorem putB_zero {α:Type} {fs:List α} {a:Nat} {b:α}:putB fs a 0 b=fs:=by unfold putB;simp
theorem putB_set {α:Type} {fs:List α} {a i:Nat} {b:α} (h:a + i < fs.length):(putB fs a i b).set (a + i) b=putB fs a (i + 1) b:=by
 unfold putB
 have hd:fs.drop (a + i)=fs[a + i]::fs.drop (a + (i + 1)):=by rw [List.drop_eq_getElem_cons h];rfl
 rw [hd,List.set_append_right _ _ (by rw [List.length_append,List.length_take,List.length_replicate];lia)]
 have:a + i - (fs.take a++List.replicate i b).length=0:=by rw [List.length_append,List.length_take,List.length_replicate];lia
 rw [this,List.set_cons_zero,List.replicate_succ']
 simp
theorem putB_map {α β:Type} {f:α→β} {fs:List α} {a i:Nat} {b:α}:(putB fs a i b).map f=putB (fs.map f) a i (f b):=by unfold putB;simp
end M22
namespace K77
open PySem L2 PyProof.Rows
def top (i:Nat):Stmt:=PySem.Challenge.pw_slideroom_k77_sizes_refused.main.body.getD i (.Pass ⟨0,0,0,0⟩)
abbrev s_is_whole:Stmt:=top 21
theorem sc_is_whole:FnScope ["thing"] ["thing"] (defScope s_is_whole):=⟨rfl,rfl,rfl,by decide +kernel,rfl,by decide +kernel,by decide +kernel⟩
abbrev s_is_from:Stmt:=top 23
theorem sc_is_from:FnScope ["thing", "low"] ["thing", "low"] (defScope s_is_from):=⟨rfl,rfl,rfl,by decide +kernel,rfl,by decide +kernel,by decide +kernel⟩
abbrev s_is_within:Stmt:=top 24
theorem sc_is_within:FnScope ["thing", "low", "high"] ["thing", "low", "high"] (defScope s_is_within):=⟨rfl,rfl,rfl,by decide +kernel,rfl,by decide +kernel,by decide +kernel⟩
abbrev s_is_many:Stmt:=top 25
theorem sc_is_many:FnScope ["thing"] ["thing"] (defScope s_is_many):=⟨rfl,rfl,rfl,by decide +kernel,rfl,by decide +kernel,by decide +kernel⟩
abbrev s_is_name:Stmt:=top 26
theorem sc_is_name:FnScope ["thing"] ["thing"] (defScope s_is_name):=⟨rfl,rfl,rfl,by decide +kernel,rfl,by decide +kernel,by decide +kernel⟩
abbrev s_end_of:Stmt:=top 28
theorem sc_end_of:FnScope ["stretch"] ["stretch"] (defScope s_end_of):=⟨rfl,rfl,rfl,by decide +kernel,rfl,by decide +kernel,by decide +kernel⟩
abbrev s_is_row:Stmt:=top 37
theorem sc_is_row:FnScope ["thing"] ["thing"] (defScope s_is_row):=⟨rfl,rfl,rfl,by decide +kernel,rfl,by decide +kernel,by decide +kernel⟩
abbrev s_cells_of:Stmt:=top 38
theorem sc_cells_of:FnScope ["row"] ["row"] (defScope s_cells_of):=⟨rfl,rfl,rfl,by decide +kernel,rfl,by decide +kernel,by decide +kernel⟩
abbrev s_need_row:Stmt:=top 39
theorem sc_need_row:FnScope ["many", "row", "ahead", "other"] ["many", "row", "ahead"] (defScope s_need_row):=⟨rfl,rfl,rfl,by decide +kernel,rfl,by decide +kernel,by decide +kernel⟩
abbrev s_need_rows:Stmt:=top 40
theorem sc_need_rows:FnScope ["many", "rows", "at"] ["many", "rows"] (defScope s_need_rows):=⟨rfl,rfl,rfl,by decide +kernel,rfl,by decide +kernel,by decide +kernel⟩
abbrev s_share:Stmt:=top 29
theorem sc_share:FnScope ["one", "other"] ["one", "other"] (defScope s_share):=⟨rfl,rfl,rfl,by decide +kernel,rfl,by decide +kernel,by decide +kernel⟩
abbrev s_cell_at:Stmt:=top 77
theorem sc_cell_at:FnScope ["_law_script", "_law_k"] ["_law_script", "_law_k"] (defScope s_cell_at):=⟨rfl,rfl,rfl,by decide +kernel,rfl,by decide +kernel,by decide +kernel⟩
abbrev s_box:Stmt:=top 78
theorem sc_box:FnScope ["_law_cell"] ["_law_cell"] (defScope s_box):=⟨rfl,rfl,rfl,by decide +kernel,rfl,by decide +kernel,by decide +kernel⟩
abbrev s_take:Stmt:=top 79
theorem sc_take:FnScope ["_law_box_here", "_law_many_here", "_law_digit", "_law_number"] ["_law_box_here", "_law_many_here"] (defScope s_take):=⟨rfl,rfl,rfl,by decide +kernel,rfl,by decide +kernel,by decide +kernel⟩
abbrev s_names:Stmt:=top 80
theorem sc_names:FnScope ["_law_box_here", "_law_many_here", "_law_letters", "_law_tail", "_law_first", "_law_names_here", "_law_k", "_law_name"] ["_law_box_here", "_law_many_here"] (defScope s_names):=⟨rfl,rfl,rfl,by decide +kernel,rfl,by decide +kernel,by decide +kernel⟩
abbrev s_rows:Stmt:=top 81
theorem sc_rows:FnScope ["_law_box_here", "_law_many_here", "_law_most", "_law_names_here", "_law_pinned", "_law_rows_here", "_law_at", "_law_k", "_law_left", "_law_near", "_law_far", "_law_gap", "_law_wide", "_law_size", "_law_pins"] ["_law_box_here", "_law_many_here"] (defScope s_rows):=⟨rfl,rfl,rfl,by decide +kernel,rfl,by decide +kernel,by decide +kernel⟩
abbrev s_truth:Stmt:=top 22
theorem sc_truth:FnScope ["thing"] ["thing"] (defScope s_truth):=⟨rfl,rfl,rfl,by decide +kernel,rfl,by decide +kernel,by decide +kernel⟩
abbrev s_largest:Stmt:=top 30
theorem sc_largest:FnScope ["stretches"] ["stretches"] (defScope s_largest):=⟨rfl,rfl,rfl,by decide +kernel,rfl,by decide +kernel,by decide +kernel⟩
abbrev s_among:Stmt:=top 32
theorem sc_among:FnScope ["free", "holes", "size", "cell", "is_free"] ["free"] (defScope s_among):=⟨rfl,rfl,rfl,by decide +kernel,rfl,by decide +kernel,by decide +kernel⟩
abbrev s_freeam:Stmt:=top 33
theorem sc_freeam:FnScope ["layout", "free", "block", "cell"] ["layout"] (defScope s_freeam):=⟨rfl,rfl,rfl,by decide +kernel,rfl,by decide +kernel,by decide +kernel⟩
abbrev s_holesof:Stmt:=top 34
theorem sc_holesof:FnScope ["layout"] ["layout"] (defScope s_holesof):=⟨rfl,rfl,rfl,by decide +kernel,rfl,by decide +kernel,by decide +kernel⟩
abbrev s_ispair:Stmt:=top 45
theorem sc_ispair:FnScope ["thing"] ["thing"] (defScope s_ispair):=⟨rfl,rfl,rfl,by decide +kernel,rfl,by decide +kernel,by decide +kernel⟩
abbrev s_stepof:Stmt:=top 47
theorem sc_stepof:FnScope ["layout", "name", "to", "moved_ahead", "block"] ["layout", "name", "to", "moved_ahead"] (defScope s_stepof):=⟨rfl,rfl,rfl,by decide +kernel,rfl,by decide +kernel,by decide +kernel⟩
abbrev s_gone:Stmt:=top 48
theorem sc_gone:FnScope ["layout", "moves", "steps", "name", "to", "moved_ahead"] ["layout", "moves"] (defScope s_gone):=⟨rfl,rfl,rfl,by decide +kernel,rfl,by decide +kernel,by decide +kernel⟩
abbrev s_goneif:Stmt:=top 49
theorem sc_goneif:FnScope ["layout", "moves"] ["layout", "moves"] (defScope s_goneif):=⟨rfl,rfl,rfl,by decide +kernel,rfl,by decide +kernel,by decide +kernel⟩
abbrev s_gapsof:Stmt:=top 53
theorem sc_gapsof:FnScope ["layout", "gaps", "behind", "block"] ["layout"] (defScope s_gapsof):=⟨rfl,rfl,rfl,by decide +kernel,rfl,by decide +kernel,by decide +kernel⟩
abbrev s_atend:Stmt:=top 54
theorem sc_atend:FnScope ["size"] ["size"] (defScope s_atend):=⟨rfl,rfl,rfl,by decide +kernel,rfl,by decide +kernel,by decide +kernel⟩
abbrev s_beside:Stmt:=top 55
theorem sc_beside:FnScope ["block", "beyond", "cells", "size", "row", "longer", "price"] ["block", "beyond", "cells", "size"] (defScope s_beside):=⟨rfl,rfl,rfl,by decide +kernel,rfl,by decide +kernel,by decide +kernel⟩
abbrev s_left:Stmt:=top 56
theorem sc_left:FnScope ["layout", "size", "gaps", "table", "at", "block"] ["layout", "size"] (defScope s_left):=⟨rfl,rfl,rfl,by decide +kernel,rfl,by decide +kernel,by decide +kernel⟩
abbrev s_right:Stmt:=top 57
theorem sc_right:FnScope ["layout", "size", "gaps", "blocks", "falling", "at"] ["layout", "size"] (defScope s_right):=⟨rfl,rfl,rfl,by decide +kernel,rfl,by decide +kernel,by decide +kernel⟩
abbrev s_prices:Stmt:=top 58
theorem sc_prices:FnScope ["layout", "size"] ["layout", "size"] (defScope s_prices):=⟨rfl,rfl,rfl,by decide +kernel,rfl,by decide +kernel,by decide +kernel⟩
abbrev s_isprices:Stmt:=top 59
theorem sc_isprices:FnScope ["layout", "size", "told"] ["layout", "size", "told"] (defScope s_isprices):=⟨rfl,rfl,rfl,by decide +kernel,rfl,by decide +kernel,by decide +kernel⟩
abbrev s_between:Stmt:=top 60
theorem sc_between:FnScope ["layout", "first", "behind"] ["layout", "first", "behind"] (defScope s_between):=⟨rfl,rfl,rfl,by decide +kernel,rfl,by decide +kernel,by decide +kernel⟩
abbrev s_freeb:Stmt:=top 61
theorem sc_freeb:FnScope ["layout", "first", "behind"] ["layout", "first", "behind"] (defScope s_freeb):=⟨rfl,rfl,rfl,by decide +kernel,rfl,by decide +kernel,by decide +kernel⟩
abbrev s_stretches:Stmt:=top 62
theorem sc_stretches:FnScope ["layout", "stretches", "first", "block"] ["layout"] (defScope s_stretches):=⟨rfl,rfl,rfl,by decide +kernel,rfl,by decide +kernel,by decide +kernel⟩
abbrev s_needs:Stmt:=top 67
theorem sc_needs:FnScope ["size"] ["size"] (defScope s_needs):=⟨rfl,rfl,rfl,by decide +kernel,rfl,by decide +kernel,by decide +kernel⟩
abbrev s_least:Stmt:=top 69
theorem sc_least:FnScope ["layout", "size", "tables", "choices", "gap", "cells"] ["layout", "size"] (defScope s_least):=⟨rfl,rfl,rfl,by decide +kernel,rfl,by decide +kernel,by decide +kernel⟩
abbrev s_plan:Stmt:=top 73
theorem sc_plan:FnScope ["layout", "size", "choice", "gap", "at_right", "moves"] ["layout", "size"] (defScope s_plan):=⟨rfl,rfl,rfl,by decide +kernel,rfl,by decide +kernel,by decide +kernel⟩
abbrev s_priceof:Stmt:=top 74
theorem sc_priceof:FnScope ["layout", "size", "moves", "told"] ["layout", "size", "moves"] (defScope s_priceof):=⟨rfl,rfl,rfl,by decide +kernel,rfl,by decide +kernel,by decide +kernel⟩
abbrev s_isstuck:Stmt:=top 75
theorem sc_isstuck:FnScope ["layout", "size", "told", "stretches"] ["layout", "size", "told"] (defScope s_isstuck):=⟨rfl,rfl,rfl,by decide +kernel,rfl,by decide +kernel,by decide +kernel⟩
abbrev s_lcalled:Stmt:=top 84
theorem sc_lcalled:FnScope ["_law_way", "_law_layout", "_law_size", "_law_thing"] ["_law_way", "_law_layout", "_law_size", "_law_thing"] (defScope s_lcalled):=⟨rfl,rfl,rfl,by decide +kernel,rfl,by decide +kernel,by decide +kernel⟩
abbrev s_lrefused:Stmt:=top 85
theorem sc_lrefused:FnScope ["_law_way", "_law_layout", "_law_size", "_law_thing", "_law_found", "e", "_law_other"] ["_law_way", "_law_layout", "_law_size", "_law_thing"] (defScope s_lrefused):=⟨rfl,rfl,rfl,by decide +kernel,rfl,by decide +kernel,by decide +kernel⟩
abbrev s_lsame:Stmt:=top 86
theorem sc_lsame:FnScope ["_law_found", "_law_size"] ["_law_found", "_law_size"] (defScope s_lsame):=⟨rfl,rfl,rfl,by decide +kernel,rfl,by decide +kernel,by decide +kernel⟩
abbrev s_law:Stmt:=top 87
theorem sc_law:FnScope ["_law_script", "_law_k", "_law_box_here", "_law_many_here", "_law_layout", "_law_bad", "_law_thing", "_law_way", "_law_far", "_law_found"] ["_law_script"] (defScope s_law):=⟨rfl,rfl,rfl,by decide +kernel,rfl,by decide +kernel,by decide +kernel⟩
abbrev s_Linit:Stmt:=inClass (top 41) 0
theorem sc_Linit:FnScope ["self", "many", "rows"] ["self", "many", "rows"] (defScope s_Linit):=⟨rfl,rfl,rfl,by decide +kernel,rfl,by decide +kernel,by decide +kernel⟩
abbrev s_Lblocks:Stmt:=inClass (top 41) 1
theorem sc_Lblocks:FnScope ["self"] ["self"] (defScope s_Lblocks):=⟨rfl,rfl,rfl,by decide +kernel,rfl,by decide +kernel,by decide +kernel⟩
abbrev s_Lblock:Stmt:=inClass (top 41) 3
theorem sc_Lblock:FnScope ["self", "name", "row"] ["self", "name"] (defScope s_Lblock):=⟨rfl,rfl,rfl,by decide +kernel,rfl,by decide +kernel,by decide +kernel⟩
abbrev s_Sinit:Stmt:=inClass (top 66) 0
theorem sc_Sinit:FnScope ["self", "stretches"] ["self", "stretches"] (defScope s_Sinit):=⟨rfl,rfl,rfl,by decide +kernel,rfl,by decide +kernel,by decide +kernel⟩
abbrev i_NoSize:Stmt:=inClass (top 4) 0
theorem si_NoSize:FnScope ["self", "size"] ["self", "size"] (defScope i_NoSize):=⟨rfl,rfl,rfl,by decide +kernel,rfl,by decide +kernel,by decide +kernel⟩
theorem I_NoSize {P:Program} {w:World} {K:W.Frag} {mg:Str→Option Value} {base:Heap} {C:Addr} (S:ExcS K C) (n0:NoAttr K C "size"):InitOk P w K mg base CX0 "NoSize.__init__" i_NoSize ["self", "size"] (spI1 C "size"):=fun f fd F=>by
 refine ⟨F.ok si_NoSize (fun vs H Q E h=>?_) (fun cdv A outer s H vs Q E hr h=>?_),F.binds (fun _ _ _ _ _ _=>el2 fun _ _=>rfl)⟩
 ·obtain ⟨x,v,rfl,_⟩:=h
  rfl
 ·obtain ⟨x,v,rfl,ho,k⟩:=h
  refine ⟨_,pss_one (ps_exc (pv 0) (pv 1)),?_⟩
  exact ⟨_,rfl,_,rfl,x,C,rfl,S,n0.taker,.inl ⟨ho,k⟩⟩
abbrev i_NoPlace:Stmt:=inClass (top 5) 0
abbrev i_NoBlock:Stmt:=inClass (top 11) 0
theorem si_NoBlock:FnScope ["self", "name"] ["self", "name"] (defScope i_NoBlock):=⟨rfl,rfl,rfl,by decide +kernel,rfl,by decide +kernel,by decide +kernel⟩
theorem I_NoBlock {P:Program} {w:World} {K:W.Frag} {mg:Str→Option Value} {base:Heap} {C:Addr} (S:ExcS K C) (n0:NoAttr K C "name"):InitOk P w K mg base CX0 "NoBlock.__init__" i_NoBlock ["self", "name"] (spI1 C "name"):=fun f fd F=>by
 refine ⟨F.ok si_NoBlock (fun vs H Q E h=>?_) (fun cdv A outer s H vs Q E hr h=>?_),F.binds (fun _ _ _ _ _ _=>el2 fun _ _=>rfl)⟩
 ·obtain ⟨x,v,rfl,_⟩:=h
  rfl
 ·obtain ⟨x,v,rfl,ho,k⟩:=h
  refine ⟨_,pss_one (ps_exc (pv 0) (pv 1)),?_⟩
  exact ⟨_,rfl,_,rfl,x,C,rfl,S,n0.taker,.inl ⟨ho,k⟩⟩
abbrev i_NoMoves:Stmt:=inClass (top 13) 0
theorem si_NoMoves:FnScope ["self", "moves"] ["self", "moves"] (defScope i_NoMoves):=⟨rfl,rfl,rfl,by decide +kernel,rfl,by decide +kernel,by decide +kernel⟩
theorem I_NoMoves {P:Program} {w:World} {K:W.Frag} {mg:Str→Option Value} {base:Heap} {C:Addr} (S:ExcS K C) (n0:NoAttr K C "moves"):InitOk P w K mg base CX0 "NoMoves.__init__" i_NoMoves ["self", "moves"] (spI1 C "moves"):=fun f fd F=>by
 refine ⟨F.ok si_NoMoves (fun vs H Q E h=>?_) (fun cdv A outer s H vs Q E hr h=>?_),F.binds (fun _ _ _ _ _ _=>el2 fun _ _=>rfl)⟩
 ·obtain ⟨x,v,rfl,_⟩:=h
  rfl
 ·obtain ⟨x,v,rfl,ho,k⟩:=h
  refine ⟨_,pss_one (ps_exc (pv 0) (pv 1)),?_⟩
  exact ⟨_,rfl,_,rfl,x,C,rfl,S,n0.taker,.inl ⟨ho,k⟩⟩
structure Txt (K:W.Frag) (mg:Str→Option Value) (c:Nat→Addr) (R CL CS ct_Linit pt_Linit:Addr):Prop where
 e_NoSize:HasExc K mg "NoSize" "NoSize.__init__" i_NoSize (c 0) R
 k_NoSize:ExcK K (c 0) R
 a_NoSize_size:NoAttr K (c 0) "size"
 e_NoPlace:HasExc K mg "NoPlace" "NoPlace.__init__" i_NoPlace (c 1) R
 k_NoPlace:ExcK K (c 1) R
 a_NoPlace_at:NoAttr K (c 1) "at"
 e_NoBlock:HasExc K mg "NoBlock" "NoBlock.__init__" i_NoBlock (c 2) R
 k_NoBlock:ExcK K (c 2) R
 a_NoBlock_name:NoAttr K (c 2) "name"
 e_NoMoves:HasExc K mg "NoMoves" "NoMoves.__init__" i_NoMoves (c 3) R
 k_NoMoves:ExcK K (c 3) R
 a_NoMoves_moves:NoAttr K (c 3) "moves"
 d_is_whole:HasDef K mg "is_whole" s_is_whole
 d_is_from:HasDef K mg "is_from" s_is_from
 d_is_within:HasDef K mg "is_within" s_is_within
 d_is_many:HasDef K mg "is_many" s_is_many
 d_is_name:HasDef K mg "is_name" s_is_name
 d_end_of:HasDef K mg "end_of" s_end_of
 d_is_row:HasDef K mg "is_row" s_is_row
 d_cells_of:HasDef K mg "cells_of" s_cells_of
 d_need_row:HasDef K mg "need_row" s_need_row
 d_need_rows:HasDef K mg "need_rows" s_need_rows
 d_share:HasDef K mg "share_cells" s_share
 d_cell_at:HasDef K mg "_law_cell_at" s_cell_at
 d_box:HasDef K mg "_law_box" s_box
 d_take:HasDef K mg "_law_take" s_take
 d_names:HasDef K mg "_law_names" s_names
 d_rows:HasDef K mg "_law_rows" s_rows
 d_truth:HasDef K mg "has_truth" s_truth
 d_largest:HasDef K mg "largest_size" s_largest
 d_among:HasDef K mg "holes_among" s_among
 d_freeam:HasDef K mg "free_among" s_freeam
 d_holesof:HasDef K mg "holes_of" s_holesof
 d_ispair:HasDef K mg "is_pair" s_ispair
 d_stepof:HasDef K mg "step_of" s_stepof
 d_gone:HasDef K mg "gone_through" s_gone
 d_goneif:HasDef K mg "gone_through_if_let" s_goneif
 d_gapsof:HasDef K mg "gaps_of" s_gapsof
 d_atend:HasDef K mg "row_at_end" s_atend
 d_beside:HasDef K mg "row_beside" s_beside
 d_left:HasDef K mg "left_prices" s_left
 d_right:HasDef K mg "right_prices" s_right
 d_prices:HasDef K mg "prices" s_prices
 d_isprices:HasDef K mg "is_prices" s_isprices
 d_between:HasDef K mg "blocks_between" s_between
 d_freeb:HasDef K mg "free_between" s_freeb
 d_stretches:HasDef K mg "stretches_of" s_stretches
 d_needs:HasDef K mg "need_size" s_needs
 d_least:HasDef K mg "least_choice" s_least
 d_plan:HasDef K mg "plan" s_plan
 d_priceof:HasDef K mg "price_of" s_priceof
 d_isstuck:HasDef K mg "is_stuck" s_isstuck
 d_lcalled:HasDef K mg "_law_called" s_lcalled
 d_lrefused:HasDef K mg "_law_refused" s_lrefused
 d_lsame:HasDef K mg "_law_same" s_lsame
 n_isinstance:mg "isinstance" = none
 n_int:mg "int" = none
 n_bool:mg "bool" = none
 n_str:mg "str" = none
 n_list:mg "list" = none
 n_tuple:mg "tuple" = none
 n_len:mg "len" = none
 n_all:mg "all" = none
 n_range:mg "range" = none
 n_sorted:mg "sorted" = none
 n_max:mg "max" = none
 n_min:mg "min" = none
 n_sum:mg "sum" = none
 n_enumerate:mg "enumerate" = none
 n_zip:mg "zip" = none
 n_reversed:mg "reversed" = none
 n_any:mg "any" = none
 n_ValueError:mg "ValueError" = none
 g_LETTERS:GlobIs mg "LETTERS" (.str LET)
 g_NAME_SIGNS:GlobIs mg "NAME_SIGNS" (.str SGN)
 g_MOST_SIGNS:GlobIs mg "MOST_SIGNS" (.int 8)
 g_FEWEST_CELLS:GlobIs mg "FEWEST_CELLS" (.int 16)
 g_MOST_CELLS:GlobIs mg "MOST_CELLS" (.int 240)
 g_MOST_BLOCKS:GlobIs mg "MOST_BLOCKS" (.int 40)
 x_NoSize_NoBlock:W.exmOne K (.ref (c 0)) (.ref (c 2))=some false
 x_NoSize_NoMoves:W.exmOne K (.ref (c 0)) (.ref (c 3))=some false
 x_NoSize_NoPlace:W.exmOne K (.ref (c 0)) (.ref (c 1))=some false
 g_R:mg "RoomError" = some (.ref R)
 c_R:(W.clsIn K R).isSome=true
 t_R:W.typeIn K (.ref R)=some (.type "type")
 m_R:W.mroIn K R (.type "BaseException")=some true
 clL:Cls K CL
 gc_Layout:mg "Layout" = some (.ref CL)
 aL_many:NoAttr K CL "many"
 aL_rows:NoAttr K CL "rows"
 clS:Cls K CS
 gc_Stuck:mg "Stuck" = some (.ref CS)
 aS_stretches:NoAttr K CS "stretches"
 tab_Linit:W.codeHdIn K ct_Linit pt_Linit=true
 f_Linit:∃f,(∃fd,Fun K "__init__" "Layout.__init__" s_Linit f fd∧fd.code=.ref ct_Linit)∧Mk K CL f
 f_Lblocks:∃f,FnAt K "blocks" "Layout.blocks" s_Lblocks f∧Meth K CL "blocks" f
 f_Lblock:∃f,FnAt K "block" "Layout.block" s_Lblock f∧Meth K CL "block" f
 f_Sinit:∃f,FnAt K "__init__" "Stuck.__init__" s_Sinit f∧Mk K CS f
 cc_n:W.specialIn K (.builtin "object.__class__") "__get__" = some (some (.builtin "getset_descriptor.__get__"))
 cc_t:W.takesIn K (.builtin "object.__class__")=some true
 ccS_a:W.findIn K (.ref CS) "__class__" = some (some (.builtin "object.__class__"))
 ccS_m:W.mroIn K CS (.type "object")=some true
local macro_rules | `(tactic| k_room)=>`(tactic| first
 | with_reducible assumption
 | with_unfolding_all exact rfl
 | with_unfolding_all exact Nat.le_of_ble_eq_true rfl
 | lia
 | (with_reducible refine small_line ?_;first | lia | (simp only [List.length_cons,List.length_nil,List.length_map,List.length_append,List.length_replicate,rowsN_len,List.length_take,List.length_drop,List.length_set];lia))
 | (with_reducible refine small_lt ?_;first | lia | (simp only [List.length_cons,List.length_nil,List.length_map,List.length_append,List.length_replicate,rowsN_len,List.length_take,List.length_drop,List.length_set];lia))
 | (simp only [List.length_cons,List.length_nil,List.length_map,List.length_append,List.length_replicate,rowsN_len,List.length_take,List.length_drop,List.length_set];lia)
 | decide)
local macro_rules | `(tactic| k_mem)=>`(tactic| first
 | with_reducible assumption
 | decide
 | lia
 | (simp only [List.length_cons,List.length_nil,List.length_map,List.length_append,List.length_replicate,rowsN_len,List.length_take,List.length_drop,List.length_set];lia))
set_option hygiene false in
local macro_rules | `(tactic| k_meth)=>`(tactic| first
 | with_reducible refine go1 ?_
 | (clear F;intro H_ a_ dx_ (F:SH _ _ _ _ _) (ex_:ExcT _ _ _ _);have exA_:=ExA.mk ex_)
 | (clear F;intro H_ (F:SH _ _ _ _ _))
 | (clear F;intro H_ p_ (F:SH _ _ _ _ _))
 | (clear F;intro H_ x_ dx_ (F:SH _ _ _ _ _))
 | (clear F;intro H_ p_ ys_ l_ (F:SH _ _ _ _ _))
 | with_reducible refine sd (by k_room) ?_
 | (intro (r_:Int) (x_:Int) (y_:Int) (z_:Int) lo_ hi_)
 | (intro (x_:Int) (y_:Int))
 | (intro (c_:Int))
 | with_reducible refine i_pos (by k_mem) ?_
 | with_reducible refine i_neg (by k_mem) ?_
 | with_reducible refine i_npos (by k_mem) ?_
 | with_reducible refine i_nneg (by k_mem) ?_)
def sp_is_name:Sp:=fun vs H Q _=>∃cs:List Nat,vs=[.str (tx cs)]∧NameOk cs∧∀H',Same H H'→Q (.bl true) H'
def sp_share:Sp:=fun vs H Q _=>∃(p q:Addr) (a b c d:Int),vs=[.ref p,.ref q]∧H p=some (.tup [.int a,.int b])∧H q=some (.tup [.int c,.int d])∧Q (.bl (decide (a < c + d) && decide (c < a + b))) H
def sp_cells:Sp:=fun vs H Q _=>∃(q:Addr) (r:Rw),vs=[.ref q]∧H q=some (.tup (rowV r))∧∀p H',Same H H'→H' p=some (.tup [.int (r.st:Nat),.int (r.sz:Nat)])→Q (.ref p) H'
def sp_is_row:Sp:=fun vs H Q _=>∃(q:Addr) (r:Rw),vs=[.ref q]∧H q=some (.tup (rowV r))∧NameOk r.nm∧1≤r.sz∧∀H',Same H H'→Q (.bl true) H'
def sp_need_row:Sp:=fun vs H Q _=>∃(n:Nat) (q l:Addr) (r:Rw) (ys:List V) (rs:List Rw),vs=[.int (n:Nat),.ref q,.ref l]∧H q=some (.tup (rowV r))∧H l=some (.lst ys)∧TupsAt H ys (rowsV rs)∧GoodR n r∧(∀s∈rs,Apart s r)∧∀H',Same H H'→Q .non H'
def sp_need_rows:Sp:=fun vs H Q _=>∃(n:Nat) (l:Addr) (ys:List V) (rs:List Rw),vs=[.int (n:Nat),.ref l]∧H l=some (.lst ys)∧TupsAt H ys (rowsV rs)∧Lay n rs∧∀H',Same H H'→Q .non H'
section
variable {H:Hp} {Q:VK} {E:XK} {cs:List Nat} {p q l:Addr} {a b c d:Int} {r:Rw} {n:Nat} {ys:List V} {rs:List Rw}
instance go_is_name:Go (sp_is_name [.str (tx cs)] H Q E) (Sd (NameOk cs) (∀H',Same H H'→Q (.bl true) H')):=⟨fun s=>⟨cs,rfl,s.1,s.2⟩⟩
instance go_share [h:Hat H p (.tup [.int a,.int b])] [h2:Hat H q (.tup [.int c,.int d])]:Go (sp_share [.ref p,.ref q] H Q E) (Q (.bl (decide (a < c + d) && decide (c < a + b))) H):=⟨fun k=>⟨p,q,a,b,c,d,rfl,h.e,h2.e,k⟩⟩
instance go_cells [h:Hat H q (.tup (rowV r))]:Go (sp_cells [.ref q] H Q E) (∀p H',Same H H'→H' p=some (.tup [.int (r.st:Nat),.int (r.sz:Nat)])→Q (.ref p) H'):=⟨fun k=>⟨q,r,rfl,h.e,k⟩⟩
instance go_is_row [h:Hat H q (.tup (rowV r))]:Go (sp_is_row [.ref q] H Q E) (Sd (NameOk r.nm∧1≤r.sz) (∀H',Same H H'→Q (.bl true) H')):=⟨fun s=>⟨q,r,rfl,h.e,s.1.1,s.1.2,s.2⟩⟩
instance go_need_row [h:Hat H q (.tup (rowV r))] [h2:Hat H l (.lst ys)] [t:TpA H ys (rowsV rs)]:Go (sp_need_row [.int (n:Nat),.ref q,.ref l] H Q E) (Sd (GoodR n r∧∀s∈rs,Apart s r) (∀H',Same H H'→Q .non H')):=⟨fun s=>⟨n,q,l,r,ys,rs,rfl,h.e,h2.e,t.e,s.1.1,s.1.2,s.2⟩⟩
instance go_need_rows [h2:Hat H l (.lst ys)] [t:TpA H ys (rowsV rs)]:Go (sp_need_rows [.int (n:Nat),.ref l] H Q E) (Sd (Lay n rs) (∀H',Same H H'→Q .non H')):=⟨fun s=>⟨n,l,ys,rs,rfl,h2.e,t.e,s.1,s.2⟩⟩
instance nx_sameT {H0:Hp} {M:List Addr} {L:List (Addr×HO)} {I:List Im} {xs:List V} {Z:Addr→Hp→Prop} [F:SH H0 M H L I]:Go (∀p H',Same H H'→H' p=some (.tup xs)→Z p H') (∀H' p,SH H0 M H' L (.tup p xs::I)→Z p H'):=⟨fun k p H' s e=>k H' p ((F.same s).addT e)⟩
theorem rows_take {i:Nat} (t:TupsAt H ys (rowsV rs)):TupsAt H (ys.take i) (rowsV (rs.take i)):=by
 refine ⟨?_,fun j r e=>?_⟩
 ·rw [rowsV_len,List.length_take,List.length_take,t.1,rowsV_len]
 ·unfold rowsV at e
  rw [List.map_take,List.getElem?_take] at e
  split at e
  ·rename_i hj
   obtain ⟨q,e1,e2⟩:=t.2 j r e
   exact ⟨q,by rw [List.getElem?_take,if_pos hj];exact e1,e2⟩
  ·cases e
theorem cut_take {i:Nat}:cutV ys none (some (i:Int))=ys.take i:=by
 unfold cutV
 rw [HT.sIx_nat]
 show (ys.drop 0).take (min i ys.length - 0)=_
 rw [List.drop_zero,Nat.sub_zero]
 by_cases h:i≤ys.length
 ·rw [show min i ys.length=i by lia]
 ·rw [List.take_of_length_le (by lia),List.take_of_length_le (by lia)]
end
section
variable {H:Hp} {l:Addr} {x y z v:V} {r:List V} {R:Hp→Prop}
instance go_set0 [h:Hat H l (.lst (x::r))]:Go (rSetA (.ref l) (.int 0) v H R) (∀H',Off l H H'→H' l=some (.lst (v::r))→R H'):=⟨fun k=>w_setA h.e (j:=0) (by unfold ixN;rw [if_pos (by decide),if_pos (by simp only [List.length_cons];lia)];rfl) k⟩
def sp_takeK:Sp:=fun vs H Q _=>∃(p:Addr) (a b c m:Int),vs=[.ref p,.int m]∧H p=some (.lst [.int a,.int b,.int c])∧0 < m∧m < 1073741824∧∀(r a' b' c':Int) (H':Hp),0≤r→r < m→Kp p H H'→H' p=some (.lst [.int a',.int b',.int c'])→Q (.int r) H'
instance go_takeK {Q:VK} {E:XK} {p:Addr} {a b c m:Int} [h:Hat H p (.lst [.int a,.int b,.int c])]:Go (sp_takeK [.ref p,.int m] H Q E) (Sd (0 < m∧m < 1073741824) (∀r a' b' c':Int,0≤r→r < m→∀H',Kp p H H'→H' p=some (.lst [.int a',.int b',.int c'])→Q (.int r) H')):=⟨fun s=>⟨p,a,b,c,m,rfl,h.e,s.1.1,s.1.2,fun r a' b' c' H' h0 h1 f e=>s.2 r a' b' c' h0 h1 H' f e⟩⟩
instance go_set2 [h:Hat H l (.lst (x::y::z::r))]:Go (rSetA (.ref l) (.int 2) v H R) (∀H',Off l H H'→H' l=some (.lst (x::y::v::r))→R H'):=⟨fun k=>w_setA h.e (j:=2) (by unfold ixN;rw [if_pos (by decide),if_pos (by simp only [List.length_cons];lia)];rfl) k⟩
end
section
variable {P:Program} {w:World} {K:W.Frag} {mg:Str→Option Value} {base:Heap} {c:Nat→Addr} {ct_Linit pt_Linit R CL CS:Addr}
theorem D_is_whole (T:Txt K mg c R CL CS ct_Linit pt_Linit):Def P w K mg base CX0 1 "is_whole" ["thing"] (sp_whole K):=by
 refine def_of T.d_is_whole sc_is_whole (fun vs H Q E h=>?_) (fun _ _ _ _ _ _=>el1 fun _=>rfl) (fun f cdv A outer s H vs Q E hr h=>?_)
 ·obtain ⟨x,n,rfl,_⟩:=h
  rfl
 ·obtain ⟨x,n,rfl,ty,k⟩:=h
  have nd:=sc_is_whole.nd
  refine ⟨_,(pss_one (ps_ret (pe_and (pe_callB call_isT rfl T.n_isinstance boot_isinstance (pa_cons (pv 0) (pa_cons (pe_ty (T := "int") rfl T.n_int boot_int) pa_nil))) (pe_one (pe_not (pe_callB call_isT rfl T.n_isinstance boot_isinstance (pa_cons (pv 0) (pa_cons (pe_ty (T := "bool") rfl T.n_bool boot_bool) pa_nil)))))))),?_⟩
  clear nd 
  rw [show start ["thing"] [x]=[some (x)] from rfl]
  try dsimp only [cx_K,cx_K2]
  rw [isW_eq] at k
  repeat k_meth
  refine w_is ty (bt_int ty) ?_
  repeat k_meth
  refine i_b (fun h=>?_) (fun h=>?_)
  ·repeat k_meth
   refine w_is ty (bt_bool ty) ?_
   repeat k_meth
   rw [h] at k
   exact k
  ·rw [h] at k
   exact k
theorem D_is_from (T:Txt K mg c R CL CS ct_Linit pt_Linit):Def P w K mg base CX0 2 "is_from" ["thing", "low"] (sp_is_from K):=by
 have D_is_whole:=D_is_whole (P:=P) (w:=w) (base:=base) T
 refine def_of T.d_is_from sc_is_from (fun vs H Q E h=>?_) (fun _ _ _ _ _ _=>el2 fun _ _=>rfl) (fun f cdv A outer s H vs Q E hr h=>?_)
 ·obtain ⟨x,n,lo,rfl,_⟩:=h
  rfl
 ·obtain ⟨x,n,lo,rfl,ty,k⟩:=h
  have nd:=sc_is_from.nd
  refine ⟨_,(pss_one (ps_ret (pe_and (pe_def D_is_whole hr (pa_cons (pv 0) pa_nil)) (pe_one (pe_cmpR op_le (pv 1) (pv 0) (nomark _)))))),?_⟩
  clear nd D_is_whole
  rw [show start ["thing", "low"] [x,.int lo]=[some (x),some (.int lo)] from rfl]
  try dsimp only [cx_K,cx_K2]
  repeat k_meth
  refine u_whole ty ?_
  repeat k_meth
  cases x with
  | int i =>
   refine i_T rfl ?_
   repeat k_meth
   exact k
  | _=>exact i_F rfl k
theorem D_is_within (T:Txt K mg c R CL CS ct_Linit pt_Linit):Def P w K mg base CX0 2 "is_within" ["thing", "low", "high"] (sp_is_within K):=by
 have D_is_whole:=D_is_whole (P:=P) (w:=w) (base:=base) T
 refine def_of T.d_is_within sc_is_within (fun vs H Q E h=>?_) (fun _ _ _ _ _ _=>el3 fun _ _ _=>rfl) (fun f cdv A outer s H vs Q E hr h=>?_)
 ·obtain ⟨x,n,lo,hi,rfl,_⟩:=h
  rfl
 ·obtain ⟨x,n,lo,hi,rfl,ty,k⟩:=h
  have nd:=sc_is_within.nd
  refine ⟨_,(pss_one (ps_ret (pe_and (pe_def D_is_whole hr (pa_cons (pv 0) pa_nil)) (pe_one (pe_chain op_le op_le (pv 1) (pv 0) (pv 2)))))),?_⟩
  clear nd D_is_whole
  rw [show start ["thing", "low", "high"] [x,.int lo,.int hi]=[some (x),some (.int lo),some (.int hi)] from rfl]
  try dsimp only [cx_K,cx_K2]
  repeat k_meth
  refine u_whole ty ?_
  repeat k_meth
  cases x with
  | int i =>
   refine i_T rfl ?_
   repeat k_meth
   have k:Q (.bl (decide (lo≤i) && decide (i≤hi))) H:=k
   refine i_dec (fun h=>?_) (fun h=>?_)
   ·repeat k_meth
    rw [decide_eq_true h,Bool.true_and] at k
    exact k
   ·rw [decide_eq_false h,Bool.false_and] at k
    exact k
  | _=>exact i_F rfl k
theorem D_is_many (T:Txt K mg c R CL CS ct_Linit pt_Linit):Def P w K mg base CX0 3 "is_many" ["thing"] (sp_is_many K):=by
 have D_is_within:=D_is_within (P:=P) (w:=w) (base:=base) T
 refine def_of T.d_is_many sc_is_many (fun vs H Q E h=>?_) (fun _ _ _ _ _ _=>el1 fun _=>rfl) (fun f cdv A outer s H vs Q E hr h=>?_)
 ·obtain ⟨x,n,rfl,_⟩:=h
  rfl
 ·obtain ⟨x,n,rfl,ty,k⟩:=h
  have nd:=sc_is_many.nd
  refine ⟨_,(pss_one (ps_ret (pe_def D_is_within hr (pa_cons (pv 0) (pa_cons (pe_gl T.g_FEWEST_CELLS) (pa_cons (pe_gl T.g_MOST_CELLS) pa_nil)))))),?_⟩
  clear nd D_is_within
  rw [show start ["thing"] [x]=[some (x)] from rfl]
  try dsimp only [cx_K,cx_K2]
  repeat k_meth
  exact u_within ty k
theorem D_end_of (T:Txt K mg c R CL CS ct_Linit pt_Linit):Def P w K mg base CX0 1 "end_of" ["stretch"] sp_end_of:=by
 refine def_of T.d_end_of sc_end_of (fun vs H Q E h=>?_) (fun _ _ _ _ _ _=>el1 fun _=>rfl) (fun f cdv A outer s H vs Q E hr h=>?_)
 ·obtain ⟨q,a,b,rfl,_⟩:=h
  rfl
 ·obtain ⟨q,a,b,rfl,h,k⟩:=h
  have nd:=sc_end_of.nd
  refine ⟨_,(pss_one (ps_ret (pe_op op_add (pe_ix ix_tup (pv 0) pe_int (fun _ _=>rfl)) (pe_ix ix_tup (pv 0) pe_int (fun _ _=>rfl))))),?_⟩
  clear nd 
  rw [show start ["stretch"] [.ref q]=[some (.ref q)] from rfl]
  try dsimp only [cx_K,cx_K2]
  have iL_many:FldOk K CL "many" := ⟨T.clL,T.aL_many⟩
  have iL_rows:FldOk K CL "rows" := ⟨T.clL,T.aL_rows⟩
  have iS_stretches:FldOk K CS "stretches" := ⟨T.clS,T.aS_stretches⟩
  have o_h:=Old.mk (M:=[]) h nm0
  have F:SH H [] H [] []:=SH.nil
  repeat k_meth
  exact k
theorem D_cell_at (T:Txt K mg c R CL CS ct_Linit pt_Linit):Def P w K mg base CX0 1 "_law_cell_at" ["_law_script", "_law_k"] (sp_cellA K):=by
 refine def_of T.d_cell_at sc_cell_at (fun vs H Q E h=>?_) (fun _ _ _ _ _ _=>el2 fun _ _=>rfl) (fun f cdv A outer s H vs Q E hr h=>?_)
 ·obtain ⟨a,ns,m,rfl,_⟩:=h
  rfl
 ·obtain ⟨a,ns,m,rfl,hS,m0,k⟩:=h
  have nd:=sc_cell_at.nd
  refine ⟨_,(pss_cons (ps_if (pt_cmpR op_lt (pv 1) (pe_callB call_lenN rfl T.n_len boot_len (pa_cons (pv 0) pa_nil)) (nomark _)) (pss_one (ps_ret (pe_ix ix_list (pv 0) (pv 1) (fun _ _=>rfl)))) pss_nil)
   (pss_one (ps_ret (pe_op op_add (pe_op op_mul pe_int (pv 1)) pe_int)))),?_⟩
  clear nd 
  rw [show start ["_law_script", "_law_k"] [.ref a,.int m]=[some (.ref a),some (.int m)] from rfl]
  try dsimp only [cx_K,cx_K2]
  have iL_many:FldOk K CL "many" := ⟨T.clL,T.aL_many⟩
  have iL_rows:FldOk K CL "rows" := ⟨T.clL,T.aL_rows⟩
  have iS_stretches:FldOk K CS "stretches" := ⟨T.clS,T.aS_stretches⟩
  have o_hS:=OldQ.mk (M:=[]) hS nm0
  have F:SH H [] H [] []:=SH.nil
  repeat k_meth
  refine i_dec (fun h=>?_) (fun h=>?_)
  ·repeat k_meth
   obtain ⟨v,e,mm⟩:=atI_lt (xs:=ns.map V.int) m0 h
   obtain ⟨c,_,rfl⟩:=List.mem_map.mp mm
   exact w_ixL hS e (k c)
  ·repeat k_meth
   exact k _
theorem D_box (T:Txt K mg c R CL CS ct_Linit pt_Linit):Def P w K mg base CX0 1 "_law_box" ["_law_cell"] sp_boxA:=by
 refine def_of T.d_box sc_box (fun vs H Q E h=>?_) (fun _ _ _ _ _ _=>el1 fun _=>rfl) (fun f cdv A outer s H vs Q E hr h=>?_)
 ·obtain ⟨c,rfl,_⟩:=h
  rfl
 ·obtain ⟨c,rfl,k⟩:=h
  have nd:=sc_box.nd
  refine ⟨_,(pss_one (ps_ret (pe_lstA (pa_cons (pe_op op_mul (pe_callB (call_maxN rfl) rfl T.n_max boot_max (pa_cons pe_int (pa_cons (pv 0) pa_nil))) (pe_callTy call_intN rfl T.n_int boot_int (pa_cons (pe_cmpR op_ge (pv 0) (pe_op op_pow pe_int pe_int) (nomark _)) pa_nil))) (pa_cons (pe_op op_mod (pv 0) pe_int) (pa_cons pe_int pa_nil)))))),?_⟩
  clear nd 
  rw [show start ["_law_cell"] [.int c]=[some (.int c)] from rfl]
  try dsimp only [cx_K,cx_K2]
  have iL_many:FldOk K CL "many" := ⟨T.clL,T.aL_many⟩
  have iL_rows:FldOk K CL "rows" := ⟨T.clL,T.aL_rows⟩
  have iS_stretches:FldOk K CS "stretches" := ⟨T.clS,T.aS_stretches⟩
  have F:SH H [] H [] []:=SH.nil
  repeat k_meth
  exact k _ _ _ _ SH.nwC
theorem D_take (T:Txt K mg c R CL CS ct_Linit pt_Linit):Def P w K mg base CX0 1 "_law_take" ["_law_box_here", "_law_many_here"] sp_takeK:=by
 refine def_of T.d_take sc_take (fun vs H Q E h=>?_) (fun _ _ _ _ _ _=>el2 fun _ _=>rfl) (fun f cdv A outer s H vs Q E hr h=>?_)
 ·obtain ⟨p,a,b,c,m,rfl,_⟩:=h
  rfl
 ·obtain ⟨p,a,b,c,m,rfl,hp,m0,m1,k⟩:=h
  have nd:=sc_take.nd
  refine ⟨_,(pss_cons (ps_if (pt_cmpR op_gt (pe_ix ix_list (pv 0) pe_int (fun _ _=>rfl)) pe_int (nomark _)) (pss_cons (ps_set (i:=2) nd rfl (Or.inl rfl) (pe_op op_mod (pe_ix ix_list (pv 0) pe_int (fun _ _=>rfl)) (pv 1)))
    (pss_cons (ps_asg (pe_op op_fdiv (pe_ix ix_list (pv 0) pe_int (fun _ _=>rfl)) (pv 1)) (pg_sub (pv 0) pe_int set_listA))
    (pss_one (ps_ret (pv 2))))) pss_nil)
   (pss_cons (ps_asg (pe_op op_add (pe_ix ix_list (pv 0) pe_int (fun _ _=>rfl)) pe_int) (pg_sub (pv 0) pe_int set_listA))
   (pss_cons (ps_set (i:=3) nd rfl (Or.inl rfl) (pe_op op_mod (pe_op op_mul (pe_op op_add (pe_ix ix_list (pv 0) pe_int (fun _ _=>rfl)) (pe_op op_mul pe_int (pe_ix ix_list (pv 0) pe_int (fun _ _=>rfl)))) pe_int) pe_int))
   (pss_cons (ps_set (i:=3) nd rfl (Or.inl rfl) (pe_op op_mod (pe_op op_mul (pv 3) (pv 3)) pe_int))
   (pss_one (ps_ret (pe_op op_mod (pe_op op_fdiv (pe_op op_mod (pe_op op_mul (pe_op op_add (pv 3) (pe_ix ix_list (pv 0) pe_int (fun _ _=>rfl))) (pe_op op_add (pv 3) pe_int)) pe_int) pe_int) (pv 1)))))))),?_⟩
  clear nd 
  rw [show start ["_law_box_here", "_law_many_here", "_law_digit", "_law_number"] [.ref p,.int m]=[some (.ref p),some (.int m),none,none] from rfl]
  try dsimp only [cx_K,cx_K2]
  have iL_many:FldOk K CL "many" := ⟨T.clL,T.aL_many⟩
  have iL_rows:FldOk K CL "rows" := ⟨T.clL,T.aL_rows⟩
  have iS_stretches:FldOk K CS "stretches" := ⟨T.clS,T.aS_stretches⟩
  have F:SH H [p] H [(p,.lst [.int a,.int b,.int c])] []:=SH.nil.addM List.mem_cons_self hp rfl (by simp)
  repeat k_meth
  refine i_dec (fun h=>?_) (fun h=>?_)
  ·repeat k_meth
   exact k _ _ _ _ _ (Int.emod_nonneg _ (by lia)) (Int.emod_lt_of_pos _ m0) F.kpo hatC
  ·repeat k_meth
   exact k _ _ _ _ _ (Int.emod_nonneg _ (by lia)) (Int.emod_lt_of_pos _ m0) F.kpo hatC
theorem D_is_name (T:Txt K mg c R CL CS ct_Linit pt_Linit):Def P w K mg base CX0 1 "is_name" ["thing"] sp_is_name:=by
 refine def_of T.d_is_name sc_is_name (fun vs H Q E h=>?_) (fun _ _ _ _ _ _=>el1 fun _=>rfl) (fun f cdv A outer s H vs Q E hr h=>?_)
 ·obtain ⟨cs,rfl,_⟩:=h
  rfl
 ·obtain ⟨cs,rfl,ok,k⟩:=h
  have nd:=sc_is_name.nd
  refine ⟨_,(pss_cons (ps_if (PW.pt (pw_or (pt_not (pt_val (pe_callB call_isT rfl T.n_isinstance boot_isinstance (pa_cons (pv 0) (pa_cons (pe_ty (T := "str") rfl T.n_str boot_str) pa_nil))))) (pw_or1 (pt_not (pt_chain op_le op_le pe_int (pe_callB call_lenN rfl T.n_len boot_len (pa_cons (pv 0) pa_nil)) (pe_gl T.g_MOST_SIGNS)))))) (pss_one (ps_ret pe_bl)) pss_nil)
   (pss_one (ps_ret (pe_and (pe_cmpR op_inS (pe_ix ix_str (pv 0) pe_int (fun _ _=>rfl)) (pe_gl T.g_LETTERS) (by with_unfolding_all rfl)) (pe_one (pe_callB (call_all rfl) rfl T.n_all boot_all (pa_cons (pe_comp (N:=["sign"]) (nt:=1) (fr:=[]) (pi_str (pv 0)) (fun _ _ _ _=>(pg_name (i:=0) (show (["sign"]:List Str).Nodup from by decide +kernel) rfl (Or.inl rfl))) (fun _ _ _ _=>pif_nil) (fun _ _ _ _=>(pe_cmpR op_inS (pv 0) (pe_gl T.g_NAME_SIGNS) (by with_unfolding_all rfl)))) pa_nil))))))),?_⟩
  clear nd 
  rw [show start ["thing"] [.str (tx cs)]=[some (.str (tx cs))] from rfl]
  try dsimp only [cx_K,cx_K2]
  have iL_many:FldOk K CL "many" := ⟨T.clL,T.aL_many⟩
  have iL_rows:FldOk K CL "rows" := ⟨T.clL,T.aL_rows⟩
  have iS_stretches:FldOk K CS "stretches" := ⟨T.clS,T.aS_stretches⟩
  have F:SH H [] H [] []:=SH.nil
  have h1:=ok.lo
  have h2:=ok.hi
  repeat k_meth
  intro c hc
  repeat k_meth
  rw [let_low,ok.hd c hc]
  repeat k_meth
  refine comp_S (F:=fun c=>V.bl true) (by lia) rfl (fun c H' R hm s kk=>?_) ?_
  ·clear F
   have F:SH H' [] H' [] []:=SH.nil
   repeat k_meth
   rw [sgn_low,ok.all c hm]
   exact kk _ (Same.refl _)
  ·have e:(cs.map fun _=>V.bl true)=(List.replicate cs.length true).map V.bl:=by
    rw [List.map_replicate,List.map_const']
   rw [e]
   repeat k_meth
   rw [show (List.replicate cs.length true).all id=true by simp]
   exact k _ F.sm
theorem D_share (T:Txt K mg c R CL CS ct_Linit pt_Linit):Def P w K mg base CX0 2 "share_cells" ["one", "other"] sp_share:=by
 have D_end_of:=D_end_of (P:=P) (w:=w) (base:=base) T
 refine def_of T.d_share sc_share (fun vs H Q E h=>?_) (fun _ _ _ _ _ _=>el2 fun _ _=>rfl) (fun f cdv A outer s H vs Q E hr h=>?_)
 ·obtain ⟨p,q,a,b,c,d,rfl,_⟩:=h
  rfl
 ·obtain ⟨p,q,a,b,c,d,rfl,hp,hq,k⟩:=h
  have nd:=sc_share.nd
  refine ⟨_,(pss_one (ps_ret (pe_and (pe_cmpR op_lt (pe_ix ix_tup (pv 0) pe_int (fun _ _=>rfl)) (pe_def D_end_of hr (pa_cons (pv 1) pa_nil)) (nomark _)) (pe_one (pe_cmpR op_lt (pe_ix ix_tup (pv 1) pe_int (fun _ _=>rfl)) (pe_def D_end_of hr (pa_cons (pv 0) pa_nil)) (nomark _)))))),?_⟩
  clear nd D_end_of
  rw [show start ["one", "other"] [.ref p,.ref q]=[some (.ref p),some (.ref q)] from rfl]
  try dsimp only [cx_K,cx_K2]
  have iL_many:FldOk K CL "many" := ⟨T.clL,T.aL_many⟩
  have iL_rows:FldOk K CL "rows" := ⟨T.clL,T.aL_rows⟩
  have iS_stretches:FldOk K CS "stretches" := ⟨T.clS,T.aS_stretches⟩
  have o_hp:=Old.mk (M:=[]) hp nm0
  have o_hq:=Old.mk (M:=[]) hq nm0
  have F:SH H [] H [] []:=SH.nil
  repeat k_meth
  refine i_dec (fun h=>?_) (fun h=>?_)
  ·repeat k_meth
   rw [decide_eq_true h,Bool.true_and] at k
   exact k
  ·rw [decide_eq_false h,Bool.false_and] at k
   exact k
theorem D_cells_of (T:Txt K mg c R CL CS ct_Linit pt_Linit):Def P w K mg base CX0 1 "cells_of" ["row"] sp_cells:=by
 refine def_of T.d_cells_of sc_cells_of (fun vs H Q E h=>?_) (fun _ _ _ _ _ _=>el1 fun _=>rfl) (fun f cdv A outer s H vs Q E hr h=>?_)
 ·obtain ⟨q,r,rfl,_⟩:=h
  rfl
 ·obtain ⟨q,r,rfl,hq,k⟩:=h
  have nd:=sc_cells_of.nd
  refine ⟨_,(pss_one (ps_ret (pe_tupA (pa_cons (pe_ix ix_tup (pv 0) pe_int (fun _ _=>rfl)) (pa_cons (pe_ix ix_tup (pv 0) pe_int (fun _ _=>rfl)) pa_nil))))),?_⟩
  clear nd 
  rw [show start ["row"] [.ref q]=[some (.ref q)] from rfl]
  try dsimp only [cx_K,cx_K2]
  have iL_many:FldOk K CL "many" := ⟨T.clL,T.aL_many⟩
  have iL_rows:FldOk K CL "rows" := ⟨T.clL,T.aL_rows⟩
  have iS_stretches:FldOk K CS "stretches" := ⟨T.clS,T.aS_stretches⟩
  have o_hq:=Old.mk (M:=[]) hq nm0
  have F:SH H [] H [] []:=SH.nil
  repeat k_meth
  exact k _ _ F.sm hatC
theorem D_is_row (T:Txt K mg c R CL CS ct_Linit pt_Linit):Def P w K mg base CX0 3 "is_row" ["thing"] sp_is_row:=by
 have D_is_name:=D_is_name (P:=P) (w:=w) (base:=base) T
 have D_is_from:=D_is_from (P:=P) (w:=w) (base:=base) T
 refine def_of T.d_is_row sc_is_row (fun vs H Q E h=>?_) (fun _ _ _ _ _ _=>el1 fun _=>rfl) (fun f cdv A outer s H vs Q E hr h=>?_)
 ·obtain ⟨q,r,rfl,_⟩:=h
  rfl
 ·obtain ⟨q,r,rfl,hq,ok,hz,k⟩:=h
  have nd:=sc_is_row.nd
  refine ⟨_,(pss_cons (ps_if (PW.pt (pw_or (pt_not (pt_val (pe_callB call_isT rfl T.n_isinstance boot_isinstance (pa_cons (pv 0) (pa_cons (pe_ty (T := "tuple") rfl T.n_tuple boot_tuple) pa_nil))))) (pw_or1 (pt_cmpR op_ne (pe_callB call_lenN rfl T.n_len boot_len (pa_cons (pv 0) pa_nil)) pe_int (nomark _))))) (pss_one (ps_ret pe_bl)) pss_nil)
   (pss_one (ps_ret (pe_and (pe_def D_is_name hr (pa_cons (pe_ix ix_tup (pv 0) pe_int (fun _ _=>rfl)) pa_nil)) (pe_and (pe_def D_is_from hr (pa_cons (pe_ix ix_tup (pv 0) pe_int (fun _ _=>rfl)) (pa_cons pe_int pa_nil))) (pe_and (pe_def D_is_from hr (pa_cons (pe_ix ix_tup (pv 0) pe_int (fun _ _=>rfl)) (pa_cons pe_int pa_nil))) (pe_one (pe_def D_is_from hr (pa_cons (pe_ix ix_tup (pv 0) pe_int (fun _ _=>rfl)) (pa_cons pe_int pa_nil)))))))))),?_⟩
  clear nd D_is_name D_is_from
  rw [show start ["thing"] [.ref q]=[some (.ref q)] from rfl]
  try dsimp only [cx_K,cx_K2]
  have iL_many:FldOk K CL "many" := ⟨T.clL,T.aL_many⟩
  have iL_rows:FldOk K CL "rows" := ⟨T.clL,T.aL_rows⟩
  have iS_stretches:FldOk K CS "stretches" := ⟨T.clS,T.aS_stretches⟩
  have o_hq:=Old.mk (M:=[]) hq nm0
  have F:SH H [] H [] []:=SH.nil
  have e4:(((rowV r).length:Nat):Int)=4:=rfl
  repeat k_meth
  exact k _ F.sm
theorem D_need_row (T:Txt K mg c R CL CS ct_Linit pt_Linit):Def P w K mg base CX0 4 "need_row" ["many", "row", "ahead"] sp_need_row:=by
 have D_is_row:=D_is_row (P:=P) (w:=w) (base:=base) T
 have D_end_of:=D_end_of (P:=P) (w:=w) (base:=base) T
 have D_share:=D_share (P:=P) (w:=w) (base:=base) T
 have D_cells_of:=D_cells_of (P:=P) (w:=w) (base:=base) T
 refine def_of T.d_need_row sc_need_row (fun vs H Q E h=>?_) (fun _ _ _ _ _ _=>el3 fun _ _ _=>rfl) (fun f cdv A outer s H vs Q E hr h=>?_)
 ·obtain ⟨n,q,l,r,ys,rs,rfl,_⟩:=h
  rfl
 ·obtain ⟨n,q,l,r,ys,rs,rfl,hq,hl,tp,gd,ap,k⟩:=h
  have nd:=sc_need_row.nd
  refine ⟨_,(pss_cons (ps_if (pt_not (pt_val (pe_def D_is_row hr (pa_cons (pv 1) pa_nil)))) pss_never pss_nil)
   (pss_cons (ps_if (pt_cmpR op_gt (pe_def D_end_of hr (pa_cons (pe_def D_cells_of hr (pa_cons (pv 1) pa_nil)) pa_nil)) (pv 0) (nomark _)) pss_never pss_nil)
   (pss_cons (ps_for PassesOwn.never rfl (pi_list (pv 2)) (pg_name (i:=3) nd rfl (Or.inl rfl)) (pss_one (ps_if (pt_cmpR op_eq (pe_ix ix_tup (pv 3) pe_int (fun _ _=>rfl)) (pe_ix ix_tup (pv 1) pe_int (fun _ _=>rfl)) (nomark _)) pss_never pss_nil)))
   (pss_one (ps_for PassesOwn.never rfl (pi_list (pv 2)) (pg_name (i:=3) nd rfl (Or.inl rfl)) (pss_one (ps_if (pt_val (pe_def D_share hr (pa_cons (pe_def D_cells_of hr (pa_cons (pv 1) pa_nil)) (pa_cons (pe_def D_cells_of hr (pa_cons (pv 3) pa_nil)) pa_nil)))) pss_never pss_nil))))))),?_⟩
  clear nd D_is_row D_end_of D_share D_cells_of
  rw [show start ["many", "row", "ahead", "other"] [.int (n:Nat),.ref q,.ref l]=[some (.int (n:Nat)),some (.ref q),some (.ref l),none] from rfl]
  try dsimp only [cx_K,cx_K2]
  have iL_many:FldOk K CL "many" := ⟨T.clL,T.aL_many⟩
  have iL_rows:FldOk K CL "rows" := ⟨T.clL,T.aL_rows⟩
  have iS_stretches:FldOk K CS "stretches" := ⟨T.clS,T.aS_stretches⟩
  have o_hq:=Old.mk (M:=[]) hq nm0
  have o_hl:=Old.mk (M:=[]) hl nm0
  have o_tp:=OldP.mk tp
  have F:SH H [] H [] []:=SH.nil
  have ok:NameOk r.nm∧1≤r.sz:=⟨gd.nm,gd.sz⟩
  have le:=gd.le
  repeat k_meth
  refine forL_by (xs:=ys) (fun i σ' H'=>∃o3:Option V,σ'=[some (.int (n:Nat)),some (.ref q),some (.ref l),o3]∧SH H [] H' [] []) ⟨_,rfl,F.subC⟩ ?_ ?_ ?_
  ·clear F
   rintro i σ' H' _ ⟨_,rfl,F⟩
   exact SqA.e
  ·clear F
   rintro i v σ' H' hv ⟨_,rfl,F⟩
   obtain ⟨s,q1,e1,rfl,e2⟩:=rowsV_at tp hv
   have o_e2:=Old.mk (M:=[]) e2 nm0
   have ne:¬ tx s.nm=tx r.nm:=fun z=>(ap s (List.mem_of_getElem? e1)).1 (tx_inj z)
   repeat k_meth
   exact ⟨_,rfl,F⟩
  ·clear F
   rintro σ' H' ⟨_,rfl,F⟩
   repeat k_meth
   refine forL_by (xs:=ys) (fun i σ' H'=>∃o3:Option V,σ'=[some (.int (n:Nat)),some (.ref q),some (.ref l),o3]∧SH H [] H' [] []) ⟨_,rfl,F.subC⟩ ?_ ?_ ?_
   ·clear F
    rintro i σ' H' _ ⟨_,rfl,F⟩
    exact SqA.e
   ·clear F
    rintro i v σ' H' hv ⟨_,rfl,F⟩
    obtain ⟨s,q1,e1,rfl,e2⟩:=rowsV_at tp hv
    have o_e2:=Old.mk (M:=[]) e2 nm0
    have ne:=(ap s (List.mem_of_getElem? e1)).2
    repeat k_meth
    have e5:(decide (((r.st:Nat):Int) < ((s.st:Nat):Int) + ((s.sz:Nat):Int)) && decide (((s.st:Nat):Int) < ((r.st:Nat):Int) + ((r.sz:Nat):Int)))=false:=by
     rcases ne with ne | ne
     ·rw [decide_eq_false (by lia),Bool.false_and]
     ·rw [decide_eq_false (show ¬ ((s.st:Nat):Int) < ((r.st:Nat):Int) + ((r.sz:Nat):Int) by lia),Bool.and_false]
    rw [e5]
    repeat k_meth
    exact ⟨_,rfl,F.subC⟩
   ·clear F
    rintro σ' H' ⟨_,rfl,F⟩
    repeat k_meth
    exact k _ F.sm
theorem D_need_rows (T:Txt K mg c R CL CS ct_Linit pt_Linit):Def P w K mg base CX0 5 "need_rows" ["many", "rows"] sp_need_rows:=by
 have D_need_row:=D_need_row (P:=P) (w:=w) (base:=base) T
 refine def_of T.d_need_rows sc_need_rows (fun vs H Q E h=>?_) (fun _ _ _ _ _ _=>el2 fun _ _=>rfl) (fun f cdv A outer s H vs Q E hr h=>?_)
 ·obtain ⟨n,l,ys,rs,rfl,_⟩:=h
  rfl
 ·obtain ⟨n,l,ys,rs,rfl,hl,tp,ly,k⟩:=h
  have nd:=sc_need_rows.nd
  refine ⟨_,(pss_cons (ps_if (pt_not (pt_val (pe_callB call_isT rfl T.n_isinstance boot_isinstance (pa_cons (pv 1) (pa_cons (pe_ty (T := "list") rfl T.n_list boot_list) pa_nil))))) pss_never pss_nil)
   (pss_cons (ps_if (pt_cmpR op_gt (pe_callB call_lenN rfl T.n_len boot_len (pa_cons (pv 1) pa_nil)) (pe_gl T.g_MOST_BLOCKS) (nomark _)) pss_never pss_nil)
   (pss_one (ps_for PassesOwn.never rfl (pi_range1 rfl T.n_range (pa_cons (pe_callB call_lenN rfl T.n_len boot_len (pa_cons (pv 1) pa_nil)) pa_nil)) (pg_name (i:=2) nd rfl (Or.inl rfl)) (pss_one (ps_expr (pe_def D_need_row hr (pa_cons (pv 0) (pa_cons (pe_ix ix_list (pv 1) (pv 2) (fun _ _=>rfl)) (pa_cons (pe_slice sl_listA (pv 1) po_none (po_some (pv 2))) pa_nil)))))))))),?_⟩
  clear nd D_need_row
  rw [show start ["many", "rows", "at"] [.int (n:Nat),.ref l]=[some (.int (n:Nat)),some (.ref l),none] from rfl]
  try dsimp only [cx_K,cx_K2]
  have iL_many:FldOk K CL "many" := ⟨T.clL,T.aL_many⟩
  have iL_rows:FldOk K CL "rows" := ⟨T.clL,T.aL_rows⟩
  have iS_stretches:FldOk K CS "stretches" := ⟨T.clS,T.aS_stretches⟩
  have o_hl:=Old.mk (M:=[]) hl nm0
  have o_tp:=OldP.mk tp
  have F:SH H [] H [] []:=SH.nil
  have few:=ly.few
  have yl:ys.length=rs.length:=by rw [tp.1,rowsV_len]
  repeat k_meth
  rw [show ((ys.length:Nat):Int).toNat=ys.length by lia]
  refine forR0_by (fun i σ' H'=>∃o2:Option V,σ'=[some (.int (n:Nat)),some (.ref l),o2]∧SH H [] H' [] []) ⟨_,rfl,F⟩ ?_ ?_
  ·clear F
   rintro i σ' H' hi ⟨_,rfl,F⟩
   obtain ⟨s,q1,e1,e0,e2⟩:=rowsV_at tp (i:=i) (v:=ys[i]) (by simp)
   have o_e2:=Old.mk (M:=[]) e2 nm0
   have a1:AtI ys (i:Int) (.ref q1):=⟨atI_nat (by rw [← e0];simp)⟩
   have gd:=ly.good s (List.mem_of_getElem? e1)
   have ap:∀t∈rs.take i,Apart t s:=fun t ht=>by
    have h1:=ly.ap
    obtain ⟨hi2,rfl⟩:=List.getElem?_eq_some_iff.mp e1
    obtain ⟨j,hj,rfl⟩:=List.getElem_of_mem ht
    rw [List.length_take] at hj
    rw [List.getElem_take]
    exact List.pairwise_iff_getElem.mp h1 j i (by lia) hi2 (by lia)
   have side:=And.intro gd ap
   repeat k_meth
   rw [cut_take] at F
   have tp2:TpA H_ (ys.take i) (rowsV (rs.take i)):=⟨(rows_take tp).same F.sm⟩
   repeat k_meth
   exact ⟨_,rfl,F.subC⟩
  ·clear F
   rintro σ' H' ⟨_,rfl,F⟩
   repeat k_meth
   exact k _ F.sm
end
end K77
namespace K77
open PySem L2 PyProof.Rows
local macro_rules | `(tactic| k_room)=>`(tactic| first
 | with_reducible assumption
 | with_unfolding_all exact rfl
 | with_unfolding_all exact Nat.le_of_ble_eq_true rfl
 | lia
 | (with_reducible refine small_line ?_;first | lia | (simp only [List.length_cons,List.length_nil,List.length_map,List.length_append,List.length_replicate,rowsN_len,List.length_take,List.length_drop,List.length_set];lia))
 | (with_reducible refine small_lt ?_;first | lia | (simp only [List.length_cons,List.length_nil,List.length_map,List.length_append,List.length_replicate,rowsN_len,List.length_take,List.length_drop,List.length_set];lia))
 | (simp only [List.length_cons,List.length_nil,List.length_map,List.length_append,List.length_replicate,rowsN_len,List.length_take,List.length_drop,List.length_set];lia)
 | decide)
local macro_rules | `(tactic| k_mem)=>`(tactic| first
 | with_reducible assumption
 | decide
 | lia
 | (simp only [List.length_cons,List.length_nil,List.length_map,List.length_append,List.length_replicate,rowsN_len,List.length_take,List.length_drop,List.length_set];lia))
set_option hygiene false in
local macro_rules | `(tactic| k_meth)=>`(tactic| first
 | with_reducible refine go1 ?_
 | (clear F;intro H_ a_ dx_ (F:SH _ _ _ _ _) (ex_:ExcT _ _ _ _);have exA_:=ExA.mk ex_)
 | (clear F;intro H_ (F:SH _ _ _ _ _))
 | (clear F;intro H_ p_ (F:SH _ _ _ _ _))
 | (clear F;intro H_ x_ dx_ (F:SH _ _ _ _ _))
 | (clear F;intro H_ p_ ys_ l_ (F:SH _ _ _ _ _))
 | with_reducible refine sd (by k_room) ?_
 | (intro (r_:Int) (x_:Int) (y_:Int) (z_:Int) lo_ hi_)
 | (intro (x_:Int) (y_:Int))
 | (intro (c_:Int))
 | with_reducible refine i_pos (by k_mem) ?_
 | with_reducible refine i_neg (by k_mem) ?_
 | with_reducible refine i_npos (by k_mem) ?_
 | with_reducible refine i_nneg (by k_mem) ?_)
def lF (n:Int) (p:Addr):List (Str×V):=putF "rows" (.ref p) (putF "many" (.int n) [])
theorem lF_many {n:Int} {p:Addr}:(lF n p).lookup ("many" : Str)=some (.int n):=by unfold lF;rw [lookup_putF,if_neg (by decide),lookup_putF,if_pos rfl]
theorem lF_rows {n:Int} {p:Addr}:(lF n p).lookup ("rows" : Str)=some (.ref p):=by unfold lF;rw [lookup_putF,if_pos rfl]
theorem lF_none {n:Int} {p:Addr} {m:Str} (h1:m ≠ "rows") (h2:m ≠ "many"):(lF n p).lookup m=none:=by unfold lF;rw [lookup_putF,if_neg h1,lookup_putF,if_neg h2];rfl
class LayA (n:Nat) (rs:List Rw) (as:outParam (List Rw)):Prop where
 p:rs.Perm as
 l:Lay n as
 a:Asc as
def sp_Linit (CL P:Addr) (pos:Pos) (qual:Str):Sp:=fun vs H Q _=>∃(x dx l:Addr) (n:Nat) (ys:List V) (rs as:List Rw) (ps:Array Value),vs=[.ref x,.int (n:Nat),.ref l]∧H x=some (.ins CL dx [])∧H l=some (.lst ys)∧TupsAt H ys (rowsV rs)∧LayA n rs as∧16≤n∧n≤240∧H P=some (.tbl ps)∧TabOk pos qual ps H ∧
 ∀(p:Addr) (zs:List V) (ps':Array Value) (H':Hp),(∀b u,b≠x→b≠P→H b=some u→H' b=some u)→H' x=some (.ins CL dx (lF n p))→H' p=some (.lst zs)→TupsAt H' zs (rowsV as)→(∀b u,H b=some u→b≠p)→H' P=some (.tbl ps')→TabOk pos qual ps' H'→Q .non H'
def sp_Lblocks (CL:Addr):Sp:=fun vs H Q _=>∃(x p dx:Addr) (n:Nat) (zs:List V),vs=[.ref x]∧H x=some (.ins CL dx (lF (n:Nat) p))∧H p=some (.lst zs)∧∀q H',New H H' q (.lst zs)→Q (.ref q) H'
section
variable {CL P x dx l p:Addr} {pos:Pos} {qual:Str} {H H0:Hp} {M:List Addr} {L:List (Addr×HO)} {I:List Im} {Q:VK} {E:XK} {n:Nat} {m:Int} {ys zs:List V} {rs as:List Rw} {ps:Array Value}
instance ll_many:FLk (lF m p) "many" (.int m):=⟨lF_many⟩
instance ll_rows:FLk (lF m p) "rows" (.ref p):=⟨lF_rows⟩
instance ln_blocks:FNo (lF m p) "blocks" := ⟨lF_none (by decide) (by decide)⟩
instance ln_block:FNo (lF m p) "block" := ⟨lF_none (by decide) (by decide)⟩
instance go_Lblocks [h:Hat H x (.ins CL dx (lF (n:Nat) p))] [h2:Hat H p (.lst zs)]:Go (sp_Lblocks CL [.ref x] H Q E) (∀q H',New H H' q (.lst zs)→Q (.ref q) H'):=⟨fun k=>⟨x,p,dx,n,zs,rfl,h.e,h2.e,k⟩⟩
instance go_Linit [h:Hat H x (.ins CL dx [])] [h2:Hat H l (.lst ys)] [t:TpA H ys (rowsV rs)] [e:Hat H P (.tbl ps)] [F:SH H0 M H L I] [tb:TabA I pos qual ps] [la:LayA n rs as]:Go (sp_Linit CL P pos qual [.ref x,.int (n:Nat),.ref l] H Q E)
  (Sd (16≤n∧n≤240) (∀(ps':Array Value) (H1:Hp),Kp P H H1→H1 P=some (.tbl ps')→TabOk pos qual ps' H1→∀(p:Addr) (zs:List V) (H2:Hp),New H1 H2 p (.lst zs)→TupsAt H2 zs (rowsV as)→∀H3,Off x H2 H3→H3 x=some (.ins CL dx (lF n p))→Q .non H3)):=by
 refine ⟨fun s=>⟨x,dx,l,n,ys,rs,as,ps,rfl,h.e,h2.e,t.e,la,s.1.1,s.1.2,e.e,F.im _ tb.m,fun p zs ps' H' keep ex ep tz fr eP tk=>?_⟩⟩
 have hx:=h.e
 have hP:=e.e
 have nxp:x≠p:=fr x _ hx
 have nPp:P≠p:=fr P _ hP
 have nPx:P≠x:=fun z=>by rw [z,hx] at hP;cases hP
 let H2:Hp:=fun b=>if b=x then H x else H' b
 let H1:Hp:=fun b=>if b=p then none else H2 b
 have h2x:H2 x=H x:=if_pos rfl
 have h2n:∀{b:Addr},b≠x→H2 b=H' b:=fun n=>if_neg n
 have h1n:∀{b:Addr},b≠p→H1 b=H2 b:=fun n=>if_neg n
 refine s.2 ps' H1 (fun b u nb eb=>?_) ?_ ?_ p zs H2 ⟨fun b u eb=>?_,?_,fun b u eb z=>?_⟩ ?_ H' (fun b nb=>(h2n nb).symm) ex
 ·have n1:b≠p:=fr b u eb
  rw [h1n n1]
  by_cases hb:b=x
  ·rw [hb,h2x,← hb]
   exact eb
  ·rw [h2n hb]
   exact keep b u hb nb eb
 ·rw [h1n nPp,h2n nPx]
  exact eP
 ·rcases tk with tk | ⟨c',oc,vs,t',e1,e2,e3⟩
  ·exact .inl tk
  ·refine .inr ⟨c',oc,vs,t',e1,?_,e3⟩
   have n1:c'≠p:=fun z=>by rw [z,ep] at e2;cases e2
   have n2:c'≠x:=fun z=>by rw [z,ex] at e2;cases e2
   rw [h1n n1,h2n n2]
   exact e2
 ·by_cases hb:b=p
  ·have:H1 b=none:=if_pos hb
   rw [this] at eb
   cases eb
  ·rw [h1n hb] at eb
   exact eb
 ·rw [h2n (Ne.symm nxp)]
  exact ep
 ·have:H1 b=none:=if_pos z
  rw [this] at eb
  cases eb
 ·refine ⟨tz.1,fun j r ej=>?_⟩
  obtain ⟨q,e1,e2⟩:=tz.2 j r ej
  refine ⟨q,e1,?_⟩
  rw [h2n (fun z=>by rw [z,ex] at e2;cases e2)]
  exact e2
end
abbrev lamPos:Pos:=⟨139,37,139,55⟩
abbrev lamQual:Str := "Layout.__init__.<locals>.<lambda>"
section
variable {P:Program} {w:World} {K:W.Frag} {mg:Str→Option Value} {base:Heap} {c:Nat→Addr} {ct_Linit pt_Linit R CL CS:Addr}
theorem MK_Linit (T:Txt K mg c R CL CS ct_Linit pt_Linit) (B:Bm mg base):Mak P w K mg base CX0 6 "Layout" CL ["self", "many", "rows"] (sp_Linit CL pt_Linit lamPos lamQual):=by
 have D_need_rows:=D_need_rows (P:=P) (w:=w) (base:=base) T
 have D_is_many:=D_is_many (P:=P) (w:=w) (base:=base) T
 obtain ⟨f,hf,hm⟩:=T.f_Linit
 refine (fn_tellsC (k:=5) hf sc_Linit (fun vs H Q E h=>?_) (fun _ _ _ _ _ _=>el3 fun _ _ _=>rfl) (fun f A outer s H vs Q E hr h=>?_)).mak hm T.gc_Layout
 ·obtain ⟨x,dx,l,n,ys,rs,as,ps,rfl,_⟩:=h
  rfl
 ·obtain ⟨x,dx,l,n,ys,rs,as,ps,rfl,hx,hl,tp,la,h16,h240,hP,tk,k⟩:=h
  have nd:=sc_Linit.nd
  refine ⟨_,(pss_cons (ps_if (pt_not (pt_val (pe_def D_is_many hr (pa_cons (pv 1) pa_nil)))) pss_never pss_nil)
   (pss_cons (ps_expr (pe_def D_need_rows hr (pa_cons (pv 1) (pa_cons (pv 2) pa_nil))))
   (pss_cons (ps_fld (pv 0) (pv 1) rfl)
   (pss_one (ps_fld (pv 0) (pe_ckw (call_sortK rfl hr) rfl T.n_sorted boot_sorted (pa_cons (pv 2) pa_nil) (pe_lam (qual:=lamQual) B rfl T.tab_Linit (by with_unfolding_all rfl) ⟨rfl,rfl,rfl,by with_unfolding_all rfl,by decide +kernel,by decide⟩)) rfl))))),?_⟩
  clear nd D_need_rows D_is_many
  rw [show start ["self", "many", "rows"] [.ref x,.int (n:Nat),.ref l]=[some (.ref x),some (.int (n:Nat)),some (.ref l)] from rfl]
  try dsimp only [cx_K,cx_K2]
  have iL_many:FldOk K CL "many" := ⟨T.clL,T.aL_many⟩
  have iL_rows:FldOk K CL "rows" := ⟨T.clL,T.aL_rows⟩
  have iS_stretches:FldOk K CS "stretches" := ⟨T.clS,T.aS_stretches⟩
  have nxP:x≠pt_Linit:=fun z=>by rw [z,hP] at hx;cases hx
  have nlx:l≠x:=fun z=>by rw [z,hx] at hl;cases hl
  have nlP:l≠pt_Linit:=fun z=>by rw [z,hP] at hl;cases hl
  have nm2:∀{b:Addr},b≠x→b≠pt_Linit→b ∉ [x,pt_Linit]:=fun a b z=>by
   rcases List.mem_cons.mp z with z | z
   ·exact a z
   ·exact b (List.mem_singleton.mp z)
  have F:SH H [x,pt_Linit] H [(x,.ins CL dx []),(pt_Linit,.tbl ps)] [.tps ys (rowsV rs),TabI lamPos lamQual ps]:=(((SH.nil.addM (List.mem_cons_of_mem _ List.mem_cons_self) hP rfl (by simp)).addM List.mem_cons_self hx rfl (by simp [Ne.symm nxP])).addF tk).addP tp
  have o_hl:=Old.mk (M:=[x,pt_Linit]) hl (nm2 nlx nlP)
  have ly:=la.l.perm la.p.symm
  have few:=ly.few
  have e1:(decide (16≤(n:Int)) && decide ((n:Int)≤240))=true:=by rw [decide_eq_true (by lia),decide_eq_true (by lia)];rfl
  repeat k_meth
  rw [e1]
  repeat k_meth
  intro f_ ps_
  repeat k_meth
  intro D zs H8 n8 so
  have t8:=sort_rows (H:=H_) TpA.e la.p (la.a.lt la.l.good) so
  replace F:=F.newR n8 (t8.same n8.s)
  repeat k_meth
  exact k D zs ps_ _ (fun b u n1 n2 e=>F.fr b u (nm2 n1 n2) e) hatC hatC TpA.e (F.fresh (LkL.m (o:=.lst zs)) (nm2 (SH.neC (F:=F)) (SH.neC (F:=F)))) hatC SH.tab
theorem MT_Lblocks (T:Txt K mg c R CL CS ct_Linit pt_Linit):Met P w K mg base CX0 1 CL "blocks" ["self"] (sp_Lblocks CL):=by
 obtain ⟨f,hf,hm⟩:=T.f_Lblocks
 refine (fn_tells (k:=0) hf sc_Lblocks (fun vs H Q E h=>?_) (fun _ _ _ _ _ _=>el1 fun _=>rfl) (fun f cdv A outer s H vs Q E hr h=>?_)).met hm
 ·obtain ⟨x,p,dx,n,zs,rfl,_⟩:=h
  rfl
 ·obtain ⟨x,p,dx,n,zs,rfl,hx,hp,k⟩:=h
  have nd:=sc_Lblocks.nd
  refine ⟨_,(pss_one (ps_ret (pe_callTy call_list_ofA rfl T.n_list boot_list (pa_cons (pe_fld (pv 0) rfl) pa_nil)))),?_⟩
  clear nd 
  rw [show start ["self"] [.ref x]=[some (.ref x)] from rfl]
  try dsimp only [cx_K,cx_K2]
  have iL_many:FldOk K CL "many" := ⟨T.clL,T.aL_many⟩
  have iL_rows:FldOk K CL "rows" := ⟨T.clL,T.aL_rows⟩
  have iS_stretches:FldOk K CS "stretches" := ⟨T.clS,T.aS_stretches⟩
  have o_hx:=Old.mk (M:=[]) hx nm0
  have o_hp:=Old.mk (M:=[]) hp nm0
  have F:SH H [] H [] []:=SH.nil
  repeat k_meth
  exact k _ _ SH.nwC
end
abbrev NoB (cs:List Nat):Prop:=cs[1]?≠some 111
theorem nob_ne {cs:List Nat} (h:NoB cs):¬ tx cs = "nobody" := fun z=>by
 have z2:tx cs=tx [110,111,98,111,100,121]:=z.trans (by decide +kernel)
 have:=tx_inj z2
 subst this
 exact h rfl
def sp_names:Sp:=fun vs H Q _=>∃(bx:Addr) (x y z:Int) (m:Nat),vs=[.ref bx,.int (m:Nat)]∧H bx=some (.lst [.int x,.int y,.int z])∧m≤40∧∀(x' y' z':Int) (nms:List (List Nat)) (p:Addr) (H':Hp),nms.length=m→(∀cs∈nms,NameOk cs∧NoB cs)→nms.Nodup→Kp bx H H'→H' bx=some (.lst [.int x',.int y',.int z'])→H' p=some (.lst (nms.map fun cs=>.str (tx cs)))→(∀b u,H b=some u→b≠p)→Q (.ref p) H'
def sp_lrows:Sp:=fun vs H Q _=>∃(bx:Addr) (x y z:Int) (n:Nat),vs=[.ref bx,.int (n:Nat)]∧H bx=some (.lst [.int x,.int y,.int z])∧16≤n∧n≤240∧∀(x' y' z':Int) (rs:List Rw) (p:Addr) (ys:List V) (H':Hp),Lay n rs→Asc rs→(∀r∈rs,NoB r.nm)→Kp bx H H'→H' bx=some (.lst [.int x',.int y',.int z'])→H' p=some (.lst ys)→TupsAt H' ys (rowsV rs)→(∀b u,H b=some u→b≠p)→Q (.ref p) H'
theorem two_steps {H H':Hp} {bx p:Addr} {b3 o:HO} {R:Hp→Prop} (hb:∃u,H bx=some u) (kp:Kp bx H H') (eb:H' bx=some b3) (ep:H' p=some o) (fr:∀b u,H b=some u→b≠p) (k:∀H1,Kp bx H H1→H1 bx=some b3→New H1 H' p o→R H'):R H':=by
 obtain ⟨u0,hb⟩:=hb
 have nb:bx≠p:=fr bx _ hb
 have h1:∀{b:Addr},b≠p→(fun b=>if b=p then none else H' b:Hp) b=H' b:=fun n=>if_neg n
 refine k (fun b=>if b=p then none else H' b) (fun b u n e=>?_) ?_ ⟨fun b u e=>?_,ep,fun b u e z=>?_⟩
 ·rw [h1 (fr b u e)]
  exact kp b u n e
 ·exact (h1 nb).trans eb
 ·have e:(if b=p then none else H' b)=some u:=e
  split at e
  ·cases e
  ·exact e
 ·have e:(if b=p then none else H' b)=some u:=e
  rw [if_pos z] at e
  cases e
section
variable {bx l:Addr} {x y z:Int} {H:Hp} {Q:VK} {E:XK} {n m:Nat} {ys:List V} {rs:List Rw}
instance go_names [h:Hat H bx (.lst [.int x,.int y,.int z])]:Go (sp_names [.ref bx,.int (m:Nat)] H Q E) (Sd (m≤40) (∀(x' y' z':Int) (nms:List (List Nat)),nms.length=m→(∀cs∈nms,NameOk cs∧NoB cs)→nms.Nodup→∀H1,Kp bx H H1→H1 bx=some (.lst [.int x',.int y',.int z'])→∀p H2,New H1 H2 p (.lst (nms.map fun cs=>.str (tx cs)))→Q (.ref p) H2)) :=
 ⟨fun s=>⟨bx,x,y,z,m,rfl,h.e,s.1,fun x' y' z' nms p H' h1 h2 h3 f e e2 fr=>two_steps (R:=fun H'=>Q (.ref p) H') ⟨_,h.e⟩ f e e2 fr fun H1 f1 e1 n1=>s.2 x' y' z' nms h1 h2 h3 H1 f1 e1 p H' n1⟩⟩
instance go_lrows [h:Hat H bx (.lst [.int x,.int y,.int z])]:Go (sp_lrows [.ref bx,.int (n:Nat)] H Q E) (Sd (16≤n∧n≤240) (∀(x' y' z':Int) (rs:List Rw),Lay n rs→Asc rs→(∀r∈rs,NoB r.nm)→∀H1,Kp bx H H1→H1 bx=some (.lst [.int x',.int y',.int z'])→∀p ys H2,New H1 H2 p (.lst ys)→TupsAt H2 ys (rowsV rs)→Q (.ref p) H2)) :=
 ⟨fun s=>⟨bx,x,y,z,n,rfl,h.e,s.1.1,s.1.2,fun x' y' z' rs p ys H' h1 h2 h3 f e e2 t fr=>two_steps (R:=fun H'=>Q (.ref p) H') ⟨_,h.e⟩ f e e2 fr fun H1 f1 e1 n1=>s.2 x' y' z' rs h1 h2 h3 H1 f1 e1 p ys H' n1 t⟩⟩
end
def letter (s:Nat):Nat:=97 + s % 26
theorem letter_at {s:Int} {c:Nat} (h0:0≤s) (h:(List.range' 97 26)[(s % 26).toNat]?=some c):c=letter s.toNat:=by
 have h1:(s % 26).toNat < 26:=by lia
 rw [List.getElem?_eq_getElem (by simpa using h1),List.getElem_range'] at h
 have:=Option.some.inj h
 unfold letter
 lia
theorem letter_low (s:Nat):isLow (letter s)=true:=by
 unfold isLow letter
 rw [decide_eq_true (by lia),decide_eq_true (by lia)]
 rfl
def nameA (s:Nat) (tl:List Nat) (k:Nat):List Nat:=[letter (s + k / 8)]++tl.take (k % 8)
theorem nodup_of {nms:List (List Nat)} (h:∀(i j:Nat) a b,i < j→nms[i]?=some a→nms[j]?=some b→a≠b):nms.Nodup:=by
 rw [List.Nodup,List.pairwise_iff_getElem]
 intro i j hi hj hij
 exact h i j _ _ hij (by simp) (by simp)
theorem join_one:∀cs:List Nat,Str.join (Str.ofString "") (cs.map fun c=>tx [c])=tx cs:=by
 have e0:Str.ofString "" = tx []:=by decide +kernel
 rw [e0]
 intro cs
 induction cs with
 | nil=>rfl
 | cons c t ih =>
  cases t with
  | nil=>rfl
  | cons d u =>
   show tx [c]++tx []++Str.join (tx []) ((d::u).map fun c=>tx [c])=_
   rw [ih,append_tx,append_tx]
   rfl
instance go_join {K:W.Frag} {H:Hp} {Q:VK} {p:Addr} {cs:List Nat} [h:SqA K H p (cs.map fun c=>V.str (tx [c]))]:Go (rJoin K (.str (Str.ofString "")) [.ref p] H Q) (Sd (cs.length≤1000) (Q (.str (tx cs)) H)):=⟨fun s=>⟨_,p,cs.map fun c=>tx [c],rfl,rfl,by rw [List.map_map];exact h.e,by decide,by
 rw [List.map_map,List.length_map]
 have:(cs.map ((fun t:Str=>t.length) ∘ fun c=>tx [c]))=cs.map fun _=>1:=rfl
 rw [this,List.map_const']
 have hs:(List.replicate cs.length 1).sum=cs.length:=by simp
 have:=s.1
 lia,by rw [join_one];exact s.2⟩⟩
instance go_tyS {K:W.Frag} {H:Hp} {z:Str} {R:Prop}:Go (tyV K "str" (.str z) H∧R) R:=⟨fun k=>⟨by first | exact .inr (.inr rfl) | exact .inr rfl | exact ⟨_,rfl⟩ | trivial,k⟩⟩
structure TailOk7 (tl:List Nat):Prop where
 len:tl.length=7
 hd:∀c,tl[0]?=some c→c∈[97,98,122]
 all:∀c∈tl,c∈[97,98,122,48,49,57,113]
theorem TailOk7.sgn {tl:List Nat} (h:TailOk7 tl):∀c∈tl,(isLow c || isFig c)=true:=fun c hc=>by
 have:=h.all c hc
 simp only [List.mem_cons,List.not_mem_nil,or_false] at this
 rcases this with rfl | rfl | rfl | rfl | rfl | rfl | rfl <;> rfl
def nameC (s:Nat) (tl:List Nat) (k r:Nat):List Nat:=([letter (s + 5 * k)]++List.replicate (k / 26) 48)++tl.take r
theorem nameA_ok7 {s k:Nat} {tl:List Nat} (h:TailOk7 tl):NameOk (nameA s tl k):=by
 refine ⟨?_,?_,fun c hc=>?_,fun c hc=>?_⟩
 ·simp [nameA]
 ·simp only [nameA,List.length_append,List.length_singleton,List.length_take]
  lia
 ·have:some (letter (s + k / 8))=some c:=hc
  cases this
  exact letter_low _
 ·rcases List.mem_append.mp hc with hc | hc
  ·rw [List.mem_singleton.mp hc,letter_low]
   rfl
  ·exact h.sgn c (List.mem_of_mem_take hc)
theorem nameC_ok {s k r:Nat} {tl:List Nat} (h:TailOk7 tl) (hr:r < 7) (hk:k < 52):NameOk (nameC s tl k r):=by
 refine ⟨?_,?_,fun c hc=>?_,fun c hc=>?_⟩
 ·simp [nameC]
 ·simp only [nameC,List.length_append,List.length_singleton,List.length_take,List.length_replicate]
  lia
 ·have:some (letter (s + 5 * k))=some c:=hc
  cases this
  exact letter_low _
 ·rcases List.mem_append.mp hc with hc | hc
  ·rcases List.mem_append.mp hc with hc | hc
   ·rw [List.mem_singleton.mp hc,letter_low]
    rfl
   ·rw [(List.mem_replicate.mp hc).2]
    rfl
  ·exact h.sgn c (List.mem_of_mem_take hc)
theorem nameA_inj7 {s:Nat} {tl:List Nat} (h:tl.length=7) {i j:Nat} (hi:i < 40) (hj:j < 40) (e:nameA s tl i=nameA s tl j):i=j:=by
 have e1:=congrArg List.length e
 simp only [nameA,List.length_append,List.length_singleton,List.length_take,h] at e1
 have e2:letter (s + i / 8)=letter (s + j / 8):=by
  have:=congrArg (fun l:List Nat=>l[0]?) e
  exact Option.some.inj this
 unfold letter at e2
 lia
theorem nameC_inj {s:Nat} {tl:List Nat} (h:TailOk7 tl) {i j r t:Nat} (hi:i < 40) (hj:j < 40) (hij:i < j) (e:nameC s tl i r=nameC s tl j t):False:=by
 have e2:letter (s + 5 * i)=letter (s + 5 * j):=by
  have:=congrArg (fun l:List Nat=>l[0]?) e
  exact Option.some.inj this
 unfold letter at e2
 have e3:j=i + 26:=by lia
 have e4:i / 26=0:=by lia
 have e5:j / 26=1:=by lia
 have e6:tl.take r=[48]++tl.take t:=by
  unfold nameC at e
  rw [e4,e5] at e
  simp only [List.replicate,List.append_nil,List.cons_append,List.nil_append,List.cons.injEq] at e
  exact e.2
 cases tl with
 | nil=>have:=h.len;simp at this
 | cons c u =>
  cases r with
  | zero=>simp at e6
  | succ r =>
   have e7:c=48:=by
    have:=congrArg (fun l:List Nat=>l[0]?) e6
    simpa using this
   have:=h.hd c rfl
   rw [e7] at this
   simp at this
theorem nob_tl {tl:List Nat} (h:TailOk7 tl) {r:Nat}:(tl.take r)[0]?≠some 111:=fun z=>by
 have hm:=h.all 111 (List.mem_of_mem_take (List.mem_of_getElem? z))
 simp at hm
theorem nob_A {s k:Nat} {tl:List Nat} (h:TailOk7 tl):NoB (nameA s tl k):=fun z=>nob_tl h (r:=k % 8) (by simpa [nameA] using z)
theorem nob_C {s k r:Nat} {tl:List Nat} (h:TailOk7 tl):NoB (nameC s tl k r):=fun z=>by
 unfold nameC at z
 cases hk:k / 26 with
 | zero=>rw [hk] at z;exact nob_tl h (r:=r) (by simpa using z)
 | succ j=>rw [hk] at z;simp [List.replicate_succ] at z
section
variable {P:Program} {w:World} {K:W.Frag} {mg:Str→Option Value} {base:Heap} {c:Nat→Addr} {ct_Linit pt_Linit R CL CS:Addr}
theorem D_names (T:Txt K mg c R CL CS ct_Linit pt_Linit):Def P w K mg base CX0 2 "_law_names" ["_law_box_here", "_law_many_here"] sp_names:=by
 have D_take:=D_take (P:=P) (w:=w) (base:=base) T
 refine def_of T.d_names sc_names (fun vs H Q E h=>?_) (fun _ _ _ _ _ _=>el2 fun _ _=>rfl) (fun f cdv A outer s H vs Q E hr h=>?_)
 ·obtain ⟨bx,x,y,z,m,rfl,_⟩:=h
  rfl
 ·obtain ⟨bx,x,y,z,m,rfl,hbx,h40,k⟩:=h
  have nd:=sc_names.nd
  refine ⟨_,(pss_cons (ps_set (i:=2) nd rfl (Or.inr rfl) pe_str)
   (pss_cons (ps_set (i:=3) nd rfl (Or.inr rfl) (pe_op op_addS (pe_ix ix_str pe_str (pe_def D_take hr (pa_cons (pv 0) (pa_cons pe_int pa_nil))) (fun _ _=>rfl)) (pe_join pe_str (pe_comp (N:=["_law_k", "_law_box_here"]) (nt:=1) (fr:=[0]) (pi_range1 rfl T.n_range (pa_cons pe_int pa_nil)) (fun _ _ _ _=>(pg_name (i:=0) (show (["_law_k", "_law_box_here"]:List Str).Nodup from by decide +kernel) rfl (Or.inl rfl))) (fun _ _ _ _=>pif_nil) (fun _ _ _ _=>(pe_ix ix_str pe_str (pe_def D_take hr (pa_cons (pv 1) (pa_cons pe_int pa_nil))) (fun _ _=>rfl)))))))
   (pss_cons (ps_set (i:=4) nd rfl (Or.inr rfl) (pe_def D_take hr (pa_cons (pv 0) (pa_cons pe_int pa_nil))))
   (pss_cons (ps_if (pt_cmpR op_eq (pe_def D_take hr (pa_cons (pv 0) (pa_cons pe_int pa_nil))) pe_int (nomark _)) (pss_one (ps_ret (pe_comp (N:=["_law_k", "_law_letters", "_law_tail", "_law_first"]) (nt:=1) (fr:=[2,3,4]) (pi_range1 rfl T.n_range (pa_cons (pv 1) pa_nil)) (fun _ _ _ _=>(pg_name (i:=0) (show (["_law_k", "_law_letters", "_law_tail", "_law_first"]:List Str).Nodup from by decide +kernel) rfl (Or.inl rfl))) (fun _ _ _ _=>pif_nil) (fun _ _ _ _=>(pe_op op_addS (pe_ix ix_str (pv 1) (pe_op op_mod (pe_op op_add (pv 3) (pe_op op_fdiv (pv 0) pe_int)) pe_int) (fun _ _=>rfl)) (pe_slS (pv 2) (pe_op op_mod (pv 0) pe_int))))))) pss_nil)
   (pss_cons (ps_set (i:=5) nd rfl (Or.inl rfl) (pe_lstA pa_nil))
   (pss_cons (ps_for PassesOwn.never rfl (pi_range1 rfl T.n_range (pa_cons (pv 1) pa_nil)) (pg_name (i:=6) nd rfl (Or.inl rfl)) (pss_cons (ps_set (i:=7) nd rfl (Or.inl rfl) (pe_op op_addS (pe_ix ix_str (pv 2) (pe_op op_mod (pe_op op_add (pv 4) (pe_op op_mul pe_int (pv 6))) pe_int) (fun _ _=>rfl)) (pe_op op_mulS pe_str (pe_op op_fdiv (pv 6) pe_int))))
    (pss_one (ps_expr (pe_appendA (pv 5) (pe_op op_addS (pv 7) (pe_slS (pv 3) (pe_def D_take hr (pa_cons (pv 0) (pa_cons pe_int pa_nil))))))))))
   (pss_one (ps_ret (pv 5))))))))),?_⟩
  clear nd D_take
  rw [show start ["_law_box_here", "_law_many_here", "_law_letters", "_law_tail", "_law_first", "_law_names_here", "_law_k", "_law_name"] [.ref bx,.int (m:Nat)]=[some (.ref bx),some (.int (m:Nat)),none,none,none,none,none,none] from rfl]
  try dsimp only [cx_K,cx_K2]
  have iL_many:FldOk K CL "many" := ⟨T.clL,T.aL_many⟩
  have iL_rows:FldOk K CL "rows" := ⟨T.clL,T.aL_rows⟩
  have iS_stretches:FldOk K CS "stretches" := ⟨T.clS,T.aS_stretches⟩
  have F:SH H [bx] H [(bx,.lst [.int x,.int y,.int z])] []:=SH.nil.addM List.mem_cons_self hbx rfl (by simp)
  rw [show Str.ofString "abcdefghijklmnopqrstuvwxyz" = tx (List.range' 97 26) by decide +kernel,show Str.ofString "abz" = tx [97,98,122] by decide +kernel,show Str.ofString "abz019q" = tx [97,98,122,48,49,57,113] by decide +kernel,show Str.ofString "0" = tx [48] by decide +kernel]
  repeat k_meth
  intro c0 hc0
  have hc0:=List.mem_of_getElem? hc0
  repeat k_meth
  have e26:(List.range' 97 26).length=26:=by simp
  refine go_compR (n:=6) (fvs:=[some (.ref bx)]) (fun acc i ys H'=>∃(cs:List Nat) (x y z:Int),cs.length=i∧(∀c∈cs,c∈[97,98,122,48,49,57,113])∧ys=cs.map (fun c=>V.str (tx [c]))∧SH H [bx] H' [(acc,.lst ys),(bx,.lst [.int x,.int y,.int z])] []) (rda_cons rd_c rda_nil) (by decide) rfl (fun acc H' n=>⟨[],x_,y_,z_,rfl,by simp,rfl,F.newL n⟩) ?_ ?_ ?_
  ·clear F
   rintro acc i ys H' ⟨cs,x,y,z,h1,_,rfl,F⟩
   exact ⟨hatC,by rw [List.length_map];exact h1⟩
  ·clear F
   rintro acc i ys H' R hi ⟨cs,x,y,z,h1,h2,rfl,F⟩ kk
   repeat k_meth
   intro c hc
   refine kk _ _ hatC ?_
   repeat k_meth
   refine ⟨cs++[c],_,_,_,by simp [h1],fun d hd=>?_,by simp,F⟩
   rcases List.mem_append.mp hd with hd | hd
   ·exact h2 d hd
   ·rw [List.mem_singleton.mp hd]
    exact List.mem_of_getElem? hc
  ·clear F
   rintro acc ys H' ⟨tl0,x,y,z,h1,h2,rfl,F⟩
   repeat k_meth
   generalize htl:[c0]++tl0=tl
   have tk:TailOk7 tl:=by
    subst htl
    refine ⟨by simp [h1],fun c hc=>?_,fun c hc=>?_⟩
    ·have:some c0=some c:=hc
     cases this
     exact hc0
    ·rcases List.mem_append.mp hc with hc | hc
     ·rw [List.mem_singleton.mp hc]
      simp only [List.mem_cons,List.not_mem_nil,or_false] at hc0 ⊢
      lia
     ·exact h2 c hc
   have h7:=tk.len
   rename_i sh _ _ _ sh0 _ _
   refine i_dec (fun h=>?_) (fun h=>?_)
   ·repeat k_meth
    refine go_map_range (n:=m) (fvs:=[some (.str (tx (List.range' 97 26))),some (.str (tx tl)),some (.int sh)]) (F:=fun j=>V.str (tx (nameA sh.toNat tl j))) (rda_cons (rd_var rfl) rda_nil) (by lia) (by lia) rfl (fun i H' hi s8 Q8 q8=>?_) ?_
    ·repeat k_meth
     intro c hc
     have e3:=letter_at (by lia) hc
     subst e3
     repeat k_meth
     have e4:[letter (sh + (i:Int) / 8).toNat]++tl.take ((i:Int) % 8).toNat=nameA sh.toNat tl i:=by
      unfold nameA
      rw [show (sh + (i:Int) / 8).toNat=sh.toNat + i / 8 by lia,show ((i:Int) % 8).toNat=i % 8 by lia]
     rw [e4]
     exact q8
    ·repeat k_meth
     have e5:(List.range m).map (fun j=>V.str (tx (nameA sh.toNat tl j)))=((List.range m).map (nameA sh.toNat tl)).map fun cs=>V.str (tx cs):=by
      rw [List.map_map]
      rfl
     rw [e5] at F
     refine k _ _ _ _ _ _ (by simp) (fun cs hcs=>?_) (nodup_of fun i j a b hij ha hb z=>?_) F.kpo hatC hatC (F.fresh (LkL.m (o:=.lst _)) (nm1 (SH.neC (F:=F))))
     ·obtain ⟨j,_,rfl⟩:=List.mem_map.mp hcs
      exact ⟨nameA_ok7 tk,nob_A tk⟩
     ·have h3:=(List.getElem?_eq_some_iff.mp hb).1
      rw [List.length_map,List.length_range] at h3
      rw [List.getElem?_map,List.getElem?_range (by lia)] at ha hb
      cases ha
      cases hb
      have:=nameA_inj7 h7 (by lia) (by lia) z
      lia
   ·repeat k_meth
    rename Addr=>nl
    rw [show ((m:Nat):Int).toNat=m by lia]
    refine forR0_by (fun i σ' H'=>∃(o6 o7:Option V) (nms:List (List Nat)) (x y z:Int),σ'=[some (.ref bx),some (.int (m:Nat)),some (.str (tx (List.range' 97 26))),some (.str (tx tl)),some (.int sh),some (.ref nl),o6,o7]∧nms.length=i∧(∀(j:Nat) cs,nms[j]?=some cs→∃r,r < 7∧cs=nameC sh.toNat tl j r)∧SH H [bx] H' [(nl,.lst (nms.map fun cs=>V.str (tx cs))),(bx,.lst [.int x,.int y,.int z])] []) ⟨_,_,[],_,_,_,rfl,rfl,fun j cs e=>by simp at e,F.subC (L':=[(nl,.lst []),(bx,.lst [.int x_,.int y_,.int z_])])⟩ ?_ ?_
    ·clear F
     rintro i σ' H' hi ⟨_,_,nms,x,y,z,rfl,hl,hn,F⟩
     repeat k_meth
     intro c hc
     have e3:=letter_at (by lia) hc
     subst e3
     repeat k_meth
     refine ⟨_,_,nms++[nameC sh.toNat tl i r_.toNat],x_,y_,z_,rfl,by simp [hl],fun j cs e=>?_,?_⟩
     ·by_cases hj:j < nms.length
      ·rw [List.getElem?_append_left hj] at e
       exact hn j cs e
      ·have hj2:=(List.getElem?_eq_some_iff.mp e).1
       rw [List.length_append,List.length_singleton] at hj2
       obtain rfl:j=i:=by lia
       rw [List.getElem?_append_right (by lia),hl,Nat.sub_self] at e
       cases e
       exact ⟨r_.toNat,by lia,rfl⟩
     ·have e4:[letter (sh + 5 * (i:Int)).toNat]++List.replicate ((i:Int) / 26).toNat 48++tl.take r_.toNat=nameC sh.toNat tl i r_.toNat:=by
       unfold nameC
       rw [show (sh + 5 * (i:Int)).toNat=sh.toNat + 5 * i by lia,show ((i:Int) / 26).toNat=i / 26 by lia]
      rw [e4] at F
      rw [List.map_append]
      exact F
    ·clear F
     rintro σ' H' ⟨_,_,nms,x,y,z,rfl,hl,hn,F⟩
     repeat k_meth
     refine k _ _ _ nms _ _ hl (fun cs hcs=>?_) (nodup_of fun i j a b hij ha hb z=>?_) F.kpo hatC hatC (F.fresh (LkL.m (o:=.lst _)) (nm1 (SH.neC (F:=F))))
     ·obtain ⟨j,hj,e⟩:=List.getElem_of_mem hcs
      obtain ⟨r,hr,rfl⟩:=hn j cs (by rw [← e];simp)
      exact ⟨nameC_ok tk hr (by lia),nob_C tk⟩
     ·have h3:=(List.getElem?_eq_some_iff.mp hb).1
      obtain ⟨r,hr,rfl⟩:=hn i a ha
      obtain ⟨t,ht,rfl⟩:=hn j b hb
      exact nameC_inj tk (by lia) (by lia) hij z
end
theorem pickL {v:V} {xs:List Int} {lo hi:Int} (hv:v∈xs.map V.int) (h:∀a∈xs,lo≤a∧a < hi) (h0:0≤lo):∃g:Nat,v=.int (g:Nat)∧lo≤(g:Int)∧(g:Int) < hi:=by
 obtain ⟨a,ha,rfl⟩:=List.mem_map.mp hv
 have:=h a ha
 exact ⟨a.toNat,by congr 1;lia,by lia,by lia⟩
theorem pickL4 {v:V} {a b c d lo hi:Int} (hv:v∈[V.int a,V.int b,V.int c,V.int d]) (h:0≤lo∧(lo≤a∧a < hi)∧(lo≤b∧b < hi)∧(lo≤c∧c < hi)∧(lo≤d∧d < hi)):∃g:Nat,v=.int (g:Nat)∧lo≤(g:Int)∧(g:Int) < hi :=
 pickL (xs:=[a,b,c,d]) hv (fun z hz=>by
  simp only [List.mem_cons,List.not_mem_nil,or_false] at hz
  rcases hz with rfl | rfl | rfl | rfl
  ·exact h.2.1
  ·exact h.2.2.1
  ·exact h.2.2.2.1
  ·exact h.2.2.2.2) h.1
theorem lay_of {n at_:Nat} {rs:List Rw} {nms:List (List Nat)} (h1:at_≤n) (as:Asc rs) (ok:∀r∈rs,NameOk r.nm∧1≤r.sz∧r.st + r.sz≤at_) (sb:(rs.map (·.nm)).Sublist nms) (nd:nms.Nodup) (h40:nms.length≤40):Lay n rs:=by
 refine ⟨fun r hr=>⟨(ok r hr).1,(ok r hr).2.1,by have:=(ok r hr).2.2;lia⟩,?_,?_⟩
 ·have h2:rs.Pairwise fun r s=>r.nm≠s.nm:=List.pairwise_map.mp (nd.sublist sb)
  exact h2.imp₂ (fun a b h3 h4=>⟨h3,.inl h4⟩) as
 ·have:=sb.length_le
  rw [List.length_map] at this
  lia
theorem asc_snoc {rs:List Rw} {r:Rw} {at_:Nat} (h:Asc rs) (ok:∀s∈rs,s.st + s.sz≤at_) (hr:at_≤r.st):Asc (rs++[r]):=by
 unfold Asc
 rw [List.pairwise_append]
 refine ⟨h,List.pairwise_singleton _ _,fun a ha b hb=>?_⟩
 rw [List.mem_singleton.mp hb]
 have:=ok a ha
 lia
theorem rowsV_snoc (rs:List Rw) (r:Rw):rowsV (rs++[r])=rowsV rs++[rowV r]:=by unfold rowsV;rw [List.map_append];rfl
section
variable {P:Program} {w:World} {K:W.Frag} {mg:Str→Option Value} {base:Heap} {c:Nat→Addr} {ct_Linit pt_Linit R CL CS:Addr}
theorem D_rows (T:Txt K mg c R CL CS ct_Linit pt_Linit):Def P w K mg base CX0 3 "_law_rows" ["_law_box_here", "_law_many_here"] sp_lrows:=by
 have D_names:=D_names (P:=P) (w:=w) (base:=base) T
 have D_take:=D_take (P:=P) (w:=w) (base:=base) T
 refine def_of T.d_rows sc_rows (fun vs H Q E h=>?_) (fun _ _ _ _ _ _=>el2 fun _ _=>rfl) (fun f cdv A outer s H vs Q E hr h=>?_)
 ·obtain ⟨bx,x,y,z,n,rfl,_⟩:=h
  rfl
 ·obtain ⟨bx,x,y,z,n,rfl,hbx,h16,h240,k⟩:=h
  have nd:=sc_rows.nd
  refine ⟨_,(pss_cons (ps_set (i:=2) nd rfl (Or.inl rfl) (pe_ix ix_list (pe_lstA (pa_cons (pe_def D_take hr (pa_cons (pv 0) (pa_cons pe_int pa_nil))) (pa_cons pe_int pa_nil))) (pe_callTy call_intN rfl T.n_int boot_int (pa_cons (pe_cmpR op_eq (pe_def D_take hr (pa_cons (pv 0) (pa_cons pe_int pa_nil))) pe_int (nomark _)) pa_nil)) (fun _ _=>rfl)))
   (pss_cons (ps_set (i:=3) nd rfl (Or.inl rfl) (pe_def D_names hr (pa_cons (pv 0) (pa_cons (pv 2) pa_nil))))
   (pss_cons (ps_set (i:=4) nd rfl (Or.inl rfl) (pe_def D_take hr (pa_cons (pv 0) (pa_cons pe_int pa_nil))))
   (pss_cons (ps_set (i:=5) nd rfl (Or.inl rfl) (pe_lstA pa_nil))
   (pss_cons (ps_set (i:=6) nd rfl (Or.inl rfl) pe_int)
   (pss_cons (ps_for PassesOwn.never rfl (pi_range1 rfl T.n_range (pa_cons (pv 2) pa_nil)) (pg_name (i:=7) nd rfl (Or.inl rfl)) (pss_cons (ps_set (i:=8) nd rfl (Or.inl rfl) (pe_op op_sub (pv 1) (pv 6)))
    (pss_one (ps_if (pt_cmpR op_gt (pv 8) pe_int (nomark _)) (pss_cons (ps_set (i:=9) nd rfl (Or.inl rfl) (pe_def D_take hr (pa_cons (pv 0) (pa_cons (pe_callB (call_minN rfl) rfl T.n_min boot_min (pa_cons (pv 8) (pa_cons pe_int pa_nil))) pa_nil))))
     (pss_cons (ps_set (i:=10) nd rfl (Or.inl rfl) (pe_def D_take hr (pa_cons (pv 0) (pa_cons (pv 8) pa_nil))))
     (pss_cons (ps_set (i:=11) nd rfl (Or.inl rfl) (pe_ix ix_list (pe_lstA (pa_cons pe_int (pa_cons pe_int (pa_cons (pv 9) (pa_cons (pv 10) pa_nil))))) (pe_def D_take hr (pa_cons (pv 0) (pa_cons pe_int pa_nil))) (fun _ _=>rfl)))
     (pss_cons (ps_set (i:=12) nd rfl (Or.inl rfl) (pe_ix ix_list (pe_lstA (pa_cons pe_int (pa_cons pe_int (pa_cons pe_int (pa_cons pe_int pa_nil))))) (pe_def D_take hr (pa_cons (pv 0) (pa_cons pe_int pa_nil))) (fun _ _=>rfl)))
     (pss_cons (ps_set (i:=13) nd rfl (Or.inl rfl) (pe_op op_add pe_int (pe_def D_take hr (pa_cons (pv 0) (pa_cons (pe_callB (call_minN rfl) rfl T.n_min boot_min (pa_cons (pe_op op_sub (pv 8) (pv 11)) (pa_cons (pv 12) pa_nil))) pa_nil)))))
     (pss_cons (ps_set (i:=14) nd rfl (Or.inl rfl) (pe_op op_mul (pe_op op_add pe_int (pe_def D_take hr (pa_cons (pv 0) (pa_cons pe_int pa_nil)))) (pe_callTy call_intN rfl T.n_int boot_int (pa_cons (pe_and (pe_cmpR op_eq (pe_def D_take hr (pa_cons (pv 0) (pa_cons pe_int pa_nil))) pe_int (nomark _)) (pe_one (pe_cmpR op_gt (pv 4) pe_int (nomark _)))) pa_nil))))
     (pss_cons (ps_expr (pe_appendA (pv 5) (pe_tupA (pa_cons (pe_ix ix_list (pv 3) (pv 7) (fun _ _=>rfl)) (pa_cons (pe_op op_add (pv 6) (pv 11)) (pa_cons (pv 13) (pa_cons (pv 14) pa_nil)))))))
     (pss_one (ps_set (i:=6) nd rfl (Or.inl rfl) (pe_op op_add (pe_op op_add (pv 6) (pv 11)) (pv 13))))))))))) pss_nil))))
   (pss_one (ps_ret (pv 5))))))))),?_⟩
  clear nd D_names D_take
  rw [show start ["_law_box_here", "_law_many_here", "_law_most", "_law_names_here", "_law_pinned", "_law_rows_here", "_law_at", "_law_k", "_law_left", "_law_near", "_law_far", "_law_gap", "_law_wide", "_law_size", "_law_pins"] [.ref bx,.int (n:Nat)]=[some (.ref bx),some (.int (n:Nat)),none,none,none,none,none,none,none,none,none,none,none,none,none] from rfl]
  try dsimp only [cx_K,cx_K2]
  have iL_many:FldOk K CL "many" := ⟨T.clL,T.aL_many⟩
  have iL_rows:FldOk K CL "rows" := ⟨T.clL,T.aL_rows⟩
  have iS_stretches:FldOk K CS "stretches" := ⟨T.clS,T.aS_stretches⟩
  have F:SH H [bx] H [(bx,.lst [.int x,.int y,.int z])] []:=SH.nil.addM List.mem_cons_self hbx rfl (by simp)
  repeat k_meth
  have hidx:0≤(if decide (r_=0)=true then (1:Int) else 0)∧(if decide (r_=0)=true then (1:Int) else 0) < 2:=by split <;> lia
  refine w_ixM SqA.e hidx.1 hidx.2 fun v hv=>?_
  obtain ⟨m,rfl,hm0,hm⟩:=pickL (lo:=0) (hi:=41) (xs:=[_,40]) hv (fun a ha=>by
   simp only [List.mem_cons,List.not_mem_nil,or_false] at ha
   rcases ha with rfl | rfl <;> lia) (by lia)
  clear hv hidx
  repeat k_meth
  intro nms nl nk nn
  repeat k_meth
  rename Addr=>rwA
  have ⟨pd,hpd⟩:∃pd,pd=r_:=⟨_,rfl⟩
  rw [← hpd]
  rw [show ((m:Nat):Int).toNat=m by lia]
  refine forR0_by (fun i σ' H'=>∃(o7 o8 o9 o10 o11 o12 o13 o14:Option V) (at_:Nat) (rs:List Rw) (ys:List V) (x y z:Int),σ'=[some (.ref bx),some (.int (n:Nat)),some (.int (m:Nat)),some (.ref p_),some (.int pd),some (.ref rwA),some (.int (at_:Nat)),o7,o8,o9,o10,o11,o12,o13,o14]∧at_≤n∧Asc rs∧(∀r∈rs,NameOk r.nm∧1≤r.sz∧r.st + r.sz≤at_)∧(rs.map (·.nm)).Sublist (nms.take i)∧ys.length=rs.length∧SH H [bx] H' [(rwA,.lst ys),(p_,.lst (nms.map fun cs=>V.str (tx cs))),(bx,.lst [.int x,.int y,.int z])] [.tps ys (rowsV rs)]) ⟨_,_,_,_,_,_,_,_,0,[],[],x_,y_,z_,rfl,Nat.zero_le _,List.Pairwise.nil,by simp,List.nil_sublist _,rfl,(F.addP (ys:=[]) (rs:=rowsV []) TupsAt.nil).sub SbC.s SbI.s⟩ ?_ ?_
  ·clear F hpd lo_ hi_
   rintro i σ' H' hi ⟨_,_,_,_,_,_,_,_,at_,rs,ys,x,y,z,rfl,hat,as,ok,sb,yl,F⟩
   obtain ⟨nm0,hnm⟩:∃nm0,nms[i]?=some nm0:=⟨nms[i]'(by lia),by simp⟩
   have a1:AtI (nms.map fun cs=>V.str (tx cs)) (i:Int) (.str (tx nm0)):=⟨atI_nat (by rw [List.getElem?_map,hnm];rfl)⟩
   have tkn:nms.take (i + 1)=nms.take i++[nm0]:=by rw [List.take_succ,hnm];rfl
   have few:rs.length≤40:=by
    have:=sb.length_le
    rw [List.length_map,List.length_take] at this
    lia
   repeat k_meth
   refine i_dec (fun h=>?_) (fun h=>?_)
   ·repeat k_meth
    refine w_ixM SqA.e lo_ hi_ fun v hv=>?_
    obtain ⟨g,rfl,hg0,hg⟩:=pickL4 (lo:=0) (hi:=(n:Int) - (at_:Int)) hv (by lia)
    clear hv
    repeat k_meth
    refine w_ixM SqA.e lo_ hi_ fun v hv=>?_
    obtain ⟨wd,rfl,hw0,hw⟩:=pickL4 (lo:=1) (hi:=241) hv (by lia)
    clear hv
    repeat k_meth
    rename_i zz _ _ _ zlo zhi _ r1 _ _ _ r1lo r1hi _
    obtain ⟨z1,rfl⟩:∃z1:Nat,zz=(z1:Int):=⟨zz.toNat,by lia⟩
    refine i_dec (fun h0=>?_) (fun h0=>?_)
    ·repeat k_meth
     rename Addr=>tq
     obtain ⟨pn,hpn⟩:∃pn:Nat,(1 + r1) * (if decide (pd > 0)=true then (1:Int) else 0)=(pn:Int):=⟨((1 + r1) * (if decide (pd > 0)=true then (1:Int) else 0)).toNat,by have:0≤(1 + r1) * (if decide (pd > 0)=true then (1:Int) else 0):=Int.mul_nonneg (by lia) (by split <;> lia);lia⟩
     rw [hpn] at F ⊢
     rw [show [V.str (tx nm0),V.int ((at_:Int) + (g:Int)),V.int (1 + (z1:Int)),V.int (pn:Int)]=rowV ⟨nm0,at_ + g,1 + z1,pn⟩ by simp [rowV]] at F
     have F2:=SH.app (ys:=ys) (rs:=rowsV rs) (q:=tq) (r:=rowV ⟨nm0,at_ + g,1 + z1,pn⟩) F (LkP.m) (LkI.m)
     rw [← rowsV_snoc] at F2
     rw [show (at_:Int) + (g:Int) + (1 + (z1:Int))=((at_ + g + (1 + z1):Nat):Int) by lia]
     refine ⟨_,_,_,_,_,_,_,_,at_ + g + (1 + z1),rs++[⟨nm0,at_ + g,1 + z1,pn⟩],ys++[.ref tq],x_,y_,z_,rfl,by lia,asc_snoc as (fun s hs=>(ok s hs).2.2) (by show at_≤at_ + g;lia),fun s hs=>?_,?_,by simp [yl],F2.sub SbC.s SbI.s⟩
     ·rcases List.mem_append.mp hs with hs | hs
      ·have:=ok s hs
       exact ⟨this.1,this.2.1,by lia⟩
      ·rw [List.mem_singleton.mp hs]
       exact ⟨(nk _ (List.mem_of_getElem? hnm)).1,by show 1≤1 + z1;lia,by show at_ + g + (1 + z1)≤_;lia⟩
     ·rw [List.map_append,tkn]
      exact List.Sublist.append sb (List.Sublist.refl _)
    ·repeat k_meth
     rename Addr=>tq
     obtain ⟨pn,hpn⟩:∃pn:Nat,(1 + r1) * (if false=true then (1:Int) else 0)=(pn:Int):=⟨((1 + r1) * (if false=true then (1:Int) else 0)).toNat,by have:0≤(1 + r1) * (if false=true then (1:Int) else 0):=Int.mul_nonneg (by lia) (by split <;> lia);lia⟩
     rw [hpn] at F ⊢
     rw [show [V.str (tx nm0),V.int ((at_:Int) + (g:Int)),V.int (1 + (z1:Int)),V.int (pn:Int)]=rowV ⟨nm0,at_ + g,1 + z1,pn⟩ by simp [rowV]] at F
     have F2:=SH.app (ys:=ys) (rs:=rowsV rs) (q:=tq) (r:=rowV ⟨nm0,at_ + g,1 + z1,pn⟩) F (LkP.m) (LkI.m)
     rw [← rowsV_snoc] at F2
     rw [show (at_:Int) + (g:Int) + (1 + (z1:Int))=((at_ + g + (1 + z1):Nat):Int) by lia]
     refine ⟨_,_,_,_,_,_,_,_,at_ + g + (1 + z1),rs++[⟨nm0,at_ + g,1 + z1,pn⟩],ys++[.ref tq],x_,y_,z_,rfl,by lia,asc_snoc as (fun s hs=>(ok s hs).2.2) (by show at_≤at_ + g;lia),fun s hs=>?_,?_,by simp [yl],F2.sub SbC.s SbI.s⟩
     ·rcases List.mem_append.mp hs with hs | hs
      ·have:=ok s hs
       exact ⟨this.1,this.2.1,by lia⟩
      ·rw [List.mem_singleton.mp hs]
       exact ⟨(nk _ (List.mem_of_getElem? hnm)).1,by show 1≤1 + z1;lia,by show at_ + g + (1 + z1)≤_;lia⟩
     ·rw [List.map_append,tkn]
      exact List.Sublist.append sb (List.Sublist.refl _)
   ·repeat k_meth
    exact ⟨_,_,_,_,_,_,_,_,at_,rs,ys,x,y,z,rfl,hat,as,ok,sb.trans (by rw [tkn];exact List.sublist_append_left _ _),yl,F⟩
  ·clear F
   rintro σ' H' ⟨_,_,_,_,_,_,_,_,at_,rs,ys,x,y,z,rfl,hat,as,ok,sb,yl,F⟩
   repeat k_meth
   exact k _ _ _ rs _ ys _ (lay_of hat as ok sb (nn.sublist (List.take_sublist _ _)) (by rw [List.length_take];lia)) as (fun r hr=>(nk _ (List.mem_of_mem_take (sb.subset (List.mem_map_of_mem hr)))).2) F.kpo hatC hatC TpA.e (F.fresh (LkL.m (o:=.lst _)) (nm1 (SH.neC (F:=F))))
end
theorem comp_G {K:W.Frag} {l:Addr} {xs:List V} {rows:List (List V)} {σ fvs:L2.St} {fr:List Nat} {c:TT} {te:TE} {H:Hp} {Q:VK} {P:List V→Bool} (hq:H l=some (.lst xs)) (tp:TupsAt H xs rows) (hz:xs.length≤1000000) (hf:(fr.map fun i=>(σ[i]?).getD none)=fvs)
  (G:Nat→List V→Hp→Prop) (st:∀i ys H1 H2,(∀q u,H1 q=some (.tup u)→H2 q=some (.tup u))→G i ys H1→G i ys H2) (g0:G 0 [] H)
  (turnC:∀(i:Nat) (q:Addr) r (H':Hp) (R:Bool→Hp→Prop),rows[i]?=some r→Same H H'→H' q=some (.tup r)→(∀H2,Same H' H2→R (P r) H2)→c (some (.ref q)::fvs) H' R)
  (turnE:∀(i:Nat) (q:Addr) r ys (H':Hp) (R:VK),rows[i]?=some r→P r=true→Same H H'→H' q=some (.tup r)→G i ys H'→(∀y H2,Same H' H2→G (i + 1) (ys++[y]) H2→R y H2)→te (some (.ref q)::fvs) H' R)
  (skip:∀(i:Nat) r ys (H':Hp),rows[i]?=some r→P r=false→G i ys H'→G (i + 1) ys H')
  (k:∀p ys H',New H H' p (.lst ys)→G xs.length ys H'→Q (.ref p) H'):CompAll (Itl K l) 1 fr (gName 0) c te σ H Q:=by
 intro acc hacc
 subst hf
 have nacc:∀b u,H b=some u→b≠acc:=fun b u e=>ne_of_none e hacc
 have n0:New H (upd H acc (.lst [])) acc (.lst []):=.mk' hacc
 refine comp_by (items_list (xs:=xs)) (fun i ys H'=>H' acc=some (.lst ys)∧Same H H'∧ys.length≤i∧G i ys H') ⟨n0.e,n0.s,Nat.le_refl _,st _ _ _ _ (fun q u e=>n0.s _ _ e) g0⟩ (fun i ys H' _ h=>⟨h.2.1.seq (SqL.of hq),h.1⟩) ?_ ?_
 ·rintro i x tv ys H' hx hi ⟨ha,hs,hl,hg⟩ htv
  obtain ⟨t0,rfl⟩:∃a,tv=[a]:=List.length_eq_one_iff.mp htv
  obtain ⟨r,q,e1,rfl,e2⟩:=tups_at tp hx
  refine wn0 ?_
  refine turnC i q r H' _ e1 hs (hs _ _ e2) fun H2 s2=>?_
  have g2:=st _ _ _ _ (fun q u e=>s2 _ _ e) hg
  have ha2:H2 acc=some (.lst ys):=s2 _ _ ha
  by_cases hp:P r=true
  ·rw [hp,if_pos rfl]
   refine turnE i q r ys H2 _ e1 hp (hs.trans s2) (s2 _ _ (hs _ _ e2)) g2 fun y H3 s3 g3=>⟨Nat.lt_of_le_of_lt hl (Nat.lt_of_lt_of_le hi (small_line hz)),s3 _ _ ha2,CompW.next (tv:=[some (.ref q)]) hi ⟨upd_same,fun b u e=>?_,by rw [List.length_append,List.length_singleton];lia,st _ _ _ _ (fun q' u e=>?_) g3⟩ rfl⟩
   ·rw [upd_ne (nacc b u e)]
    exact s3 _ _ (s2 _ _ (hs _ _ e))
   ·have e3:H3 acc=some (.lst ys):=s3 _ _ ha2
    rw [upd_ne (fun z=>by rw [z,e3] at e;cases e)]
    exact e
  ·have hp:P r=false:=by simpa using hp
   rw [hp,if_neg (by decide)]
   exact CompW.next (tv:=[some (.ref q)]) hi ⟨ha2,hs.trans s2,by lia,skip i r ys H2 e1 hp g2⟩ rfl
 ·rintro ys H' ⟨ha,hs,_,hg⟩
  exact k acc ys H' ⟨hs,ha,nacc⟩ hg
section
variable {K:W.Frag} {H:Hp} {Q:VK} {p q l:Addr} {ns:List Int} {c:Int}
instance go_sumL [h:SqA K H l (ns.map V.int)]:Go (rSumL K [.ref l] H Q) (Sd ((∀n∈ns,0≤n∧n≤1000000)∧ns.length≤1000000) (Q (.int ns.sum) H)):=⟨fun s=>w_sumL h.e s.1.1 s.1.2 s.2⟩
end
def gp (rs:List Rw):List Int×Int:=rs.foldl (fun g r=>(g.1++[(r.st:Int) - g.2],(r.st:Int) + (r.sz:Int))) ([],0)
theorem gp_snoc (rs:List Rw) (r:Rw):gp (rs++[r])=((gp rs).1++[(r.st:Int) - (gp rs).2],(r.st:Int) + (r.sz:Int)):=by unfold gp;rw [List.foldl_append];rfl
theorem gp_len (rs:List Rw):(gp rs).1.length=rs.length:=by
 have:∀(rs:List Rw) (g:List Int×Int),(rs.foldl (fun g r=>(g.1++[(r.st:Int) - g.2],(r.st:Int) + (r.sz:Int))) g).1.length=g.1.length + rs.length:=by
  intro rs
  induction rs with
  | nil=>intro g;rfl
  | cons r t ih=>intro g;rw [List.foldl_cons,ih];simp;lia
 have:=this rs ([],0)
 simpa [gp] using this
def gapsOf (n:Nat) (rs:List Rw):List Int:=(gp rs).1++[(n:Int) - (gp rs).2]
theorem take_snocR {rs:List Rw} {i:Nat} {r:Rw} (h:rs[i]?=some r):rs.take (i + 1)=rs.take i++[r]:=by rw [List.take_succ,h];rfl
def within (a b:Int) (r:Rw):Bool:=decide (a≤(r.st:Int)) && decide ((r.st:Int) < b)
def freeB (rs:List Rw) (a b:Int):Int:=b - a - ((rs.filter (within a b)).map fun r=>(r.sz:Int)).sum
def sp_gapsof (CL:Addr):Sp:=fun vs H Q _=>∃(x p dx:Addr) (n:Nat) (zs:List V) (rs:List Rw),vs=[.ref x]∧H x=some (.ins CL dx (lF (n:Nat) p))∧H p=some (.lst zs)∧TupsAt H zs (rowsV rs)∧rs.length≤40∧∀q H',New H H' q (.lst ((gapsOf n rs).map V.int))→Q (.ref q) H'
def sp_between (CL:Addr):Sp:=fun vs H Q _=>∃(x p dx:Addr) (n:Nat) (zs:List V) (rs:List Rw) (a b:Int),vs=[.ref x,.int a,.int b]∧H x=some (.ins CL dx (lF (n:Nat) p))∧H p=some (.lst zs)∧TupsAt H zs (rowsV rs)∧rs.length≤40∧∀q ys H',New H H' q (.lst ys)→TupsAt H' ys (rowsV (rs.filter (within a b)))→Q (.ref q) H'
def sp_freeb (CL:Addr):Sp:=fun vs H Q _=>∃(x p dx:Addr) (n:Nat) (zs:List V) (rs:List Rw) (a b:Int),vs=[.ref x,.int a,.int b]∧H x=some (.ins CL dx (lF (n:Nat) p))∧H p=some (.lst zs)∧TupsAt H zs (rowsV rs)∧(rs.length≤40∧∀r∈rs,r.sz≤240)∧∀H',Same H H'→Q (.int (freeB rs a b)) H'
section
variable {CL x p dx l:Addr} {H:Hp} {Q:VK} {E:XK} {n:Nat} {zs:List V} {rs:List Rw} {a b:Int}
instance go_gapsof [h:Hat H x (.ins CL dx (lF (n:Nat) p))] [h2:Hat H p (.lst zs)] [t:TpA H zs (rowsV rs)]:Go (sp_gapsof CL [.ref x] H Q E) (Sd (rs.length≤40) (∀q H',New H H' q (.lst ((gapsOf n rs).map V.int))→Q (.ref q) H')):=⟨fun s=>⟨x,p,dx,n,zs,rs,rfl,h.e,h2.e,t.e,s.1,s.2⟩⟩
instance go_between [h:Hat H x (.ins CL dx (lF (n:Nat) p))] [h2:Hat H p (.lst zs)] [t:TpA H zs (rowsV rs)]:Go (sp_between CL [.ref x,.int a,.int b] H Q E) (Sd (rs.length≤40) (∀q ys H',New H H' q (.lst ys)→TupsAt H' ys (rowsV (rs.filter (within a b)))→Q (.ref q) H')):=⟨fun s=>⟨x,p,dx,n,zs,rs,a,b,rfl,h.e,h2.e,t.e,s.1,s.2⟩⟩
instance go_freeb [h:Hat H x (.ins CL dx (lF (n:Nat) p))] [h2:Hat H p (.lst zs)] [t:TpA H zs (rowsV rs)]:Go (sp_freeb CL [.ref x,.int a,.int b] H Q E) (Sd (rs.length≤40∧∀r∈rs,r.sz≤240) (∀H',Same H H'→Q (.int (freeB rs a b)) H')):=⟨fun s=>⟨x,p,dx,n,zs,rs,a,b,rfl,h.e,h2.e,t.e,s.1,s.2⟩⟩
end
def inV2 (a b:Int) (r:List V):Bool:=match r with
 | [_,.int s,_,_]=>decide (a≤s) && decide (s < b)
 | _=>false
theorem filt_rows (rs:List Rw) (a b:Int):(rowsV rs).filter (inV2 a b)=rowsV (rs.filter (within a b)):=by
 unfold rowsV
 rw [List.filter_map]
 rfl
theorem take_rows {rows:List (List V)} {i:Nat} {r:List V} (h:rows[i]?=some r):rows.take (i + 1)=rows.take i++[r]:=by rw [List.take_succ,h];rfl
theorem tups_st {H1 H2:Hp} {ys:List V} {rows:List (List V)} (s:∀q u,H1 q=some (.tup u)→H2 q=some (.tup u)) (t:TupsAt H1 ys rows):TupsAt H2 ys rows:=⟨t.1,fun j r e=>let ⟨q,a,b⟩:=t.2 j r e;⟨q,a,s _ _ b⟩⟩
section
variable {P:Program} {w:World} {K:W.Frag} {mg:Str→Option Value} {base:Heap} {c:Nat→Addr} {ct_Linit pt_Linit R CL CS:Addr}
theorem D_gapsof (T:Txt K mg c R CL CS ct_Linit pt_Linit):Def P w K mg base CX0 2 "gaps_of" ["layout"] (sp_gapsof CL):=by
 have MT_Lblocks:=MT_Lblocks (P:=P) (w:=w) (base:=base) T
 have D_end_of:=D_end_of (P:=P) (w:=w) (base:=base) T
 have D_cells_of:=D_cells_of (P:=P) (w:=w) (base:=base) T
 refine def_of T.d_gapsof sc_gapsof (fun vs H Q E h=>?_) (fun _ _ _ _ _ _=>el1 fun _=>rfl) (fun f cdv A outer s H vs Q E hr h=>?_)
 ·obtain ⟨x,p,dx,n,zs,rs,rfl,_⟩:=h
  rfl
 ·obtain ⟨x,p,dx,n,zs,rs,rfl,hx,hp,tp,few,k⟩:=h
  have nd:=sc_gapsof.nd
  refine ⟨_,(pss_cons (ps_set (i:=1) nd rfl (Or.inl rfl) (pe_lstA pa_nil))
   (pss_cons (ps_set (i:=2) nd rfl (Or.inl rfl) pe_int)
   (pss_cons (ps_for PassesOwn.never rfl (pi_list (pe_met0 (pv 0) T.clL MT_Lblocks hr)) (pg_name (i:=3) nd rfl (Or.inl rfl)) (pss_cons (ps_expr (pe_appendA (pv 1) (pe_op op_sub (pe_ix ix_tup (pv 3) pe_int (fun _ _=>rfl)) (pv 2))))
    (pss_one (ps_set (i:=2) nd rfl (Or.inl rfl) (pe_def D_end_of hr (pa_cons (pe_def D_cells_of hr (pa_cons (pv 3) pa_nil)) pa_nil))))))
   (pss_one (ps_ret (pe_op op_catA (pv 1) (pe_lstA (pa_cons (pe_op op_sub (pe_fld (pv 0) rfl) (pv 2)) pa_nil)))))))),?_⟩
  clear nd MT_Lblocks D_end_of D_cells_of
  rw [show start ["layout", "gaps", "behind", "block"] [.ref x]=[some (.ref x),none,none,none] from rfl]
  try dsimp only [cx_K,cx_K2]
  have iL_many:FldOk K CL "many" := ⟨T.clL,T.aL_many⟩
  have iL_rows:FldOk K CL "rows" := ⟨T.clL,T.aL_rows⟩
  have iS_stretches:FldOk K CS "stretches" := ⟨T.clS,T.aS_stretches⟩
  have o_hx:=Old.mk (M:=[]) hx nm0
  have o_hp:=Old.mk (M:=[]) hp nm0
  have o_tp:=OldP.mk tp
  have F:SH H [] H [] []:=SH.nil
  repeat k_meth
  rename_i _ gl
  rename Addr=>bl
  refine forL_by (xs:=zs) (fun i σ' H'=>∃o3:Option V,σ'=[some (.ref x),some (.ref gl),some (.int (gp (rs.take i)).2),o3]∧SH H [] H' [(gl,.lst ((gp (rs.take i)).1.map V.int)),(bl,.lst zs)] []) ⟨_,rfl,F.subC (L':=[(gl,.lst []),(bl,.lst zs)])⟩ ?_ ?_ ?_
  ·clear F
   rintro i σ' H' _ ⟨_,rfl,F⟩
   exact SqA.e
  ·clear F
   rintro i v σ' H' hv ⟨_,rfl,F⟩
   obtain ⟨r,q1,e1,rfl,e2⟩:=rowsV_at tp hv
   have o_e2:=Old.mk (M:=[]) e2 nm0
   have gl1:=gp_len (rs.take i)
   rw [List.length_take] at gl1
   repeat k_meth
   refine ⟨_,by rw [take_snocR e1,gp_snoc],?_⟩
   rw [take_snocR e1,gp_snoc]
   simp only [List.map_append,List.map_cons,List.map_nil]
   exact F.subC
  ·clear F
   rintro σ' H' ⟨_,rfl,F⟩
   have gl1:=gp_len rs
   rw [show zs.length=rs.length by rw [tp.1,rowsV_len],List.take_length] at F ⊢
   repeat k_meth
   rw [show (gp rs).1.map V.int++[V.int ((n:Int) - (gp rs).2)]=(gapsOf n rs).map V.int by unfold gapsOf;rw [List.map_append];rfl] at F
   exact k _ _ SH.nwC
theorem D_between (T:Txt K mg c R CL CS ct_Linit pt_Linit):Def P w K mg base CX0 2 "blocks_between" ["layout", "first", "behind"] (sp_between CL):=by
 have MT_Lblocks:=MT_Lblocks (P:=P) (w:=w) (base:=base) T
 refine def_of T.d_between sc_between (fun vs H Q E h=>?_) (fun _ _ _ _ _ _=>el3 fun _ _ _=>rfl) (fun f cdv A outer s H vs Q E hr h=>?_)
 ·obtain ⟨x,p,dx,n,zs,rs,a,b,rfl,_⟩:=h
  rfl
 ·obtain ⟨x,p,dx,n,zs,rs,a,b,rfl,hx,hp,tp,few,k⟩:=h
  have nd:=sc_between.nd
  refine ⟨_,(pss_one (ps_ret (pe_comp (N:=["block", "first", "behind"]) (nt:=1) (fr:=[1,2]) (pi_list (pe_met0 (pv 0) T.clL MT_Lblocks hr)) (fun _ _ _ _=>(pg_name (i:=0) (show (["block", "first", "behind"]:List Str).Nodup from by decide +kernel) rfl (Or.inl rfl))) (fun _ _ _ _=>pif_one (pt_chain op_le op_lt (pv 1) (pe_ix (ix_tupK (K:=K) rfl) (pv 0) pe_int (fun _ _=>rfl)) (pv 2))) (fun _ _ _ _=>(pv 0))))),?_⟩
  clear nd MT_Lblocks
  rw [show start ["layout", "first", "behind"] [.ref x,.int a,.int b]=[some (.ref x),some (.int a),some (.int b)] from rfl]
  try dsimp only [cx_K,cx_K2]
  have iL_many:FldOk K CL "many" := ⟨T.clL,T.aL_many⟩
  have iL_rows:FldOk K CL "rows" := ⟨T.clL,T.aL_rows⟩
  have iS_stretches:FldOk K CS "stretches" := ⟨T.clS,T.aS_stretches⟩
  have o_hx:=Old.mk (M:=[]) hx nm0
  have o_hp:=Old.mk (M:=[]) hp nm0
  have o_tp:=OldP.mk tp
  have F:SH H [] H [] []:=SH.nil
  have yl:zs.length=rs.length:=by rw [tp.1,rowsV_len]
  repeat k_meth
  refine comp_G (P:=inV2 a b) (fvs:=[some (.int a),some (.int b)]) hatC (TpA.e (rs:=rowsV rs)) (by lia) rfl (fun i ys H'=>TupsAt H' ys (((rowsV rs).take i).filter (inV2 a b))) (fun i ys H1 H2 s t=>tups_st s t) TupsAt.nil (fun i q1 r H' R e1 s1 e2 kk=>?_) (fun i q1 r ys H' R e1 hp s1 e2 g kk=>?_) (fun i r ys H' e1 hp g=>by rw [take_rows e1,List.filter_append,List.filter_cons_of_neg (by simp [hp]),List.filter_nil,List.append_nil];exact g) fun q ys H' n1 g=>?_
  ·clear F
   have F:SH H' [] H' [] []:=SH.nil
   obtain ⟨s,_,rfl⟩:=List.mem_map.mp (List.mem_of_getElem? e1)
   have o_e2:=Old.mk (M:=[]) e2 nm0
   have kk:∀H2,Same H' H2→R (decide (a≤(s.st:Int)) && decide ((s.st:Int) < b)) H2:=kk
   repeat k_meth
   refine i_dec (fun h=>?_) (fun h=>?_)
   ·repeat k_meth
    rw [decide_eq_true h,Bool.true_and] at kk
    exact kk _ (Same.refl _)
   ·repeat k_meth
    rw [decide_eq_false h,Bool.false_and] at kk
    exact kk _ (Same.refl _)
  ·repeat k_meth
   refine kk _ _ (Same.refl _) ?_
   rw [take_rows e1,List.filter_append,List.filter_cons_of_pos hp,List.filter_nil]
   exact TupsAt.snoc g e2
  ·rw [List.take_of_length_le (by rw [rowsV_len];lia),filt_rows] at g
   replace F:=F.newR n1 g
   repeat k_meth
   exact k _ _ _ SH.nwC TpA.e
theorem D_freeb (T:Txt K mg c R CL CS ct_Linit pt_Linit):Def P w K mg base CX0 3 "free_between" ["layout", "first", "behind"] (sp_freeb CL):=by
 have D_between:=D_between (P:=P) (w:=w) (base:=base) T
 refine def_of T.d_freeb sc_freeb (fun vs H Q E h=>?_) (fun _ _ _ _ _ _=>el3 fun _ _ _=>rfl) (fun f cdv A outer s H vs Q E hr h=>?_)
 ·obtain ⟨x,p,dx,n,zs,rs,a,b,rfl,_⟩:=h
  rfl
 ·obtain ⟨x,p,dx,n,zs,rs,a,b,rfl,hx,hp,tp,few,k⟩:=h
  have nd:=sc_freeb.nd
  refine ⟨_,(pss_one (ps_ret (pe_op op_sub (pe_op op_sub (pv 2) (pv 1)) (pe_callB (call_sumL rfl) rfl T.n_sum boot_sum (pa_cons (pe_comp (N:=["block"]) (nt:=1) (fr:=[]) (pi_list (pe_def D_between hr (pa_cons (pv 0) (pa_cons (pv 1) (pa_cons (pv 2) pa_nil))))) (fun _ _ _ _=>(pg_name (i:=0) (show (["block"]:List Str).Nodup from by decide +kernel) rfl (Or.inl rfl))) (fun _ _ _ _=>pif_nil) (fun _ _ _ _=>(pe_ix (ix_tupK (K:=K) rfl) (pv 0) pe_int (fun _ _=>rfl)))) pa_nil))))),?_⟩
  clear nd D_between
  rw [show start ["layout", "first", "behind"] [.ref x,.int a,.int b]=[some (.ref x),some (.int a),some (.int b)] from rfl]
  try dsimp only [cx_K,cx_K2]
  have iL_many:FldOk K CL "many" := ⟨T.clL,T.aL_many⟩
  have iL_rows:FldOk K CL "rows" := ⟨T.clL,T.aL_rows⟩
  have iS_stretches:FldOk K CS "stretches" := ⟨T.clS,T.aS_stretches⟩
  have o_hx:=Old.mk (M:=[]) hx nm0
  have o_hp:=Old.mk (M:=[]) hp nm0
  have o_tp:=OldP.mk tp
  have F:SH H [] H [] []:=SH.nil
  have few1:=few.1
  have fl:(rs.filter (within a b)).length≤40:=Nat.le_trans (List.length_filter_le _ _) few.1
  repeat k_meth
  refine comp_rows (F:=fun r=>r.getD 2 .non) hatC (TpA.e (rs:=rowsV (rs.filter (within a b)))) (by lia) rfl (fun q r H1 R hr s1 e1 kk=>?_) ?_
  ·clear F
   have F:SH H1 [] H1 [] []:=SH.nil
   obtain ⟨s,_,rfl⟩:=List.mem_map.mp hr
   have o_e1:=Old.mk (M:=[]) e1 nm0
   repeat k_meth
   exact kk _ (Same.refl _)
  ·have e5:(rowsV (rs.filter (within a b))).map (fun r=>r.getD 2 V.non)=((rs.filter (within a b)).map fun r=>((r.sz:Nat):Int)).map V.int:=by
    unfold rowsV
    rw [List.map_map,List.map_map]
    rfl
   rw [e5]
   have side:(∀n∈(rs.filter (within a b)).map fun r=>((r.sz:Nat):Int),0≤n∧n≤1000000)∧((rs.filter (within a b)).map fun r=>((r.sz:Nat):Int)).length≤1000000:=by
    refine ⟨fun n hn=>?_,by rw [List.length_map];lia⟩
    obtain ⟨r,hr,rfl⟩:=List.mem_map.mp hn
    have:=few.2 r (List.mem_filter.mp hr).1
    lia
   repeat k_meth
   exact k _ F.sm
end
abbrev W3:=Int×Int×Int
abbrev row3 (w:W3):List V:=[V.int w.1,V.int w.2.1,V.int w.2.2]
def rows3 (ws:List W3):List (List V):=ws.map row3
theorem rows3_len (ws:List W3):(rows3 ws).length=ws.length:=List.length_map ..
theorem rows3_snoc (ws:List W3) (w:W3):rows3 (ws++[w])=rows3 ws++[row3 w]:=by unfold rows3;rw [List.map_append];rfl
theorem flat_3 (ws:List W3):∀r∈rows3 ws,∀v∈r,isFlat v=true:=by
 intro r hr v hv
 obtain ⟨x,_,rfl⟩:=List.mem_map.mp hr
 simp only [List.mem_cons,List.not_mem_nil,or_false] at hv
 rcases hv with rfl | rfl | rfl <;> rfl
def spF (r0 rs:List Rw):List W3×Int:=rs.foldl (fun g r=>if 0 < r.pn then (g.1++[(g.2,(r.st:Int),freeB r0 g.2 r.st)],(r.st:Int) + (r.sz:Int)) else g) ([],0)
theorem spF_snoc (r0 rs:List Rw) (r:Rw):spF r0 (rs++[r])=if 0 < r.pn then ((spF r0 rs).1++[((spF r0 rs).2,(r.st:Int),freeB r0 (spF r0 rs).2 r.st)],(r.st:Int) + (r.sz:Int)) else spF r0 rs:=by unfold spF;rw [List.foldl_append];rfl
def strF (n:Nat) (rs:List Rw):List W3:=(spF rs rs).1++[((spF rs rs).2,(n:Int),freeB rs (spF rs rs).2 n)]
theorem snocR {P:List Rw→Prop} (h0:P []) (h1:∀rs r,P rs→P (rs++[r])) (rs:List Rw):P rs:=by
 have:∀n,∀rs:List Rw,rs.length=n→P rs:=by
  intro n
  induction n with
  | zero=>intro rs h;rw [List.length_eq_zero_iff.mp h];exact h0
  | succ n ih =>
   intro rs h
   have hne:rs≠[]:=fun z=>by rw [z] at h;simp at h
   have e:=List.dropLast_concat_getLast hne
   rw [← e]
   exact h1 _ _ (ih _ (by rw [List.length_dropLast];lia))
 exact this rs.length rs rfl
theorem spF_len (r0 rs:List Rw):(spF r0 rs).1.length≤rs.length:=by
 induction rs using snocR with
 | h0=>exact Nat.le_refl _
 | h1 rs r ih =>
  rw [spF_snoc]
  split
  ·simp only [List.length_append,List.length_singleton];lia
  ·simp only [List.length_append,List.length_singleton];lia
def sp_stretches (CL:Addr):Sp:=fun vs H Q _=>∃(x p dx:Addr) (n:Nat) (zs:List V) (rs:List Rw),vs=[.ref x]∧H x=some (.ins CL dx (lF (n:Nat) p))∧H p=some (.lst zs)∧TupsAt H zs (rowsV rs)∧(rs.length≤40∧∀r∈rs,r.sz≤240)∧∀q ys H',New H H' q (.lst ys)→TupsAt H' ys (rows3 (strF n rs))→Q (.ref q) H'
section
variable {K:W.Frag} {CL x p dx l q a:Addr} {H H0:Hp} {M:List Addr} {L:List (Addr×HO)} {I:List Im} {Q:VK} {E:XK} {n:Nat} {xs ys zs:List V} {rs:List Rw} {ws:List W3} {Z:Addr→Hp→Prop} {t0 te:TE} {nt:Nat} {fr:List Nat} {g:TG} {cc:TT} {σ fvs:L2.St} {i:Int}
instance go_stretches [h:Hat H x (.ins CL dx (lF (n:Nat) p))] [h2:Hat H p (.lst zs)] [t:TpA H zs (rowsV rs)]:Go (sp_stretches CL [.ref x] H Q E) (Sd (rs.length≤40∧∀r∈rs,r.sz≤240) (∀q ys H',New H H' q (.lst ys)→TupsAt H' ys (rows3 (strF n rs))→Q (.ref q) H')):=⟨fun s=>⟨x,p,dx,n,zs,rs,rfl,h.e,h2.e,t.e,s.1,s.2⟩⟩
instance nx_rows3 [F:SH H0 M H L I]:Go (∀p ys H',New H H' p (.lst ys)→TupsAt H' ys (rows3 ws)→Z p H') (∀H' p ys,ys.length=ws.length→SH H0 M H' ((p,.lst ys)::L) (.tps ys (rows3 ws)::I)→Z p H'):=⟨fun k p ys H' n t=>k H' p ys (by rw [t.1,rows3_len]) (F.newR n t)⟩
instance go_ne3 [h:Hat H p (.lst ys)] [h2:Hat H q (.lst zs)] [t:TpA H ys (rows3 ws)] [t2:TpA H zs (rows3 ws)]:Go (rNeD K (.ref p) (.ref q) H Q) (Q (.bl false) H):=⟨w_neSame (rep_rows (SqL.of h.e) t.e (flat_3 _)) (rep_rows (SqL.of h2.e) t2.e (flat_3 _)) (Nat.le_trans (dep_rowsL _) (by decide))⟩
instance go_compT:Go (tComp (iTup K t0) nt fr g cc te σ H Q) (t0 σ H fun x H1=>∃a,x=.ref a∧(∃xs,SqT K H1 a xs)∧CompAll (Itt K a) nt fr g cc te σ H1 Q):=⟨id⟩
instance go_cbyT [h:SqB K H a xs]:Go (∃a',V.ref a=.ref a'∧(∃xs,SqT K H a' xs)∧CompAll (Itt K a') nt fr g cc te σ H Q) (CompAll (Itt K a) nt fr g cc te σ H Q):=⟨fun k=>⟨a,rfl,⟨xs,h.e⟩,k⟩⟩
theorem comp_true {J:It} {Lk:Hp→Prop} (it:L2.ItemsOf J xs Lk) (hz:xs.length≤1000000) (hf:(fr.map fun i=>(σ[i]?).getD none)=fvs) (hL:∀H',Same H H'→Lk H')
  (turn:∀(v:V) (H':Hp) (R:VK),v∈xs→Same H H'→(∀H2,Same H' H2→R (.bl true) H2)→te (some v::fvs) H' R) (k:∀p H',New H H' p (.lst ((List.replicate xs.length true).map V.bl))→Q (.ref p) H'):CompAll J 1 fr (gName 0) tTrue te σ H Q:=by
 refine comp_map (P:=fun i y=>y=.bl true) it hz hf hL (fun i v H' R hv s kk=>turn v H' R (List.mem_of_getElem? hv) s fun H2 s2=>kk _ _ s2 rfl) fun p H' ys n hl hP=>k p H' ?_
 have e:ys=(List.replicate xs.length true).map V.bl:=by
  rw [List.map_replicate,List.eq_replicate_iff]
  refine ⟨hl,fun b hb=>?_⟩
  obtain ⟨i,hi,e⟩:=List.getElem_of_mem hb
  exact hP i b (by rw [← e];simp)
 rw [e] at n
 exact n
end
section
variable {P:Program} {w:World} {K:W.Frag} {mg:Str→Option Value} {base:Heap} {c:Nat→Addr} {ct_Linit pt_Linit R CL CS:Addr}
theorem D_stretches (T:Txt K mg c R CL CS ct_Linit pt_Linit):Def P w K mg base CX0 4 "stretches_of" ["layout"] (sp_stretches CL):=by
 have MT_Lblocks:=MT_Lblocks (P:=P) (w:=w) (base:=base) T
 have D_end_of:=D_end_of (P:=P) (w:=w) (base:=base) T
 have D_freeb:=D_freeb (P:=P) (w:=w) (base:=base) T
 have D_cells_of:=D_cells_of (P:=P) (w:=w) (base:=base) T
 refine def_of T.d_stretches sc_stretches (fun vs H Q E h=>?_) (fun _ _ _ _ _ _=>el1 fun _=>rfl) (fun f cdv A outer s H vs Q E hr h=>?_)
 ·obtain ⟨x,p,dx,n,zs,rs,rfl,_⟩:=h
  rfl
 ·obtain ⟨x,p,dx,n,zs,rs,rfl,hx,hp,tp,few,k⟩:=h
  have nd:=sc_stretches.nd
  refine ⟨_,(pss_cons (ps_set (i:=1) nd rfl (Or.inl rfl) (pe_lstA pa_nil))
   (pss_cons (ps_set (i:=2) nd rfl (Or.inl rfl) pe_int)
   (pss_cons (ps_for PassesOwn.never rfl (pi_list (pe_met0 (pv 0) T.clL MT_Lblocks hr)) (pg_name (i:=3) nd rfl (Or.inl rfl)) (pss_one (ps_if (pt_cmpR op_gt (pe_ix ix_tup (pv 3) pe_int (fun _ _=>rfl)) pe_int (nomark _)) (pss_cons (ps_expr (pe_appendA (pv 1) (pe_tupA (pa_cons (pv 2) (pa_cons (pe_ix ix_tup (pv 3) pe_int (fun _ _=>rfl)) (pa_cons (pe_def D_freeb hr (pa_cons (pv 0) (pa_cons (pv 2) (pa_cons (pe_ix ix_tup (pv 3) pe_int (fun _ _=>rfl)) pa_nil)))) pa_nil))))))
     (pss_one (ps_set (i:=2) nd rfl (Or.inl rfl) (pe_def D_end_of hr (pa_cons (pe_def D_cells_of hr (pa_cons (pv 3) pa_nil)) pa_nil))))) pss_nil)))
   (pss_cons (ps_expr (pe_appendA (pv 1) (pe_tupA (pa_cons (pv 2) (pa_cons (pe_fld (pv 0) rfl) (pa_cons (pe_def D_freeb hr (pa_cons (pv 0) (pa_cons (pv 2) (pa_cons (pe_fld (pv 0) rfl) pa_nil)))) pa_nil))))))
   (pss_one (ps_ret (pv 1))))))),?_⟩
  clear nd MT_Lblocks D_end_of D_freeb D_cells_of
  rw [show start ["layout", "stretches", "first", "block"] [.ref x]=[some (.ref x),none,none,none] from rfl]
  try dsimp only [cx_K,cx_K2]
  have iL_many:FldOk K CL "many" := ⟨T.clL,T.aL_many⟩
  have iL_rows:FldOk K CL "rows" := ⟨T.clL,T.aL_rows⟩
  have iS_stretches:FldOk K CS "stretches" := ⟨T.clS,T.aS_stretches⟩
  have o_hx:=Old.mk (M:=[]) hx nm0
  have o_hp:=Old.mk (M:=[]) hp nm0
  have o_tp:=OldP.mk tp
  have F:SH H [] H [] []:=SH.nil
  have few1:=few.1
  repeat k_meth
  rename_i _ sl
  rename Addr=>bl
  refine forL_by (xs:=zs) (fun i σ' H'=>∃(o3:Option V) (ys:List V),σ'=[some (.ref x),some (.ref sl),some (.int (spF rs (rs.take i)).2),o3]∧ys.length=(spF rs (rs.take i)).1.length∧SH H [] H' [(sl,.lst ys),(bl,.lst zs)] [.tps ys (rows3 (spF rs (rs.take i)).1)]) ⟨_,[],rfl,rfl,(F.addP (ys:=[]) (rs:=rows3 []) TupsAt.nil).sub SbC.s (fun _ h=>h)⟩ ?_ ?_ ?_
  ·clear F
   rintro i σ' H' _ ⟨_,ys,rfl,yl,F⟩
   exact SqA.e
  ·clear F
   rintro i v σ' H' hv ⟨_,ys,rfl,yl,F⟩
   obtain ⟨r,q1,e1,rfl,e2⟩:=rowsV_at tp hv
   have o_e2:=Old.mk (M:=[]) e2 nm0
   have sl1:=spF_len rs (rs.take i)
   rw [List.length_take] at sl1
   repeat k_meth
   refine i_dec (fun h=>?_) (fun h=>?_)
   ·have hp:0 < r.pn:=by lia
    repeat k_meth
    rename Addr=>zz
    have F2:=SH.app (ys:=ys) (rs:=rows3 (spF rs (rs.take i)).1) (q:=p_) (r:=row3 ((spF rs (rs.take i)).2,(r.st:Int),freeB rs (spF rs (rs.take i)).2 r.st)) F (LkP.m) (LkI.m)
    rw [← rows3_snoc] at F2
    refine ⟨_,ys++[.ref p_],by rw [take_snocR e1,spF_snoc,if_pos hp],by rw [take_snocR e1,spF_snoc,if_pos hp];simp [yl],?_⟩
    rw [take_snocR e1,spF_snoc,if_pos hp]
    exact F2.sub SbC.s SbI.s
   ·have hp:¬ 0 < r.pn:=by lia
    repeat k_meth
    refine ⟨_,ys,by rw [take_snocR e1,spF_snoc,if_neg hp],by rw [take_snocR e1,spF_snoc,if_neg hp];exact yl,?_⟩
    rw [take_snocR e1,spF_snoc,if_neg hp]
    exact F
  ·clear F
   rintro σ' H' ⟨_,ys,rfl,yl,F⟩
   have sl1:=spF_len rs rs
   rw [show zs.length=rs.length by rw [tp.1,rowsV_len],List.take_length] at F yl ⊢
   repeat k_meth
   rename Addr=>tq
   have F2:=SH.app (ys:=ys) (rs:=rows3 (spF rs rs).1) (q:=tq) (r:=row3 ((spF rs rs).2,(n:Int),freeB rs (spF rs rs).2 n)) F (LkP.m) (LkI.m)
   rw [← rows3_snoc] at F2
   exact k _ _ _ (SH.nwC (F:=F2)) (F2.tps List.mem_cons_self)
end
abbrev PR:=List (Option Int)
def pV:Option Int→V
 | none=>.non
 | some i=>.int i
def endR (s:Nat):PR:=some 0::List.replicate s none
def besV (r:Rw) (b:PR) (c:Int) (x:Nat):Option Int:=((b[((x:Int) - c).toNat]?).getD none).map fun y=>(r.sz:Int) + y
def besR (r:Rw) (b:PR) (c:Int) (s:Nat):PR:=if 0 < r.pn then endR s else some 0::(List.range s).map fun j=>besV r b c (j + 1)
theorem endR_len (s:Nat):(endR s).length=s + 1:=by simp [endR]
theorem besR_len (r:Rw) (b:PR) (c:Int) (s:Nat):(besR r b c s).length=s + 1:=by unfold besR;split <;> simp [endR]
theorem endR_V (s:Nat):(endR s).map pV=V.int 0::List.replicate s V.non:=by simp [endR,pV]
def prf (r:Rw) (b:PR) (c:Int) (s i:Nat):PR:=some 0::((List.range i).map (fun j=>besV r b c (j + 1))++List.replicate (s - i) none)
theorem prf_zero (r:Rw) (b:PR) (c:Int) (s:Nat):prf r b c s 0=endR s:=by simp [prf,endR]
theorem prf_all {r:Rw} {b:PR} {c:Int} {s:Nat} (h:¬ 0 < r.pn):prf r b c s s=besR r b c s:=by
 unfold prf besR
 rw [if_neg h]
 simp
theorem prf_next {r:Rw} {b:PR} {c:Int} {s i:Nat} (h:i < s):prf r b c s (i + 1)=(prf r b c s i).set (i + 1) (besV r b c (i + 1)):=by
 unfold prf
 rw [List.set_cons_succ,List.set_append_right _ _ (by simp)]
 obtain ⟨d,hd⟩:∃d,s - i=d + 1:=⟨s - i - 1,by lia⟩
 rw [show s - (i + 1)=d by lia,hd,List.replicate_succ,List.length_map,List.length_range,Nat.sub_self,List.set_cons_zero,List.range_succ,List.map_append,List.append_assoc]
 rfl
theorem prf_none {r:Rw} {b:PR} {c:Int} {s i:Nat} (h:i < s) (e:besV r b c (i + 1)=none):prf r b c s (i + 1)=prf r b c s i:=by
 unfold prf
 obtain ⟨d,hd⟩:∃d,s - i=d + 1:=⟨s - i - 1,by lia⟩
 rw [show s - (i + 1)=d by lia,hd,List.replicate_succ,List.range_succ,List.map_append,List.append_assoc,List.map_cons,List.map_nil,e]
 rfl
theorem prf_len {r:Rw} {b:PR} {c:Int} {s i:Nat} (h:i≤s):(prf r b c s i).length=s + 1:=by
 unfold prf
 simp
 lia
def sp_atend:Sp:=fun vs H Q _=>∃s:Nat,vs=[.int (s:Nat)]∧s≤240∧∀q H',New H H' q (.lst ((endR s).map pV))→Q (.ref q) H'
def sp_beside:Sp:=fun vs H Q _=>∃(q l:Addr) (r:Rw) (b:PR) (c:Int) (s:Nat),vs=[.ref q,.ref l,.int c,.int (s:Nat)]∧H q=some (.tup (rowV r))∧H l=some (.lst (b.map pV))∧b.length=s + 1∧(s≤240∧0≤c)∧∀z H',New H H' z (.lst ((besR r b c s).map pV))→Q (.ref z) H'
section
variable {H:Hp} {Q:VK} {E:XK} {q l:Addr} {r:Rw} {b:PR} {c:Int} {s:Nat}
instance go_atend:Go (sp_atend [.int (s:Nat)] H Q E) (Sd (s≤240) (∀q H',New H H' q (.lst ((endR s).map pV))→Q (.ref q) H')):=⟨fun k=>⟨s,rfl,k.1,k.2⟩⟩
end
section
variable {P:Program} {w:World} {K:W.Frag} {mg:Str→Option Value} {base:Heap} {c:Nat→Addr} {ct_Linit pt_Linit R CL CS:Addr}
theorem D_atend (T:Txt K mg c R CL CS ct_Linit pt_Linit):Def P w K mg base CX0 1 "row_at_end" ["size"] sp_atend:=by
 refine def_of T.d_atend sc_atend (fun vs H Q E h=>?_) (fun _ _ _ _ _ _=>el1 fun _=>rfl) (fun f cdv A outer s H vs Q E hr h=>?_)
 ·obtain ⟨s,rfl,_⟩:=h
  rfl
 ·obtain ⟨s,rfl,hs,k⟩:=h
  have nd:=sc_atend.nd
  refine ⟨_,(pss_one (ps_ret (pe_op op_catA (pe_lstA (pa_cons pe_int pa_nil)) (pe_op op_repA (pe_lstA (pa_cons pe_non pa_nil)) (pv 0))))),?_⟩
  clear nd 
  rw [show start ["size"] [.int (s:Nat)]=[some (.int (s:Nat))] from rfl]
  try dsimp only [cx_K,cx_K2]
  have iL_many:FldOk K CL "many" := ⟨T.clL,T.aL_many⟩
  have iL_rows:FldOk K CL "rows" := ⟨T.clL,T.aL_rows⟩
  have iS_stretches:FldOk K CS "stretches" := ⟨T.clS,T.aS_stretches⟩
  have F:SH H [] H [] []:=SH.nil
  repeat k_meth
  rw [show [V.int 0]++List.replicate s V.non=(endR s).map pV from (endR_V s).symm] at F
  exact k _ _ SH.nwC
theorem D_beside (T:Txt K mg c R CL CS ct_Linit pt_Linit):Def P w K mg base CX0 2 "row_beside" ["block", "beyond", "cells", "size"] sp_beside:=by
 have D_atend:=D_atend (P:=P) (w:=w) (base:=base) T
 refine def_of T.d_beside sc_beside (fun vs H Q E h=>?_) (fun _ _ _ _ _ _=>el4 fun _ _ _ _=>rfl) (fun f cdv A outer s H vs Q E hr h=>?_)
 ·obtain ⟨q,l,r,b,c,s,rfl,_⟩:=h
  rfl
 ·obtain ⟨q,l,r,b,c,s,rfl,hq,hl,bl,side,k⟩:=h
  have nd:=sc_beside.nd
  refine ⟨_,(pss_cons (ps_set (i:=4) nd rfl (Or.inl rfl) (pe_def D_atend hr (pa_cons (pv 3) pa_nil)))
   (pss_cons (ps_if (pt_cmpR op_gt (pe_ix ix_tup (pv 0) pe_int (fun _ _=>rfl)) pe_int (nomark _)) (pss_one (ps_ret (pv 4))) pss_nil)
   (pss_cons (ps_for PassesOwn.never rfl (pi_range2 rfl T.n_range (pa_cons pe_int (pa_cons (pe_op op_add (pv 3) pe_int) pa_nil))) (pg_name (i:=5) nd rfl (Or.inl rfl)) (pss_cons (ps_set (i:=6) nd rfl (Or.inl rfl) (pe_ix ix_list (pv 1) (pe_callB (call_maxN rfl) rfl T.n_max boot_max (pa_cons pe_int (pa_cons (pe_op op_sub (pv 5) (pv 2)) pa_nil))) (fun _ _=>rfl)))
    (pss_one (ps_if (pt_cmpR op_notNN (pv 6) pe_non (nomark _)) (pss_one (ps_asg (pe_op op_add (pe_ix ix_tup (pv 0) pe_int (fun _ _=>rfl)) (pv 6)) (pg_sub (pv 4) (pv 5) set_listA))) pss_nil))))
   (pss_one (ps_ret (pv 4)))))),?_⟩
  clear nd D_atend
  rw [show start ["block", "beyond", "cells", "size", "row", "longer", "price"] [.ref q,.ref l,.int c,.int (s:Nat)]=[some (.ref q),some (.ref l),some (.int c),some (.int (s:Nat)),none,none,none] from rfl]
  try dsimp only [cx_K,cx_K2]
  have iL_many:FldOk K CL "many" := ⟨T.clL,T.aL_many⟩
  have iL_rows:FldOk K CL "rows" := ⟨T.clL,T.aL_rows⟩
  have iS_stretches:FldOk K CS "stretches" := ⟨T.clS,T.aS_stretches⟩
  have o_hq:=Old.mk (M:=[]) hq nm0
  have o_hl:=Old.mk (M:=[]) hl nm0
  have F:SH H [] H [] []:=SH.nil
  obtain ⟨s240,c0⟩:=side
  repeat k_meth
  refine i_dec (fun h=>?_) (fun h=>?_)
  ·repeat k_meth
   rw [show endR s=besR r b c s from (if_pos (by lia)).symm] at F
   exact k _ _ SH.nwC
  repeat k_meth
  rename Addr=>rw_
  rw [show ((s:Int) + 1 - 1).toNat=s by lia]
  refine forR_by (fun j σ' H'=>∃(o5 o6:Option V),σ'=[some (.ref q),some (.ref l),some (.int c),some (.int (s:Nat)),some (.ref rw_),o5,o6]∧SH H [] H' [(rw_,.lst ((prf r b c s j).map pV))] []) ⟨_,_,rfl,by rw [prf_zero];exact F⟩ ?_ ?_
  ·clear F
   rintro j σ' H' hj ⟨_,_,rfl,F⟩
   obtain ⟨y,hy⟩:∃y,b[((((j + 1:Nat):Int)) - c).toNat]?=some y:=⟨_,List.getElem?_eq_getElem (by lia)⟩
   have at_y:AtI (b.map pV) (max 0 (1 + (j:Int) - c)) (pV y):=⟨by
    rw [show max 0 (1 + (j:Int) - c)=(((((j + 1:Nat):Int)) - c).toNat:Int) by lia]
    exact atI_nat (by rw [List.getElem?_map,hy];rfl)⟩
   have ev:besV r b c (j + 1)=y.map fun z=>(r.sz:Int) + z:=by unfold besV;rw [hy];rfl
   have pl:=prf_len (r:=r) (b:=b) (c:=c) (s:=s) (i:=j) (by lia)
   cases y with
   | none =>
    have at_z:AtI (b.map pV) (max 0 (1 + (j:Int) - c)) .non:=at_y
    repeat k_meth
    rw [prf_none hj ev]
    exact ⟨_,_,rfl,F⟩
   | some z =>
    have at_z:AtI (b.map pV) (max 0 (1 + (j:Int) - c)) (.int z):=at_y
    repeat k_meth
    rw [show (1 + (j:Int)).toNat=j + 1 by lia,show V.int ((r.sz:Int) + z)=pV (some ((r.sz:Int) + z)) from rfl,← List.map_set] at F
    rw [prf_next hj,ev]
    exact ⟨_,_,rfl,F⟩
  ·clear F
   rintro σ' H' ⟨_,_,rfl,F⟩
   rw [prf_all (by lia)] at F
   repeat k_meth
   exact k _ _ SH.nwC
end
instance go_beside {H:Hp} {Q:VK} {E:XK} {q l:Addr} {r:Rw} {b:PR} {c:Int} {s:Nat} [h:Hat H q (.tup (rowV r))] [h2:Hat H l (.lst (b.map pV))]:Go (sp_beside [.ref q,.ref l,.int c,.int (s:Nat)] H Q E) (Sd (b.length=s + 1) (Sd (s≤240∧0≤c) (∀z H',New H H' z (.lst ((besR r b c s).map pV))→Q (.ref z) H'))):=⟨fun k=>⟨q,l,r,b,c,s,rfl,h.e,h2.e,k.1,k.2.1,k.2.2⟩⟩
def LsAt (H:Hp) (ys:List V) (T:List PR):Prop:=ys.length=T.length∧∀(j:Nat) (r:PR),T[j]?=some r→∃q:Addr,ys[j]?=some (V.ref q)∧H q=some (.lst (r.map pV))
theorem LsAt.kept {H H':Hp} {ys:List V} {T:List PR} (h:LsAt H ys T) (k:∀q u,V.ref q∈ys→H q=some u→H' q=some u):LsAt H' ys T:=⟨h.1,fun j r e=>by
 obtain ⟨q,a,b⟩:=h.2 j r e
 exact ⟨q,a,k q _ (List.mem_of_getElem? a) b⟩⟩
theorem LsAt.nil {H:Hp}:LsAt H [] []:=⟨rfl,fun j r e=>by cases e⟩
theorem LsAt.snoc {H:Hp} {ys:List V} {T:List PR} {q:Addr} {r:PR} (h:LsAt H ys T) (e:H q=some (.lst (r.map pV))):LsAt H (ys++[.ref q]) (T++[r]):=by
 refine ⟨by simp [h.1],fun j r' e'=>?_⟩
 rcases Nat.lt_or_ge j T.length with hj | hj
 ·rw [List.getElem?_append_left hj] at e'
  obtain ⟨q',a,b⟩:=h.2 j r' e'
  exact ⟨q',by rw [List.getElem?_append_left (by rw [h.1];exact hj)];exact a,b⟩
 ·rw [List.getElem?_append_right hj] at e'
  cases h0:j - T.length with
  | zero =>
   rw [h0] at e'
   cases e'
   exact ⟨q,by rw [List.getElem?_append_right (by rw [h.1];exact hj),h.1,h0];rfl,e⟩
  | succ d=>rw [h0] at e';simp at e'
theorem LsAt.rev {H:Hp} {ys:List V} {T:List PR} (h:LsAt H ys T):LsAt H ys.reverse T.reverse:=by
 refine ⟨by simp [h.1],fun j r e=>?_⟩
 have hj:j < T.length:=by have:=(List.getElem?_eq_some_iff.mp e).1;simpa using this
 rw [List.getElem?_reverse hj] at e
 obtain ⟨q,a,b⟩:=h.2 _ r e
 exact ⟨q,by rw [List.getElem?_reverse (by rw [h.1];exact hj),h.1];exact a,b⟩
def leftR (rs:List Rw) (gs:List Int) (s:Nat):Nat→PR
 | 0=>endR s
 | i + 1=>match rs[i]? with
  | some r=>besR r (leftR rs gs s i) (gs.getD i 0) s
  | none=>endR s
def leftT (rs:List Rw) (gs:List Int) (s m:Nat):List PR:=(List.range (m + 1)).map (leftR rs gs s)
theorem leftR_len (rs:List Rw) (gs:List Int) (s i:Nat):(leftR rs gs s i).length=s + 1:=by
 cases i with
 | zero=>exact endR_len s
 | succ i =>
  unfold leftR
  cases rs[i]? with
  | none=>exact endR_len s
  | some r=>exact besR_len _ _ _ _
theorem leftT_next {rs:List Rw} {gs:List Int} {s m:Nat} {r:Rw} (h:rs[m]?=some r):leftT rs gs s (m + 1)=leftT rs gs s m++[besR r (leftR rs gs s m) (gs.getD m 0) s]:=by
 unfold leftT
 rw [List.range_succ,List.map_append,List.map_cons,List.map_nil]
 congr 2
 show leftR rs gs s (m + 1)=_
 rw [leftR,h]
theorem leftT_at {rs:List Rw} {gs:List Int} {s m:Nat}:(leftT rs gs s m)[m]?=some (leftR rs gs s m):=by
 unfold leftT
 rw [List.getElem?_map,List.getElem?_range (by lia)]
 rfl
def sp_left (CL:Addr):Sp:=fun vs H Q _=>∃(x p dx:Addr) (n:Nat) (zs:List V) (rs:List Rw) (s:Nat),vs=[.ref x,.int (s:Nat)]∧H x=some (.ins CL dx (lF (n:Nat) p))∧H p=some (.lst zs)∧TupsAt H zs (rowsV rs)∧rs.length≤40∧s≤240∧(∀g∈gapsOf n rs,0≤g)∧∀q ys H',Same H H'→H' q=some (.lst ys)→LsAt H' ys (leftT rs (gapsOf n rs) s rs.length)→(∀a u,H a=some u→a≠q∧V.ref a ∉ ys)→V.ref q ∉ ys→Q (.ref q) H'
section
variable {P:Program} {w:World} {K:W.Frag} {mg:Str→Option Value} {base:Heap} {c:Nat→Addr} {ct_Linit pt_Linit R CL CS:Addr}
theorem D_left (T:Txt K mg c R CL CS ct_Linit pt_Linit):Def P w K mg base CX0 3 "left_prices" ["layout", "size"] (sp_left CL):=by
 have D_gapsof:=D_gapsof (P:=P) (w:=w) (base:=base) T
 have D_atend:=D_atend (P:=P) (w:=w) (base:=base) T
 have MT_Lblocks:=MT_Lblocks (P:=P) (w:=w) (base:=base) T
 have D_beside:=D_beside (P:=P) (w:=w) (base:=base) T
 refine def_of T.d_left sc_left (fun vs H Q E h=>?_) (fun _ _ _ _ _ _=>el2 fun _ _=>rfl) (fun f cdv A outer s H vs Q E hr h=>?_)
 ·obtain ⟨x,p,dx,n,zs,rs,s,rfl,_⟩:=h
  rfl
 ·obtain ⟨x,p,dx,n,zs,rs,s,rfl,hx,hp,tp,few,s240,gpos,k⟩:=h
  have nd:=sc_left.nd
  refine ⟨_,(pss_cons (ps_set (i:=2) nd rfl (Or.inl rfl) (pe_def D_gapsof hr (pa_cons (pv 0) pa_nil)))
   (pss_cons (ps_set (i:=3) nd rfl (Or.inl rfl) (pe_lstA (pa_cons (pe_def D_atend hr (pa_cons (pv 1) pa_nil)) pa_nil)))
   (pss_cons (ps_for PassesOwn.never rfl (pi_enum rfl T.n_enumerate (pa_cons (pe_met0 (pv 0) T.clL MT_Lblocks hr) pa_nil)) (pg_tup rfl (pgs_cons (pg_name (i:=4) nd rfl (Or.inl rfl)) (pgs_cons (pg_name (i:=5) nd rfl (Or.inl rfl)) pgs_nil))) (pss_one (ps_expr (pe_appendA (pv 3) (pe_def D_beside hr (pa_cons (pv 5) (pa_cons (pe_ix ix_list (pv 3) (pv 4) (fun _ _=>rfl)) (pa_cons (pe_ix ix_list (pv 2) (pv 4) (fun _ _=>rfl)) (pa_cons (pv 1) pa_nil)))))))))
   (pss_one (ps_ret (pv 3)))))),?_⟩
  clear nd D_gapsof D_atend MT_Lblocks D_beside
  rw [show start ["layout", "size", "gaps", "table", "at", "block"] [.ref x,.int (s:Nat)]=[some (.ref x),some (.int (s:Nat)),none,none,none,none] from rfl]
  try dsimp only [cx_K,cx_K2]
  have iL_many:FldOk K CL "many" := ⟨T.clL,T.aL_many⟩
  have iL_rows:FldOk K CL "rows" := ⟨T.clL,T.aL_rows⟩
  have iS_stretches:FldOk K CS "stretches" := ⟨T.clS,T.aS_stretches⟩
  have o_hx:=Old.mk (M:=[]) hx nm0
  have o_hp:=Old.mk (M:=[]) hp nm0
  have o_tp:=OldP.mk tp
  have F:SH H [] H [] []:=SH.nil
  have few2:rs.length≤40:=few
  have yl:zs.length=rs.length:=by rw [tp.1,rowsV_len]
  have gl_:(gapsOf n rs).length=rs.length + 1:=by unfold gapsOf;rw [List.length_append,gp_len];rfl
  repeat k_meth
  rename_i _ gl _ er _ tb
  rename Addr=>bl
  have fre:∀a u,H a=some u→V.ref a ∉ [V.ref er]:=fun a u e hm=>by
   cases List.mem_singleton.mp hm
   exact F.fresh (LkL.m (o:=.lst _)) nm0 er u e rfl
  refine forE_by (xs:=zs) (fun i σ' H'=>∃(o4 o5:Option V) (ys:List V),σ'=[some (.ref x),some (.int (s:Nat)),some (.ref gl),some (.ref tb),o4,o5]∧LsAt H' ys (leftT rs (gapsOf n rs) s i)∧(∀a u,H a=some u→V.ref a ∉ ys)∧V.ref tb ∉ ys∧SH H [] H' [(bl,.lst zs),(tb,.lst ys),(gl,.lst ((gapsOf n rs).map V.int))] []) ⟨_,_,[.ref er],rfl,LsAt.snoc LsAt.nil hatC,fre,fun hm=>SH.neC (F:=F) (a:=tb) (b:=er) (by simpa using hm),F.sub SbC.s SbI.s⟩ ?_ ?_ ?_
  ·clear F
   rintro i σ' H' _ ⟨_,_,ys,rfl,_,_,_,F⟩
   exact SqA.e
  ·clear F
   rintro i v T σ' H' H2 hv ⟨_,_,ys,rfl,ls,fr,nt,F⟩ nw
   obtain ⟨r,q1,e1,rfl,e2⟩:=rowsV_at tp hv
   obtain ⟨ql,hl,eql⟩:=ls.2 i _ leftT_at
   have sm0:=F.sm
   have ysl:ys.length < sizeLine:=by
    have h1:=ls.1
    have h2:=(List.getElem?_eq_some_iff.mp e1).1
    unfold leftT at h1
    rw [List.length_map,List.length_range] at h1
    rw [sizeLine_eq]
    lia
   have htb:H' tb=some (.lst ys):=hatC
   have hgl:H' gl=some (.lst ((gapsOf n rs).map V.int)):=hatC
   have ne1:gl≠tb:=SH.neC (F:=F)
   have e3:=F.sm _ _ e2
   have ne2:q1≠tb:=fun z=>by rw [z,htb] at e3;cases e3
   have ne3:ql≠tb:=fun z=>nt (by rw [← z];exact List.mem_of_getElem? hl)
   have back:∀(H4:Hp) (zs2:List V),Kp tb H' H4→H4 tb=some (.lst zs2)→SH H [] H4 [(bl,.lst zs),(tb,.lst zs2),(gl,.lst ((gapsOf n rs).map V.int))] []:=fun H4 zs2 kp e=>F.kpL kp e LkU.u
   clear F
   have F:SH H' [tb] H' [(tb,.lst ys)] []:=SH.nil.addM List.mem_cons_self htb rfl (by simp)
   have o_gl:=Old.mk (M:=[tb]) hgl (nm1 ne1)
   have o_q1:=Old.mk (M:=[tb]) e3 (nm1 ne2)
   have o_ql:=Old.mk (M:=[tb]) eql (nm1 ne3)
   replace F:=(F.same nw.s).addT nw.e
   have at_r:AtI ys ((i:Nat):Int) (.ref ql):=⟨atI_nat hl⟩
   obtain ⟨gv,hgv⟩:∃gv,(gapsOf n rs)[i]?=some gv:=⟨_,List.getElem?_eq_getElem (by have:=(List.getElem?_eq_some_iff.mp e1).1;lia)⟩
   have at_g:AtI ((gapsOf n rs).map V.int) ((i:Nat):Int) (.int gv):=⟨atI_nat (by rw [List.getElem?_map,hgv];rfl)⟩
   have bl1:=leftR_len rs (gapsOf n rs) s i
   have sd1:s≤240∧0≤gv:=⟨s240,gpos gv (List.mem_of_getElem? hgv)⟩
   repeat k_meth
   refine ⟨_,_,ys++[.ref p_],rfl,?_,fun a u e hm=>?_,fun hm=>?_,back _ _ F.kpo hatC⟩
   ·rw [leftT_next e1,show (gapsOf n rs).getD i 0=gv by rw [List.getD_eq_getElem?_getD,hgv];rfl]
    exact LsAt.snoc (ls.kept fun q u hm e=>F.fr q u (nm1 fun z=>nt (z▸hm)) e) hatC
   ·rcases List.mem_append.mp hm with hm | hm
    ·exact fr a u e hm
    ·exact F.fresh (LkL.m (o:=.lst _)) (nm1 (SH.neC (F:=F))) a u (sm0 _ _ e) (by simpa using hm)
   ·rcases List.mem_append.mp hm with hm | hm
    ·exact nt hm
    ·exact SH.neC (F:=F) (a:=tb) (b:=p_) (by simpa using hm)
  ·clear F
   rintro σ' H' ⟨_,_,ys,rfl,ls,fr,nt,F⟩
   rw [yl] at ls
   repeat k_meth
   exact k tb ys _ F.sm hatC ls (fun a u e=>⟨F.fresh (LkL.m (o:=.lst _)) nm0 a u e,fr a u e⟩) nt
end
def rightR (rs:List Rw) (gs:List Int) (s:Nat):Nat→PR
 | 0=>endR s
 | i + 1=>match rs[rs.length - 1 - i]? with
  | some r=>besR r (rightR rs gs s i) (gs.getD (rs.length - i) 0) s
  | none=>endR s
def rightT (rs:List Rw) (gs:List Int) (s m:Nat):List PR:=(List.range (m + 1)).map (rightR rs gs s)
theorem rightR_len (rs:List Rw) (gs:List Int) (s i:Nat):(rightR rs gs s i).length=s + 1:=by
 cases i with
 | zero=>exact endR_len s
 | succ i =>
  unfold rightR
  cases rs[rs.length - 1 - i]? with
  | none=>exact endR_len s
  | some r=>exact besR_len _ _ _ _
theorem rightT_next {rs:List Rw} {gs:List Int} {s m:Nat} {r:Rw} (h:rs[rs.length - 1 - m]?=some r):rightT rs gs s (m + 1)=rightT rs gs s m++[besR r (rightR rs gs s m) (gs.getD (rs.length - m) 0) s]:=by
 unfold rightT
 rw [List.range_succ,List.map_append,List.map_cons,List.map_nil]
 congr 2
 show rightR rs gs s (m + 1)=_
 rw [rightR,h]
theorem rightT_at {rs:List Rw} {gs:List Int} {s m:Nat}:(rightT rs gs s m)[m]?=some (rightR rs gs s m):=by
 unfold rightT
 rw [List.getElem?_map,List.getElem?_range (by lia)]
 rfl
theorem at_last {ys:List V} {v:V} {n:Nat} (hn:ys.length=n + 1) (h:ys[n]?=some v):AtI ys (-1) v:=⟨by
 unfold atI ixN
 rw [if_neg (by decide),if_pos (by lia),Option.bind_some,show (-1 + (ys.length:Int)).toNat=n by lia]
 exact h⟩
instance go_lrev {K:W.Frag} {ta:TA} {σ:L2.St} {H:Hp} {Q:VK}:Go (tLRev K ta σ H Q) (ta σ H fun vs H1=>∃a xs,vs=[.ref a]∧SqL K H1 a xs∧∀l H',New H1 H' l (.lst xs.reverse)→Q (.ref l) H'):=⟨id⟩
theorem LsAt.has {H:Hp} {ys:List V} {T:List PR} {q:Addr} (h:LsAt H ys T) (hm:V.ref q∈ys):∃u,H q=some u:=by
 obtain ⟨j,hj⟩:=List.getElem?_of_mem hm
 have hl:j < T.length:=by have:=(List.getElem?_eq_some_iff.mp hj).1;rw [h.1] at this;exact this
 obtain ⟨q',a,b⟩:=h.2 j _ (List.getElem?_eq_getElem hl)
 rw [hj] at a
 cases a
 exact ⟨_,b⟩
def sp_right (CL:Addr):Sp:=fun vs H Q _=>∃(x p dx:Addr) (n:Nat) (zs:List V) (rs:List Rw) (s:Nat),vs=[.ref x,.int (s:Nat)]∧H x=some (.ins CL dx (lF (n:Nat) p))∧H p=some (.lst zs)∧TupsAt H zs (rowsV rs)∧rs.length≤40∧s≤240∧(∀g∈gapsOf n rs,0≤g)∧∀q ys H',Same H H'→H' q=some (.lst ys)→LsAt H' ys (rightT rs (gapsOf n rs) s rs.length).reverse→(∀a u,H a=some u→a≠q∧V.ref a ∉ ys)→V.ref q ∉ ys→Q (.ref q) H'
section
variable {P:Program} {w:World} {K:W.Frag} {mg:Str→Option Value} {base:Heap} {c:Nat→Addr} {ct_Linit pt_Linit R CL CS:Addr}
theorem D_right (T:Txt K mg c R CL CS ct_Linit pt_Linit):Def P w K mg base CX0 3 "right_prices" ["layout", "size"] (sp_right CL):=by
 have D_gapsof:=D_gapsof (P:=P) (w:=w) (base:=base) T
 have MT_Lblocks:=MT_Lblocks (P:=P) (w:=w) (base:=base) T
 have D_atend:=D_atend (P:=P) (w:=w) (base:=base) T
 have D_beside:=D_beside (P:=P) (w:=w) (base:=base) T
 refine def_of T.d_right sc_right (fun vs H Q E h=>?_) (fun _ _ _ _ _ _=>el2 fun _ _=>rfl) (fun f cdv A outer s H vs Q E hr h=>?_)
 ·obtain ⟨x,p,dx,n,zs,rs,s,rfl,_⟩:=h
  rfl
 ·obtain ⟨x,p,dx,n,zs,rs,s,rfl,hx,hp,tp,few,s240,gpos,k⟩:=h
  have nd:=sc_right.nd
  refine ⟨_,(pss_cons (ps_set (i:=2) nd rfl (Or.inl rfl) (pe_def D_gapsof hr (pa_cons (pv 0) pa_nil)))
   (pss_cons (ps_set (i:=3) nd rfl (Or.inl rfl) (pe_met0 (pv 0) T.clL MT_Lblocks hr))
   (pss_cons (ps_set (i:=4) nd rfl (Or.inl rfl) (pe_lstA (pa_cons (pe_def D_atend hr (pa_cons (pv 1) pa_nil)) pa_nil)))
   (pss_cons (ps_for PassesOwn.never rfl (pi_rangeD rfl T.n_range (pa_cons (pe_op op_sub (pe_callB call_lenN rfl T.n_len boot_len (pa_cons (pv 3) pa_nil)) pe_int) (pa_cons (pe_un un_neg pe_int) (pa_cons (pe_un un_neg pe_int) pa_nil)))) (pg_name (i:=5) nd rfl (Or.inl rfl)) (pss_one (ps_expr (pe_appendA (pv 4) (pe_def D_beside hr (pa_cons (pe_ix ix_list (pv 3) (pv 5) (fun _ _=>rfl)) (pa_cons (pe_ix ix_list (pv 4) (pe_un un_neg pe_int) (fun _ _=>rfl)) (pa_cons (pe_ix ix_list (pv 2) (pe_op op_add (pv 5) pe_int) (fun _ _=>rfl)) (pa_cons (pv 1) pa_nil)))))))))
   (pss_one (ps_ret (pe_listRev rfl rfl T.n_list rfl T.n_reversed (pa_cons (pv 4) pa_nil)))))))),?_⟩
  clear nd D_gapsof MT_Lblocks D_atend D_beside
  rw [show start ["layout", "size", "gaps", "blocks", "falling", "at"] [.ref x,.int (s:Nat)]=[some (.ref x),some (.int (s:Nat)),none,none,none,none] from rfl]
  try dsimp only [cx_K,cx_K2]
  have iL_many:FldOk K CL "many" := ⟨T.clL,T.aL_many⟩
  have iL_rows:FldOk K CL "rows" := ⟨T.clL,T.aL_rows⟩
  have iS_stretches:FldOk K CS "stretches" := ⟨T.clS,T.aS_stretches⟩
  have o_hx:=Old.mk (M:=[]) hx nm0
  have o_hp:=Old.mk (M:=[]) hp nm0
  have o_tp:=OldP.mk tp
  have F:SH H [] H [] []:=SH.nil
  have few2:rs.length≤40:=few
  have yl:zs.length=rs.length:=by rw [tp.1,rowsV_len]
  have gl_:(gapsOf n rs).length=rs.length + 1:=by unfold gapsOf;rw [List.length_append,gp_len];rfl
  repeat k_meth
  rename_i _ gl _ bl _ er
  rename Addr=>tb
  have fre:∀a u,H a=some u→V.ref a ∉ [V.ref er]:=fun a u e hm=>by
   cases List.mem_singleton.mp hm
   exact F.fresh (LkL.m (o:=.lst _)) nm0 er u e rfl
  rw [show ((zs.length:Int) - 1 + 1).toNat=rs.length by lia]
  refine forS_by (fun i σ' H'=>∃(o5:Option V) (ys:List V),σ'=[some (.ref x),some (.int (s:Nat)),some (.ref gl),some (.ref bl),some (.ref tb),o5]∧LsAt H' ys (rightT rs (gapsOf n rs) s i)∧(∀a u,H a=some u→V.ref a ∉ ys)∧V.ref tb ∉ ys∧SH H [] H' [(bl,.lst zs),(tb,.lst ys),(gl,.lst ((gapsOf n rs).map V.int))] []) ⟨_,[.ref er],rfl,LsAt.snoc LsAt.nil hatC,fre,fun hm=>SH.neC (F:=F) (a:=tb) (b:=er) (by simpa using hm),F.sub SbC.s SbI.s⟩ ?_ ?_
  ·clear F
   rintro i σ' H' hi ⟨_,ys,rfl,ls,fr,nt,F⟩
   obtain ⟨r,e1⟩:∃r,rs[rs.length - 1 - i]?=some r:=⟨_,List.getElem?_eq_getElem (by lia)⟩
   obtain ⟨v,hv⟩:∃v,zs[rs.length - 1 - i]?=some v:=⟨_,List.getElem?_eq_getElem (by lia)⟩
   obtain ⟨r',q1,e1',rfl,e2⟩:=rowsV_at tp hv
   rw [e1] at e1'
   cases e1'
   obtain ⟨ql,hl,eql⟩:=ls.2 i _ rightT_at
   have ysn:ys.length=i + 1:=by
    have h1:=ls.1
    unfold rightT at h1
    rw [List.length_map,List.length_range] at h1
    exact h1
   have sm0:=F.sm
   have ysl:ys.length < sizeLine:=by rw [sizeLine_eq];lia
   have htb:H' tb=some (.lst ys):=hatC
   have hgl:H' gl=some (.lst ((gapsOf n rs).map V.int)):=hatC
   have hbl:H' bl=some (.lst zs):=hatC
   have ne1:gl≠tb:=SH.neC (F:=F)
   have ne4:bl≠tb:=SH.neC (F:=F)
   have e3:=F.sm _ _ e2
   have ne2:q1≠tb:=fun z=>by rw [z,htb] at e3;cases e3
   have ne3:ql≠tb:=fun z=>nt (by rw [← z];exact List.mem_of_getElem? hl)
   have back:∀(H4:Hp) (zs2:List V),Kp tb H' H4→H4 tb=some (.lst zs2)→SH H [] H4 [(bl,.lst zs),(tb,.lst zs2),(gl,.lst ((gapsOf n rs).map V.int))] []:=fun H4 zs2 kp e=>F.kpL kp e LkU.u
   clear F
   have F:SH H' [tb] H' [(tb,.lst ys)] []:=SH.nil.addM List.mem_cons_self htb rfl (by simp)
   have o_gl:=Old.mk (M:=[tb]) hgl (nm1 ne1)
   have o_bl:=Old.mk (M:=[tb]) hbl (nm1 ne4)
   have o_q1:=Old.mk (M:=[tb]) e3 (nm1 ne2)
   have o_ql:=Old.mk (M:=[tb]) eql (nm1 ne3)
   have at_r:AtI ys (-1) (.ref ql):=at_last ysn hl
   have at_b:AtI zs ((zs.length:Int) - 1 + (i:Int) * (-1)) (.ref q1):=⟨by rw [show (zs.length:Int) - 1 + (i:Int) * (-1)=((rs.length - 1 - i:Nat):Int) by lia];exact atI_nat hv⟩
   obtain ⟨gv,hgv⟩:∃gv,(gapsOf n rs)[rs.length - i]?=some gv:=⟨_,List.getElem?_eq_getElem (by lia)⟩
   have at_g:AtI ((gapsOf n rs).map V.int) ((zs.length:Int) - 1 + (i:Int) * (-1) + 1) (.int gv):=⟨by rw [show (zs.length:Int) - 1 + (i:Int) * (-1) + 1=((rs.length - i:Nat):Int) by lia];exact atI_nat (by rw [List.getElem?_map,hgv];rfl)⟩
   have bl1:=rightR_len rs (gapsOf n rs) s i
   have sd1:s≤240∧0≤gv:=⟨s240,gpos gv (List.mem_of_getElem? hgv)⟩
   repeat k_meth
   refine ⟨_,ys++[.ref p_],rfl,?_,fun a u e hm=>?_,fun hm=>?_,back _ _ F.kpo hatC⟩
   ·rw [rightT_next e1,show (gapsOf n rs).getD (rs.length - i) 0=gv by rw [List.getD_eq_getElem?_getD,hgv];rfl]
    exact LsAt.snoc (ls.kept fun q u hm e=>F.fr q u (nm1 fun z=>nt (z▸hm)) e) hatC
   ·rcases List.mem_append.mp hm with hm | hm
    ·exact fr a u e hm
    ·exact F.fresh (LkL.m (o:=.lst _)) (nm1 (SH.neC (F:=F))) a u (sm0 _ _ e) (by simpa using hm)
   ·rcases List.mem_append.mp hm with hm | hm
    ·exact nt hm
    ·exact SH.neC (F:=F) (a:=tb) (b:=p_) (by simpa using hm)
  ·clear F
   rintro σ' H' ⟨_,ys,rfl,ls,fr,nt,F⟩
   repeat k_meth
   refine ⟨tb,ys,rfl,SqA.e,fun q H2 nw=>?_⟩
   have sm0:=F.sm
   refine k q _ _ (sm0.trans nw.s) nw.e (ls.kept fun q u _ e=>nw.s _ _ e).rev (fun a u e=>⟨nw.n a u (sm0 _ _ e),fun hm=>fr a u e (List.mem_reverse.mp hm)⟩) fun hm=>?_
   obtain ⟨u,hu⟩:=ls.has (List.mem_reverse.mp hm)
   exact nw.n q u hu rfl
end
end K77
namespace K77
open PySem L2 PyProof.Rows
local macro_rules | `(tactic| k_tabat)=>`(tactic| first
 | with_reducible assumption
 | (with_reducible exact New.e (by with_reducible assumption))
 | (with_reducible refine New.at (by with_reducible assumption) ?_;k_tabat)
 | (with_reducible refine Off.at (by with_reducible assumption) (by k_ne) ?_;k_tabat)
 | (with_reducible refine Kp.at (by with_reducible assumption) (by k_ne) ?_;k_tabat)
 | (with_reducible refine Same.at (by with_reducible assumption) ?_;k_tabat))
local macro_rules | `(tactic| k_ne)=>`(tactic| first
 | with_reducible assumption
 | (with_reducible exact Ne.symm (by with_reducible assumption))
 | (with_reducible exact New.neA (by with_reducible assumption) (by k_in))
 | (with_reducible exact New.neB (by with_reducible assumption) (by k_in)))
local macro_rules | `(tactic| k_in)=>`(tactic| first
 | (with_reducible exact Hs.of (by with_reducible assumption))
 | (with_reducible exact New.hs (by with_reducible assumption))
 | (with_reducible refine New.hsAt (by with_reducible assumption) ?_;k_in)
 | (with_reducible refine Off.hsAt (by with_reducible assumption) (by k_ne) ?_;k_in)
 | (with_reducible refine Kp.hsAt (by with_reducible assumption) (by k_ne) ?_;k_in)
 | (with_reducible refine Same.hsAt (by with_reducible assumption) ?_;k_in))
local macro_rules | `(tactic| k_flat)=>`(tactic| first
 | with_reducible assumption
 | (with_reducible exact SqL.of (by k_tabat))
 | (with_reducible exact SqT.of (by k_tabat))
 | (with_reducible refine Same.seq (by with_reducible assumption) ?_;k_flat)
 | (with_reducible refine Same.seq (New.s (by with_reducible assumption)) ?_;k_flat)
 | (with_reducible refine Off.seq (by with_reducible assumption) (by k_ne) ?_;k_flat))
local macro_rules | `(tactic| k_keys)=>`(tactic| first
 | with_reducible assumption
 | (with_reducible exact atI_0)
 | (with_reducible exact atL1)
 | (with_reducible exact atL2)
 | (with_reducible exact atL3)
 | with_unfolding_all rfl)
local macro_rules | `(tactic| k_room)=>`(tactic| first
 | with_reducible assumption
 | decide
 | lia
 | (simp only [List.length_cons,List.length_nil,List.length_map,List.length_append,List.length_replicate];lia))
local macro_rules | `(tactic| k_inst)=>`(tactic| first
 | (with_reducible refine small_line ?_;first | lia | (simp only [List.length_cons,List.length_nil,List.length_map,List.length_append,List.length_replicate,rowsN_len];lia))
 | (with_reducible refine small_lt ?_;first | lia | (simp only [List.length_cons,List.length_nil,List.length_map,List.length_append,List.length_replicate,rowsN_len];lia))
 | with_unfolding_all exact Nat.le_of_ble_eq_true rfl
 | lia)
local macro_rules | `(tactic| k_upd)=>`(tactic| first
 | with_reducible assumption
 | (intro b u e;k_tabat))
local macro_rules | `(tactic| k_updF)=>`(tactic| first
 | with_reducible assumption
 | (intro b u nb e;k_tabat))
local macro_rules | `(tactic| k_all)=>`(tactic| first
 | with_reducible assumption
 | (refine ⟨?_,?_,?_⟩;(focus (intro b u e;k_tabat));(focus k_tabat);(focus (intro b u e;k_ne))))
local macro_rules | `(tactic| k_mem)=>`(tactic| with_reducible (first
 | refine go_seq ?_ | refine go_asg ?_ | refine go_ret ?_ | refine go_if ?_ | refine go_drop ?_ | refine go_next ?_ | refine go_nx ?_ | refine w_rt ?_
 | refine go_test ?_ | refine go_b ?_ | refine go_op ?_ | refine go_cb ?_ | refine go_cons ?_ | refine go_nil ?_ | refine w_call ?_ | refine w_c ?_
 | refine wv0 ?_ | refine wv1 ?_ | refine wv2 ?_ | refine wv3 ?_ | refine wv4 ?_ | refine wv5 ?_ | refine wv6 ?_ | refine wv7 ?_ | refine wv8 ?_ | refine wv9 ?_ | refine wv10 ?_ | refine wv11 ?_ | refine wv12 ?_ | refine wv13 ?_
 | refine wn0 ?_ | refine wn1 ?_ | refine wn2 ?_ | refine wn3 ?_ | refine wn4 ?_ | refine wn5 ?_ | refine wn6 ?_ | refine wn7 ?_ | refine wn8 ?_ | refine wn9 ?_ | refine wn10 ?_ | refine wn11 ?_ | refine wn12 ?_ | refine wn13 ?_
 | refine w_i0 ?_ | refine w_u ?_ | refine w_un ?_ | refine w_eqi ?_ | refine w_nei ?_ | refine w_eqs ?_ | refine w_nes ?_ | refine w_eqb ?_ | refine w_neb ?_ | refine w_bl ?_ | refine w_not ?_ | refine w_and ?_ | refine w_or ?_ | refine w_notV ?_ | refine w_andV ?_ | refine w_orV ?_
 | refine w_ifE ?_ | refine w_chain ?_ | refine w_bm ?_ | refine w_bm0 ?_ | refine w_sub ?_ | refine w_slice ?_ | refine w_noPart ?_ | refine w_part ?_ | refine w_int ?_ | refine w_max ?_ | refine w_min ?_ | refine w_intB ?_ | refine w_intI ?_
 | refine w_mod (by decide) ?_ | refine w_div (by decide) (by decide) ?_ | refine w_pow (by decide) (by decide) (by decide) ?_ | refine w_mulL (by decide) (by decide) ?_ | refine w_mulR (by decide) (by decide) ?_ | refine go_tupA ?_ | refine go_lstA ?_ | refine w_notT ?_ | refine w_isB ?_ | refine w_isNB ?_ | refine w_revSl ?_ | refine w_din ?_ | refine w_dput ?_ | refine go_fs ?_ | refine go_fmt ?_ | refine go_fld ?_ | refine go_methB ?_ | refine go_makeB ?_ | refine go_sfldB ?_))
set_option hygiene false in
local macro_rules | `(tactic| k_meth)=>`(tactic| first
 | k_mem
 | with_reducible (refine w_isTT (by k_tabat) ?_)
 | with_reducible (refine w_isLL (by k_tabat) ?_)
 | with_reducible (refine w_isTL (by k_tabat) ?_)
 | with_reducible (refine w_isLT (by k_tabat) ?_)
 | with_reducible refine w_isII ?_
 | with_reducible refine w_isIB ?_
 | with_reducible refine w_isBB ?_
 | with_reducible refine w_isBI ?_
 | with_reducible (refine w_ixL (by k_flat) (by k_keys) ?_)
 | with_reducible (refine w_ixT (by k_flat) (by k_keys) ?_)
 | with_reducible (refine w_lenL (by k_flat) ?_)
 | with_reducible (refine w_lenT (by k_flat) ?_)
 | with_reducible (refine made_ok (by k_inst) ?_;intro _ _ _)
 | with_reducible (refine w_tyL (by k_flat) ?_)
 | with_reducible (refine w_app (by k_tabat) (by k_inst) ?_;intro _ _ _)
 | with_reducible (refine w_clr (by k_tabat) ?_;intro _ _ _)
 | with_reducible (refine w_slA (by k_flat) ?_;intro _ _ _)
 | with_reducible (refine w_catA (by k_tabat) (by k_tabat) (by k_inst) ?_;intro _ _ _)
 | with_reducible (refine w_lofL (by k_flat) ?_;intro _ _ _)
 | with_reducible (refine w_rep1 (by k_tabat) (by lia) ?_;intro _ _ _)
 | with_reducible (refine i_pos (by k_room) ?_)
 | with_reducible (refine i_neg (by k_room) ?_)
 | with_reducible (refine i_npos (by k_room) ?_)
 | with_reducible (refine i_nneg (by k_room) ?_)
 | with_reducible (refine i_tt ?_)
 | with_reducible (refine i_ff ?_)
 | with_reducible (refine i_ntt ?_)
 | with_reducible (refine i_nff ?_)
 | with_reducible (refine w_tupB (by with_unfolding_all rfl) (by k_flat) ?_)
 | with_reducible (refine go_aug rfl ?_)
 | with_reducible refine w_not2 ?_
 | with_reducible refine go_ck ?_
 | with_reducible refine go_slc ?_
 | with_reducible (refine w_mod (by lia) ?_)
 | with_reducible (refine w_rng2 ?_)
 | with_reducible refine w_forE ?_
 | with_reducible refine w_forR1 ?_
 | with_reducible refine w_forR2 ?_
 | with_reducible refine w_forL ?_
 | with_reducible refine w_compL ?_)
open M22
def sp_among:Sp:=fun vs H Q _=>∃(p:Addr) (fs:List Bool),vs=[.ref p]∧H p=some (.lst (fs.map V.bl))∧fs.length≤240∧∀(q:Addr) (ys:List V) (H':Hp),New H H' q (.lst ys)→TupsAt H' ys (rowsN (holesF fs))→Q (.ref q) H'
theorem take_snocB {fs:List Bool} {i:Nat} {b:Bool} (h:fs[i]?=some b):fs.take (i + 1)=fs.take i++[b]:=by rw [List.take_succ,h];rfl
theorem map_blAt {fs:List Bool} {i:Nat} {x:V} (h:(fs.map V.bl)[i]?=some x):∃b,fs[i]?=some b∧x=.bl b:=by
 rw [List.getElem?_map] at h
 cases e:fs[i]? with
 | none=>rw [e] at h;cases h
 | some b=>rw [e] at h;exact ⟨b,rfl,(Option.some.inj h).symm⟩
section
variable {P:Program} {w:World} {K:W.Frag} {mg:Str→Option Value} {base:Heap} {c:Nat→Addr} {ct_Linit pt_Linit R CL CS:Addr}
theorem D_among (T:Txt K mg c R CL CS ct_Linit pt_Linit):Def P w K mg base CX0 1 "holes_among" ["free"] sp_among:=by
 refine def_of T.d_among sc_among (fun vs H Q E h=>?_) (fun _ _ _ _ _ _=>el1 fun _=>rfl) (fun f cdv A outer s H vs Q E hr h=>?_)
 ·obtain ⟨p,fs,rfl,_⟩:=h
  rfl
 ·obtain ⟨p,fs,rfl,hp,hz,k⟩:=h
  have nd:=sc_among.nd
  refine ⟨_,(pss_cons (ps_set (i:=1) nd rfl (Or.inl rfl) (pe_lstA pa_nil))
   (pss_cons (ps_set (i:=2) nd rfl (Or.inl rfl) pe_int)
   (pss_cons (ps_for PassesOwn.never rfl (pi_enum rfl T.n_enumerate (pa_cons (pe_op op_catA (pv 0) (pe_lstA (pa_cons pe_bl pa_nil))) pa_nil)) (pg_tup rfl (pgs_cons (pg_name (i:=3) nd rfl (Or.inl rfl)) (pgs_cons (pg_name (i:=4) nd rfl (Or.inl rfl)) pgs_nil))) (pss_one (ps_if (pt_val (pv 4)) (pss_one (ps_aug (i:=2) nd rfl (Or.inl rfl) pe_int iop_add)) (pss_one (ps_if (pt_cmpR op_gt (pv 2) pe_int (nomark _)) (pss_cons (ps_expr (pe_appendA (pv 1) (pe_tupA (pa_cons (pe_op op_sub (pv 3) (pv 2)) (pa_cons (pv 2) pa_nil)))))
         (pss_one (ps_set (i:=2) nd rfl (Or.inl rfl) pe_int))) pss_nil)))))
   (pss_one (ps_ret (pv 1)))))),?_⟩
  clear nd 
  rw [show start ["free", "holes", "size", "cell", "is_free"] [.ref p]=[some (.ref p),none,none,none,none] from rfl]
  try dsimp only [cx_K,cx_K2]
  repeat k_meth
  rename_i q H1 n1 b H2 n2 r H3 n3
  have e3:H3 r=some (.lst ((fs++[false]).map V.bl)):=by rw [n3.e];simp
  have hqr:q≠r:=by k_ne
  refine e_by (SqL.of e3) (forE_by (fun i σ' H'=>∃(st:Sc) (o3 o4:Option V) (ys:List V),st=scan ((fs++[false]).take i)∧σ'=[some (.ref p),some (.ref q),some (.int (st.2.1:Nat)),o3,o4]∧Same H H'∧H' q=some (.lst ys)∧TupsAt H' ys (rowsN st.1)∧ys.length≤i∧H' r=some (.lst ((fs++[false]).map V.bl))) ⟨([],0,0),none,none,[],rfl,rfl,by k_upd,by k_tabat,TupsAt.nil,Nat.le_refl _,e3⟩ ?_ ?_ ?_)
  ·rintro i σ' H' hi ⟨st,_,_,ys,_,rfl,s,hq,tp,hy,hr'⟩
   exact SqL.of hr'
  ·rintro i x t σ' HA HB hx ⟨st,o3,o4,ys,hst,rfl,sm,hq,tp,hy,hr'⟩ nB
   obtain ⟨bv,hb,rfl⟩:=map_blAt hx
   have hi:i < 241:=by
    have:=(List.getElem?_eq_some_iff.mp hb).1
    simp at this
    lia
   have tk:=take_snocB hb
   have sl:=scan_len ((fs++[false]).take i)
   have ok:=(scan_ok ((fs++[false]).take i)).le
   have hl:((fs++[false]).take i).length=i:=by
    rw [List.length_take]
    have:=(List.getElem?_eq_some_iff.mp hb).1
    lia
   rw [← hst] at sl ok
   have sm2:Same H HB:=by k_upd
   repeat k_meth
   cases bv with
   | true =>
    repeat k_meth
    exact ⟨stp st true,_,_,ys,by rw [tk,scan_snoc,hst],rfl,sm2,by k_tabat,tp.same nB.s,by lia,by k_tabat⟩
   | false =>
    repeat k_meth
    refine i_dec (fun h=>?_) (fun h=>?_)
    ·have h:0 < st.2.1:=by lia
     repeat k_meth
     rename_i t2 HC nC HD fD eD
     have hqC:HC q=some (.lst ys):=by k_tabat
     obtain ⟨ys2,e5,tp5⟩:=RowsAt.snoc ((tp.same nB.s).same nC.s) hqC nC.e fD eD
     have e6:ys2=ys++[.ref t2]:=by
      rw [eD] at e5
      cases e5
      rfl
     have e7:stp st false=(st.1++[(st.2.2 - st.2.1,st.2.1)],0,st.2.2 + 1):=by
      unfold stp
      rw [if_neg (by decide),if_pos h]
     refine ⟨(st.1++[(st.2.2 - st.2.1,st.2.1)],0,st.2.2 + 1),_,_,ys2,by rw [tk,scan_snoc,← hst,e7],rfl,by k_upd,e5,?_,by rw [e6,List.length_append,List.length_singleton];lia,by k_tabat⟩
     have e8:rowsN (st.1++[(st.2.2 - st.2.1,st.2.1)])=rowsN st.1++[[V.int (i - (st.2.1:Nat):Int),V.int (st.2.1:Nat)]]:=by
      unfold rowsN
      rw [List.map_append]
      congr 1
      show [[V.int ((st.2.2 - st.2.1:Nat):Int),_]]=_
      rw [show ((st.2.2 - st.2.1:Nat):Int)=(i - (st.2.1:Nat):Int) by lia]
     rw [e8]
     exact tp5
    ·have h:¬ 0 < st.2.1:=by lia
     repeat k_meth
     have e7:stp st false=(st.1,0,st.2.2 + 1):=by
      unfold stp
      rw [if_neg (by decide),if_neg h]
     refine ⟨(st.1,0,st.2.2 + 1),some (.int i),some (.bl false),ys,by rw [tk,scan_snoc,← hst,e7],?_,sm2,by k_tabat,tp.same nB.s,by lia,by k_tabat⟩
     have:st.2.1=0:=by lia
     rw [this]
  ·rintro σ' H' ⟨st,_,_,ys,hst,rfl,sm,hq,tp,hy,hr'⟩
   repeat k_meth
   have e:(fs++[false]).take ((fs++[false]).map V.bl).length=fs++[false]:=by rw [List.length_map,List.take_length]
   rw [hst,e,(scan_false fs).1] at tp
   exact k q ys H' ⟨sm,hq,n1.n⟩ tp
end
end K77
namespace K77
open PySem L2 PyProof.Rows
local macro_rules | `(tactic| k_room)=>`(tactic| first
 | with_reducible assumption
 | with_unfolding_all exact rfl
 | with_unfolding_all exact Nat.le_of_ble_eq_true rfl
 | lia
 | (with_reducible refine small_line ?_;first | lia | (simp only [List.length_cons,List.length_nil,List.length_map,List.length_append,List.length_replicate,rowsN_len,List.length_take,List.length_drop,List.length_set];lia))
 | (with_reducible refine small_lt ?_;first | lia | (simp only [List.length_cons,List.length_nil,List.length_map,List.length_append,List.length_replicate,rowsN_len,List.length_take,List.length_drop,List.length_set];lia))
 | (simp only [List.length_cons,List.length_nil,List.length_map,List.length_append,List.length_replicate,rowsN_len,List.length_take,List.length_drop,List.length_set];lia)
 | decide)
local macro_rules | `(tactic| k_mem)=>`(tactic| first
 | with_reducible assumption
 | decide
 | lia
 | (simp only [List.length_cons,List.length_nil,List.length_map,List.length_append,List.length_replicate,rowsN_len,List.length_take,List.length_drop,List.length_set];lia))
set_option hygiene false in
local macro_rules | `(tactic| k_meth)=>`(tactic| first
 | with_reducible refine go1 ?_
 | (clear F;intro H_ a_ dx_ (F:SH _ _ _ _ _) (ex_:ExcT _ _ _ _);have exA_:=ExA.mk ex_)
 | (clear F;intro H_ (F:SH _ _ _ _ _))
 | (clear F;intro H_ p_ (F:SH _ _ _ _ _))
 | (clear F;intro H_ x_ dx_ (F:SH _ _ _ _ _))
 | (clear F;intro H_ p_ ys_ l_ (F:SH _ _ _ _ _))
 | with_reducible refine sd (by k_room) ?_
 | (intro (r_:Int) (x_:Int) (y_:Int) (z_:Int) lo_ hi_)
 | (intro (x_:Int) (y_:Int))
 | (intro (c_:Int))
 | with_reducible refine i_pos (by k_mem) ?_
 | with_reducible refine i_neg (by k_mem) ?_
 | with_reducible refine i_npos (by k_mem) ?_
 | with_reducible refine i_nneg (by k_mem) ?_)
open M22
instance go_isLTb {H:Hp} {Q:VK} {p:Addr} {b:Bool} [h:Hat H p (.tup [.ty "list", .ty "tuple"])]:Go (rIsLT [.bl b,.ref p] H Q) (Q (.bl false) H):=⟨fun k=>⟨_,p,rfl,h.e,.inl ⟨rfl,k⟩⟩⟩
instance go_isLTs {H:Hp} {Q:VK} {p:Addr} {x:Str} [h:Hat H p (.tup [.ty "list", .ty "tuple"])]:Go (rIsLT [.str x,.ref p] H Q) (Q (.bl false) H):=⟨fun k=>⟨_,p,rfl,h.e,.inl ⟨rfl,k⟩⟩⟩
def sp_no:Sp:=fun _ _ _ _=>False
def sp_ht (n:Nat):Sp:=fun vs H Q _=>∃(v:V) (d:Dt),vs=[v]∧TrH H d v∧depD d≤n∧widD d∧∀H',Same H H'→Q (.bl (hasT d)) H'
instance go_largestZ {q:Addr} {ys:List V} {ws:List (Nat×Nat)} {H:Hp} {Q:VK} {E:XK} [h:Hat H q (.lst ys)] [t:TpA H ys (rowsN ws)]:Go (sp_largest [.ref q] H Q E) (Sd (ws.length≤1000) (∀H',Same H H'→Q (.int (maxI 0 (sizesN ws))) H')):=⟨fun s=>⟨q,ys,ws,rfl,h.e,t.e,s.1,s.2⟩⟩
section
variable {P:Program} {w:World} {K:W.Frag} {mg:Str→Option Value} {base:Heap} {c:Nat→Addr} {ct_Linit pt_Linit R CL CS:Addr}
theorem D_largest (T:Txt K mg c R CL CS ct_Linit pt_Linit):Def P w K mg base CX0 1 "largest_size" ["stretches"] sp_largest:=by
 refine def_of T.d_largest sc_largest (fun vs H Q E h=>?_) (fun _ _ _ _ _ _=>el1 fun _=>rfl) (fun f cdv A outer s H vs Q E hr h=>?_)
 ·obtain ⟨p,ys,ws,rfl,_⟩:=h
  rfl
 ·obtain ⟨p,ys,ws,rfl,hp,tp,hz,k⟩:=h
  have nd:=sc_largest.nd
  refine ⟨_,(pss_one (ps_ret (pe_ckw (call_maxD rfl) rfl T.n_max boot_max (pa_cons (pe_comp (N:=["stretch"]) (nt:=1) (fr:=[]) (pi_list (pv 0)) (fun _ _ _ _=>(pg_name (i:=0) (show (["stretch"]:List Str).Nodup from by decide +kernel) rfl (Or.inl rfl))) (fun _ _ _ _=>pif_nil) (fun _ _ _ _=>(pe_ix (ix_tupK (K:=K) rfl) (pv 0) pe_int (fun _ _=>rfl)))) pa_nil) pe_int))),?_⟩
  clear nd 
  rw [show start ["stretches"] [.ref p]=[some (.ref p)] from rfl]
  try dsimp only [cx_K,cx_K2]
  have iL_many:FldOk K CL "many" := ⟨T.clL,T.aL_many⟩
  have iL_rows:FldOk K CL "rows" := ⟨T.clL,T.aL_rows⟩
  have iS_stretches:FldOk K CS "stretches" := ⟨T.clS,T.aS_stretches⟩
  have o_hp:=Old.mk (M:=[]) hp nm0
  have o_tp:=OldP.mk tp
  have F:SH H [] H [] []:=SH.nil
  repeat k_meth
  refine comp_rows (F:=fun r=>r.getD 1 .non) hatC (TpA.e (rs:=rowsN ws)) (by rw [tp.1,rowsN_len];lia) rfl (fun q r H1 R hr s1 e1 kk=>?_) fun l H1 n1=>?_
  ·clear F
   have F:SH H1 [] H1 [] []:=SH.nil
   obtain ⟨w,_,rfl⟩:=List.mem_map.mp hr
   have o_e1:=Old.mk (M:=[]) e1 nm0
   repeat k_meth
   exact kk _ (Same.refl _)
  ·replace F:=F.newL n1
   repeat k_meth
   refine w_maxD (ns:=sizesN ws) (SqL.of ?_) (fun n hn=>?_) (k _ F.sm)
   ·rw [n1.e]
    simp [rowsN,sizesN]
   ·obtain ⟨w,_,rfl⟩:=List.mem_map.mp hn
    exact Int.natCast_nonneg _
theorem D_truthZ (T:Txt K mg c R CL CS ct_Linit pt_Linit):Def P w K mg base CX0 1 "has_truth" ["thing"] sp_no:=by
 refine def_of T.d_truth sc_truth (fun vs H Q E h=>h.elim) (fun _ _ _ _ _ _=>el1 fun _=>rfl) (fun f cdv A outer s H vs Q E hr h=>h.elim)
theorem D_truth0 (T:Txt K mg c R CL CS ct_Linit pt_Linit):Def P w K mg base CX0 2 "has_truth" ["thing"] (sp_ht 0):=by
 refine def_of T.d_truth sc_truth (fun vs H Q E h=>?_) (fun _ _ _ _ _ _=>el1 fun _=>rfl) (fun f cdv A outer s H vs Q E hr h=>?_)
 ·obtain ⟨v,d,rfl,_⟩:=h
  rfl
 ·obtain ⟨v,d,rfl,tr,dp,wd,k⟩:=h
  have nd:=sc_truth.nd
  refine ⟨_,(pss_cons (ps_if (pt_val (pe_callB call_isLT rfl T.n_isinstance boot_isinstance (pa_cons (pv 0) (pa_cons (pe_tupA (pa_cons (pe_ty (T := "list") rfl T.n_list boot_list) (pa_cons (pe_ty (T := "tuple") rfl T.n_tuple boot_tuple) pa_nil))) pa_nil)))) (pss_one (ps_ret (pe_callB (call_any rfl) rfl T.n_any boot_any (pa_cons (pe_comp (N:=["part"]) (nt:=1) (fr:=[]) (pi_or (pi_list (pv 0)) (pi_tup (pv 0))) (fun _ _ _ _=>(pg_name (i:=0) (show (["part"]:List Str).Nodup from by decide +kernel) rfl (Or.inl rfl))) (fun _ _ _ _=>pif_nil) (fun _ _ _ _=>(pe_def (D_truthZ (P:=P) (w:=w) (base:=base) T) hr (pa_cons (pv 0) pa_nil)))) pa_nil)))) pss_nil)
   (pss_one (ps_ret (pe_callB call_isT rfl T.n_isinstance boot_isinstance (pa_cons (pv 0) (pa_cons (pe_ty (T := "bool") rfl T.n_bool boot_bool) pa_nil)))))),?_⟩
  clear nd 
  rw [show start ["thing"] [v]=[some (v)] from rfl]
  try dsimp only [cx_K,cx_K2]
  have iL_many:FldOk K CL "many" := ⟨T.clL,T.aL_many⟩
  have iL_rows:FldOk K CL "rows" := ⟨T.clL,T.aL_rows⟩
  have iS_stretches:FldOk K CS "stretches" := ⟨T.clS,T.aS_stretches⟩
  have F:SH H [] H [] []:=SH.nil
  cases d with
  | non =>
   simp only [TrH] at tr
   subst tr
   repeat k_meth
   exact k _ F.sm
  | bl b =>
   simp only [TrH] at tr
   subst tr
   repeat k_meth
   exact k _ F.sm
  | int i =>
   simp only [TrH] at tr
   subst tr
   repeat k_meth
   exact k _ F.sm
  | str x =>
   simp only [TrH] at tr
   subst tr
   repeat k_meth
   exact k _ F.sm
  | lst ds=>simp [depD] at dp
  | tup ds=>simp [depD] at dp
theorem D_truth1 (T:Txt K mg c R CL CS ct_Linit pt_Linit):Def P w K mg base CX0 3 "has_truth" ["thing"] (sp_ht 1):=by
 refine def_of T.d_truth sc_truth (fun vs H Q E h=>?_) (fun _ _ _ _ _ _=>el1 fun _=>rfl) (fun f cdv A outer s H vs Q E hr h=>?_)
 ·obtain ⟨v,d,rfl,_⟩:=h
  rfl
 ·obtain ⟨v,d,rfl,tr,dp,wd,k⟩:=h
  have nd:=sc_truth.nd
  refine ⟨_,(pss_cons (ps_if (pt_val (pe_callB call_isLT rfl T.n_isinstance boot_isinstance (pa_cons (pv 0) (pa_cons (pe_tupA (pa_cons (pe_ty (T := "list") rfl T.n_list boot_list) (pa_cons (pe_ty (T := "tuple") rfl T.n_tuple boot_tuple) pa_nil))) pa_nil)))) (pss_one (ps_ret (pe_callB (call_any rfl) rfl T.n_any boot_any (pa_cons (pe_comp (N:=["part"]) (nt:=1) (fr:=[]) (pi_or (pi_list (pv 0)) (pi_tup (pv 0))) (fun _ _ _ _=>(pg_name (i:=0) (show (["part"]:List Str).Nodup from by decide +kernel) rfl (Or.inl rfl))) (fun _ _ _ _=>pif_nil) (fun _ _ _ _=>(pe_def (D_truth0 (P:=P) (w:=w) (base:=base) T) hr (pa_cons (pv 0) pa_nil)))) pa_nil)))) pss_nil)
   (pss_one (ps_ret (pe_callB call_isT rfl T.n_isinstance boot_isinstance (pa_cons (pv 0) (pa_cons (pe_ty (T := "bool") rfl T.n_bool boot_bool) pa_nil)))))),?_⟩
  clear nd 
  rw [show start ["thing"] [v]=[some (v)] from rfl]
  try dsimp only [cx_K,cx_K2]
  have iL_many:FldOk K CL "many" := ⟨T.clL,T.aL_many⟩
  have iL_rows:FldOk K CL "rows" := ⟨T.clL,T.aL_rows⟩
  have iS_stretches:FldOk K CS "stretches" := ⟨T.clS,T.aS_stretches⟩
  have F:SH H [] H [] []:=SH.nil
  cases d with
  | non =>
   simp only [TrH] at tr
   subst tr
   repeat k_meth
   exact k _ F.sm
  | bl b =>
   simp only [TrH] at tr
   subst tr
   repeat k_meth
   exact k _ F.sm
  | int i =>
   simp only [TrH] at tr
   subst tr
   repeat k_meth
   exact k _ F.sm
  | str x =>
   simp only [TrH] at tr
   subst tr
   repeat k_meth
   exact k _ F.sm
  | lst ds =>
   simp only [TrH] at tr
   obtain ⟨p,xs,rfl,hp,ts⟩:=tr
   simp only [depD] at dp
   simp only [widD] at wd
   have ln:=ts.len
   have o_p:=Old.mk (M:=[]) hp nm0
   repeat k_meth
   refine comp_inl ?_
   repeat k_meth
   refine comp_map (P:=fun i y=>∃d,ds[i]?=some d∧y=.bl (hasT d)) (items_list (xs:=xs)) (by lia) rfl (fun H' s=>s.seq SqA.e) (fun i v H' R hv s kk=>?_) fun z H2 ys nw hl hP=>?_
   ·obtain ⟨d,hd,td⟩:=ts.at hv
    have td2:=td.same (F.sm.trans s)
    have dd:=depDs_at hd
    have wd2:=widDs_at wd.2 hd
    clear F
    have F:SH H' [] H' [] []:=SH.nil
    repeat k_meth
    exact ⟨v,d,rfl,td2,by lia,wd2,fun H2 s2=>kk _ _ s2 ⟨d,hd,rfl⟩⟩
   ·rw [bls_of (hl.trans ln) hP] at nw
    replace F:=F.newL nw
    repeat k_meth
    refine ⟨z,_,rfl,SqA.e,?_⟩
    rw [hasTs_any]
    exact k _ F.sm
  | tup ds =>
   simp only [TrH] at tr
   obtain ⟨p,xs,rfl,hp,ts⟩:=tr
   simp only [depD] at dp
   simp only [widD] at wd
   have ln:=ts.len
   have o_p:=Old.mk (M:=[]) hp nm0
   repeat k_meth
   refine comp_inr ?_
   repeat k_meth
   refine comp_map (P:=fun i y=>∃d,ds[i]?=some d∧y=.bl (hasT d)) (items_tup (xs:=xs)) (by lia) rfl (fun H' s=>s.tup (SqT.of hatC)) (fun i v H' R hv s kk=>?_) fun z H2 ys nw hl hP=>?_
   ·obtain ⟨d,hd,td⟩:=ts.at hv
    have td2:=td.same (F.sm.trans s)
    have dd:=depDs_at hd
    have wd2:=widDs_at wd.2 hd
    clear F
    have F:SH H' [] H' [] []:=SH.nil
    repeat k_meth
    exact ⟨v,d,rfl,td2,by lia,wd2,fun H2 s2=>kk _ _ s2 ⟨d,hd,rfl⟩⟩
   ·rw [bls_of (hl.trans ln) hP] at nw
    replace F:=F.newL nw
    repeat k_meth
    refine ⟨z,_,rfl,SqA.e,?_⟩
    rw [hasTs_any]
    exact k _ F.sm
theorem D_truth (T:Txt K mg c R CL CS ct_Linit pt_Linit):Def P w K mg base CX0 4 "has_truth" ["thing"] (sp_ht 2):=by
 refine def_of T.d_truth sc_truth (fun vs H Q E h=>?_) (fun _ _ _ _ _ _=>el1 fun _=>rfl) (fun f cdv A outer s H vs Q E hr h=>?_)
 ·obtain ⟨v,d,rfl,_⟩:=h
  rfl
 ·obtain ⟨v,d,rfl,tr,dp,wd,k⟩:=h
  have nd:=sc_truth.nd
  refine ⟨_,(pss_cons (ps_if (pt_val (pe_callB call_isLT rfl T.n_isinstance boot_isinstance (pa_cons (pv 0) (pa_cons (pe_tupA (pa_cons (pe_ty (T := "list") rfl T.n_list boot_list) (pa_cons (pe_ty (T := "tuple") rfl T.n_tuple boot_tuple) pa_nil))) pa_nil)))) (pss_one (ps_ret (pe_callB (call_any rfl) rfl T.n_any boot_any (pa_cons (pe_comp (N:=["part"]) (nt:=1) (fr:=[]) (pi_or (pi_list (pv 0)) (pi_tup (pv 0))) (fun _ _ _ _=>(pg_name (i:=0) (show (["part"]:List Str).Nodup from by decide +kernel) rfl (Or.inl rfl))) (fun _ _ _ _=>pif_nil) (fun _ _ _ _=>(pe_def (D_truth1 (P:=P) (w:=w) (base:=base) T) hr (pa_cons (pv 0) pa_nil)))) pa_nil)))) pss_nil)
   (pss_one (ps_ret (pe_callB call_isT rfl T.n_isinstance boot_isinstance (pa_cons (pv 0) (pa_cons (pe_ty (T := "bool") rfl T.n_bool boot_bool) pa_nil)))))),?_⟩
  clear nd 
  rw [show start ["thing"] [v]=[some (v)] from rfl]
  try dsimp only [cx_K,cx_K2]
  have iL_many:FldOk K CL "many" := ⟨T.clL,T.aL_many⟩
  have iL_rows:FldOk K CL "rows" := ⟨T.clL,T.aL_rows⟩
  have iS_stretches:FldOk K CS "stretches" := ⟨T.clS,T.aS_stretches⟩
  have F:SH H [] H [] []:=SH.nil
  cases d with
  | non =>
   simp only [TrH] at tr
   subst tr
   repeat k_meth
   exact k _ F.sm
  | bl b =>
   simp only [TrH] at tr
   subst tr
   repeat k_meth
   exact k _ F.sm
  | int i =>
   simp only [TrH] at tr
   subst tr
   repeat k_meth
   exact k _ F.sm
  | str x =>
   simp only [TrH] at tr
   subst tr
   repeat k_meth
   exact k _ F.sm
  | lst ds =>
   simp only [TrH] at tr
   obtain ⟨p,xs,rfl,hp,ts⟩:=tr
   simp only [depD] at dp
   simp only [widD] at wd
   have ln:=ts.len
   have o_p:=Old.mk (M:=[]) hp nm0
   repeat k_meth
   refine comp_inl ?_
   repeat k_meth
   refine comp_map (P:=fun i y=>∃d,ds[i]?=some d∧y=.bl (hasT d)) (items_list (xs:=xs)) (by lia) rfl (fun H' s=>s.seq SqA.e) (fun i v H' R hv s kk=>?_) fun z H2 ys nw hl hP=>?_
   ·obtain ⟨d,hd,td⟩:=ts.at hv
    have td2:=td.same (F.sm.trans s)
    have dd:=depDs_at hd
    have wd2:=widDs_at wd.2 hd
    clear F
    have F:SH H' [] H' [] []:=SH.nil
    repeat k_meth
    exact ⟨v,d,rfl,td2,by lia,wd2,fun H2 s2=>kk _ _ s2 ⟨d,hd,rfl⟩⟩
   ·rw [bls_of (hl.trans ln) hP] at nw
    replace F:=F.newL nw
    repeat k_meth
    refine ⟨z,_,rfl,SqA.e,?_⟩
    rw [hasTs_any]
    exact k _ F.sm
  | tup ds =>
   simp only [TrH] at tr
   obtain ⟨p,xs,rfl,hp,ts⟩:=tr
   simp only [depD] at dp
   simp only [widD] at wd
   have ln:=ts.len
   have o_p:=Old.mk (M:=[]) hp nm0
   repeat k_meth
   refine comp_inr ?_
   repeat k_meth
   refine comp_map (P:=fun i y=>∃d,ds[i]?=some d∧y=.bl (hasT d)) (items_tup (xs:=xs)) (by lia) rfl (fun H' s=>s.tup (SqT.of hatC)) (fun i v H' R hv s kk=>?_) fun z H2 ys nw hl hP=>?_
   ·obtain ⟨d,hd,td⟩:=ts.at hv
    have td2:=td.same (F.sm.trans s)
    have dd:=depDs_at hd
    have wd2:=widDs_at wd.2 hd
    clear F
    have F:SH H' [] H' [] []:=SH.nil
    repeat k_meth
    exact ⟨v,d,rfl,td2,by lia,wd2,fun H2 s2=>kk _ _ s2 ⟨d,hd,rfl⟩⟩
   ·rw [bls_of (hl.trans ln) hP] at nw
    replace F:=F.newL nw
    repeat k_meth
    refine ⟨z,_,rfl,SqA.e,?_⟩
    rw [hasTs_any]
    exact k _ F.sm
end
def freeOf (n:Nat) (rs:List Rw):List Bool:=rs.foldl (fun fs r=>putB fs r.st r.sz false) (List.replicate n true)
theorem freeOf_snoc (n:Nat) (rs:List Rw) (r:Rw):freeOf n (rs++[r])=putB (freeOf n rs) r.st r.sz false:=by unfold freeOf;rw [List.foldl_append];rfl
theorem freeOf_len {n:Nat} {rs:List Rw} (h:∀r∈rs,r.st + r.sz≤n):(freeOf n rs).length=n:=by
 have:∀(rs:List Rw) (fs:List Bool),fs.length=n→(∀r∈rs,r.st + r.sz≤n)→(rs.foldl (fun fs r=>putB fs r.st r.sz false) fs).length=n:=by
  intro rs
  induction rs with
  | nil=>intro fs e _;exact e
  | cons r t ih =>
   intro fs e hr
   refine ih _ ?_ fun s hs=>hr s (List.mem_cons_of_mem _ hs)
   rw [putB_len (by rw [e];exact hr r List.mem_cons_self)]
   exact e
 exact this rs _ (by simp) h
theorem set_putN {fs:List Bool} {a i:Nat} {v:Bool} (h:a + i < fs.length):((putB fs a i v).map V.bl).set ((a:Int) + (i:Int)).toNat (.bl v)=(putB fs a (i + 1) v).map V.bl:=by
 rw [show ((a:Int) + (i:Int)).toNat=a + i by lia,putB_map,putB_set (by rw [List.length_map];exact h),← putB_map]
section
variable {CL x p dx l:Addr} {H:Hp} {Q:VK} {E:XK} {n:Nat} {zs:List V} {rs:List Rw} {fs:List Bool}
def sp_freeam (CL:Addr):Sp:=fun vs H Q _=>∃(x p dx:Addr) (n:Nat) (zs:List V) (rs:List Rw),vs=[.ref x]∧H x=some (.ins CL dx (lF (n:Nat) p))∧H p=some (.lst zs)∧TupsAt H zs (rowsV rs)∧(∀r∈rs,r.st + r.sz≤n)∧n≤240∧∀q H',New H H' q (.lst ((freeOf n rs).map V.bl))→Q (.ref q) H'
def sp_holesof (CL:Addr):Sp:=fun vs H Q _=>∃(x p dx:Addr) (n:Nat) (zs:List V) (rs:List Rw),vs=[.ref x]∧H x=some (.ins CL dx (lF (n:Nat) p))∧H p=some (.lst zs)∧TupsAt H zs (rowsV rs)∧(∀r∈rs,r.st + r.sz≤n)∧n≤240∧∀q ys H',New H H' q (.lst ys)→TupsAt H' ys (rowsN (holesF (freeOf n rs)))→Q (.ref q) H'
instance go_freeam [h:Hat H x (.ins CL dx (lF (n:Nat) p))] [h2:Hat H p (.lst zs)] [t:TpA H zs (rowsV rs)]:Go (sp_freeam CL [.ref x] H Q E) (Sd ((∀r∈rs,r.st + r.sz≤n)∧n≤240) (∀q H',New H H' q (.lst ((freeOf n rs).map V.bl))→Q (.ref q) H')):=⟨fun s=>⟨x,p,dx,n,zs,rs,rfl,h.e,h2.e,t.e,s.1.1,s.1.2,s.2⟩⟩
instance go_holesof [h:Hat H x (.ins CL dx (lF (n:Nat) p))] [h2:Hat H p (.lst zs)] [t:TpA H zs (rowsV rs)]:Go (sp_holesof CL [.ref x] H Q E) (Sd ((∀r∈rs,r.st + r.sz≤n)∧n≤240) (∀q ys H',New H H' q (.lst ys)→TupsAt H' ys (rowsN (holesF (freeOf n rs)))→Q (.ref q) H')):=⟨fun s=>⟨x,p,dx,n,zs,rs,rfl,h.e,h2.e,t.e,s.1.1,s.1.2,s.2⟩⟩
instance go_among [h:Hat H p (.lst (fs.map V.bl))]:Go (sp_among [.ref p] H Q E) (Sd (fs.length≤240) (∀(q:Addr) (ys:List V) (H':Hp),New H H' q (.lst ys)→TupsAt H' ys (rowsN (holesF fs))→Q (.ref q) H')):=⟨fun s=>⟨p,fs,rfl,h.e,s.1,s.2⟩⟩
end
section
variable {P:Program} {w:World} {K:W.Frag} {mg:Str→Option Value} {base:Heap} {c:Nat→Addr} {ct_Linit pt_Linit R CL CS:Addr}
theorem D_freeam (T:Txt K mg c R CL CS ct_Linit pt_Linit):Def P w K mg base CX0 2 "free_among" ["layout"] (sp_freeam CL):=by
 have MT_Lblocks:=MT_Lblocks (P:=P) (w:=w) (base:=base) T
 refine def_of T.d_freeam sc_freeam (fun vs H Q E h=>?_) (fun _ _ _ _ _ _=>el1 fun _=>rfl) (fun f cdv A outer s H vs Q E hr h=>?_)
 ·obtain ⟨x,p,dx,n,zs,rs,rfl,_⟩:=h
  rfl
 ·obtain ⟨x,p,dx,n,zs,rs,rfl,hx,hp,tp,hle,h240,k⟩:=h
  have nd:=sc_freeam.nd
  refine ⟨_,(pss_cons (ps_set (i:=1) nd rfl (Or.inl rfl) (pe_op op_repA (pe_lstA (pa_cons pe_bl pa_nil)) (pe_fld (pv 0) rfl)))
   (pss_cons (ps_for PassesOwn.never rfl (pi_list (pe_met0 (pv 0) T.clL MT_Lblocks hr)) (pg_name (i:=2) nd rfl (Or.inl rfl)) (pss_one (ps_for PassesOwn.never rfl (pi_range2 rfl T.n_range (pa_cons (pe_ix ix_tup (pv 2) pe_int (fun _ _=>rfl)) (pa_cons (pe_op op_add (pe_ix ix_tup (pv 2) pe_int (fun _ _=>rfl)) (pe_ix ix_tup (pv 2) pe_int (fun _ _=>rfl))) pa_nil))) (pg_name (i:=3) nd rfl (Or.inl rfl)) (pss_one (ps_asg pe_bl (pg_sub (pv 1) (pv 3) set_listA))))))
   (pss_one (ps_ret (pv 1))))),?_⟩
  clear nd MT_Lblocks
  rw [show start ["layout", "free", "block", "cell"] [.ref x]=[some (.ref x),none,none,none] from rfl]
  try dsimp only [cx_K,cx_K2]
  have iL_many:FldOk K CL "many" := ⟨T.clL,T.aL_many⟩
  have iL_rows:FldOk K CL "rows" := ⟨T.clL,T.aL_rows⟩
  have iS_stretches:FldOk K CS "stretches" := ⟨T.clS,T.aS_stretches⟩
  have o_hx:=Old.mk (M:=[]) hx nm0
  have o_hp:=Old.mk (M:=[]) hp nm0
  have o_tp:=OldP.mk tp
  have F:SH H [] H [] []:=SH.nil
  repeat k_meth
  rename_i _ _ _ fr
  rename Addr=>bl
  refine forL_by (xs:=zs) (fun i σ' H'=>∃o2 o3:Option V,σ'=[some (.ref x),some (.ref fr),o2,o3]∧SH H [] H' [(bl,.lst zs),(fr,.lst ((freeOf n (rs.take i)).map V.bl))] []) ⟨_,_,rfl,by rw [show freeOf n (rs.take 0)=List.replicate n true from rfl];exact F.subC⟩ ?_ ?_ ?_
  ·clear F
   rintro i σ' H' _ ⟨_,_,rfl,F⟩
   exact SqA.e
  ·clear F
   rintro i v σ' H' hv ⟨_,_,rfl,F⟩
   obtain ⟨r,q1,e1,rfl,e2⟩:=rowsV_at tp hv
   have o_e2:=Old.mk (M:=[]) e2 nm0
   have le:=hle r (List.mem_of_getElem? e1)
   have fl:(freeOf n (rs.take i)).length=n:=freeOf_len fun s hs=>hle s (List.mem_of_mem_take hs)
   repeat k_meth
   rw [show (((r.st:Nat):Int) + ((r.sz:Nat):Int) - ((r.st:Nat):Int)).toNat=r.sz by lia]
   refine forR_by (fun j σ' H'=>∃o3:Option V,σ'=[some (.ref x),some (.ref fr),some (.ref q1),o3]∧SH H [] H' [(bl,.lst zs),(fr,.lst ((putB (freeOf n (rs.take i)) r.st j false).map V.bl))] []) ⟨_,rfl,by rw [putB_zero];exact F.subC⟩ ?_ ?_
   ·clear F
    rintro j σ' H' hj ⟨_,rfl,F⟩
    have pl:=putB_len (fs:=freeOf n (rs.take i)) (a:=r.st) (i:=j) (b:=false) (by lia)
    repeat k_meth
    rw [set_putN (by lia)] at F
    exact ⟨_,rfl,F⟩
   ·clear F
    rintro σ' H' ⟨_,rfl,F⟩
    repeat k_meth
    rw [← freeOf_snoc,← take_snocR e1] at F
    exact ⟨_,_,rfl,F⟩
  ·clear F
   rintro σ' H' ⟨_,_,rfl,F⟩
   repeat k_meth
   rw [show zs.length=rs.length by rw [tp.1,rowsV_len],List.take_length] at F
   exact k _ _ SH.nwC
theorem D_holesof (T:Txt K mg c R CL CS ct_Linit pt_Linit):Def P w K mg base CX0 3 "holes_of" ["layout"] (sp_holesof CL):=by
 have D_among:=D_among (P:=P) (w:=w) (base:=base) T
 have D_freeam:=D_freeam (P:=P) (w:=w) (base:=base) T
 refine def_of T.d_holesof sc_holesof (fun vs H Q E h=>?_) (fun _ _ _ _ _ _=>el1 fun _=>rfl) (fun f cdv A outer s H vs Q E hr h=>?_)
 ·obtain ⟨x,p,dx,n,zs,rs,rfl,_⟩:=h
  rfl
 ·obtain ⟨x,p,dx,n,zs,rs,rfl,hx,hp,tp,hle,h240,k⟩:=h
  have nd:=sc_holesof.nd
  refine ⟨_,(pss_one (ps_ret (pe_def D_among hr (pa_cons (pe_def D_freeam hr (pa_cons (pv 0) pa_nil)) pa_nil)))),?_⟩
  clear nd D_among D_freeam
  rw [show start ["layout"] [.ref x]=[some (.ref x)] from rfl]
  try dsimp only [cx_K,cx_K2]
  have iL_many:FldOk K CL "many" := ⟨T.clL,T.aL_many⟩
  have iL_rows:FldOk K CL "rows" := ⟨T.clL,T.aL_rows⟩
  have iS_stretches:FldOk K CS "stretches" := ⟨T.clS,T.aS_stretches⟩
  have o_hx:=Old.mk (M:=[]) hx nm0
  have o_hp:=Old.mk (M:=[]) hp nm0
  have o_tp:=OldP.mk tp
  have F:SH H [] H [] []:=SH.nil
  have side:=And.intro hle h240
  have fl:=freeOf_len hle
  repeat k_meth
  exact k _ _ _ SH.nwC TpA.e
end
open M22
theorem gp_nn {n:Nat}:∀(rs:List Rw) (g:List Int×Int),Asc rs→(∀r∈rs,g.2≤(r.st:Int)∧r.st + r.sz≤n)→(∀x∈g.1,0≤x)→g.2≤(n:Int) →
  (∀x∈(rs.foldl (fun g r=>(g.1++[(r.st:Int) - g.2],(r.st:Int) + (r.sz:Int))) g).1,0≤x)∧(rs.foldl (fun g r=>(g.1++[(r.st:Int) - g.2],(r.st:Int) + (r.sz:Int))) g).2≤(n:Int)
 | [],g,_,_,h1,h2=>⟨h1,h2⟩
 | r::t,g,as,hr,h1,h2=>by
  rw [List.foldl_cons]
  obtain ⟨a1,a2⟩:=List.pairwise_cons.mp as
  obtain ⟨b1,b2⟩:=hr r List.mem_cons_self
  refine gp_nn t _ a2 (fun s hs=>⟨?_,(hr s (List.mem_cons_of_mem _ hs)).2⟩) (fun x hx=>?_) ?_
  ·have:=a1 s hs
   show (r.st:Int) + r.sz≤s.st
   lia
  ·rcases List.mem_append.mp hx with hx | hx
   ·exact h1 x hx
   ·rw [List.mem_singleton.mp hx]
    lia
  ·show (r.st:Int) + r.sz≤n
   lia
theorem gaps_nn {n:Nat} {rs:List Rw} (ly:Lay n rs) (as:Asc rs):∀g∈gapsOf n rs,0≤g:=by
 obtain ⟨h1,h2⟩:=gp_nn (n:=n) rs ([],0) as (fun r hr=>⟨Int.natCast_nonneg _,(ly.good r hr).le⟩) (by simp) (Int.natCast_nonneg _)
 intro g hg
 unfold gapsOf at hg
 rcases List.mem_append.mp hg with hg | hg
 ·exact h1 g hg
 ·rw [List.mem_singleton.mp hg]
  unfold gp
  lia
class SzF (v:V):Prop where
 e:isFr v 1=false
class SzB (v:V):Prop where
 e:inB v 1 240=false
structure LyH (CL:Addr) (H:Hp) (x p dx:Addr) (n:Nat) (zs:List V) (rs:List Rw):Prop where
 x:H x=some (.ins CL dx (lF (n:Nat) p))
 p:H p=some (.lst zs)
 t:TupsAt H zs (rowsV rs)
 ly:Lay n rs
 as:Asc rs
 le:n≤240
 nb:∀r∈rs,NoB r.nm
theorem LyH.same {CL:Addr} {H H':Hp} {x p dx:Addr} {n:Nat} {zs:List V} {rs:List Rw} (h:LyH CL H x p dx n zs rs) (s:Same H H'):LyH CL H' x p dx n zs rs:=⟨s _ _ h.x,s _ _ h.p,h.t.same s,h.ly,h.as,h.le,h.nb⟩
theorem LyH.sz {CL:Addr} {H:Hp} {x p dx:Addr} {n:Nat} {zs:List V} {rs:List Rw} (h:LyH CL H x p dx n zs rs):rs.length≤40∧∀r∈rs,r.sz≤240:=⟨h.ly.few,fun r hr=>by have:=(h.ly.good r hr).le;have:=h.le;lia⟩
class LyF (n:Nat) (rs:List Rw):Prop where
 ly:Lay n rs
 as:Asc rs
 le:n≤240
 nb:∀r∈rs,NoB r.nm
class LyQ (CL:Addr) (H:Hp) (x:Addr) (p dx:outParam Addr) (n:outParam Nat) (zs:outParam (List V)) (rs:outParam (List Rw)):Prop where
 e:LyH CL H x p dx n zs rs
instance lyq_mk {CL:Addr} {H:Hp} {x p dx:Addr} {n:Nat} {zs:List V} {rs:List Rw} [h:Hat H x (.ins CL dx (lF (n:Nat) p))] [h2:Hat H p (.lst zs)] [t:TpA H zs (rowsV rs)] [f:LyF n rs]:LyQ CL H x p dx n zs rs:=⟨⟨h.e,h2.e,t.e,f.ly,f.as,f.le,f.nb⟩⟩
abbrev Rz (E:XK) (H:Hp) (C:Addr) (f:Str) (v:V):Prop:=∀d H',Same H H'→H' d=some (dctO d [(f,v)])→E (.ref C) (some d) H'
def sp_needs (K:W.Frag) (CE:Addr):Sp:=fun vs H Q E=>∃(v:V) (n1:String),vs=[v]∧TyOf K H v (.type n1)∧((∃s:Int,v=.int s∧1≤s∧∀H',Same H H'→Q .non H')∨(isFr v 1=false∧Rz E H CE "size" v))
def sp_Lblk (CL CE:Addr):Sp:=fun vs H Q E=>∃(x p dx:Addr) (n:Nat) (zs:List V) (rs:List Rw),vs=[.ref x,.str "nobody"]∧LyH CL H x p dx n zs rs∧Rz E H CE "name" (.str "nobody")
def sp_stepof (CL CE:Addr):Sp:=fun vs H Q E=>∃(x p dx l:Addr) (n:Nat) (zs:List V) (rs:List Rw),vs=[.ref x,.str "nobody", .int 0,.ref l]∧LyH CL H x p dx n zs rs∧Rz E H CE "name" (.str "nobody")
def sp_pricesX (K:W.Frag) (CL CE:Addr):Sp:=fun vs H Q E=>∃(x p dx:Addr) (n:Nat) (zs:List V) (rs:List Rw) (v:V) (n1:String),vs=[.ref x,v]∧LyH CL H x p dx n zs rs∧TyOf K H v (.type n1)∧((∃s:Nat,v=.int (s:Nat)∧1≤s∧s≤240∧∀q H',Same H H'→Q (.ref q) H')∨(inB v 1 240=false∧Rz E H CE "size" v))
def sp_ispX (K:W.Frag) (CL CE:Addr):Sp:=fun vs H Q E=>∃(x p dx:Addr) (n:Nat) (zs:List V) (rs:List Rw) (v u:V) (n1:String),vs=[.ref x,v,u]∧LyH CL H x p dx n zs rs∧TyOf K H v (.type n1)∧inB v 1 240=false∧Rz E H CE "size" v
def sp_least (CL:Addr):Sp:=fun vs H Q _=>∃(x p dx:Addr) (n:Nat) (zs:List V) (rs:List Rw) (s:Int),vs=[.ref x,.int s]∧LyH CL H x p dx n zs rs∧241≤s∧∀H',Same H H'→Q .non H'
def sp_Sinit (CS:Addr):Sp:=fun vs H Q _=>∃(y dy q:Addr),vs=[.ref y,.ref q]∧H y=some (.ins CS dy [])∧∀H',Kp y H H'→H' y=some (.ins CS dy [("stretches", .ref q)])→Q .non H'
def sp_plan (K:W.Frag) (CL CS CE:Addr):Sp:=fun vs H Q E=>∃(x p dx:Addr) (n:Nat) (zs:List V) (rs:List Rw) (v:V) (n1:String),vs=[.ref x,v]∧LyH CL H x p dx n zs rs∧TyOf K H v (.type n1)∧((∃s:Int,v=.int s∧241≤s∧∀y dy q H',Same H H'→H' y=some (.ins CS dy [("stretches", .ref q)])→Q (.ref y) H')∨(isFr v 1=false∧Rz E H CE "size" v))
section
variable {K:W.Frag} {CL CS CE x p dx l y dy q:Addr} {H H0:Hp} {M:List Addr} {L:List (Addr×HO)} {I:List Im} {Q:VK} {E:XK} {n s:Nat} {zs:List V} {rs:List Rw} {v u:V} {n1:String} {z:Int}
instance (priority:=low) go_needsT:Go (sp_needs K CE [.int z] H Q E) (Sd (1≤z) (∀H',Same H H'→Q .non H')):=⟨fun k=>⟨_,_,rfl,.int z,.inl ⟨z,rfl,k.1,k.2⟩⟩⟩
instance go_needsF [c:SzF v] [t:TyA K H v n1]:Go (sp_needs K CE [v] H Q E) (Rz E H CE "size" v):=⟨fun k=>⟨v,n1,rfl,t.e,.inr ⟨c.e,k⟩⟩⟩
instance go_Lblk [h:LyQ CL H x p dx n zs rs]:Go (sp_Lblk CL CE [.ref x,.str "nobody"] H Q E) (Rz E H CE "name" (.str "nobody")):=⟨fun k=>⟨x,p,dx,n,zs,rs,rfl,h.e,k⟩⟩
instance go_stepof [h:LyQ CL H x p dx n zs rs]:Go (sp_stepof CL CE [.ref x,.str "nobody", .int 0,.ref l] H Q E) (Rz E H CE "name" (.str "nobody")):=⟨fun k=>⟨x,p,dx,l,n,zs,rs,rfl,h.e,k⟩⟩
instance go_pricesF [h:LyQ CL H x p dx n zs rs] [c:SzB v] [t:TyA K H v n1]:Go (sp_pricesX K CL CE [.ref x,v] H Q E) (Rz E H CE "size" v):=⟨fun k=>⟨x,p,dx,n,zs,rs,v,n1,rfl,h.e,t.e,.inr ⟨c.e,k⟩⟩⟩
instance go_ispX [h:LyQ CL H x p dx n zs rs] [c:SzB v] [t:TyA K H v n1]:Go (sp_ispX K CL CE [.ref x,v,u] H Q E) (Rz E H CE "size" v):=⟨fun k=>⟨x,p,dx,n,zs,rs,v,u,n1,rfl,h.e,t.e,c.e,k⟩⟩
instance nx_kpI {L':List (Addr×HO)} {C:Addr} {fs:List (Str×V)} {R:Hp→Prop} [F:SH H0 M H L I] [u:LkU L l (.ins C dx fs) L']:Go (∀H',Kp l H H'→H' l=some (.ins C dx fs)→R H') (∀H',SH H0 M H' L' I→R H'):=⟨fun k H' f e=>k H' (F.kp f e u.u rfl)⟩
instance go_Sinit [h:Hat H y (.ins CS dy [])]:Go (sp_Sinit CS [.ref y,.ref q] H Q E) (∀H',Kp y H H'→H' y=some (.ins CS dy [("stretches", .ref q)])→Q .non H'):=⟨fun k=>⟨y,dy,q,rfl,h.e,k⟩⟩
instance go_least [h:LyQ CL H x p dx n zs rs]:Go (sp_least CL [.ref x,.int z] H Q E) (Sd (241≤z) (∀H',Same H H'→Q .non H')):=⟨fun k=>⟨x,p,dx,n,zs,rs,z,rfl,h.e,k.1,k.2⟩⟩
instance (priority:=low) go_planT [h:LyQ CL H x p dx n zs rs]:Go (sp_plan K CL CS CE [.ref x,.int z] H Q E) (Sd (241≤z) (∀y dy q H',Same H H'→H' y=some (.ins CS dy [("stretches", .ref q)])→Q (.ref y) H')):=⟨fun k=>⟨x,p,dx,n,zs,rs,_,_,rfl,h.e,.int _,.inl ⟨z,rfl,k.1,k.2⟩⟩⟩
instance go_planF [h:LyQ CL H x p dx n zs rs] [c:SzF v] [t:TyA K H v n1]:Go (sp_plan K CL CS CE [.ref x,v] H Q E) (Rz E H CE "size" v):=⟨fun k=>⟨x,p,dx,n,zs,rs,v,n1,rfl,h.e,t.e,.inr ⟨c.e,k⟩⟩⟩
end
section
variable {P:Program} {w:World} {K:W.Frag} {mg:Str→Option Value} {base:Heap} {c:Nat→Addr} {ct_Linit pt_Linit R CL CS:Addr}
theorem D_needs (T:Txt K mg c R CL CS ct_Linit pt_Linit):Def P w K mg base (CX1 P w) 3 "need_size" ["size"] (sp_needs K (c 0)):=by
 have D_is_from:=D_is_from (P:=P) (w:=w) (base:=base) T
 refine def_ofX T.d_needs sc_needs (fun vs H Q E h=>?_) (fun _ _ _ _ _ _=>el1 fun _=>rfl) (fun f cdv A outer s H vs Q E hr h=>?_)
 ·obtain ⟨v,n1,rfl,_⟩:=h
  rfl
 ·obtain ⟨v,n1,rfl,ty,kk⟩:=h
  have nd:=sc_needs.nd
  refine ⟨_,(pss_one (ps_if (pt_not (pt_val (pe_def D_is_from hr (pa_cons (pv 0) (pa_cons pe_int pa_nil))))) (pss_one (ps_raise T.k_NoSize (pe_ex1N T.e_NoSize (I_NoSize T.e_NoSize.S T.a_NoSize_size) hr (pa_cons (pv 0) pa_nil)))) pss_nil)),?_⟩
  clear nd D_is_from
  rw [show start ["size"] [v]=[some (v)] from rfl]
  try dsimp only [cx_K,cx_K2,cx_s0]
  have iL_many:FldOk K CL "many" := ⟨T.clL,T.aL_many⟩
  have iL_rows:FldOk K CL "rows" := ⟨T.clL,T.aL_rows⟩
  have iS_stretches:FldOk K CS "stretches" := ⟨T.clS,T.aS_stretches⟩
  have F:SH H [] H [] []:=SH.nil
  have o_v:OldT K H [] v n1:=⟨ty,fun _ _ z=>by cases z⟩
  rcases kk with ⟨s,rfl,h1,k⟩ | ⟨hb,k⟩
  ·repeat k_meth
   exact k _ F.sm
  ·repeat k_meth
   rw [hb]
   repeat k_meth
   exact fun d H' s e=>k d H' (F.sm.trans s) e
theorem MT_Lblock (T:Txt K mg c R CL CS ct_Linit pt_Linit):Met P w K mg base (CX1 P w) 3 CL "block" ["self", "name"] (sp_Lblk CL (c 2)):=by
 obtain ⟨f,hf,hm⟩:=T.f_Lblock
 refine (fn_tellsX (k:=2) hf sc_Lblock (fun vs H Q E h=>?_) (fun _ _ _ _ _ _=>el2 fun _ _=>rfl) (fun f cdv A outer s H vs Q E hr h=>?_)).met hm
 ·obtain ⟨x,p,dx,n,zs,rs,rfl,_⟩:=h
  rfl
 ·obtain ⟨x,p,dx,n,zs,rs,rfl,ly,k⟩:=h
  have nd:=sc_Lblock.nd
  refine ⟨_,(pss_cons (ps_for PassesOwn.leaving rfl (pi_list (pe_fld (pv 0) rfl)) (pg_name (i:=2) nd rfl (Or.inl rfl)) (pss_one (ps_if (pt_cmpR op_eq (pe_ix ix_tup (pv 2) pe_int (fun _ _=>rfl)) (pv 1) (nomark _)) (pss_one (ps_ret (pv 2))) pss_nil)))
   (pss_one (ps_raise T.k_NoBlock (pe_ex1N T.e_NoBlock (I_NoBlock T.e_NoBlock.S T.a_NoBlock_name) hr (pa_cons (pv 1) pa_nil))))),?_⟩
  clear nd 
  rw [show start ["self", "name", "row"] [.ref x,.str "nobody"]=[some (.ref x),some (.str "nobody"),none] from rfl]
  try dsimp only [cx_K,cx_K2,cx_s0]
  have hx:=ly.x
  have hp:=ly.p
  have tp:=ly.t
  have lyf:LyF n rs:=⟨ly.ly,ly.as,ly.le,ly.nb⟩
  have sz_:=ly.sz
  have few:=sz_.1
  have zl:zs.length=rs.length:=by rw [tp.1,rowsV_len]
  have iL_many:FldOk K CL "many" := ⟨T.clL,T.aL_many⟩
  have iL_rows:FldOk K CL "rows" := ⟨T.clL,T.aL_rows⟩
  have iS_stretches:FldOk K CS "stretches" := ⟨T.clS,T.aS_stretches⟩
  have o_hx:=Old.mk (M:=[]) hx nm0
  have o_hp:=Old.mk (M:=[]) hp nm0
  have o_tp:=OldP.mk tp
  have F:SH H [] H [] []:=SH.nil
  repeat k_meth
  refine forL_by (xs:=zs) (fun i σ' H'=>∃o2:Option V,σ'=[some (.ref x),some (.str "nobody"),o2]∧SH H [] H' [] []) ⟨_,rfl,F⟩ ?_ ?_ ?_
  ·clear F
   rintro i σ' H' _ ⟨_,rfl,F⟩
   exact SqA.e
  ·clear F
   rintro i w σ' H' hv ⟨_,rfl,F⟩
   obtain ⟨s,q1,e1,rfl,e2⟩:=rowsV_at tp hv
   have o_e2:=Old.mk (M:=[]) e2 nm0
   have ne:=nob_ne (ly.nb s (List.mem_of_getElem? e1))
   repeat k_meth
   exact ⟨_,rfl,F⟩
  ·clear F
   rintro σ' H' ⟨_,rfl,F⟩
   repeat k_meth
   exact fun d H' s e=>k d H' (F.sm.trans s) e
theorem D_stepof (T:Txt K mg c R CL CS ct_Linit pt_Linit):Def P w K mg base (CX1 P w) 4 "step_of" ["layout", "name", "to", "moved_ahead"] (sp_stepof CL (c 2)):=by
 have MT_Lblock:=MT_Lblock (P:=P) (w:=w) (base:=base) T
 refine def_ofX T.d_stepof sc_stepof (fun vs H Q E h=>?_) (fun _ _ _ _ _ _=>el4 fun _ _ _ _=>rfl) (fun f cdv A outer s H vs Q E hr h=>?_)
 ·obtain ⟨x,p,dx,l,n,zs,rs,rfl,_⟩:=h
  rfl
 ·obtain ⟨x,p,dx,l,n,zs,rs,rfl,ly,k⟩:=h
  have nd:=sc_stepof.nd
  refine ⟨_,(pss_cons (ps_set (i:=4) nd rfl (Or.inl rfl) (pe_met (pv 0) T.clL MT_Lblock hr (pa_cons (pv 1) pa_nil) (hx:=pass1)))
   pss_never),?_⟩
  clear nd MT_Lblock
  rw [show start ["layout", "name", "to", "moved_ahead", "block"] [.ref x,.str "nobody", .int 0,.ref l]=[some (.ref x),some (.str "nobody"),some (.int 0),some (.ref l),none] from rfl]
  try dsimp only [cx_K,cx_K2,cx_s0]
  have hx:=ly.x
  have hp:=ly.p
  have tp:=ly.t
  have lyf:LyF n rs:=⟨ly.ly,ly.as,ly.le,ly.nb⟩
  have sz_:=ly.sz
  have few:=sz_.1
  have zl:zs.length=rs.length:=by rw [tp.1,rowsV_len]
  have iL_many:FldOk K CL "many" := ⟨T.clL,T.aL_many⟩
  have iL_rows:FldOk K CL "rows" := ⟨T.clL,T.aL_rows⟩
  have iS_stretches:FldOk K CS "stretches" := ⟨T.clS,T.aS_stretches⟩
  have o_hx:=Old.mk (M:=[]) hx nm0
  have o_hp:=Old.mk (M:=[]) hp nm0
  have o_tp:=OldP.mk tp
  have F:SH H [] H [] []:=SH.nil
  repeat k_meth
  exact fun d H' s e=>k d H' (F.sm.trans s) e
theorem D_prices (T:Txt K mg c R CL CS ct_Linit pt_Linit):Def P w K mg base (CX1 P w) 4 "prices" ["layout", "size"] (sp_pricesX K CL (c 0)):=by
 have D_is_within:=D_is_within (P:=P) (w:=w) (base:=base) T
 have D_left:=D_left (P:=P) (w:=w) (base:=base) T
 have D_right:=D_right (P:=P) (w:=w) (base:=base) T
 refine def_ofX T.d_prices sc_prices (fun vs H Q E h=>?_) (fun _ _ _ _ _ _=>el2 fun _ _=>rfl) (fun f cdv A outer s H vs Q E hr h=>?_)
 ·obtain ⟨x,p,dx,n,zs,rs,v,n1,rfl,_⟩:=h
  rfl
 ·obtain ⟨x,p,dx,n,zs,rs,v,n1,rfl,ly,ty,kk⟩:=h
  have nd:=sc_prices.nd
  refine ⟨_,(pss_cons (ps_if (pt_not (pt_val (pe_def D_is_within hr (pa_cons (pv 1) (pa_cons pe_int (pa_cons (pe_gl T.g_MOST_CELLS) pa_nil)))))) (pss_one (ps_raise T.k_NoSize (pe_ex1N T.e_NoSize (I_NoSize T.e_NoSize.S T.a_NoSize_size) hr (pa_cons (pv 1) pa_nil)))) pss_nil)
   (PSs.nox (pss_one (ps_ret (pe_tupA (pa_cons (pe_def D_left hr (pa_cons (pv 0) (pa_cons (pv 1) pa_nil))) (pa_cons (pe_def D_right hr (pa_cons (pv 0) (pa_cons (pv 1) pa_nil))) pa_nil))))))),?_⟩
  clear nd D_is_within D_left D_right
  rw [show start ["layout", "size"] [.ref x,v]=[some (.ref x),some (v)] from rfl]
  try dsimp only [cx_K,cx_K2,cx_s0]
  have hx:=ly.x
  have hp:=ly.p
  have tp:=ly.t
  have lyf:LyF n rs:=⟨ly.ly,ly.as,ly.le,ly.nb⟩
  have sz_:=ly.sz
  have few:=sz_.1
  have zl:zs.length=rs.length:=by rw [tp.1,rowsV_len]
  have iL_many:FldOk K CL "many" := ⟨T.clL,T.aL_many⟩
  have iL_rows:FldOk K CL "rows" := ⟨T.clL,T.aL_rows⟩
  have iS_stretches:FldOk K CS "stretches" := ⟨T.clS,T.aS_stretches⟩
  have o_hx:=Old.mk (M:=[]) hx nm0
  have o_hp:=Old.mk (M:=[]) hp nm0
  have o_tp:=OldP.mk tp
  have F:SH H [] H [] []:=SH.nil
  have o_v:OldT K H [] v n1:=⟨ty,fun _ _ z=>by cases z⟩
  rcases kk with ⟨s,rfl,h1,h2,k⟩ | ⟨hb,k⟩
  ·have gn:=gaps_nn ly.ly ly.as
   repeat k_meth
   rw [decide_eq_true (show (1:Int)≤(s:Int) by lia),decide_eq_true (show (s:Int)≤240 by lia),show (true && true)=true from rfl]
   repeat k_meth
   refine ⟨x,p,dx,n,zs,rs,s,rfl,hatC,hatC,TpA.e,few,h2,gn,fun l ys H2 m2 hl ls fr nl=>?_⟩
   replace F:=F.same m2
   repeat k_meth
   refine ⟨x,p,dx,n,zs,rs,s,rfl,hatC,hatC,TpA.e,few,h2,gn,fun m us H3 m3 hm ms fm nm=>?_⟩
   replace F:=F.same m3
   repeat k_meth
   exact k _ _ F.sm
  ·repeat k_meth
   rw [hb]
   repeat k_meth
   exact fun d H' s e=>k d H' (F.sm.trans s) e
theorem D_isprices (T:Txt K mg c R CL CS ct_Linit pt_Linit):Def P w K mg base (CX1 P w) 5 "is_prices" ["layout", "size", "told"] (sp_ispX K CL (c 0)):=by
 have D_prices:=D_prices (P:=P) (w:=w) (base:=base) T
 have D_truth:=D_truth (P:=P) (w:=w) (base:=base) T
 refine def_ofX T.d_isprices sc_isprices (fun vs H Q E h=>?_) (fun _ _ _ _ _ _=>el3 fun _ _ _=>rfl) (fun f cdv A outer s H vs Q E hr h=>?_)
 ·obtain ⟨x,p,dx,n,zs,rs,v,u,n1,rfl,_⟩:=h
  rfl
 ·obtain ⟨x,p,dx,n,zs,rs,v,u,n1,rfl,ly,ty,hb,k⟩:=h
  have nd:=sc_isprices.nd
  refine ⟨_,(pss_one (ps_ret (pe_and (pe_cmpR (op_eq_dN hr) (pv 2) (pe_def D_prices hr (pa_cons (pv 0) (pa_cons (pv 1) pa_nil)) (hx:=pass1)) (nomark _)) (pe_one (pe_not (pe_def D_truth hr (pa_cons (pv 2) pa_nil))))))),?_⟩
  clear nd D_prices D_truth
  rw [show start ["layout", "size", "told"] [.ref x,v,u]=[some (.ref x),some (v),some (u)] from rfl]
  try dsimp only [cx_K,cx_K2,cx_s0]
  have hx:=ly.x
  have hp:=ly.p
  have tp:=ly.t
  have lyf:LyF n rs:=⟨ly.ly,ly.as,ly.le,ly.nb⟩
  have sz_:=ly.sz
  have few:=sz_.1
  have zl:zs.length=rs.length:=by rw [tp.1,rowsV_len]
  have iL_many:FldOk K CL "many" := ⟨T.clL,T.aL_many⟩
  have iL_rows:FldOk K CL "rows" := ⟨T.clL,T.aL_rows⟩
  have iS_stretches:FldOk K CS "stretches" := ⟨T.clS,T.aS_stretches⟩
  have o_hx:=Old.mk (M:=[]) hx nm0
  have o_hp:=Old.mk (M:=[]) hp nm0
  have o_tp:=OldP.mk tp
  have F:SH H [] H [] []:=SH.nil
  have o_v:OldT K H [] v n1:=⟨ty,fun _ _ z=>by cases z⟩
  have hm:SzB v:=⟨hb⟩
  repeat k_meth
  exact fun d H' s e=>k d H' (F.sm.trans s) e
theorem D_least (T:Txt K mg c R CL CS ct_Linit pt_Linit):Def P w K mg base CX0 5 "least_choice" ["layout", "size"] (sp_least CL):=by
 have D_prices:=D_prices (P:=P) (w:=w) (base:=base) T
 have D_gapsof:=D_gapsof (P:=P) (w:=w) (base:=base) T
 refine def_of T.d_least sc_least (fun vs H Q E h=>?_) (fun _ _ _ _ _ _=>el2 fun _ _=>rfl) (fun f cdv A outer s H vs Q E hr h=>?_)
 ·obtain ⟨x,p,dx,n,zs,rs,s,rfl,_⟩:=h
  rfl
 ·obtain ⟨x,p,dx,n,zs,rs,s,rfl,ly,s1,k⟩:=h
  have nd:=sc_least.nd
  refine ⟨_,(pss_cons (ps_if (pt_cmpR op_gt (pv 1) (pe_fld (pv 0) rfl) (nomark _)) (pss_one (ps_ret pe_non)) pss_nil)
   pss_never),?_⟩
  clear nd D_prices D_gapsof
  rw [show start ["layout", "size", "tables", "choices", "gap", "cells"] [.ref x,.int s]=[some (.ref x),some (.int s),none,none,none,none] from rfl]
  try dsimp only [cx_K,cx_K2]
  have hx:=ly.x
  have hp:=ly.p
  have tp:=ly.t
  have lyf:LyF n rs:=⟨ly.ly,ly.as,ly.le,ly.nb⟩
  have sz_:=ly.sz
  have few:=sz_.1
  have zl:zs.length=rs.length:=by rw [tp.1,rowsV_len]
  have iL_many:FldOk K CL "many" := ⟨T.clL,T.aL_many⟩
  have iL_rows:FldOk K CL "rows" := ⟨T.clL,T.aL_rows⟩
  have iS_stretches:FldOk K CS "stretches" := ⟨T.clS,T.aS_stretches⟩
  have o_hx:=Old.mk (M:=[]) hx nm0
  have o_hp:=Old.mk (M:=[]) hp nm0
  have o_tp:=OldP.mk tp
  have F:SH H [] H [] []:=SH.nil
  have le:=ly.le
  repeat k_meth
  exact k _ F.sm
theorem MK_Sinit (T:Txt K mg c R CL CS ct_Linit pt_Linit):Mak P w K mg base CX0 1 "Stuck" CS ["self", "stretches"] (sp_Sinit CS):=by
 obtain ⟨f,hf,hm⟩:=T.f_Sinit
 refine (fn_tells (k:=0) hf sc_Sinit (fun vs H Q E h=>?_) (fun _ _ _ _ _ _=>el2 fun _ _=>rfl) (fun f cdv A outer s H vs Q E hr h=>?_)).mak hm T.gc_Stuck
 ·obtain ⟨y,dy,q,rfl,_⟩:=h
  rfl
 ·obtain ⟨y,dy,q,rfl,hy,k⟩:=h
  have nd:=sc_Sinit.nd
  refine ⟨_,(pss_one (ps_fld (pv 0) (pv 1) rfl)),?_⟩
  clear nd 
  rw [show start ["self", "stretches"] [.ref y,.ref q]=[some (.ref y),some (.ref q)] from rfl]
  try dsimp only [cx_K,cx_K2]
  have iL_many:FldOk K CL "many" := ⟨T.clL,T.aL_many⟩
  have iL_rows:FldOk K CL "rows" := ⟨T.clL,T.aL_rows⟩
  have iS_stretches:FldOk K CS "stretches" := ⟨T.clS,T.aS_stretches⟩
  have F:SH H [y] H [(y,.ins CS dy [])] []:=SH.nil.addM List.mem_cons_self hy rfl (by simp)
  repeat k_meth
  exact k _ F.kpo hatC
theorem D_plan (T:Txt K mg c R CL CS ct_Linit pt_Linit):Def P w K mg base (CX1 P w) 7 "plan" ["layout", "size"] (sp_plan K CL CS (c 0)):=by
 have D_needs:=D_needs (P:=P) (w:=w) (base:=base) T
 have D_least:=D_least (P:=P) (w:=w) (base:=base) T
 have MK_Sinit:=MK_Sinit (P:=P) (w:=w) (base:=base) T
 have D_stretches:=D_stretches (P:=P) (w:=w) (base:=base) T
 have D_gapsof:=D_gapsof (P:=P) (w:=w) (base:=base) T
 refine def_ofX T.d_plan sc_plan (fun vs H Q E h=>?_) (fun _ _ _ _ _ _=>el2 fun _ _=>rfl) (fun f cdv A outer s H vs Q E hr h=>?_)
 ·obtain ⟨x,p,dx,n,zs,rs,v,n1,rfl,_⟩:=h
  rfl
 ·obtain ⟨x,p,dx,n,zs,rs,v,n1,rfl,ly,ty,kk⟩:=h
  have nd:=sc_plan.nd
  refine ⟨_,(pss_cons (ps_expr (pe_def D_needs hr (pa_cons (pv 1) pa_nil) (hx:=pass1)))
   (PSs.nox (pss_cons (ps_set (i:=2) nd rfl (Or.inl rfl) (pe_def D_least hr (pa_cons (pv 0) (pa_cons (pv 1) pa_nil))))
   (pss_cons (ps_if (pt_cmpR op_isNN (pv 2) pe_non (nomark _)) (pss_one (ps_ret (pe_makB MK_Sinit hr (pa_cons (pe_def D_stretches hr (pa_cons (pv 0) pa_nil)) pa_nil)))) pss_nil)
   pss_never)))),?_⟩
  clear nd D_needs D_least MK_Sinit D_stretches D_gapsof
  rw [show start ["layout", "size", "choice", "gap", "at_right", "moves"] [.ref x,v]=[some (.ref x),some (v),none,none,none,none] from rfl]
  try dsimp only [cx_K,cx_K2,cx_s0]
  have hx:=ly.x
  have hp:=ly.p
  have tp:=ly.t
  have lyf:LyF n rs:=⟨ly.ly,ly.as,ly.le,ly.nb⟩
  have sz_:=ly.sz
  have few:=sz_.1
  have zl:zs.length=rs.length:=by rw [tp.1,rowsV_len]
  have iL_many:FldOk K CL "many" := ⟨T.clL,T.aL_many⟩
  have iL_rows:FldOk K CL "rows" := ⟨T.clL,T.aL_rows⟩
  have iS_stretches:FldOk K CS "stretches" := ⟨T.clS,T.aS_stretches⟩
  have o_hx:=Old.mk (M:=[]) hx nm0
  have o_hp:=Old.mk (M:=[]) hp nm0
  have o_tp:=OldP.mk tp
  have F:SH H [] H [] []:=SH.nil
  have o_v:OldT K H [] v n1:=⟨ty,fun _ _ z=>by cases z⟩
  rcases kk with ⟨s,rfl,h1,k⟩ | ⟨hb,k⟩
  ·repeat k_meth
   exact k x_ dx_ p_ _ F.sm hatC
  ·have hm:SzF v:=⟨hb⟩
   repeat k_meth
   exact fun d H' s e=>k d H' (F.sm.trans s) e
end
open M22
theorem holes_few {fs:List Bool}:(holesF fs).length≤fs.length:=by
 have h:=hole_sum fs
 have h2:fs.count true≤fs.length:=List.count_le_length
 have h3:∀ws:List (Nat×Nat),(∀w∈ws,1≤w.2)→ws.length≤(ws.map (·.2)).sum:=by
  intro ws
  induction ws with
  | nil=>intro _;exact Nat.le_refl _
  | cons w t ih =>
   intro hw
   have:=hw w List.mem_cons_self
   have:=ih fun z hz=>hw z (List.mem_cons_of_mem _ hz)
   simp only [List.length_cons,List.map_cons,List.sum_cons]
   lia
 have:=h3 (holesF fs) fun w hw=>(hole_ok hw).1
 lia
def sp_pairN:Sp:=fun vs H Q _=>∃t,vs=[.ref t]∧H t=some (.tup [.str "nobody", .int 0])∧Q (.bl true) H
def sp_gone (K:W.Frag) (CL CM CB:Addr):Sp:=fun vs H Q E=>∃(x p dx:Addr) (n:Nat) (zs:List V) (rs:List Rw) (u:V),vs=[.ref x,u]∧LyH CL H x p dx n zs rs ∧
 ((∃q,u=.ref q∧H q=some (.lst [])∧∀t s H',Same H H'→H' t=some (.tup [.ref s,.ref x])→Q (.ref t) H') ∨
  (∃n1:String,TyOf K H u (.type n1)∧(n1 == "list")=false∧Rz E H CM "moves" u) ∨
  (∃q t,u=.ref q∧H q=some (.lst [.ref t])∧H t=some (.tup [.str "nobody", .int 0])∧Rz E H CB "name" (.str "nobody")))
def sp_goneif (K:W.Frag) (CL:Addr):Sp:=fun vs H Q _=>∃(x p dx:Addr) (n:Nat) (zs:List V) (rs:List Rw) (u:V),vs=[.ref x,u]∧LyH CL H x p dx n zs rs ∧
 ((∃q,u=.ref q∧H q=some (.lst [])∧∀t s H',Same H H'→H' t=some (.tup [.ref s,.ref x])→Q (.ref t) H') ∨
  ((∃n1:String,TyOf K H u (.type n1)∧(n1 == "list")=false)∧∀H',Same H H'→Q .non H') ∨
  ((∃q t,u=.ref q∧H q=some (.lst [.ref t])∧H t=some (.tup [.str "nobody", .int 0]))∧∀H',Same H H'→Q .non H'))
def ThG (K:W.Frag) (H:Hp) (u:V):Prop:=(∃q,u=.ref q∧H q=some (.lst []))∨(∃n1:String,TyOf K H u (.type n1)∧(n1 == "list")=false)∨(∃q t,u=.ref q∧H q=some (.lst [.ref t])∧H t=some (.tup [.str "nobody", .int 0]))
def sp_priceof (K:W.Frag) (CL CE:Addr):Sp:=fun vs H Q E=>∃(x p dx:Addr) (n:Nat) (zs:List V) (rs:List Rw) (v u:V) (n1:String),vs=[.ref x,v,u]∧LyH CL H x p dx n zs rs∧TyOf K H v (.type n1) ∧
 ((∃s:Int,v=.int s∧241≤s∧ThG K H u∧∀H',Same H H'→Q .non H')∨(isFr v 1=false∧Rz E H CE "size" v))
def ThS (H:Hp) (u:V):Prop:=∃d,TrH H d u∧depD d≤2∧∀ws:List W3,0 < ws.length→eqDt d (.lst ((rows3 ws).map rowDt))=false
def sp_isstuck (K:W.Frag) (CL CE:Addr):Sp:=fun vs H Q E=>∃(x p dx:Addr) (n:Nat) (zs:List V) (rs:List Rw) (v u:V) (n1:String),vs=[.ref x,v,u]∧LyH CL H x p dx n zs rs∧TyOf K H v (.type n1) ∧
 ((∃s:Int,v=.int s∧241≤s∧((∃q ys,u=.ref q∧H q=some (.lst ys)∧TupsAt H ys (rows3 (strF n rs))∧∀H',Same H H'→Q (.bl true) H')∨(ThS H u∧∀H',Same H H'→Q (.bl false) H')))∨(isFr v 1=false∧Rz E H CE "size" v))
section
variable {K:W.Frag} {CL CS CE CM CB x p dx l y dy q t:Addr} {H H0:Hp} {M:List Addr} {L L':List (Addr×HO)} {I:List Im} {Q:VK} {E:XK} {n s:Nat} {zs:List V} {rs:List Rw} {v u:V} {n1:String} {z:Int}
class NoL (n1:String):Prop where
 e:(n1 == "list")=false
instance go_goneE [h:LyQ CL H x p dx n zs rs] [h2:Hat H q (.lst [])]:Go (sp_gone K CL CM CB [.ref x,.ref q] H Q E) (∀t s H',Same H H'→H' t=some (.tup [.ref s,.ref x])→Q (.ref t) H'):=⟨fun k=>⟨x,p,dx,n,zs,rs,_,rfl,h.e,.inl ⟨q,rfl,h2.e,k⟩⟩⟩
instance go_goneN [h:LyQ CL H x p dx n zs rs] [c:NoL n1] [t:TyA K H u n1]:Go (sp_gone K CL CM CB [.ref x,u] H Q E) (Rz E H CM "moves" u):=⟨fun k=>⟨x,p,dx,n,zs,rs,u,rfl,h.e,.inr (.inl ⟨n1,t.e,c.e,k⟩)⟩⟩
instance go_goneB [h:LyQ CL H x p dx n zs rs] [h2:Hat H q (.lst [.ref t])] [h3:Hat H t (.tup [.str "nobody", .int 0])]:Go (sp_gone K CL CM CB [.ref x,.ref q] H Q E) (Rz E H CB "name" (.str "nobody")):=⟨fun k=>⟨x,p,dx,n,zs,rs,_,rfl,h.e,.inr (.inr ⟨q,t,rfl,h2.e,h3.e,k⟩)⟩⟩
instance go_goifE [h:LyQ CL H x p dx n zs rs] [h2:Hat H q (.lst [])]:Go (sp_goneif K CL [.ref x,.ref q] H Q E) (∀t s H',Same H H'→H' t=some (.tup [.ref s,.ref x])→Q (.ref t) H'):=⟨fun k=>⟨x,p,dx,n,zs,rs,_,rfl,h.e,.inl ⟨q,rfl,h2.e,k⟩⟩⟩
instance go_goifN [h:LyQ CL H x p dx n zs rs] [c:NoL n1] [t:TyA K H u n1]:Go (sp_goneif K CL [.ref x,u] H Q E) (∀H',Same H H'→Q .non H'):=⟨fun k=>⟨x,p,dx,n,zs,rs,u,rfl,h.e,.inr (.inl ⟨⟨n1,t.e,c.e⟩,k⟩)⟩⟩
instance go_goifB [h:LyQ CL H x p dx n zs rs] [h2:Hat H q (.lst [.ref t])] [h3:Hat H t (.tup [.str "nobody", .int 0])]:Go (sp_goneif K CL [.ref x,.ref q] H Q E) (∀H',Same H H'→Q .non H'):=⟨fun k=>⟨x,p,dx,n,zs,rs,_,rfl,h.e,.inr (.inr ⟨⟨q,t,rfl,h2.e,h3.e⟩,k⟩)⟩⟩
instance nx_gone [F:SH H0 M H L I] {Z:Addr→Hp→Prop}:Go (∀t s H',Same H H'→H' t=some (.tup [.ref s,.ref x])→Z t H') (∀H' s t,SH H0 M H' L (.tup t [.ref s,.ref x]::I)→Z t H'):=⟨fun k t s H' m e=>k H' s t ((F.same m).addT e)⟩
instance go_pairN [h:Hat H t (.tup [.str "nobody", .int 0])]:Go (sp_pairN [.ref t] H Q E) (Q (.bl true) H):=⟨fun k=>⟨t,rfl,h.e,k⟩⟩
end
theorem strF_le {n:Nat} {rs:List Rw} (ly:Lay n rs):∀w∈strF n rs,w.2.2≤(n:Int):=by
 have sm:∀a b:Int,freeB rs a b≤b - a:=fun a b=>by
  have:0≤((rs.filter (within a b)).map fun r=>(r.sz:Int)).sum:=by
   have h:∀l:List Int,(∀x∈l,0≤x)→0≤l.sum:=fun l=>by
    induction l with
    | nil=>intro _;simp
    | cons a t ih=>intro h;have:=h a List.mem_cons_self;have:=ih fun x hx=>h x (List.mem_cons_of_mem _ hx);rw [List.sum_cons];lia
   refine h _ fun x hx=>?_
   obtain ⟨r,_,rfl⟩:=List.mem_map.mp hx
   exact Int.natCast_nonneg _
  unfold freeB
  lia
 have aux:∀pre:List Rw,(∀r∈pre,r∈rs)→0≤(spF rs pre).2∧∀w∈(spF rs pre).1,w.2.2≤(n:Int):=by
  intro pre
  induction pre using snocR with
  | h0=>intro _;exact ⟨Int.le_refl _,fun w hw=>by cases hw⟩
  | h1 pre r ih =>
   intro hm
   have hi:=ih fun s hs=>hm s (List.mem_append_left _ hs)
   have g:=(ly.good r (hm r (by simp))).le
   rw [spF_snoc]
   split
   ·refine ⟨by show (0:Int)≤(r.st:Int) + (r.sz:Int);lia,fun w hw=>?_⟩
    rcases List.mem_append.mp hw with hw | hw
    ·exact hi.2 w hw
    ·rw [List.mem_singleton.mp hw]
     have:=sm (spF rs pre).2 r.st
     have:=hi.1
     show freeB rs (spF rs pre).2 r.st≤n
     lia
   ·exact hi
 intro w hw
 have a:=aux rs fun r hr=>hr
 rcases List.mem_append.mp hw with hw | hw
 ·exact a.2 w hw
 ·rw [List.mem_singleton.mp hw]
  have:=sm (spF rs rs).2 n
  show freeB rs (spF rs rs).2 n≤n
  lia
theorem tr_rows {H:Hp} {ys:List V} {rows:List (List V)} (h:TupsAt H ys rows) (hf:∀r∈rows,∀v∈r,isFlat v=true):TrsH H (rows.map rowDt) ys:=TrsH.of (by rw [List.length_map,h.1]) fun i v e=>by
 obtain ⟨r,q,e1,rfl,e3⟩:=tups_at h e
 exact ⟨rowDt r,by rw [List.getElem?_map,e1];rfl,TrH.tup e3 (TrsH.flats (hf r (List.mem_of_getElem? e1)))⟩
theorem hasT_rows:∀ws:List W3,hasTs ((rows3 ws).map rowDt)=false
 | []=>rfl
 | w::ws=>by
  show (hasT (rowDt (row3 w)) || hasTs ((rows3 ws).map rowDt))=false
  rw [hasT_rows ws]
  rfl
theorem widD_rows:∀ws:List W3,widDs ((rows3 ws).map rowDt)
 | []=>by simp [rows3,widDs]
 | w::ws=>by
  show widDs (rowDt (row3 w)::(rows3 ws).map rowDt)
  refine ⟨?_,widD_rows ws⟩
  simp [rowDt,row3,flatDt,widD,widDs]
theorem strF_pos (n:Nat) (rs:List Rw):0 < (strF n rs).length∧(strF n rs).length≤rs.length + 1:=by
 have:=spF_len rs rs
 unfold strF
 rw [List.length_append,List.length_singleton]
 lia
section
variable {P:Program} {w:World} {K:W.Frag} {mg:Str→Option Value} {base:Heap} {c:Nat→Addr} {ct_Linit pt_Linit R CL CS:Addr}
theorem D_ispair (T:Txt K mg c R CL CS ct_Linit pt_Linit):Def P w K mg base CX0 1 "is_pair" ["thing"] sp_pairN:=by
 refine def_of T.d_ispair sc_ispair (fun vs H Q E h=>?_) (fun _ _ _ _ _ _=>el1 fun _=>rfl) (fun f cdv A outer s H vs Q E hr h=>?_)
 ·obtain ⟨t,rfl,_⟩:=h
  rfl
 ·obtain ⟨t,rfl,ht,k⟩:=h
  have nd:=sc_ispair.nd
  refine ⟨_,(pss_one (ps_ret (pe_and (pe_callB call_isT rfl T.n_isinstance boot_isinstance (pa_cons (pv 0) (pa_cons (pe_ty (T := "tuple") rfl T.n_tuple boot_tuple) pa_nil))) (pe_one (pe_cmpR op_eq (pe_callB call_lenN rfl T.n_len boot_len (pa_cons (pv 0) pa_nil)) pe_int (nomark _)))))),?_⟩
  clear nd 
  rw [show start ["thing"] [.ref t]=[some (.ref t)] from rfl]
  try dsimp only [cx_K,cx_K2]
  have iL_many:FldOk K CL "many" := ⟨T.clL,T.aL_many⟩
  have iL_rows:FldOk K CL "rows" := ⟨T.clL,T.aL_rows⟩
  have iS_stretches:FldOk K CS "stretches" := ⟨T.clS,T.aS_stretches⟩
  have o_ht:=Old.mk (M:=[]) ht nm0
  have F:SH H [] H [] []:=SH.nil
  repeat k_meth
  exact k
theorem D_gone (T:Txt K mg c R CL CS ct_Linit pt_Linit):Def P w K mg base (CX1 P w) 5 "gone_through" ["layout", "moves"] (sp_gone K CL (c 3) (c 2)):=by
 have D_stepof:=D_stepof (P:=P) (w:=w) (base:=base) T
 have D_ispair:=D_ispair (P:=P) (w:=w) (base:=base) T
 refine def_ofX T.d_gone sc_gone (fun vs H Q E h=>?_) (fun _ _ _ _ _ _=>el2 fun _ _=>rfl) (fun f cdv A outer s H vs Q E hr h=>?_)
 ·obtain ⟨x,p,dx,n,zs,rs,u,rfl,_⟩:=h
  rfl
 ·obtain ⟨x,p,dx,n,zs,rs,u,rfl,ly,kk⟩:=h
  have nd:=sc_gone.nd
  refine ⟨_,(pss_cons (ps_if (PW.pt (pw_or (pt_not (pt_val (pe_callB call_isT rfl T.n_isinstance boot_isinstance (pa_cons (pv 1) (pa_cons (pe_ty (T := "list") rfl T.n_list boot_list) pa_nil))))) (pw_or1 (pt_not (pt_val (pe_callB (call_all rfl) rfl T.n_all boot_all (pa_cons (pe_comp (N:=["move"]) (nt:=1) (fr:=[]) (pi_list (pv 1)) (fun _ _ _ _=>(pg_name (i:=0) (show (["move"]:List Str).Nodup from by decide +kernel) rfl (Or.inl rfl))) (fun _ _ _ _=>pif_nil) (fun _ _ _ _=>(pe_def D_ispair hr (pa_cons (pv 0) pa_nil)))) pa_nil))))))) (pss_one (ps_raise T.k_NoMoves (pe_ex1N T.e_NoMoves (I_NoMoves T.e_NoMoves.S T.a_NoMoves_moves) hr (pa_cons (pv 1) pa_nil)))) pss_nil)
   (pss_cons (ps_set (i:=2) nd rfl (Or.inl rfl) (pe_lstA pa_nil))
   (pss_cons (ps_for PassesOwn.leaving rfl (pi_list (pv 1)) (pg_tup rfl (pgs_cons (pg_name (i:=3) nd rfl (Or.inl rfl)) (pgs_cons (pg_name (i:=4) nd rfl (Or.inl rfl)) pgs_nil))) (pss_cons (ps_setc (i:=5) nd rfl (Or.inl rfl) (N:=["step"]) (nt:=1) (fr:=[]) (pi_list (pv 2)) (fun _ _ _ _=>(pg_name (i:=0) (show (["step"]:List Str).Nodup from by decide +kernel) rfl (Or.inl rfl))) (fun _ _ _ _=>pif_nil) (fun _ _ _ _=>(pe_ix (ix_listK (K:=K) rfl) (pv 0) pe_int (fun _ _=>rfl))))
    (pss_cons (ps_expr (pe_appendA (pv 2) (pe_def D_stepof hr (pa_cons (pv 0) (pa_cons (pv 3) (pa_cons (pv 4) (pa_cons (pv 5) pa_nil)))) (hx:=pass1))))
    pss_never)))
   (PSs.nox (pss_one (ps_ret (pe_tupA (pa_cons (pv 2) (pa_cons (pv 0) pa_nil))))))))),?_⟩
  clear nd D_stepof D_ispair
  rw [show start ["layout", "moves", "steps", "name", "to", "moved_ahead"] [.ref x,u]=[some (.ref x),some (u),none,none,none,none] from rfl]
  try dsimp only [cx_K,cx_K2,cx_s0]
  have hx:=ly.x
  have hp:=ly.p
  have tp:=ly.t
  have lyf:LyF n rs:=⟨ly.ly,ly.as,ly.le,ly.nb⟩
  have sz_:=ly.sz
  have few:=sz_.1
  have zl:zs.length=rs.length:=by rw [tp.1,rowsV_len]
  have iL_many:FldOk K CL "many" := ⟨T.clL,T.aL_many⟩
  have iL_rows:FldOk K CL "rows" := ⟨T.clL,T.aL_rows⟩
  have iS_stretches:FldOk K CS "stretches" := ⟨T.clS,T.aS_stretches⟩
  have o_hx:=Old.mk (M:=[]) hx nm0
  have o_hp:=Old.mk (M:=[]) hp nm0
  have o_tp:=OldP.mk tp
  have F:SH H [] H [] []:=SH.nil
  rcases kk with ⟨q,rfl,hq,k⟩ | ⟨n1,ty,nl,k⟩ | ⟨q,t,rfl,hq,ht,k⟩
  ·have o_q:=Old.mk (M:=[]) hq nm0
   repeat k_meth
   refine comp_empty SqA.e fun l H1 nw=>?_
   replace F:=F.newL nw
   repeat k_meth
   refine ⟨l,[],rfl,SqA.e,?_⟩
   rw [show ([]:List Bool).all id=true from rfl]
   repeat k_meth
   rename Addr=>st
   refine forL_by (xs:=[]) (fun i σ' H'=>∃o3 o4 o5:Option V,σ'=[some (.ref x),some (.ref q),some (.ref st),o3,o4,o5]∧SH H [] H' [(st,.lst [])] []) ⟨_,_,_,rfl,F.sub SbC.s SbI.s⟩ ?_ ?_ ?_
   ·clear F
    rintro i σ' H' _ ⟨_,_,_,rfl,F⟩
    exact SqA.e
   ·clear F
    rintro i v σ' H' hv
    simp at hv
   ·clear F
    rintro σ' H' ⟨_,_,_,rfl,F⟩
    repeat k_meth
    exact k _ _ _ F.sm hatC
  ·have o_u:OldT K H [] u n1:=⟨ty,fun _ _ z=>by cases z⟩
   repeat k_meth
   rw [nl]
   repeat k_meth
   exact fun d H' s e=>k d H' (F.sm.trans s) e
  ·have o_q:=Old.mk (M:=[]) hq nm0
   have o_t:=Old.mk (M:=[]) ht nm0
   repeat k_meth
   have F0:=F.sm
   refine comp_true (items_list (xs:=[.ref t])) (by show 1≤1000000;decide) rfl (fun H' s=>s.seq SqA.e) (fun v H1 R hv s1 kk=>?_) fun l H1 nw=>?_
   ·clear F
    have F:SH H1 [] H1 [] []:=SH.nil
    rw [List.mem_singleton.mp hv]
    have o_t1:=Old.mk (M:=[]) (s1 _ _ ((F0 _ _) ht)) nm0
    repeat k_meth
    exact kk _ (Same.refl _)
   ·replace F:=F.newL nw
    repeat k_meth
    refine ⟨l,_,rfl,SqA.e,?_⟩
    rw [show (List.replicate [V.ref t].length true).all id=true from rfl]
    repeat k_meth
    rename Addr=>st
    refine forL_by (xs:=[.ref t]) (fun i σ' H'=>i=0∧∃o3 o4 o5:Option V,σ'=[some (.ref x),some (.ref q),some (.ref st),o3,o4,o5]∧SH H [] H' [(st,.lst [])] []) ⟨rfl,_,_,_,rfl,F.sub SbC.s SbI.s⟩ ?_ ?_ ?_
    ·clear F
     rintro i σ' H' _ ⟨_,_,_,_,rfl,F⟩
     exact SqA.e
    ·clear F
     rintro i v σ' H' hv ⟨rfl,_,_,_,rfl,F⟩
     cases hv
     repeat k_meth
     refine comp_empty SqA.e fun l2 H2 nw2=>?_
     replace F:=F.newL nw2
     repeat k_meth
     exact fun d H' s e=>k d H' (F.sm.trans s) e
    ·clear F
     rintro σ' H' ⟨h,_⟩
     cases h
theorem D_goneif (T:Txt K mg c R CL CS ct_Linit pt_Linit):Def P w K mg base CX0 6 "gone_through_if_let" ["layout", "moves"] (sp_goneif K CL):=by
 have D_gone:=D_gone (P:=P) (w:=w) (base:=base) T
 refine def_of T.d_goneif sc_goneif (fun vs H Q E h=>?_) (fun _ _ _ _ _ _=>el2 fun _ _=>rfl) (fun f cdv A outer s H vs Q E hr h=>?_)
 ·obtain ⟨x,p,dx,n,zs,rs,u,rfl,_⟩:=h
  rfl
 ·obtain ⟨x,p,dx,n,zs,rs,u,rfl,ly,kk⟩:=h
  have nd:=sc_goneif.nd
  refine ⟨_,(pss_one (ps_try (fun pins EX=>(pss_one (ps_ret (pe_defx D_gone hr (pa_cons (pv 0) (pa_cons (pv 1) pa_nil)))))) (ph_pl T.g_R (fun a=>(pss_one (ps_ret pe_non))) ph_nil))),?_⟩
  clear nd D_gone
  rw [show start ["layout", "moves"] [.ref x,u]=[some (.ref x),some (u)] from rfl]
  try dsimp only [cx_K,cx_K2]
  have hx:=ly.x
  have hp:=ly.p
  have tp:=ly.t
  have lyf:LyF n rs:=⟨ly.ly,ly.as,ly.le,ly.nb⟩
  have sz_:=ly.sz
  have few:=sz_.1
  have zl:zs.length=rs.length:=by rw [tp.1,rowsV_len]
  have iL_many:FldOk K CL "many" := ⟨T.clL,T.aL_many⟩
  have iL_rows:FldOk K CL "rows" := ⟨T.clL,T.aL_rows⟩
  have iS_stretches:FldOk K CS "stretches" := ⟨T.clS,T.aS_stretches⟩
  have o_hx:=Old.mk (M:=[]) hx nm0
  have o_hp:=Old.mk (M:=[]) hp nm0
  have o_tp:=OldP.mk tp
  have F:SH H [] H [] []:=SH.nil
  have xm_NoBlock:ExM K (c 2) (c 2) true:=⟨exm_same T.e_NoBlock.I⟩
  have xr_NoBlock:ExM K (c 2) R true:=⟨exm_up T.e_NoBlock.I T.c_R T.t_R T.m_R⟩
  have xm_NoMoves:ExM K (c 3) (c 3) true:=⟨exm_same T.e_NoMoves.I⟩
  have xr_NoMoves:ExM K (c 3) R true:=⟨exm_up T.e_NoMoves.I T.c_R T.t_R T.m_R⟩
  rcases kk with ⟨q,rfl,hq,k⟩ | ⟨⟨n1,ty,nl⟩,k⟩ | ⟨⟨q,t,rfl,hq,ht⟩,k⟩
  ·have o_q:=Old.mk (M:=[]) hq nm0
   repeat k_meth
   exact k _ _ _ F.sm hatC
  ·have o_u:OldT K H [] u n1:=⟨ty,fun _ _ z=>by cases z⟩
   have nl1:NoL n1:=⟨nl⟩
   repeat k_meth
   exact k _ F.sm
  ·have o_q:=Old.mk (M:=[]) hq nm0
   have o_t:=Old.mk (M:=[]) ht nm0
   repeat k_meth
   exact k _ F.sm
end
section
variable {K:W.Frag} {CL CE x p dx q:Addr} {H:Hp} {Q:VK} {E:XK} {n:Nat} {zs ys:List V} {rs:List Rw} {v u:V} {n1:String} {z:Int}
class ThGA (K:W.Frag) (H:Hp) (u:V):Prop where
 e:ThG K H u
instance (priority:=low) go_priceT [h:LyQ CL H x p dx n zs rs] [t:ThGA K H u]:Go (sp_priceof K CL CE [.ref x,.int z,u] H Q E) (Sd (241≤z) (∀H',Same H H'→Q .non H')):=⟨fun k=>⟨x,p,dx,n,zs,rs,_,u,_,rfl,h.e,.int _,.inl ⟨z,rfl,k.1,t.e,k.2⟩⟩⟩
instance go_priceF [h:LyQ CL H x p dx n zs rs] [c:SzF v] [t:TyA K H v n1]:Go (sp_priceof K CL CE [.ref x,v,u] H Q E) (Rz E H CE "size" v):=⟨fun k=>⟨x,p,dx,n,zs,rs,v,u,n1,rfl,h.e,t.e,.inr ⟨c.e,k⟩⟩⟩
class ThSA (H:Hp) (u:V):Prop where
 e:ThS H u
instance (priority:=low) go_stuckT [h:LyQ CL H x p dx n zs rs] [h2:Hat H q (.lst ys)] [h3:TpA H ys (rows3 (strF n rs))]:Go (sp_isstuck K CL CE [.ref x,.int z,.ref q] H Q E) (Sd (241≤z) (∀H',Same H H'→Q (.bl true) H')):=⟨fun k=>⟨x,p,dx,n,zs,rs,_,_,_,rfl,h.e,.int _,.inl ⟨z,rfl,k.1,.inl ⟨q,ys,rfl,h2.e,h3.e,k.2⟩⟩⟩⟩
instance (priority:=low) go_stuckS [h:LyQ CL H x p dx n zs rs] [t:ThSA H u]:Go (sp_isstuck K CL CE [.ref x,.int z,u] H Q E) (Sd (241≤z) (∀H',Same H H'→Q (.bl false) H')):=⟨fun k=>⟨x,p,dx,n,zs,rs,_,u,_,rfl,h.e,.int _,.inl ⟨z,rfl,k.1,.inr ⟨t.e,k.2⟩⟩⟩⟩
instance go_stuckF [h:LyQ CL H x p dx n zs rs] [c:SzF v] [t:TyA K H v n1]:Go (sp_isstuck K CL CE [.ref x,v,u] H Q E) (Rz E H CE "size" v):=⟨fun k=>⟨x,p,dx,n,zs,rs,v,u,n1,rfl,h.e,t.e,.inr ⟨c.e,k⟩⟩⟩
end
section
variable {P:Program} {w:World} {K:W.Frag} {mg:Str→Option Value} {base:Heap} {c:Nat→Addr} {ct_Linit pt_Linit R CL CS:Addr}
theorem D_priceof (T:Txt K mg c R CL CS ct_Linit pt_Linit):Def P w K mg base (CX1 P w) 7 "price_of" ["layout", "size", "moves"] (sp_priceof K CL (c 0)):=by
 have D_needs:=D_needs (P:=P) (w:=w) (base:=base) T
 have D_goneif:=D_goneif (P:=P) (w:=w) (base:=base) T
 have D_largest:=D_largest (P:=P) (w:=w) (base:=base) T
 have D_holesof:=D_holesof (P:=P) (w:=w) (base:=base) T
 refine def_ofX T.d_priceof sc_priceof (fun vs H Q E h=>?_) (fun _ _ _ _ _ _=>el3 fun _ _ _=>rfl) (fun f cdv A outer s H vs Q E hr h=>?_)
 ·obtain ⟨x,p,dx,n,zs,rs,v,u,n1,rfl,_⟩:=h
  rfl
 ·obtain ⟨x,p,dx,n,zs,rs,v,u,n1,rfl,ly,tv,kk⟩:=h
  have nd:=sc_priceof.nd
  refine ⟨_,(pss_cons (ps_expr (pe_def D_needs hr (pa_cons (pv 1) pa_nil) (hx:=pass1)))
   (PSs.nox (pss_cons (ps_set (i:=3) nd rfl (Or.inl rfl) (pe_def D_goneif hr (pa_cons (pv 0) (pa_cons (pv 2) pa_nil))))
   (pss_cons (ps_if (PW.pt (pw_or (pt_cmpR op_isNN (pv 3) pe_non (nomark _)) (pw_or1 (pt_cmpR op_lt (pe_def D_largest hr (pa_cons (pe_def D_holesof hr (pa_cons (pe_ix ix_tup (pv 3) pe_int (fun _ _=>rfl)) pa_nil)) pa_nil)) (pv 1) (nomark _))))) (pss_one (ps_ret pe_non)) pss_nil)
   pss_never)))),?_⟩
  clear nd D_needs D_goneif D_largest D_holesof
  rw [show start ["layout", "size", "moves", "told"] [.ref x,v,u]=[some (.ref x),some (v),some (u),none] from rfl]
  try dsimp only [cx_K,cx_K2,cx_s0]
  have hx:=ly.x
  have hp:=ly.p
  have tp:=ly.t
  have lyf:LyF n rs:=⟨ly.ly,ly.as,ly.le,ly.nb⟩
  have sz_:=ly.sz
  have few:=sz_.1
  have zl:zs.length=rs.length:=by rw [tp.1,rowsV_len]
  have iL_many:FldOk K CL "many" := ⟨T.clL,T.aL_many⟩
  have iL_rows:FldOk K CL "rows" := ⟨T.clL,T.aL_rows⟩
  have iS_stretches:FldOk K CS "stretches" := ⟨T.clS,T.aS_stretches⟩
  have o_hx:=Old.mk (M:=[]) hx nm0
  have o_hp:=Old.mk (M:=[]) hp nm0
  have o_tp:=OldP.mk tp
  have F:SH H [] H [] []:=SH.nil
  have o_v:OldT K H [] v n1:=⟨tv,fun _ _ z=>by cases z⟩
  have le240:=ly.le
  have hle:(∀r∈rs,r.st + r.sz≤n)∧n≤240:=⟨fun r hr=>(ly.ly.good r hr).le,ly.le⟩
  have hfew:=holes_few (fs:=freeOf n rs)
  have fl:=freeOf_len hle.1
  have bm:=maxI_mem (sizesN (holesF (freeOf n rs))) 0
  rcases kk with ⟨s,rfl,h1,tg,k⟩ | ⟨hb,k⟩
  ·rcases tg with ⟨q,rfl,hq⟩ | ⟨n2,ty,nl⟩ | ⟨q,t,rfl,hq,ht⟩
   ·have o_q:=Old.mk (M:=[]) hq nm0
    repeat k_meth
    have mx:maxI 0 (sizesN (holesF (freeOf n rs)))≤240:=by
     rcases bm with e | e
     ·lia
     ·obtain ⟨w,hw,e2⟩:=List.mem_map.mp e
      have:=(hole_ok hw).2.1
      lia
    rw [decide_eq_true (show maxI 0 (sizesN (holesF (freeOf n rs))) < s by lia)]
    repeat k_meth
    exact k _ F.sm
   ·have o_u:OldT K H [] u n2:=⟨ty,fun _ _ z=>by cases z⟩
    have nl1:NoL n2:=⟨nl⟩
    repeat k_meth
    exact k _ F.sm
   ·have o_q:=Old.mk (M:=[]) hq nm0
    have o_t:=Old.mk (M:=[]) ht nm0
    repeat k_meth
    exact k _ F.sm
  ·have hm:SzF v:=⟨hb⟩
   repeat k_meth
   exact fun d H' s e=>k d H' (F.sm.trans s) e
theorem D_isstuck (T:Txt K mg c R CL CS ct_Linit pt_Linit):Def P w K mg base (CX1 P w) 5 "is_stuck" ["layout", "size", "told"] (sp_isstuck K CL (c 0)):=by
 have D_needs:=D_needs (P:=P) (w:=w) (base:=base) T
 have D_stretches:=D_stretches (P:=P) (w:=w) (base:=base) T
 have D_truth:=D_truth (P:=P) (w:=w) (base:=base) T
 refine def_ofX T.d_isstuck sc_isstuck (fun vs H Q E h=>?_) (fun _ _ _ _ _ _=>el3 fun _ _ _=>rfl) (fun f cdv A outer s H vs Q E hr h=>?_)
 ·obtain ⟨x,p,dx,n,zs,rs,v,u,n1,rfl,_⟩:=h
  rfl
 ·obtain ⟨x,p,dx,n,zs,rs,v,u,n1,rfl,ly,tv,kk⟩:=h
  have nd:=sc_isstuck.nd
  refine ⟨_,(pss_cons (ps_expr (pe_def D_needs hr (pa_cons (pv 1) pa_nil) (hx:=pass1)))
   (PSs.nox (pss_cons (ps_set (i:=3) nd rfl (Or.inl rfl) (pe_def D_stretches hr (pa_cons (pv 0) pa_nil)))
   (pss_cons (ps_if (PW.pt (pw_or (pt_cmpR (op_ne_dN hr) (pv 2) (pv 3) (nomark _)) (pw_or1 (pt_val (pe_def D_truth hr (pa_cons (pv 2) pa_nil)))))) (pss_one (ps_ret pe_bl)) pss_nil)
   (pss_one (ps_ret (pe_callB (call_all rfl) rfl T.n_all boot_all (pa_cons (pe_comp (N:=["stretch", "size"]) (nt:=1) (fr:=[1]) (pi_list (pv 3)) (fun _ _ _ _=>(pg_name (i:=0) (show (["stretch", "size"]:List Str).Nodup from by decide +kernel) rfl (Or.inl rfl))) (fun _ _ _ _=>pif_nil) (fun _ _ _ _=>(pe_cmpR op_lt (pe_ix (ix_tupK (K:=K) rfl) (pv 0) pe_int (fun _ _=>rfl)) (pv 1) (nomark _)))) pa_nil)))))))),?_⟩
  clear nd D_needs D_stretches D_truth
  rw [show start ["layout", "size", "told", "stretches"] [.ref x,v,u]=[some (.ref x),some (v),some (u),none] from rfl]
  try dsimp only [cx_K,cx_K2,cx_s0]
  have hx:=ly.x
  have hp:=ly.p
  have tp:=ly.t
  have lyf:LyF n rs:=⟨ly.ly,ly.as,ly.le,ly.nb⟩
  have sz_:=ly.sz
  have few:=sz_.1
  have zl:zs.length=rs.length:=by rw [tp.1,rowsV_len]
  have iL_many:FldOk K CL "many" := ⟨T.clL,T.aL_many⟩
  have iL_rows:FldOk K CL "rows" := ⟨T.clL,T.aL_rows⟩
  have iS_stretches:FldOk K CS "stretches" := ⟨T.clS,T.aS_stretches⟩
  have o_hx:=Old.mk (M:=[]) hx nm0
  have o_hp:=Old.mk (M:=[]) hp nm0
  have o_tp:=OldP.mk tp
  have F:SH H [] H [] []:=SH.nil
  have o_v:OldT K H [] v n1:=⟨tv,fun _ _ z=>by cases z⟩
  have stl:=strF_le ly.ly
  have sp1:=strF_pos n rs
  have le240:=ly.le
  rcases kk with ⟨s,rfl,h1,⟨q,ys,rfl,hq,tq,k⟩ | ⟨th,k⟩⟩ | ⟨hb,k⟩
  ·have o_q:=Old.mk (M:=[]) hq nm0
   have o_tq:=OldP.mk tq
   repeat k_meth
   refine ⟨.ref q,.lst ((rows3 (strF n rs)).map rowDt),rfl,TrH.lst hatC (tr_rows TpA.e (flat_3 _)),dep_rowsL _,⟨by rw [List.length_map,rows3_len];lia,widD_rows _⟩,fun H1 s1=>?_⟩
   replace F:=F.same s1
   rw [show hasT (.lst ((rows3 (strF n rs)).map rowDt))=false from hasT_rows _]
   repeat k_meth
   refine comp_rows (fvs:=[some (.int s)]) (F:=fun _=>V.bl true) hatC (TpA.e (rs:=rows3 (strF n rs))) (by rw [l_];lia) rfl (fun q r H1 R hr s1 e1 kk=>?_) fun l H1 n1=>?_
   ·clear F
    have F:SH H1 [] H1 [] []:=SH.nil
    obtain ⟨w,hw,rfl⟩:=List.mem_map.mp hr
    have o_e1:=Old.mk (M:=[]) e1 nm0
    have:=stl w hw
    repeat k_meth
    rw [decide_eq_true (show w.2.2 < s by lia)]
    exact kk _ (Same.refl _)
   ·replace F:=F.newL n1
    have e2:H1 l=some (.lst ((List.replicate (strF n rs).length true).map V.bl)):=by rw [n1.e,List.map_replicate,List.map_const',rows3_len]
    repeat k_meth
    refine ⟨l,_,rfl,SqL.of e2,?_⟩
    rw [show (List.replicate (strF n rs).length true).all id=true by simp]
    repeat k_meth
    exact k _ F.sm
  ·obtain ⟨d,td,dd,hd⟩:=th
   repeat k_meth
   refine ⟨d,_,(td.same F.sm).rep,rep_rows (SqL.of hatC) TpA.e (flat_3 _),by lia,?_⟩
   rw [hd _ sp1.1]
   repeat k_meth
   exact k _ F.sm
  ·have hm:SzF v:=⟨hb⟩
   repeat k_meth
   exact fun d H' s e=>k d H' (F.sm.trans s) e
end
open M22
theorem bt_VE:bootBuiltins "ValueError" = some (.type "ValueError"):=by decide +kernel
inductive BadV (H:Hp):V→String→Prop
 | non:BadV H .non "NoneType"
 | bl (b:Bool):BadV H (.bl b) "bool"
 | int (i:Int) (h:i < 1):BadV H (.int i) "int"
 | str (x:Str):BadV H (.str x) "str"
 | lst {a:Addr} {i:Int} (h:H a=some (.lst [.int i])):BadV H (.ref a) "list"
 | tup {a:Addr} {i:Int} (h:H a=some (.tup [.int i])):BadV H (.ref a) "tuple"
 | dct {a:Addr} (h:H a=some (.dK [])):BadV H (.ref a) "dict"
theorem BadV.ty {K:W.Frag} {H:Hp} {v:V} {n:String} (h:BadV H v n):TyOf K H v (.type n):=by
 cases h with
 | non=>exact .non
 | bl b=>exact .bl b
 | int i _=>exact .int i
 | str x=>exact .str x
 | lst h=>exact .lst h
 | tup h=>exact .tup h
 | dct h=>exact .dK h
theorem BadV.fr {H:Hp} {v:V} {n:String} (h:BadV H v n):isFr v 1=false∧inB v 1 240=false:=by
 cases h with
 | int i h =>
  have e:decide ((1:Int)≤i)=false:=decide_eq_false (by lia)
  exact ⟨e,by show (decide ((1:Int)≤i) && decide (i≤240))=false;rw [e];rfl⟩
 | _=>exact ⟨rfl,rfl⟩
def SmV (H:Hp) (v:V):Prop:=(∃d,TrH H d v∧depD d≤100)∨∃p,v=.ref p∧H p=some (.dK [])
theorem smv_flat {H:Hp} {v:V} (h:isFlat v=true):SmV H v:=.inl ⟨_,TrH.flat h,by cases v <;> simp [flatDt,depD]⟩
theorem BadV.sm {H:Hp} {v:V} {n:String} (h:BadV H v n):SmV H v:=by
 have one:∀i:Int,TrsH H [flatDt (.int i)] [.int i]:=fun i=>TrsH.flats (xs:=[.int i]) (fun v hv=>by rw [List.mem_singleton.mp hv];rfl)
 cases h with
 | non=>exact smv_flat rfl
 | bl b=>exact smv_flat rfl
 | int i h=>exact smv_flat rfl
 | str x=>exact smv_flat rfl
 | lst h=>exact .inl ⟨_,TrH.lst h (one _),by simp [flatDt,depD,depDs]⟩
 | tup h=>exact .inl ⟨_,TrH.tup h (one _),by simp [flatDt,depD,depDs]⟩
 | dct h=>exact .inr ⟨_,rfl,h⟩
theorem BadV.kept {H H':Hp} {v:V} {n:String} (h:BadV H v n) (k:∀a u,v=.ref a→H a=some u→H' a=some u):BadV H' v n:=by
 cases h with
 | non=>exact .non
 | bl b=>exact .bl b
 | int i h=>exact .int i h
 | str x=>exact .str x
 | lst h=>exact .lst (k _ _ rfl h)
 | tup h=>exact .tup (k _ _ rfl h)
 | dct h=>exact .dct (k _ _ rfl h)
def ThU (H:Hp) (M:List Addr) (u:V):Prop:=(u=.non∨u=.int 7∨u=.str "told")∨(∃q,u=.ref q∧q ∉ M∧H q=some (.lst [])) ∨
 (∃q t,u=.ref q∧q ∉ M∧t ∉ M∧H q=some (.lst [.ref t])∧H t=some (.tup [.str "nobody", .int 0])) ∨
 (∃q a b,u=.ref q∧q ∉ M∧a ∉ M∧b ∉ M∧H q=some (.tup [.ref a,.ref b])∧H a=some (.lst [])∧H b=some (.lst []))
theorem ThU.kept {H H':Hp} {M N:List Addr} {u:V} (h:ThU H M u) (k:∀a w,a ∉ M→H a=some w→H' a=some w) (s:∀a,a ∉ M→a ∉ N):ThU H' N u:=by
 rcases h with h | ⟨q,rfl,n1,h1⟩ | ⟨q,t,rfl,n1,n2,h1,h2⟩ | ⟨q,a,b,rfl,n1,n2,n3,h1,h2,h3⟩
 ·exact .inl h
 ·exact .inr (.inl ⟨q,rfl,s _ n1,k _ _ n1 h1⟩)
 ·exact .inr (.inr (.inl ⟨q,t,rfl,s _ n1,s _ n2,k _ _ n1 h1,k _ _ n2 h2⟩))
 ·exact .inr (.inr (.inr ⟨q,a,b,rfl,s _ n1,s _ n2,s _ n3,k _ _ n1 h1,k _ _ n2 h2,k _ _ n3 h3⟩))
theorem ThU.g {K:W.Frag} {H:Hp} {M:List Addr} {u:V} (h:ThU H M u):ThG K H u:=by
 rcases h with h | ⟨q,rfl,_,h1⟩ | ⟨q,t,rfl,_,_,h1,h2⟩ | ⟨q,a,b,rfl,_,_,_,h1,_⟩
 ·rcases h with rfl | rfl | rfl
  ·exact .inr (.inl ⟨_,.non,rfl⟩)
  ·exact .inr (.inl ⟨_,.int 7,rfl⟩)
  ·exact .inr (.inl ⟨_,.str _,rfl⟩)
 ·exact .inl ⟨q,rfl,h1⟩
 ·exact .inr (.inr ⟨q,t,rfl,h1,h2⟩)
 ·exact .inr (.inl ⟨_,.tup h1,rfl⟩)
theorem ThU.s {H:Hp} {M:List Addr} {u:V} (h:ThU H M u):ThS H u:=by
 rcases h with h | ⟨q,rfl,_,h1⟩ | ⟨q,t,rfl,_,_,h1,h2⟩ | ⟨q,a,b,rfl,_,_,_,h1,h2,h3⟩
 ·rcases h with rfl | rfl | rfl
  ·exact ⟨.non,TrH.flat (v:=.non) rfl,by decide,fun _ _=>rfl⟩
  ·exact ⟨.int 7,TrH.flat (v:=.int 7) rfl,by decide,fun _ _=>rfl⟩
  ·exact ⟨.str "told", TrH.flat (v:=.str "told") rfl,by decide,fun _ _=>rfl⟩
 ·refine ⟨.lst [],TrH.lst h1 (TrsH.flats (xs:=[]) (by simp)),by decide,fun ws hw=>?_⟩
  cases ws with
  | nil=>cases hw
  | cons w ws=>rfl
 ·have t2:TrsH H [.str "nobody", .int 0] [V.str "nobody", V.int 0]:=TrsH.flats (xs:=[V.str "nobody", V.int 0]) (fun v hv=>by simp at hv;rcases hv with rfl | rfl <;> rfl)
  refine ⟨.lst [.tup [.str "nobody", .int 0]],TrH.lst h1 (TrsH.one (TrH.tup h2 t2)),by decide,fun ws hw=>?_⟩
  cases ws with
  | nil=>cases hw
  | cons w ws =>
   show (eqDts [Dt.str "nobody", .int 0] [flatDt (.int w.1),flatDt (.int w.2.1),flatDt (.int w.2.2)] && eqDts [] ((rows3 ws).map rowDt))=false
   rfl
 ·have e:TrsH H [Dt.lst [],.lst []] [.ref a,.ref b]:=TrsH.of rfl fun i v e=>by
   match i,e with
   | 0,e=>cases e;exact ⟨_,rfl,TrH.lst h2 (TrsH.flats (xs:=[]) (by simp))⟩
   | 1,e=>cases e;exact ⟨_,rfl,TrH.lst h3 (TrsH.flats (xs:=[]) (by simp))⟩
  exact ⟨.tup [.lst [],.lst []],TrH.tup h1 e,by decide,fun _ _=>rfl⟩
def RzC (w:Nat) (v:V):Prop:=(isFr v 1=false∧inB v 1 240=false)∨∃s:Int,v=.int s∧241≤s∧w < 2
def NoC (H:Hp) (M:List Addr) (w:Nat) (v u:V):Prop:=(∃s:Int,v=.int s∧241≤s∧2≤w∧ThU H M u)∨(w=0∧v=.int 240)
theorem NoC.kept {H H':Hp} {M N:List Addr} {w:Nat} {v u:V} (h:NoC H M w v u) (k:∀a w,a ∉ M→H a=some w→H' a=some w) (s:∀a,a ∉ M→a ∉ N):NoC H' N w v u:=by
 rcases h with ⟨x,h1,h2,h3,h4⟩ | h
 ·exact .inl ⟨x,h1,h2,h3,h4.kept k s⟩
 ·exact .inr h
def sp_called (K:W.Frag) (CL CE:Addr):Sp:=fun vs H Q E=>∃(w:Nat) (x p dx:Addr) (n:Nat) (zs:List V) (rs:List Rw) (v u:V) (n1:String),vs=[.int (w:Nat),.ref x,v,u]∧LyH CL H x p dx n zs rs∧w < 5∧TyOf K H v (.type n1) ∧
 ((RzC w v∧Rz E H CE "size" v)∨(NoC H [] w v u∧∀H',Same H H'→Q .non H'))
def sp_refused (K:W.Frag) (CL:Addr):Sp:=fun vs H Q _=>∃(w:Nat) (x p dx:Addr) (n:Nat) (zs:List V) (rs:List Rw) (v u:V) (n1:String),vs=[.int (w:Nat),.ref x,v,u]∧LyH CL H x p dx n zs rs∧w < 5∧TyOf K H v (.type n1) ∧
 ((RzC w v∧∀q H',New H H' q (.lst [v,.bl true,.bl true,.bl false])→Q (.ref q) H')∨(NoC H [] w v u∧∀q H',New H H' q (.lst [])→Q (.ref q) H'))
def sp_same7 (K:W.Frag):Sp:=fun vs H Q _=>∃(q:Addr) (v:V) (n1:String),vs=[.ref q,v]∧H q=some (.lst [v,.bl true,.bl true,.bl false])∧TyOf K H v (.type n1)∧SmV H v∧∀H',Same H H'→Q (.bl true) H'
class RzA (w:Nat) (v:V):Prop where
 e:RzC w v
class NoA (H:Hp) (w:Nat) (v u:V):Prop where
 e:NoC H [] w v u
class SmA (H:Hp) (v:V):Prop where
 e:SmV H v
section
variable {K:W.Frag} {CL CE x p dx q:Addr} {H:Hp} {Q:VK} {E:XK} {n w:Nat} {zs:List V} {rs:List Rw} {v u:V} {n1:String}
instance go_calledR [h:LyQ CL H x p dx n zs rs] [c:RzA w v] [t:TyA K H v n1]:Go (sp_called K CL CE [.int (w:Nat),.ref x,v,u] H Q E) (Sd (w < 5) (Rz E H CE "size" v)):=⟨fun k=>⟨w,x,p,dx,n,zs,rs,v,u,n1,rfl,h.e,k.1,t.e,.inl ⟨c.e,k.2⟩⟩⟩
instance go_calledN [h:LyQ CL H x p dx n zs rs] [c:NoA H w v u] [t:TyA K H v n1]:Go (sp_called K CL CE [.int (w:Nat),.ref x,v,u] H Q E) (Sd (w < 5) (∀H',Same H H'→Q .non H')):=⟨fun k=>⟨w,x,p,dx,n,zs,rs,v,u,n1,rfl,h.e,k.1,t.e,.inr ⟨c.e,k.2⟩⟩⟩
instance go_refusedR [h:LyQ CL H x p dx n zs rs] [c:RzA w v] [t:TyA K H v n1]:Go (sp_refused K CL [.int (w:Nat),.ref x,v,u] H Q E) (Sd (w < 5) (∀q H',New H H' q (.lst [v,.bl true,.bl true,.bl false])→Q (.ref q) H')):=⟨fun k=>⟨w,x,p,dx,n,zs,rs,v,u,n1,rfl,h.e,k.1,t.e,.inl ⟨c.e,k.2⟩⟩⟩
instance go_refusedN [h:LyQ CL H x p dx n zs rs] [c:NoA H w v u] [t:TyA K H v n1]:Go (sp_refused K CL [.int (w:Nat),.ref x,v,u] H Q E) (Sd (w < 5) (∀q H',New H H' q (.lst [])→Q (.ref q) H')):=⟨fun k=>⟨w,x,p,dx,n,zs,rs,v,u,n1,rfl,h.e,k.1,t.e,.inr ⟨c.e,k.2⟩⟩⟩
instance go_same7 [h:Hat H q (.lst [v,.bl true,.bl true,.bl false])] [t:TyA K H v n1] [c:SmA H v]:Go (sp_same7 K [.ref q,v] H Q E) (∀H',Same H H'→Q (.bl true) H'):=⟨fun k=>⟨q,v,n1,rfl,h.e,t.e,c.e,k⟩⟩
end
section
variable {P:Program} {w:World} {K:W.Frag} {mg:Str→Option Value} {base:Heap} {c:Nat→Addr} {ct_Linit pt_Linit R CL CS:Addr}
theorem D_lcalled (T:Txt K mg c R CL CS ct_Linit pt_Linit):Def P w K mg base (CX1 P w) 8 "_law_called" ["_law_way", "_law_layout", "_law_size", "_law_thing"] (sp_called K CL (c 0)):=by
 have D_prices:=D_prices (P:=P) (w:=w) (base:=base) T
 have D_isprices:=D_isprices (P:=P) (w:=w) (base:=base) T
 have D_plan:=D_plan (P:=P) (w:=w) (base:=base) T
 have D_priceof:=D_priceof (P:=P) (w:=w) (base:=base) T
 have D_isstuck:=D_isstuck (P:=P) (w:=w) (base:=base) T
 refine def_ofX T.d_lcalled sc_lcalled (fun vs H Q E h=>?_) (fun _ _ _ _ _ _=>el4 fun _ _ _ _=>rfl) (fun f cdv A outer s H vs Q E hr h=>?_)
 ·obtain ⟨w,x,p,dx,n,zs,rs,v,u,n1,rfl,_⟩:=h
  rfl
 ·obtain ⟨w,x,p,dx,n,zs,rs,v,u,n1,rfl,ly,w5,tv,kk⟩:=h
  have nd:=sc_lcalled.nd
  refine ⟨_,(pss_one (ps_if (pt_cmpR op_eq (pv 0) pe_int (nomark _)) (pss_one (ps_expr (pe_def D_prices hr (pa_cons (pv 1) (pa_cons (pv 2) pa_nil)) (hx:=pass1)))) (pss_one (ps_if (pt_cmpR op_eq (pv 0) pe_int (nomark _)) (pss_one (ps_expr (pe_def D_isprices hr (pa_cons (pv 1) (pa_cons (pv 2) (pa_cons (pv 3) pa_nil))) (hx:=pass1)))) (pss_one (ps_if (pt_cmpR op_eq (pv 0) pe_int (nomark _)) (pss_one (ps_expr (pe_def D_plan hr (pa_cons (pv 1) (pa_cons (pv 2) pa_nil)) (hx:=pass1)))) (pss_one (ps_if (pt_cmpR op_eq (pv 0) pe_int (nomark _)) (pss_one (ps_expr (pe_def D_priceof hr (pa_cons (pv 1) (pa_cons (pv 2) (pa_cons (pv 3) pa_nil))) (hx:=pass1)))) (pss_one (ps_expr (pe_def D_isstuck hr (pa_cons (pv 1) (pa_cons (pv 2) (pa_cons (pv 3) pa_nil))) (hx:=pass1)))))))))))),?_⟩
  clear nd D_prices D_isprices D_plan D_priceof D_isstuck
  rw [show start ["_law_way", "_law_layout", "_law_size", "_law_thing"] [.int (w:Nat),.ref x,v,u]=[some (.int (w:Nat)),some (.ref x),some (v),some (u)] from rfl]
  try dsimp only [cx_K,cx_K2,cx_s0]
  have hx:=ly.x
  have hp:=ly.p
  have tp:=ly.t
  have lyf:LyF n rs:=⟨ly.ly,ly.as,ly.le,ly.nb⟩
  have sz_:=ly.sz
  have few:=sz_.1
  have zl:zs.length=rs.length:=by rw [tp.1,rowsV_len]
  have iL_many:FldOk K CL "many" := ⟨T.clL,T.aL_many⟩
  have iL_rows:FldOk K CL "rows" := ⟨T.clL,T.aL_rows⟩
  have iS_stretches:FldOk K CS "stretches" := ⟨T.clS,T.aS_stretches⟩
  have o_hx:=Old.mk (M:=[]) hx nm0
  have o_hp:=Old.mk (M:=[]) hp nm0
  have o_tp:=OldP.mk tp
  have F:SH H [] H [] []:=SH.nil
  have o_v:OldT K H [] v n1:=⟨tv,fun _ _ z=>by cases z⟩
  rcases kk with ⟨⟨h1,h2⟩ | ⟨s,rfl,h1,h2⟩,k⟩ | ⟨⟨s,rfl,h1,h2,tu⟩ | ⟨rfl,rfl⟩,k⟩
  ·have hf:SzF v:=⟨h1⟩
   have hb:SzB v:=⟨h2⟩
   obtain rfl | rfl | rfl | rfl | rfl:w=0∨w=1∨w=2∨w=3∨w=4:=by lia
   ·repeat k_meth
    exact fun d H' s e=>k d H' (F.sm.trans s) e
   ·repeat k_meth
    exact fun d H' s e=>k d H' (F.sm.trans s) e
   ·repeat k_meth
    exact fun d H' s e=>k d H' (F.sm.trans s) e
   ·repeat k_meth
    exact fun d H' s e=>k d H' (F.sm.trans s) e
   ·repeat k_meth
    exact fun d H' s e=>k d H' (F.sm.trans s) e
  ·have hb:SzB (.int s):=⟨by show (decide ((1:Int)≤s) && decide (s≤240))=false;rw [decide_eq_false (show ¬ s≤240 by lia),Bool.and_false]⟩
   obtain rfl | rfl:w=0∨w=1:=by lia
   ·repeat k_meth
    exact fun d H' s e=>k d H' (F.sm.trans s) e
   ·repeat k_meth
    exact fun d H' s e=>k d H' (F.sm.trans s) e
  ·have ug:ThGA K H u:=⟨tu.g⟩
   have us:ThSA H u:=⟨tu.s⟩
   obtain rfl | rfl | rfl:w=2∨w=3∨w=4:=by lia
   ·repeat k_meth
    exact fun _ _ _ H1 s _=>k H1 (F.sm.trans s)
   ·repeat k_meth
    exact k _ F.sm
   ·repeat k_meth
    exact k _ F.sm
  ·repeat k_meth
   exact ⟨x,p,dx,n,zs,rs,_,_,rfl,ly.same F.sm,.int 240,.inl ⟨240,rfl,by decide,by decide,fun q H1 s=>k H1 (F.sm.trans s)⟩⟩
theorem D_lrefused (T:Txt K mg c R CL CS ct_Linit pt_Linit):Def P w K mg base CX0 9 "_law_refused" ["_law_way", "_law_layout", "_law_size", "_law_thing"] (sp_refused K CL):=by
 have D_lcalled:=D_lcalled (P:=P) (w:=w) (base:=base) T
 refine def_of T.d_lrefused sc_lrefused (fun vs H Q E h=>?_) (fun _ _ _ _ _ _=>el4 fun _ _ _ _=>rfl) (fun f cdv A outer s H vs Q E hr h=>?_)
 ·obtain ⟨w,x,p,dx,n,zs,rs,v,u,n1,rfl,_⟩:=h
  rfl
 ·obtain ⟨w,x,p,dx,n,zs,rs,v,u,n1,rfl,ly,w5,tv,kk⟩:=h
  have nd:=sc_lrefused.nd
  refine ⟨_,(pss_cons (ps_set (i:=4) nd rfl (Or.inl rfl) (pe_lstA pa_nil))
   (pss_cons (ps_try (fun pins EX=>(pss_one (ps_expr (pe_defx D_lcalled hr (pa_cons (pv 0) (pa_cons (pv 1) (pa_cons (pv 2) (pa_cons (pv 3) pa_nil)))))))) (ph_as (i:=5) T.e_NoSize.gl (fun a=>(pss_cons (ps_set (i:=6) nd rfl (Or.inl rfl) (pe_callB call_isXN rfl T.n_isinstance boot_isinstance (pa_cons (pv 5) (pa_cons (pe_tupA (pa_cons (pe_gl (v:=.ref (c 2)) ⟨_,T.e_NoBlock.gl,rfl⟩) (pa_cons (pe_gl (v:=.ref (c 3)) ⟨_,T.e_NoMoves.gl,rfl⟩) (pa_cons (pe_gl (v:=.ref (c 1)) ⟨_,T.e_NoPlace.gl,rfl⟩) pa_nil)))) pa_nil))))
    (pss_one (ps_set (i:=4) nd rfl (Or.inl rfl) (pe_lstA (pa_cons (pe_exfT T.e_NoSize.I.g T.a_NoSize_size (pv 5)) (pa_cons (pe_callB call_isXT rfl T.n_isinstance boot_isinstance (pa_cons (pv 5) (pa_cons (pe_gl (v:=.ref R) ⟨_,T.g_R,rfl⟩) pa_nil))) (pa_cons (pe_callB call_isXT rfl T.n_isinstance boot_isinstance (pa_cons (pv 5) (pa_cons (pe_ty (T := "ValueError") rfl T.n_ValueError bt_VE) pa_nil))) (pa_cons (pv 6) pa_nil))))))))) ph_nil nd rfl rfl))
   (pss_one (ps_ret (pv 4))))),?_⟩
  clear nd D_lcalled
  rw [show start ["_law_way", "_law_layout", "_law_size", "_law_thing", "_law_found", "e", "_law_other"] [.int (w:Nat),.ref x,v,u]=[some (.int (w:Nat)),some (.ref x),some (v),some (u),none,none,none] from rfl]
  try dsimp only [cx_K,cx_K2]
  have hx:=ly.x
  have hp:=ly.p
  have tp:=ly.t
  have lyf:LyF n rs:=⟨ly.ly,ly.as,ly.le,ly.nb⟩
  have sz_:=ly.sz
  have few:=sz_.1
  have zl:zs.length=rs.length:=by rw [tp.1,rowsV_len]
  have iL_many:FldOk K CL "many" := ⟨T.clL,T.aL_many⟩
  have iL_rows:FldOk K CL "rows" := ⟨T.clL,T.aL_rows⟩
  have iS_stretches:FldOk K CS "stretches" := ⟨T.clS,T.aS_stretches⟩
  have o_hx:=Old.mk (M:=[]) hx nm0
  have o_hp:=Old.mk (M:=[]) hp nm0
  have o_tp:=OldP.mk tp
  have F:SH H [] H [] []:=SH.nil
  have o_v:OldT K H [] v n1:=⟨tv,fun _ _ z=>by cases z⟩
  rcases kk with ⟨hr,k⟩ | ⟨hn,k⟩
  ·have rz:RzA w v:=⟨hr⟩
   repeat k_meth
   have F0:=F
   clear F
   have F:SH H_ [] H_ [] []:=SH.nil
   have xm:ExM K (c 0) (c 0) true:=⟨exm_same T.e_NoSize.I⟩
   repeat k_meth
   refine ⟨a_,p_,_,R,_,[c 2,c 3,c 1],false,rfl,hatC,exA_.e.same F.sm,T.e_NoSize.I,any_no3 T.e_NoSize.I T.e_NoBlock.I T.e_NoMoves.I T.e_NoPlace.I T.x_NoSize_NoBlock T.x_NoSize_NoMoves T.x_NoSize_NoPlace,?_⟩
   have exB:=ExA.mk (exA_.e.same F.sm)
   repeat k_meth
   refine ⟨a_,_,_,R,_,true,rfl,exB.e,T.e_NoSize.I,kit_excR T.e_NoSize.I T.c_R T.t_R,?_⟩
   repeat k_meth
   refine ⟨a_,_,_,R,_,true,rfl,exB.e,T.e_NoSize.I,kit_excV T.e_NoSize.I,?_⟩
   repeat k_meth
   exact k _ _ ⟨F0.sm.trans F.sm,hatC,fun b u e=>F.fresh (LkL.m (o:=.lst _)) nm0 b u (F0.sm _ _ e)⟩
  ·repeat k_meth
   have na:NoA H_ w v u:=⟨hn.kept (fun a w _ e=>F.sm _ _ e) fun _ h=>h⟩
   repeat k_meth
   exact k _ _ SH.nwC
theorem D_lsame (T:Txt K mg c R CL CS ct_Linit pt_Linit):Def P w K mg base CX0 1 "_law_same" ["_law_found", "_law_size"] (sp_same7 K):=by
 refine def_of T.d_lsame sc_lsame (fun vs H Q E h=>?_) (fun _ _ _ _ _ _=>el2 fun _ _=>rfl) (fun f cdv A outer s H vs Q E hr h=>?_)
 ·obtain ⟨q,v,n1,rfl,_⟩:=h
  rfl
 ·obtain ⟨q,v,n1,rfl,hq,tv,sm,k⟩:=h
  have nd:=sc_lsame.nd
  refine ⟨_,(pss_cons (ps_if (PW.pt (pw_or (pt_cmpR op_ne (pe_callB call_lenN rfl T.n_len boot_len (pa_cons (pv 0) pa_nil)) pe_int (nomark _)) (pw_or1 (pt_cmpR (op_ne_dN hr) (pe_slice sl_listA (pv 0) (po_some pe_int) po_none) (pe_lstA (pa_cons pe_bl (pa_cons pe_bl (pa_cons pe_bl pa_nil)))) (nomark _))))) (pss_one (ps_ret pe_bl)) pss_nil)
   (pss_one (ps_ret (pe_and (pe_cmpR op_eq (pe_callB call_isT rfl T.n_isinstance boot_isinstance (pa_cons (pe_ix ix_list (pv 0) pe_int (fun _ _=>rfl)) (pa_cons (pe_ty (T := "bool") rfl T.n_bool boot_bool) pa_nil))) (pe_callB call_isT rfl T.n_isinstance boot_isinstance (pa_cons (pv 1) (pa_cons (pe_ty (T := "bool") rfl T.n_bool boot_bool) pa_nil))) (nomark _)) (pe_one (pe_cmpR (op_eqDD (K:=K) rfl hr) (pe_ix ix_list (pv 0) pe_int (fun _ _=>rfl)) (pv 1) (nomark _))))))),?_⟩
  clear nd 
  rw [show start ["_law_found", "_law_size"] [.ref q,v]=[some (.ref q),some (v)] from rfl]
  try dsimp only [cx_K,cx_K2]
  have iL_many:FldOk K CL "many" := ⟨T.clL,T.aL_many⟩
  have iL_rows:FldOk K CL "rows" := ⟨T.clL,T.aL_rows⟩
  have iS_stretches:FldOk K CS "stretches" := ⟨T.clS,T.aS_stretches⟩
  have o_hq:=Old.mk (M:=[]) hq nm0
  have F:SH H [] H [] []:=SH.nil
  have o_v:OldT K H [] v n1:=⟨tv,fun _ _ z=>by cases z⟩
  repeat k_meth
  rw [show cutV [v,V.bl true,V.bl true,V.bl false] (some 1) none=[V.bl true,V.bl true,V.bl false] from rfl] at F
  have tb:TrsH H_ ([V.bl true,V.bl true,V.bl false].map flatDt) [V.bl true,V.bl true,V.bl false]:=TrsH.flats fun v hv=>by simp at hv;rcases hv with rfl | rfl <;> rfl
  refine ⟨_,_,(TrH.lst hatC tb).rep,(TrH.lst hatC tb).rep,by decide,?_⟩
  rw [eqDt_refl]
  repeat k_meth
  rcases sm with ⟨d,td,dd⟩ | ⟨p,rfl,hp⟩
  ·have td2:=td.same F.sm
   refine .inl ⟨d,d,td2.rep,td2.rep,dd,?_⟩
   rw [eqDt_refl]
   exact k _ F.sm
  ·exact .inr ⟨p,rfl,F.sm _ _ hp,.inr ⟨rfl,k _ F.sm⟩⟩
end
open M22
def sp_law (P:Addr) (K:W.Frag):Sp:=fun vs H Q _=>∃(a:Addr) (ns:List Int),vs=[.ref a]∧SqL K H a (ns.map V.int)∧ns.length≤63∧H P=some (.tbl #[])∧a≠P∧∀H',Q (.bl true) H'
theorem isR {K:W.Frag} {H:Hp} {Q:VK} {C CB y dy:Addr} {gs:List (Str×V)} (e:H y=some (.ins C dy gs)) (cl:Cls K C) (ha:W.findIn K (.ref C) "__class__" = some (some (.builtin "object.__class__"))) (hn:W.specialIn K (.builtin "object.__class__") "__get__" = some (some (.builtin "getset_descriptor.__get__"))) (htk:W.takesIn K (.builtin "object.__class__")=some true) (hm:W.mroIn K C (.type "object")=some true) (hk:W.kitOne K (.ref C) (.ref CB)=some true) (k:Q (.bl true) H):rIsT K [.ref y,.ref CB] H Q :=
 ⟨_,_,_,_,rfl,.ins e cl ha hn htk hm,hk,k⟩
theorem kit_self {K:W.Frag} {C:Addr}:W.kitOne K (.ref C) (.ref C)=some true:=by
 unfold W.kitOne
 rw [if_pos (by simp)]
theorem nm2 {a b c:Addr} (h:a≠b) (g:a≠c):a ∉ [b,c]:=by simp [h,g]
theorem not_lst {H:Hp} {a b:Addr} {o1 o2:HO} (h1:H a=some o1) (h2:H b=some o2) (n:o1≠o2):a≠b:=fun z=>by
 rw [z,h2] at h1
 exact n (Option.some.inj h1).symm
theorem BadV.out {H:Hp} {v:V} {n:String} {P bx:Addr} {ps:Array Value} {x y z:Int} (h:BadV H v n) (hP:H P=some (.tbl ps)) (hb:H bx=some (.lst [.int x,.int y,.int z])):∀a,v=.ref a→a ∉ [P,bx]:=by
 intro a e
 cases h with
 | lst h=>cases e;exact nm2 (not_lst h hP (by simp)) (not_lst h hb (by simp))
 | tup h=>cases e;exact nm2 (not_lst h hP (by simp)) (not_lst h hb (by simp))
 | dct h=>cases e;exact nm2 (not_lst h hP (by simp)) (not_lst h hb (by simp))
 | _=>cases e
theorem ThU.out {H:Hp} {u:V} {P bx:Addr} {ps:Array Value} {x y z:Int} (h:ThU H [] u) (hP:H P=some (.tbl ps)) (hb:H bx=some (.lst [.int x,.int y,.int z])):ThU H [P,bx] u:=by
 rcases h with h | ⟨q,rfl,_,h1⟩ | ⟨q,t,rfl,_,_,h1,h2⟩ | ⟨q,a,b,rfl,_,_,_,h1,h2,h3⟩
 ·exact .inl h
 ·exact .inr (.inl ⟨q,rfl,nm2 (not_lst h1 hP (by simp)) (not_lst h1 hb (by simp)),h1⟩)
 ·exact .inr (.inr (.inl ⟨q,t,rfl,nm2 (not_lst h1 hP (by simp)) (not_lst h1 hb (by simp)),nm2 (not_lst h2 hP (by simp)) (not_lst h2 hb (by simp)),h1,h2⟩))
 ·exact .inr (.inr (.inr ⟨q,a,b,rfl,nm2 (not_lst h1 hP (by simp)) (not_lst h1 hb (by simp)),nm2 (not_lst h2 hP (by simp)) (not_lst h2 hb (by simp)),nm2 (not_lst h3 hP (by simp)) (not_lst h3 hb (by simp)),h1,h2,h3⟩))
class OldB (H0:Hp) (M:List Addr) (v:V) (n:outParam String):Prop where
 e:BadV H0 v n
 n:∀a,v=.ref a→a ∉ M
class OldU (H0:Hp) (M:List Addr) (u:V):Prop where
 e:ThU H0 M u
class FarA (w:Nat) (s:Int):Prop where
 e:241≤s∧2≤w
section
variable {K:W.Frag} {CL CE x p dx q:Addr} {H H0:Hp} {M:List Addr} {L:List (Addr×HO)} {I:List Im} {Q:VK} {E:XK} {n w:Nat} {zs:List V} {rs:List Rw} {v u:V} {n1:String} {s:Int}
instance (priority:=low) sma_old [F:SH H0 M H L I] [h:OldB H0 M v n1]:SmA H v:=⟨(h.e.kept fun a u e hu=>F.fr a u (h.n a e) hu).sm⟩
instance (priority:=low) tya_old [F:SH H0 M H L I] [h:OldB H0 M v n1]:TyA K H v n1:=⟨(h.e.kept fun a u e hu=>F.fr a u (h.n a e) hu).ty⟩
instance sma_int:SmA H (.int s):=⟨smv_flat rfl⟩
instance noa_old [F:SH H0 M H L I] [h:OldU H0 M u] [c:FarA w s]:NoA H w (.int s) u:=⟨.inl ⟨s,rfl,c.e.1,c.e.2,h.e.kept (fun a w n e=>F.fr a w n e) fun _ _=>List.not_mem_nil⟩⟩
instance thga_nil [h:Hat H q (.lst [])]:ThGA K H (.ref q):=⟨.inl ⟨q,rfl,h.e⟩⟩
instance go_refused0 [h:LyQ CL H x p dx n zs rs]:Go (sp_refused K CL [.int 0,.ref x,.int 240,u] H Q E) (∀q H',New H H' q (.lst [])→Q (.ref q) H'):=⟨fun k=>⟨0,x,p,dx,n,zs,rs,_,u,_,rfl,h.e,by decide,.int 240,.inr ⟨.inr ⟨rfl,rfl⟩,k⟩⟩⟩
end
section
variable {P:Program} {w:World} {K:W.Frag} {mg:Str→Option Value} {base:Heap} {c:Nat→Addr} {ct_Linit pt_Linit R CL CS:Addr}
theorem ok_law (T:Txt K mg c R CL CS ct_Linit pt_Linit) (B:Bm mg base) {f:Addr} {fd:FuncData} (F:Fun K "law" "law" s_law f fd):FnOk P w K mg base CX0 10 f fd ["_law_script"] (sp_law pt_Linit K):=by
 have D_box:=D_box (P:=P) (w:=w) (base:=base) T
 have MK_Linit:=MK_Linit (P:=P) (w:=w) (base:=base) T B
 have D_cell_at:=D_cell_at (P:=P) (w:=w) (base:=base) T
 have D_take:=D_take (P:=P) (w:=w) (base:=base) T
 have D_rows:=D_rows (P:=P) (w:=w) (base:=base) T
 have D_lrefused:=D_lrefused (P:=P) (w:=w) (base:=base) T
 have D_lsame:=D_lsame (P:=P) (w:=w) (base:=base) T
 have D_priceof:=D_priceof (P:=P) (w:=w) (base:=base) T
 have D_isstuck:=D_isstuck (P:=P) (w:=w) (base:=base) T
 have D_plan:=D_plan (P:=P) (w:=w) (base:=base) T
 have D_stretches:=D_stretches (P:=P) (w:=w) (base:=base) T
 refine fnok_of F sc_law (fun vs H Q E h=>?_) (fun cdv A outer s H vs Q E hr h=>?_)
 ·obtain ⟨a,ns,rfl,_⟩:=h
  rfl
 ·obtain ⟨a,ns,rfl,hS,hl,hP,hne,k⟩:=h
  have nd:=sc_law.nd
  refine' ⟨_,?bd0,?main⟩
  case bd0 =>
   refine' pss_cons ?s1 ?r1
   case r1 =>
    refine' pss_one ?s2
    case s2 =>
     exact (ps_ret pe_bl)
   case s1 =>
    refine' ps_for PassesOwn.never rfl ?i4 ?g4 ?d4
    case g4=>exact (pg_name (i:=1) nd rfl (Or.inl rfl))
    case d4 =>
     refine' pss_cons ?s5 ?r5
     case r5 =>
      refine' pss_cons ?s6 ?r6
      case r6 =>
       refine' pss_cons ?s7 ?r7
       case r7 =>
        refine' pss_cons ?s8 ?r8
        case r8 =>
         refine' pss_cons ?s9 ?r9
         case r9 =>
          refine' pss_cons ?s10 ?r10
          case r10 =>
           refine' pss_cons ?s11 ?r11
           case r11 =>
            refine' pss_cons ?s12 ?r12
            case r12 =>
             refine' pss_cons ?s13 ?r13
             case r13 =>
              refine' pss_one ?s14
              case s14 =>
               exact (ps_if (PW.pt (pw_or (pt_cmpR op_isNB (pe_def D_isstuck hr (pa_cons (pv 4) (pa_cons (pv 8) (pa_cons (pe_def D_stretches hr (pa_cons (pv 4) pa_nil)) pa_nil))) (hx:=pass10)) pe_bl (nomark _)) (pw_or1 (pt_cmpR (op_neE hr) (pe_def D_lrefused hr (pa_cons pe_int (pa_cons (pv 4) (pa_cons pe_int (pa_cons pe_non pa_nil))))) (pe_lstA pa_nil) (nomark _))))) (pss_one (ps_ret pe_bl)) pss_nil)
             case s13 =>
              exact (ps_if (PW.pt (pw_or (pt_not (pt_val (pe_callB call_isT rfl T.n_isinstance boot_isinstance (pa_cons (pe_def D_plan hr (pa_cons (pv 4) (pa_cons (pv 8) pa_nil)) (hx:=pass10)) (pa_cons (pe_gl (v:=.ref CS) ⟨_,T.gc_Stuck,rfl⟩) pa_nil))))) (pw_or1 (pt_cmpR op_notNN (pe_def D_priceof hr (pa_cons (pv 4) (pa_cons (pv 8) (pa_cons (pe_lstA pa_nil) pa_nil))) (hx:=pass10)) pe_non (nomark _))))) (pss_one (ps_ret pe_bl)) pss_nil)
            case s12 =>
             refine' ps_for PassesOwn.never rfl ?i17 ?g17 ?d17
             case g17=>exact (pg_name (i:=7) nd rfl (Or.inl rfl))
             case d17 =>
              refine' pss_cons ?s18 ?r18
              case r18 =>
               refine' pss_one ?s19
               case s19 =>
                exact (ps_if (PW.pt (pw_or (PW.pt (pw_and (pt_cmpR op_lt (pv 7) pe_int (nomark _)) (pw_and1 (pt_not (pt_val (pe_def D_lsame hr (pa_cons (pv 9) (pa_cons (pv 8) pa_nil)))))))) (pw_or1 (PW.pt (pw_and (pt_cmpR op_gt (pv 7) pe_int (nomark _)) (pw_and1 (pt_cmpR (op_neE hr) (pv 9) (pe_lstA pa_nil) (nomark _)))))))) (pss_one (ps_ret pe_bl)) pss_nil)
              case s18 =>
               exact (ps_set (i:=9) nd rfl (Or.inl rfl) (pe_def D_lrefused hr (pa_cons (pv 7) (pa_cons (pv 4) (pa_cons (pv 8) (pa_cons (pv 6) pa_nil))))))
             case i17 =>
              exact (pi_range1 rfl T.n_range (pa_cons pe_int pa_nil))
           case s11 =>
            refine' ps_set (i:=8) ?n23 ?h23 ?o23 ?e23
            case n23=>exact nd
            case h23=>exact rfl
            case o23=>exact (Or.inl rfl)
            case e23 =>
             refine' pe_ix ix_list ?x24 ?y24 ?z24
             case z24=>exact (fun _ _=>rfl)
             case y24=>exact (pe_def D_take hr (pa_cons (pv 2) (pa_cons pe_int pa_nil)))
             case x24 =>
              refine' pe_lstA ?p25
              case p25 =>
               refine' pa_cons ?a26 ?b26 ?c26
               case a26=>exact pe_int
               case c26=>first | with_reducible rfl | rfl
               case b26 =>
                refine' pa_cons ?a27 ?b27 ?c27
                case a27=>exact (pe_op op_add pe_int (pe_def D_take hr (pa_cons (pv 2) (pa_cons (pe_op op_pow pe_int pe_int) pa_nil))))
                case c27=>first | with_reducible rfl | rfl
                case b27 =>
                 refine' pa_cons ?a28 ?b28 ?c28
                 case a28=>exact (pe_op op_sub (pe_op op_pow pe_int pe_int) pe_int)
                 case c28=>first | with_reducible rfl | rfl
                 case b28 =>
                  exact pa_nil
          case s10 =>
           refine' ps_for PassesOwn.never rfl ?i30 ?g30 ?d30
           case g30=>exact (pg_name (i:=7) nd rfl (Or.inl rfl))
           case d30 =>
            refine' pss_one ?s31
            case s31 =>
             exact (ps_if (pt_not (pt_val (pe_def D_lsame hr (pa_cons (pe_def D_lrefused hr (pa_cons (pv 7) (pa_cons (pv 4) (pa_cons (pv 5) (pa_cons (pv 6) pa_nil))))) (pa_cons (pv 5) pa_nil))))) (pss_one (ps_ret pe_bl)) pss_nil)
           case i30 =>
            exact (pi_range1 rfl T.n_range (pa_cons pe_int pa_nil))
         case s9 =>
          refine' ps_set (i:=6) ?n34 ?h34 ?o34 ?e34
          case n34=>exact nd
          case h34=>exact rfl
          case o34=>exact (Or.inl rfl)
          case e34 =>
           refine' pe_ix ix_list ?x35 ?y35 ?z35
           case z35=>exact (fun _ _=>rfl)
           case y35=>exact (pe_def D_take hr (pa_cons (pv 2) (pa_cons pe_int pa_nil)))
           case x35 =>
            refine' pe_lstA ?p36
            case p36 =>
             refine' pa_cons ?a37 ?b37 ?c37
             case a37=>exact pe_non
             case c37=>first | with_reducible rfl | rfl
             case b37 =>
              refine' pa_cons ?a38 ?b38 ?c38
              case a38=>exact (pe_lstA pa_nil)
              case c38=>first | with_reducible rfl | rfl
              case b38 =>
               refine' pa_cons ?a39 ?b39 ?c39
               case a39=>exact (pe_lstA (pa_cons (pe_tupA (pa_cons pe_str (pa_cons pe_int pa_nil))) pa_nil))
               case c39=>first | with_reducible rfl | rfl
               case b39 =>
                refine' pa_cons ?a40 ?b40 ?c40
                case a40=>exact pe_int
                case c40=>first | with_reducible rfl | rfl
                case b40 =>
                 refine' pa_cons ?a41 ?b41 ?c41
                 case a41=>exact pe_str
                 case c41=>first | with_reducible rfl | rfl
                 case b41 =>
                  refine' pa_cons ?a42 ?b42 ?c42
                  case a42=>exact (pe_tupA (pa_cons (pe_lstA pa_nil) (pa_cons (pe_lstA pa_nil) pa_nil)))
                  case c42=>first | with_reducible rfl | rfl
                  case b42 =>
                   exact pa_nil
        case s8 =>
         refine' ps_set (i:=5) ?n44 ?h44 ?o44 ?e44
         case n44=>exact nd
         case h44=>exact rfl
         case o44=>exact (Or.inl rfl)
         case e44 =>
          refine' pe_ix ix_list ?x45 ?y45 ?z45
          case z45=>exact (fun _ _=>rfl)
          case y45=>exact (pe_def D_take hr (pa_cons (pv 2) (pa_cons pe_int pa_nil)))
          case x45 =>
           refine' pe_lstA ?p46
           case p46 =>
            refine' pa_cons ?a47 ?b47 ?c47
            case a47=>exact pe_int
            case c47=>first | with_reducible rfl | rfl
            case b47 =>
             refine' pa_cons ?a48 ?b48 ?c48
             case a48=>exact (pe_op op_sub (pe_un un_neg pe_int) (pe_def D_take hr (pa_cons (pv 2) (pa_cons (pe_op op_pow pe_int pe_int) pa_nil))))
             case c48=>first | with_reducible rfl | rfl
             case b48 =>
              refine' pa_cons ?a49 ?b49 ?c49
              case a49=>exact pe_bl
              case c49=>first | with_reducible rfl | rfl
              case b49 =>
               refine' pa_cons ?a50 ?b50 ?c50
               case a50=>exact pe_bl
               case c50=>first | with_reducible rfl | rfl
               case b50 =>
                refine' pa_cons ?a51 ?b51 ?c51
                case a51=>exact pe_non
                case c51=>first | with_reducible rfl | rfl
                case b51 =>
                 refine' pa_cons ?a52 ?b52 ?c52
                 case a52=>exact pe_str
                 case c52=>first | with_reducible rfl | rfl
                 case b52 =>
                  refine' pa_cons ?a53 ?b53 ?c53
                  case a53=>exact (pe_lstA (pa_cons pe_int pa_nil))
                  case c53=>first | with_reducible rfl | rfl
                  case b53 =>
                   refine' pa_cons ?a54 ?b54 ?c54
                   case a54=>exact (pe_tupA (pa_cons pe_int pa_nil))
                   case c54=>first | with_reducible rfl | rfl
                   case b54 =>
                    refine' pa_cons ?a55 ?b55 ?c55
                    case a55=>exact pe_dnewK
                    case c55=>first | with_reducible rfl | rfl
                    case b55 =>
                     refine' pa_cons ?a56 ?b56 ?c56
                     case a56=>exact pe_str
                     case c56=>first | with_reducible rfl | rfl
                     case b56 =>
                      exact pa_nil
       case s7 =>
        exact (ps_set (i:=4) nd rfl (Or.inl rfl) (pe_makB MK_Linit hr (pa_cons (pv 3) (pa_cons (pe_def D_rows hr (pa_cons (pv 2) (pa_cons (pv 3) pa_nil))) pa_nil))))
      case s6 =>
       exact (ps_set (i:=3) nd rfl (Or.inl rfl) (pe_op op_add pe_int (pe_def D_take hr (pa_cons (pv 2) (pa_cons pe_int pa_nil)))))
     case s5 =>
      exact (ps_set (i:=2) nd rfl (Or.inl rfl) (pe_def D_box hr (pa_cons (pe_def D_cell_at hr (pa_cons (pv 0) (pa_cons (pv 1) pa_nil))) pa_nil)))
    case i4 =>
     exact (pi_range1 rfl T.n_range (pa_cons (pe_callB (call_maxN rfl) rfl T.n_max boot_max (pa_cons pe_int (pa_cons (pe_callB (call_minN rfl) rfl T.n_min boot_min (pa_cons pe_int (pa_cons (pe_callB call_lenN rfl T.n_len boot_len (pa_cons (pv 0) pa_nil)) pa_nil))) pa_nil))) pa_nil))
  clear nd D_box MK_Linit D_cell_at D_take D_rows D_lrefused D_lsame D_priceof D_isstuck D_plan D_stretches
  rw [show start ["_law_script", "_law_k", "_law_box_here", "_law_many_here", "_law_layout", "_law_bad", "_law_thing", "_law_way", "_law_far", "_law_found"] [.ref a]=[some (.ref a),none,none,none,none,none,none,none,none,none] from rfl]
  try dsimp only [cx_K,cx_K2]
  have iL_many:FldOk K CL "many" := ⟨T.clL,T.aL_many⟩
  have iL_rows:FldOk K CL "rows" := ⟨T.clL,T.aL_rows⟩
  have iS_stretches:FldOk K CS "stretches" := ⟨T.clS,T.aS_stretches⟩
  have F:SH H [pt_Linit] H [(pt_Linit,.tbl #[])] [TabI lamPos lamQual #[]]:=(SH.nil.addM List.mem_cons_self hP rfl (by simp)).addF (.inl rfl)
  have o_hS:=OldQ.mk (M:=[pt_Linit]) hS (nm1 hne)
  repeat k_meth
  generalize (max 1 (min 6 ((ns.map V.int).length:Int))).toNat=N
  refine forR0_by (fun i σ' H'=>∃(o1 o2 o3 o4 o5 o6 o7 o8 o9:Option V) (ps:Array Value),σ'=[some (.ref a),o1,o2,o3,o4,o5,o6,o7,o8,o9]∧SH H [pt_Linit] H' [(pt_Linit,.tbl ps)] [TabI lamPos lamQual ps]) ⟨_,_,_,_,_,_,_,_,_,#[],rfl,F⟩ ?_ ?_
  ·clear F
   rintro i σ' H' hi ⟨_,_,_,_,_,_,_,_,_,ps,rfl,F⟩
   repeat k_meth
   obtain ⟨bx,e⟩:∃z,z=p_:=⟨_,rfl⟩
   subst e
   obtain ⟨n,hn⟩:∃n:Nat,16 + r_=(n:Int):=⟨(16 + r_).toNat,by lia⟩
   have sd0:16≤n∧n≤240:=by lia
   have n240:n≤240:=by lia
   rw [hn]
   repeat k_meth
   intro rs ly as nb
   have few:=ly.few
   have la:LayA n rs rs:=⟨List.Perm.refl _,ly,as⟩
   repeat k_meth
   obtain ⟨lx,e⟩:∃z,z=x_:=⟨_,rfl⟩
   subst e
   intro ps2
   have lyf:LyF n rs:=⟨ly,as,n240,nb⟩
   have szf:rs.length≤40∧∀r∈rs,r.sz≤240:=⟨few,fun r hr=>by have:=(ly.good r hr).le;lia⟩
   repeat k_meth
   refine w_ixM SqA.e lo_ hi_ fun v hv=>?_
   repeat k_meth
   refine w_ixM SqA.e lo_ hi_ fun u hu=>?_
   obtain ⟨n1,bv⟩:∃n1,BadV H_ v n1:=by
    simp only [List.mem_cons,List.not_mem_nil,or_false] at hv
    rcases hv with rfl | rfl | rfl | rfl | rfl | rfl | rfl | rfl | rfl | rfl
    ·exact ⟨_,.int 0 (by decide)⟩
    ·exact ⟨_,.int _ (by lia)⟩
    ·exact ⟨_,.bl true⟩
    ·exact ⟨_,.bl false⟩
    ·exact ⟨_,.non⟩
    ·exact ⟨_,.str _⟩
    ·exact ⟨_,.lst (i:=4) hatC⟩
    ·exact ⟨_,.tup (i:=5) hatC⟩
    ·exact ⟨_,.dct hatC⟩
    ·exact ⟨_,.str _⟩
   have tu:ThU H_ [] u:=by
    simp only [List.mem_cons,List.not_mem_nil,or_false] at hu
    rcases hu with rfl | rfl | rfl | rfl | rfl | rfl
    ·exact .inl (.inl rfl)
    ·exact .inr (.inl ⟨_,rfl,List.not_mem_nil,hatC⟩)
    ·exact .inr (.inr (.inl ⟨_,_,rfl,List.not_mem_nil,List.not_mem_nil,hatC,hatC⟩))
    ·exact .inl (.inr (.inl rfl))
    ·exact .inl (.inr (.inr rfl))
    ·exact .inr (.inr (.inr ⟨_,_,_,rfl,List.not_mem_nil,List.not_mem_nil,List.not_mem_nil,hatC,hatC,hatC⟩))
   clear hv hu
   have hbx:H_ bx=some (.lst [.int x_,.int y_,.int z_]):=hatC
   have hpt:H_ pt_Linit=some (.tbl ps2):=hatC
   have tk:TabOk lamPos lamQual ps2 H_:=SH.tab
   obtain ⟨p1,d1,zs1,hlx,hp1,tp1,np1⟩:∃p1 d1 zs1,H_ lx=some (.ins CL d1 (lF (n:Nat) p1))∧H_ p1=some (.lst zs1)∧TupsAt H_ zs1 (rowsV rs)∧p1≠bx:=⟨_,_,_,hatC,hatC,TpA.e,SH.neC (F:=F)⟩
   have neb:bx≠pt_Linit:=not_lst hbx hpt (by simp)
   have Fo:SH H [pt_Linit] H_ [(pt_Linit,.tbl ps2),(bx,.lst [.int x_,.int y_,.int z_])] [TabI lamPos lamQual ps2]:=F.sub SbC.s SbI.s
   have Fo2:SH H [pt_Linit] H_ ([(pt_Linit,.tbl ps2),(bx,.lst [.int x_,.int y_,.int z_])]++[]) [TabI lamPos lamQual ps2]:=Fo
   clear F Fo
   have F:SH H_ [pt_Linit,bx] H_ [(pt_Linit,.tbl ps2),(bx,.lst [.int x_,.int y_,.int z_])] [.tps zs1 (rowsV rs),TabI lamPos lamQual ps2]:=(((SH.nil.addM (by simp) hbx rfl (by simp)).addM (by simp) hpt rfl (by simp [neb])).addF tk).addP tp1
   have o_lx:=Old.mk (M:=[pt_Linit,bx]) hlx (nm2 (not_lst hlx hpt (by simp)) (not_lst hlx hbx (by simp)))
   have o_p1:=Old.mk (M:=[pt_Linit,bx]) hp1 (nm2 (not_lst hp1 hpt (by simp)) np1)
   have o_v:OldB H_ [pt_Linit,bx] v n1:=⟨bv,bv.out hpt hbx⟩
   have o_u:OldU H_ [pt_Linit,bx] u:=⟨tu.out hpt hbx⟩
   rename Hp=>H1
   repeat k_meth
   refine forR0_by (fun j σ' H'=>∃(o7 o8 o9:Option V),σ'=[some (.ref a),some (.int (i:Nat)),some (.ref bx),some (.int (n:Nat)),some (.ref lx),some v,some u,o7,o8,o9]∧SH H1 [pt_Linit,bx] H' [(pt_Linit,.tbl ps2),(bx,.lst [.int x_,.int y_,.int z_])] [.tps zs1 (rowsV rs),TabI lamPos lamQual ps2]) ⟨_,_,_,rfl,F⟩ ?_ ?_
   ·clear F
    rintro j σ' H' hj ⟨_,_,_,rfl,F⟩
    have rz:RzA j v:=⟨.inl bv.fr⟩
    have j5:j < 5:=hj
    repeat k_meth
    exact ⟨_,_,_,rfl,F.sub SbC.s SbI.s⟩
   ·clear F
    rintro σ' H' ⟨_,_,_,rfl,F⟩
    repeat k_meth
    refine w_ixM SqA.e lo_ hi_ fun v2 hv2=>?_
    obtain ⟨s,rfl,hs⟩:∃s:Int,v2=.int s∧241≤s:=by
     simp only [List.mem_cons,List.not_mem_nil,or_false] at hv2
     rcases hv2 with rfl | rfl | rfl
     ·exact ⟨_,rfl,by lia⟩
     ·exact ⟨_,rfl,by lia⟩
     ·exact ⟨10 ^ Int.toNat 30 - 1,rfl,by decide +kernel⟩
    clear hv2
    have F2:SH H1 [pt_Linit,bx] H_ [(pt_Linit,.tbl ps2),(bx,.lst [.int x_,.int y_,.int z_])] [.tps zs1 (rowsV rs),TabI lamPos lamQual ps2]:=F.sub SbC.s SbI.s
    clear F
    have F:SH H1 [pt_Linit,bx] H_ _ _:=F2
    clear F2
    repeat k_meth
    refine forR0_by (fun j σ' H'=>∃(o7 o9:Option V),σ'=[some (.ref a),some (.int (i:Nat)),some (.ref bx),some (.int (n:Nat)),some (.ref lx),some v,some u,o7,some (.int s),o9]∧SH H1 [pt_Linit,bx] H' [(pt_Linit,.tbl ps2),(bx,.lst [.int x_,.int y_,.int z_])] [.tps zs1 (rowsV rs),TabI lamPos lamQual ps2]) ⟨_,_,rfl,F⟩ ?_ ?_
    ·clear F
     rintro j σ' H' hj ⟨_,_,rfl,F⟩
     have j5:j < 5:=hj
     by_cases h2:j < 2
     ·have rz:RzA j (.int s):=⟨.inr ⟨s,rfl,hs,h2⟩⟩
      repeat k_meth
      exact ⟨_,_,rfl,F.sub SbC.s SbI.s⟩
     ·have fa:FarA j s:=⟨hs,by lia⟩
      repeat k_meth
      exact ⟨_,_,rfl,F.sub SbC.s SbI.s⟩
    ·clear F
     rintro σ' H' ⟨_,_,rfl,F⟩
     repeat k_meth
     intro y dy q H2 s2 hy
     replace F:=F.same s2
     repeat k_meth
     refine isR hy T.clS T.ccS_a T.cc_n T.cc_t T.ccS_m kit_self ?_
     repeat k_meth
     have F1:SH H1 [pt_Linit,bx] _ [(pt_Linit,.tbl ps2),(bx,.lst [.int x_,.int y_,.int z_])] [TabI lamPos lamQual ps2]:=F.sub SbC.s SbI.s
     have F2:=SH.over Fo2 F1 rfl
     clear F F1
     simp only [List.cons_append,List.nil_append] at F2
     exact ⟨_,_,_,_,_,_,_,_,_,ps2,rfl,F2.sub SbC.s SbI.s⟩
  ·clear F
   rintro σ' H' ⟨_,_,_,_,_,_,_,_,_,ps,rfl,F⟩
   repeat k_meth
   exact k _
end
end K77
namespace K77
open PySem L2 PyProof.Rows
abbrev LkH (K:W.Frag) (g:Addr) (m q:Str) (st:Stmt) (xd xn:Option Addr) (xs:Array (Option Value)) (xo xk xe xp xc xt:Value):Prop:=K.lookup g=some ⟨xo,xd,.func (W.fnOf m q (defArgs st) (defBody st) (defScope st) .none xk xe xp xn xc xt),xs⟩∧W.codeIn K xc q=true∧W.keepIn K (.ref g)=true
abbrev DfH (K:W.Frag) (m:Str) (st:Stmt):Prop:=∃g xd xn xs xo xk xe xp xc xt,W.nsIn K mainGlobals m=some (some (.ref g))∧LkH K g m m st xd xn xs xo xk xe xp xc xt
abbrev MeH (K:W.Frag) (C:Addr) (m q:Str) (st:Stmt):Prop:=∃g xd xn xs xo xk xe xp xc xt,W.findIn K (.ref C) m=some (some (.ref g))∧W.isFn K (.ref g)=true∧LkH K g m q st xd xn xs xo xk xe xp xc xt
abbrev CdH (K:W.Frag) (C:Addr) (m q:Str) (st:Stmt):Prop:=∃g xd xn xs xo xk xe xp xc xt,W.specialIn K (.ref C) "__getattribute__" = some (some (.builtin "type.__getattribute__"))∧W.readsIn K C (.type "type")=true∧W.findCls K (.ref C) (.type "type") m=some (.val (.ref g))∧LkH K g m q st xd xn xs xo xk xe xp xc xt
abbrev ClH (K:W.Frag) (C:Addr):Prop:=W.plainGet K C Str.empty=true∧W.hasDictIn K C=true∧W.plainOver K C=true∧W.findIn K (.ref C) "__setattr__" = some (some (.builtin "object.__setattr__"))∧W.makesIn K C=true∧W.keepIn K (.ref C)=true
section
variable {K:W.Frag} {h:Heap} {mg:Str→Option Value} {C:Addr} {m q:Str} {st:Stmt}
theorem DfH.has (d:DfH K m st) (X:K.In h) (G:h.Ns mainGlobals mg):HasDef K mg m st:=let ⟨_,_,_,_,_,_,_,_,_,_,a,l,c,k⟩:=d;HasDef.mk (W.mg_of X G a) l c k
theorem MeH.me (d:MeH K C m q st):∃f,FnAt K m q st f∧Meth K C m f:=let ⟨g,_,_,_,_,_,_,_,_,_,a,f,l,c,k⟩:=d;⟨g,⟨_,fun_mk (st:=st) l c k⟩,⟨a,f,k⟩⟩
theorem MeH.mk (d:MeH K C "__init__" q st) (c:ClH K C):∃f,FnAt K "__init__" q st f∧Mk K C f:=let ⟨g,_,_,_,_,_,_,_,_,_,a,f,l,cd,k⟩:=d;⟨g,⟨_,fun_mk (st:=st) l cd k⟩,⟨c.2.2.2.2.1,a,f,c.2.2.2.2.2⟩⟩
theorem CdH.cd (d:CdH K C m q st):∃f,FnAt K m q st f∧CMeth K C m f:=let ⟨g,_,_,_,_,_,_,_,_,_,a,r,f,l,c,k⟩:=d;⟨g,⟨_,fun_mk (st:=st) l c k⟩,⟨a,r,f,by rfl,k⟩⟩
end
theorem all_mk {ct_Linit pt_Linit:Addr} {l:W.OpenLaw} {w:World} {K:W.Frag} {h:Heap} {mg:Str→Option Value} {fa g43_:Addr} (X:K.In h) (G:h.Ns mainGlobals mg) (hfa:mg "law" = some (.ref fa))
  {R:Addr}
  (eR:W.nsIn K mainGlobals "RoomError" = some (some (.ref R)))
  (eh:W.specialIn K (.builtin "object.__class__") "__get__" = some (some (.builtin "getset_descriptor.__get__")))
  (et:W.takesIn K (.builtin "object.__class__")=some true)
  {C0 N0 x0:Addr} {nm0 q0:Str} {bs0:List Value} {sn0:List Str} {sub0:List Value} {ab0:Bool} {col0:Option Bool} {dd0:Option Addr} {k00_ k10_ k20_ k30_ k50_:Option Value}
  (ea0:W.nsIn K mainGlobals "NoSize" = some (some (.ref C0)))
  (el0:K.lookup C0=some (excClassObj nm0 q0 C0 N0 bs0 [.ref R,.type "ValueError", .type "Exception", .type "BaseException", .type "object"] true sn0 sub0 ab0 col0 dd0 k00_ k10_ k20_ k30_ k50_ "ValueError.__new__"))
  {xd0 xn0:Option Addr} {xs0:Array (Option Value)} {xk0 xo0 xp0 xc0 xt0:Value}
  (ei0:W.findIn K (.ref C0) "__init__" = some (some (.ref x0)))
  (ef0:K.lookup x0=some ⟨.type "function", xd0,.func (W.fnOf "__init__" "NoSize.__init__" (defArgs i_NoSize) (defBody i_NoSize) (defScope i_NoSize) .none xk0 xo0 xp0 xn0 xc0 xt0),xs0⟩)
  (ec0:W.codeIn K xc0 "NoSize.__init__" = true) (ek0:W.keepIn K (.ref x0)=true) (es0:W.findIn K (.ref C0) "__setattr__" = some (some (.builtin "object.__setattr__")))
  (em0:W.keepIn K (.ref C0)=true) (eg0:W.findIn K (.ref C0) "__getattribute__" = some (some (.builtin "BaseException.__getattribute__"))) (eb0:W.findIn K (.ref C0) "__getattr__" = some none) (ej0:W.findIn K (.ref C0) "__class__" = some (some (.builtin "object.__class__")))
  (en0_0:W.findIn K (.ref C0) "size" = some none)
  {C1 N1 x1:Addr} {nm1 q1:Str} {bs1:List Value} {sn1:List Str} {sub1:List Value} {ab1:Bool} {col1:Option Bool} {dd1:Option Addr} {k01_ k11_ k21_ k31_ k51_:Option Value}
  (ea1:W.nsIn K mainGlobals "NoPlace" = some (some (.ref C1)))
  (el1:K.lookup C1=some (excClassObj nm1 q1 C1 N1 bs1 [.ref R,.type "ValueError", .type "Exception", .type "BaseException", .type "object"] true sn1 sub1 ab1 col1 dd1 k01_ k11_ k21_ k31_ k51_ "ValueError.__new__"))
  {xd1 xn1:Option Addr} {xs1:Array (Option Value)} {xk1 xo1 xp1 xc1 xt1:Value}
  (ei1:W.findIn K (.ref C1) "__init__" = some (some (.ref x1)))
  (ef1:K.lookup x1=some ⟨.type "function", xd1,.func (W.fnOf "__init__" "NoPlace.__init__" (defArgs i_NoPlace) (defBody i_NoPlace) (defScope i_NoPlace) .none xk1 xo1 xp1 xn1 xc1 xt1),xs1⟩)
  (ec1:W.codeIn K xc1 "NoPlace.__init__" = true) (ek1:W.keepIn K (.ref x1)=true) (es1:W.findIn K (.ref C1) "__setattr__" = some (some (.builtin "object.__setattr__")))
  (em1:W.keepIn K (.ref C1)=true) (eg1:W.findIn K (.ref C1) "__getattribute__" = some (some (.builtin "BaseException.__getattribute__"))) (eb1:W.findIn K (.ref C1) "__getattr__" = some none) (ej1:W.findIn K (.ref C1) "__class__" = some (some (.builtin "object.__class__")))
  (en1_0:W.findIn K (.ref C1) "at" = some none)
  {C2 N2 x2:Addr} {nm2 q2:Str} {bs2:List Value} {sn2:List Str} {sub2:List Value} {ab2:Bool} {col2:Option Bool} {dd2:Option Addr} {k02_ k12_ k22_ k32_ k52_:Option Value}
  (ea2:W.nsIn K mainGlobals "NoBlock" = some (some (.ref C2)))
  (el2:K.lookup C2=some (excClassObj nm2 q2 C2 N2 bs2 [.ref R,.type "ValueError", .type "Exception", .type "BaseException", .type "object"] true sn2 sub2 ab2 col2 dd2 k02_ k12_ k22_ k32_ k52_ "ValueError.__new__"))
  {xd2 xn2:Option Addr} {xs2:Array (Option Value)} {xk2 xo2 xp2 xc2 xt2:Value}
  (ei2:W.findIn K (.ref C2) "__init__" = some (some (.ref x2)))
  (ef2:K.lookup x2=some ⟨.type "function", xd2,.func (W.fnOf "__init__" "NoBlock.__init__" (defArgs i_NoBlock) (defBody i_NoBlock) (defScope i_NoBlock) .none xk2 xo2 xp2 xn2 xc2 xt2),xs2⟩)
  (ec2:W.codeIn K xc2 "NoBlock.__init__" = true) (ek2:W.keepIn K (.ref x2)=true) (es2:W.findIn K (.ref C2) "__setattr__" = some (some (.builtin "object.__setattr__")))
  (em2:W.keepIn K (.ref C2)=true) (eg2:W.findIn K (.ref C2) "__getattribute__" = some (some (.builtin "BaseException.__getattribute__"))) (eb2:W.findIn K (.ref C2) "__getattr__" = some none) (ej2:W.findIn K (.ref C2) "__class__" = some (some (.builtin "object.__class__")))
  (en2_0:W.findIn K (.ref C2) "name" = some none)
  {C3 N3 x3:Addr} {nm3 q3:Str} {bs3:List Value} {sn3:List Str} {sub3:List Value} {ab3:Bool} {col3:Option Bool} {dd3:Option Addr} {k03_ k13_ k23_ k33_ k53_:Option Value}
  (ea3:W.nsIn K mainGlobals "NoMoves" = some (some (.ref C3)))
  (el3:K.lookup C3=some (excClassObj nm3 q3 C3 N3 bs3 [.ref R,.type "ValueError", .type "Exception", .type "BaseException", .type "object"] true sn3 sub3 ab3 col3 dd3 k03_ k13_ k23_ k33_ k53_ "ValueError.__new__"))
  {xd3 xn3:Option Addr} {xs3:Array (Option Value)} {xk3 xo3 xp3 xc3 xt3:Value}
  (ei3:W.findIn K (.ref C3) "__init__" = some (some (.ref x3)))
  (ef3:K.lookup x3=some ⟨.type "function", xd3,.func (W.fnOf "__init__" "NoMoves.__init__" (defArgs i_NoMoves) (defBody i_NoMoves) (defScope i_NoMoves) .none xk3 xo3 xp3 xn3 xc3 xt3),xs3⟩)
  (ec3:W.codeIn K xc3 "NoMoves.__init__" = true) (ek3:W.keepIn K (.ref x3)=true) (es3:W.findIn K (.ref C3) "__setattr__" = some (some (.builtin "object.__setattr__")))
  (em3:W.keepIn K (.ref C3)=true) (eg3:W.findIn K (.ref C3) "__getattribute__" = some (some (.builtin "BaseException.__getattribute__"))) (eb3:W.findIn K (.ref C3) "__getattr__" = some none) (ej3:W.findIn K (.ref C3) "__class__" = some (some (.builtin "object.__class__")))
  (en3_0:W.findIn K (.ref C3) "moves" = some none)
  {od43_ an43_:Option Addr} {sl43_:Array (Option Value)} {oc43_ kV43_ dc43_ pm43_ cd43_ ct43_:Value}
  (d0_:DfH K "is_whole" s_is_whole)
  (d1_:DfH K "is_from" s_is_from)
  (d2_:DfH K "is_within" s_is_within)
  (d3_:DfH K "is_many" s_is_many)
  (d4_:DfH K "is_name" s_is_name)
  (d5_:DfH K "end_of" s_end_of)
  (d6_:DfH K "is_row" s_is_row)
  (d7_:DfH K "cells_of" s_cells_of)
  (d8_:DfH K "need_row" s_need_row)
  (d9_:DfH K "need_rows" s_need_rows)
  (d10_:DfH K "share_cells" s_share)
  (d11_:DfH K "_law_cell_at" s_cell_at)
  (d12_:DfH K "_law_box" s_box)
  (d13_:DfH K "_law_take" s_take)
  (d14_:DfH K "_law_names" s_names)
  (d15_:DfH K "_law_rows" s_rows)
  (d16_:DfH K "has_truth" s_truth)
  (d17_:DfH K "largest_size" s_largest)
  (d18_:DfH K "holes_among" s_among)
  (d19_:DfH K "free_among" s_freeam)
  (d20_:DfH K "holes_of" s_holesof)
  (d21_:DfH K "is_pair" s_ispair)
  (d22_:DfH K "step_of" s_stepof)
  (d23_:DfH K "gone_through" s_gone)
  (d24_:DfH K "gone_through_if_let" s_goneif)
  (d25_:DfH K "gaps_of" s_gapsof)
  (d26_:DfH K "row_at_end" s_atend)
  (d27_:DfH K "row_beside" s_beside)
  (d28_:DfH K "left_prices" s_left)
  (d29_:DfH K "right_prices" s_right)
  (d30_:DfH K "prices" s_prices)
  (d31_:DfH K "is_prices" s_isprices)
  (d32_:DfH K "blocks_between" s_between)
  (d33_:DfH K "free_between" s_freeb)
  (d34_:DfH K "stretches_of" s_stretches)
  (d35_:DfH K "need_size" s_needs)
  (d36_:DfH K "least_choice" s_least)
  (d37_:DfH K "plan" s_plan)
  (d38_:DfH K "price_of" s_priceof)
  (d39_:DfH K "is_stuck" s_isstuck)
  (d40_:DfH K "_law_called" s_lcalled)
  (d41_:DfH K "_law_refused" s_lrefused)
  (d42_:DfH K "_law_same" s_lsame)
  (a43_:W.nsIn K mainGlobals "law" = some (some (.ref g43_))) (l43_:K.lookup g43_=some ⟨oc43_,od43_,.func (W.fnOf "law" "law" (defArgs s_law) (defBody s_law) (defScope s_law) .none kV43_ dc43_ pm43_ an43_ cd43_ ct43_),sl43_⟩) (c43_:W.codeIn K cd43_ "law" = true) (k43_:W.keepIn K (.ref g43_)=true)
  (nb0:W.nsIn K mainGlobals "isinstance" = some none)
  (nb1:W.nsIn K mainGlobals "int" = some none)
  (nb2:W.nsIn K mainGlobals "bool" = some none)
  (nb3:W.nsIn K mainGlobals "str" = some none)
  (nb4:W.nsIn K mainGlobals "list" = some none)
  (nb5:W.nsIn K mainGlobals "tuple" = some none)
  (nb6:W.nsIn K mainGlobals "len" = some none)
  (nb7:W.nsIn K mainGlobals "all" = some none)
  (nb8:W.nsIn K mainGlobals "range" = some none)
  (nb9:W.nsIn K mainGlobals "sorted" = some none)
  (nb10:W.nsIn K mainGlobals "max" = some none)
  (nb11:W.nsIn K mainGlobals "min" = some none)
  (nb12:W.nsIn K mainGlobals "sum" = some none)
  (nb13:W.nsIn K mainGlobals "enumerate" = some none)
  (nb14:W.nsIn K mainGlobals "zip" = some none)
  (nb15:W.nsIn K mainGlobals "reversed" = some none)
  (nb16:W.nsIn K mainGlobals "any" = some none)
  (nb17:W.nsIn K mainGlobals "ValueError" = some none)
  {tk0:Tok} (con0:W.nsIn K mainGlobals "LETTERS" = some (some (.str LET tk0)))
  {tk1:Tok} (con1:W.nsIn K mainGlobals "NAME_SIGNS" = some (some (.str SGN tk1)))
  {tk2:Tok} (con2:W.nsIn K mainGlobals "MOST_SIGNS" = some (some (.int 8 tk2)))
  {tk3:Tok} (con3:W.nsIn K mainGlobals "FEWEST_CELLS" = some (some (.int 16 tk3)))
  {tk4:Tok} (con4:W.nsIn K mainGlobals "MOST_CELLS" = some (some (.int 240 tk4)))
  {tk5:Tok} (con5:W.nsIn K mainGlobals "MOST_BLOCKS" = some (some (.int 40 tk5)))
  (xx_NoSize_NoBlock:W.exmOne K (.ref C0) (.ref C2)=some false)
  (xx_NoSize_NoMoves:W.exmOne K (.ref C0) (.ref C3)=some false)
  (xx_NoSize_NoPlace:W.exmOne K (.ref C0) (.ref C1)=some false)
  {nmR qR:Str} {NR:Addr} {bsR bmR:List Value} {hdR:Bool} {snR:List Str} {subR:List Value} {abR:Bool} {colR:Option Bool} {ddR:Option Addr} {k0R k1R k2R k3R k5R:Option Value} {newR:String}
  (zc:K.lookup R=some (excClassObj nmR qR R NR bsR bmR hdR snR subR abR colR ddR k0R k1R k2R k3R k5R newR)) (zt:W.typeIn K (.ref R)=some (.type "type")) (zm:W.mroIn K R (.type "BaseException")=some true)
  {CL CS g_Linit:Addr}
  (aCL:W.nsIn K mainGlobals "Layout" = some (some (.ref CL)))
  (cl_L:ClH K CL)
  (naL_many:W.findIn K (.ref CL) "many" = some none)
  (naL_rows:W.findIn K (.ref CL) "rows" = some none)
  (aCS:W.nsIn K mainGlobals "Stuck" = some (some (.ref CS)))
  (cl_S:ClH K CS)
  (naS_stretches:W.findIn K (.ref CS) "stretches" = some none)
  {xd_Linit xn_Linit:Option Addr} {xs_Linit:Array (Option Value)} {xo_Linit xk_Linit xe_Linit xp_Linit xt_Linit:Value}
  (at_Linit:W.findIn K (.ref CL) "__init__" = some (some (.ref g_Linit))) (fn_Linit:W.isFn K (.ref g_Linit)=true)
  (lk_Linit:K.lookup g_Linit=some ⟨xo_Linit,xd_Linit,.func (W.fnOf "__init__" "Layout.__init__" (defArgs s_Linit) (defBody s_Linit) (defScope s_Linit) .none xk_Linit xe_Linit xp_Linit xn_Linit (.ref ct_Linit) xt_Linit),xs_Linit⟩) (cd_Linit:W.codeIn K (.ref ct_Linit) "Layout.__init__" = true) (kp_Linit:W.keepIn K (.ref g_Linit)=true) (tb_Linit:W.codeHdIn K ct_Linit pt_Linit=true) (tn_Linit:K.lookup pt_Linit=none)
  (h_Lblocks:MeH K CL "blocks" "Layout.blocks" s_Lblocks)
  (h_Lblock:MeH K CL "block" "Layout.block" s_Lblock)
  (h_Sinit:MeH K CS "__init__" "Stuck.__init__" s_Sinit)
  (cc_n:W.specialIn K (.builtin "object.__class__") "__get__" = some (some (.builtin "getset_descriptor.__get__")))
  (cc_t:W.takesIn K (.builtin "object.__class__")=some true)
  (ccS_a:W.findIn K (.ref CS) "__class__" = some (some (.builtin "object.__class__")))
  (ccS_m:W.mroIn K CS (.type "object")=some true)
  : (∀p∈[pt_Linit],K.lookup p=none∧∃c,W.codeHdIn K c p=true)∧∃fd:FuncData,(∀(s:Shared) (v:Value),BindsTo s fd ⟨[v],[]⟩ [("_law_script", v)])∧∀base:Heap,K.In base→base.Ns mainGlobals mg→Bm mg base→FnOk l.prog w K mg base CX0 10 fa fd ["_law_script"] (sp_law pt_Linit K):=by
 have e:=hfa.symm.trans (W.mg_of X G a43_)
 cases e
 have T:Txt K mg (fun i=>([C0,C1,C2,C3]:List Addr).getD i 0) R CL CS ct_Linit pt_Linit:={
  e_NoSize:=HasExc.mk1 (W.mg_of X G ea0) el0 ei0 ef0 ec0 ek0 em0 (excS_mk el0 es0) (excI_mk el0 eg0 eb0 ej0 eh et)
  k_NoSize:=⟨_,_,_,_,_,_,_,_,_,_,_,_,_,_,_,el0⟩
  a_NoSize_size:=en0_0
  e_NoPlace:=HasExc.mk1 (W.mg_of X G ea1) el1 ei1 ef1 ec1 ek1 em1 (excS_mk el1 es1) (excI_mk el1 eg1 eb1 ej1 eh et)
  k_NoPlace:=⟨_,_,_,_,_,_,_,_,_,_,_,_,_,_,_,el1⟩
  a_NoPlace_at:=en1_0
  e_NoBlock:=HasExc.mk1 (W.mg_of X G ea2) el2 ei2 ef2 ec2 ek2 em2 (excS_mk el2 es2) (excI_mk el2 eg2 eb2 ej2 eh et)
  k_NoBlock:=⟨_,_,_,_,_,_,_,_,_,_,_,_,_,_,_,el2⟩
  a_NoBlock_name:=en2_0
  e_NoMoves:=HasExc.mk1 (W.mg_of X G ea3) el3 ei3 ef3 ec3 ek3 em3 (excS_mk el3 es3) (excI_mk el3 eg3 eb3 ej3 eh et)
  k_NoMoves:=⟨_,_,_,_,_,_,_,_,_,_,_,_,_,_,_,el3⟩
  a_NoMoves_moves:=en3_0
  d_is_whole:=d0_.has X G
  d_is_from:=d1_.has X G
  d_is_within:=d2_.has X G
  d_is_many:=d3_.has X G
  d_is_name:=d4_.has X G
  d_end_of:=d5_.has X G
  d_is_row:=d6_.has X G
  d_cells_of:=d7_.has X G
  d_need_row:=d8_.has X G
  d_need_rows:=d9_.has X G
  d_share:=d10_.has X G
  d_cell_at:=d11_.has X G
  d_box:=d12_.has X G
  d_take:=d13_.has X G
  d_names:=d14_.has X G
  d_rows:=d15_.has X G
  d_truth:=d16_.has X G
  d_largest:=d17_.has X G
  d_among:=d18_.has X G
  d_freeam:=d19_.has X G
  d_holesof:=d20_.has X G
  d_ispair:=d21_.has X G
  d_stepof:=d22_.has X G
  d_gone:=d23_.has X G
  d_goneif:=d24_.has X G
  d_gapsof:=d25_.has X G
  d_atend:=d26_.has X G
  d_beside:=d27_.has X G
  d_left:=d28_.has X G
  d_right:=d29_.has X G
  d_prices:=d30_.has X G
  d_isprices:=d31_.has X G
  d_between:=d32_.has X G
  d_freeb:=d33_.has X G
  d_stretches:=d34_.has X G
  d_needs:=d35_.has X G
  d_least:=d36_.has X G
  d_plan:=d37_.has X G
  d_priceof:=d38_.has X G
  d_isstuck:=d39_.has X G
  d_lcalled:=d40_.has X G
  d_lrefused:=d41_.has X G
  d_lsame:=d42_.has X G
  n_isinstance:=W.mg_none_of X G nb0
  n_int:=W.mg_none_of X G nb1
  n_bool:=W.mg_none_of X G nb2
  n_str:=W.mg_none_of X G nb3
  n_list:=W.mg_none_of X G nb4
  n_tuple:=W.mg_none_of X G nb5
  n_len:=W.mg_none_of X G nb6
  n_all:=W.mg_none_of X G nb7
  n_range:=W.mg_none_of X G nb8
  n_sorted:=W.mg_none_of X G nb9
  n_max:=W.mg_none_of X G nb10
  n_min:=W.mg_none_of X G nb11
  n_sum:=W.mg_none_of X G nb12
  n_enumerate:=W.mg_none_of X G nb13
  n_zip:=W.mg_none_of X G nb14
  n_reversed:=W.mg_none_of X G nb15
  n_any:=W.mg_none_of X G nb16
  n_ValueError:=W.mg_none_of X G nb17
  g_LETTERS:=⟨_,W.mg_of X G con0,⟨_,rfl⟩⟩
  g_NAME_SIGNS:=⟨_,W.mg_of X G con1,⟨_,rfl⟩⟩
  g_MOST_SIGNS:=⟨_,W.mg_of X G con2,⟨_,rfl⟩⟩
  g_FEWEST_CELLS:=⟨_,W.mg_of X G con3,⟨_,rfl⟩⟩
  g_MOST_CELLS:=⟨_,W.mg_of X G con4,⟨_,rfl⟩⟩
  g_MOST_BLOCKS:=⟨_,W.mg_of X G con5,⟨_,rfl⟩⟩
  x_NoSize_NoBlock:=xx_NoSize_NoBlock
  x_NoSize_NoMoves:=xx_NoSize_NoMoves
  x_NoSize_NoPlace:=xx_NoSize_NoPlace
  g_R:=W.mg_of X G eR
  c_R:=by unfold W.clsIn;rw [zc];rfl
  t_R:=zt
  m_R:=zm
  clL:=⟨cl_L.1,cl_L.2.1,cl_L.2.2.1,cl_L.2.2.2.1⟩
  gc_Layout:=W.mg_of X G aCL
  aL_many:=naL_many
  aL_rows:=naL_rows
  clS:=⟨cl_S.1,cl_S.2.1,cl_S.2.2.1,cl_S.2.2.2.1⟩
  gc_Stuck:=W.mg_of X G aCS
  aS_stretches:=naS_stretches
  tab_Linit:=tb_Linit
  f_Linit:=⟨g_Linit,⟨_,fun_mk (st:=s_Linit) lk_Linit cd_Linit kp_Linit,rfl⟩,⟨cl_L.2.2.2.2.1,at_Linit,fn_Linit,cl_L.2.2.2.2.2⟩⟩
  f_Lblocks:=h_Lblocks.me
  f_Lblock:=h_Lblock.me
  f_Sinit:=h_Sinit.mk cl_S
  cc_n:=cc_n
  cc_t:=cc_t
  ccS_a:=ccS_a
  ccS_m:=ccS_m }
 refine ⟨fun p hp=>?_,W.fnOf "law" "law" (defArgs s_law) (defBody s_law) (defScope s_law) .none kV43_ dc43_ pm43_ an43_ cd43_ ct43_,fun s v=>.of_eq rfl,fun base _ _ Bb=>?_⟩
 ·simp only [List.mem_cons,List.not_mem_nil,or_false] at hp
  rcases hp with rfl
  ·exact ⟨tn_Linit,_,tb_Linit⟩
 exact ok_law T Bb (fun_mk (st:=s_law) l43_ c43_ k43_)
theorem walk {l:W.OpenLaw} {q:Program} {loose:List Str} {XP:(Str→Option Value)→Heap→Prop} {YP:World→Heap→Prop} {d:DefRec} {K:Params→W.Frag} {pt_Linit:Addr} (hn:l.most=some 63) (hdf:d.params.defaults=[])
  (hY:∀(w:World) (h:Heap),YP w h→(K w.params).In h∧∀p∈[pt_Linit],h.get? p=some (W.tabObj #[]))
  (F:∀(w:World) (mg:Str→Option Value) (fa:Addr) (h:Heap),(K w.params).In h→h.Ns mainGlobals mg→mg d.name=some (.ref fa)→(∀p∈[pt_Linit],(K w.params).lookup p=none∧∃c,W.codeHdIn (K w.params) c p=true) ∧ 
   ∃fd:FuncData,(∀(s:Shared) (u:Value),BindsTo s fd ⟨[u],[]⟩ [("_law_script", u)])∧∀base:Heap,(K w.params).In base→base.Ns mainGlobals mg→Bm mg base→FnOk l.prog w (K w.params) mg base CX0 10 fa fd ["_law_script"] (sp_law pt_Linit (K w.params))) :
  W.WalkO q loose XP YP l.row.toRowW d [] (fun f vs=>PySem.call f vs) :=
 L2.walk_ofT (ts:=[pt_Linit]) (n:=63) (k:=10) (x := "_law_script") (CX:=fun _=>CX0) (sp:=fun w=>sp_law pt_Linit (K w.params)) hn (by decide) hdf ⟨rfl,by decide,by decide,rfl⟩ hY F (fun _ _ a ns hl hO hn hS=>⟨a,ns,rfl,hS,hl,hO.1 pt_Linit (by simp),(fun z=>hn (by simp [z])),fun _=>rfl⟩) fun _ _ _ _ _ z=>z
end K77
namespace PySem.W.Fast
def tw16890835716608515153:=0
def tw17515203124237937081:=0
def tw17769449989793238374:=0
def tw1003037364452778796:=0
def tw1003152593473324615:=0
def tw10047585710232717178:=0
def tw1006461264809430556:=0
def tw1006563882231091633:=0
def tw10083730307435267269:=0
def tw10116734365765648122:=0
def tw1012644376913900747:=0
def tw10129641875718570292:=0
def tw10131834587544940391:=0
def tw10228033347975725400:=0
def tw10235447220304275900:=0
def tw10238797001958865021:=0
def tw10252736175218456604:=0
def tw10259372466569329660:=0
def tw10261006952119084304:=0
def tw10266080380140534465:=0
def tw10274458640665562966:=0
def tw1032193675979856707:=0
def tw10323144826926435242:=0
def tw1033720958094887672:=0
def tw10341123903583381767:=0
def tw10349492619041526100:=0
def tw10387879430206259031:=0
def tw10403663550251260650:=0
def tw10406788908530853666:=0
def tw10425977811322227766:=0
def tw10452485764307659085:=0
def tw10458261705684723095:=0
def tw10459123259860919796:=0
def tw10460464229347272360:=0
def tw10475683975782771240:=0
def tw10486152050450135556:=0
def tw10489379219781912496:=0
def tw10518526146904615855:=0
def tw10559640069270481360:=0
def tw10587793485458479312:=0
def tw10598264620273376329:=0
def tw10654489010168053409:=0
def tw10730057254157343511:=0
def tw10742590786841587500:=0
def tw1075578297853169067:=0
def tw1076461024799382534:=0
def tw10773564497710760627:=0
def tw10781202201236801506:=0
def tw10817568335466666396:=0
def tw10824750680544187832:=0
def tw10828735266683984808:=0
def tw10841149200400714701:=0
def tw10855260487258225039:=0
def tw1087523018179144168:=0
def tw10905760305823011569:=0
def tw10918010072596364108:=0
def tw10931460974079933116:=0
def tw10933159595401616819:=0
def tw10947546965326765647:=0
def tw10958114702737508201:=0
def tw10959532279168319421:=0
def tw10959740483092638890:=0
def tw10962281565501419630:=0
def tw11041781278104046532:=0
def tw11055733937159985368:=0
def tw11058115787553531323:=0
def tw1107892375694520438:=0
def tw11115858069241706109:=0
def tw11162461298693614770:=0
def tw11175274615670648807:=0
def tw11210028736182651832:=0
def tw11225320992504266214:=0
def tw11229611794913326577:=0
def tw11250115935568629147:=0
def tw11264678676120816294:=0
def tw11268241308148736294:=0
def tw11343033093890121937:=0
def tw11346351540067872037:=0
def tw11353159526067170903:=0
def tw11353612680105093199:=0
def tw11365677533272445230:=0
def tw11383561796749131321:=0
def tw11385318825477087825:=0
def tw11397418916222597129:=0
def tw11409409947489396040:=0
def tw11456402030163706298:=0
def tw11501967615477890060:=0
def tw11528717344472325358:=0
def tw11541700554631610295:=0
def tw11548618993838154667:=0
def tw11553150633810291379:=0
def tw11568722270973446246:=0
def tw11572072193973900912:=0
def tw11632775036582368768:=0
def tw11671514159783853512:=0
def tw11683842688322496695:=0
def tw11690381954466933713:=0
def tw1169660666497803801:=0
def tw11743778166175061419:=0
def tw11760343544307155355:=0
def tw11805849089317547011:=0
def tw11813467579988055076:=0
def tw11824971244264195408:=0
def tw11834692224927929898:=0
def tw11849870030297033595:=0
def tw11860901342126247109:=0
def tw11867814834667841130:=0
def tw11872331981864063459:=0
def tw11883770796595258833:=0
def tw11897234879898006008:=0
def tw11897372008754934773:=0
def tw11930569026257149354:=0
def tw1194685142612833340:=0
def tw11972330303392958165:=0
def tw11986541162098916592:=0
def tw12000272863610888252:=0
def tw12063617887649158123:=0
def tw12129623931722635178:=0
def tw12138936933335144991:=0
def tw12144406632799339389:=0
def tw1217655934813451587:=0
def tw12201445914260151026:=0
def tw12237888348947242056:=0
def tw12245734027112301934:=0
def tw12274698120786896329:=0
def tw12302823625612077899:=0
def tw12324684724601344530:=0
def tw12332190797172774061:=0
def tw12341218345778084948:=0
def tw12342511178651071074:=0
def tw12345009792785309756:=0
def tw12347782731988541908:=0
def tw12411187232016211544:=0
def tw1241920917976063155:=0
def tw12423143751803908316:=0
def tw12438536758096208336:=0
def tw12455796020284148516:=0
def tw12464252346080630752:=0
def tw12468235837656833566:=0
def tw12499045925167699307:=0
def tw12519289299274750493:=0
def tw12521389266933714189:=0
def tw12526118856946596647:=0
def tw12527848567533725669:=0
def tw12542845219049838270:=0
def tw12547631775499837880:=0
def tw12549434139673506979:=0
def tw12553473587945770764:=0
def tw12572092285480370728:=0
def tw12613422672681470948:=0
def tw12614988126455690658:=0
def tw12622921983931473921:=0
def tw12623945592472422601:=0
def tw12658333988488628766:=0
def tw12667672962247110690:=0
def tw12751489780266081426:=0
def tw12787537817648485077:=0
def tw12795981495138771260:=0
def tw12808129518943146433:=0
def tw12868998029900651538:=0
def tw12895685428755766707:=0
def tw12941371347797515377:=0
def tw12951224564995634880:=0
def tw12951585647175453443:=0
def tw12999115128542734426:=0
def tw13006016874130017800:=0
def tw13009125034031296449:=0
def tw13021441191795217563:=0
def tw13030038649336452403:=0
def tw13051192001068198039:=0
def tw13053167079515084481:=0
def tw13057560349174736506:=0
def tw13075243409420216308:=0
def tw13076150645067086333:=0
def tw13105360015270329567:=0
def tw13123429975511043718:=0
def tw13126276689351181540:=0
def tw13151795834373166822:=0
def tw1316202402026833146:=0
def tw13163882433403756554:=0
def tw13197127249997436638:=0
def tw13231598571134604358:=0
def tw13234123779741572942:=0
def tw13248480156979391245:=0
def tw1329637133860037058:=0
def tw13332508292789479356:=0
def tw13386651051503928554:=0
def tw13411679600231584583:=0
def tw13415121231907256655:=0
def tw13429242012574070030:=0
def tw13429415251940671789:=0
def tw13441166666146816356:=0
def tw13467256391181441980:=0
def tw13474050321481837121:=0
def tw13479523577150587880:=0
def tw13481267636001632391:=0
def tw13501602803749758582:=0
def tw1351135926388256695:=0
def tw1351249916569615593:=0
def tw13526264272129431265:=0
def tw13535708119275557818:=0
def tw13555699917421232483:=0
def tw13562475988188208615:=0
def tw13575471172197055067:=0
def tw1358161577084345170:=0
def tw1361893145801128692:=0
def tw13642377875138438685:=0
def tw1364273095397739996:=0
def tw13644907016150433910:=0
def tw1366226863586865246:=0
def tw13685986624449654222:=0
def tw136977257958332163:=0
def tw1371018041737223679:=0
def tw13716644998140744863:=0
def tw13734383189291904192:=0
def tw13745536014734044988:=0
def tw13814743186692212:=0
def tw13816259142606720922:=0
def tw13832718186135722610:=0
def tw13863033840027875271:=0
def tw13868826175807477588:=0
def tw13878931703814284534:=0
def tw13933078428197388347:=0
def tw13939387026043159747:=0
def tw13969935956921304043:=0
def tw13985653089432831288:=0
def tw14004229501218473875:=0
def tw14009164776653286461:=0
def tw14053197119411008495:=0
def tw14071862098645977713:=0
def tw14076229753405785151:=0
def tw14092437440993438785:=0
def tw14120182634665868574:=0
def tw14192534318238077874:=0
def tw14220401163829392106:=0
def tw14243458375321277372:=0
def tw14301515099912325913:=0
def tw14311733381452106449:=0
def tw14347014960512226699:=0
def tw1436633608898634972:=0
def tw14368721184591866920:=0
def tw14388115289654807997:=0
def tw14389448558642959950:=0
def tw14409878656432232234:=0
def tw1444082986934922388:=0
def tw14454704309511160514:=0
def tw14463274037479936069:=0
def tw14467503734416947306:=0
def tw14468931236643532420:=0
def tw14482631808169164398:=0
def tw1448851304379852186:=0
def tw14518994987025764400:=0
def tw14539536245050598415:=0
def tw14557978607209232381:=0
def tw14561897599740737088:=0
def tw14577614861694123221:=0
def tw14580039579371625933:=0
def tw14630633304102352764:=0
def tw14642284415479045616:=0
def tw14651262401636985284:=0
def tw14665480060196337353:=0
def tw14706577973133420802:=0
def tw1471045870711238975:=0
def tw14761357278990564758:=0
def tw14766515248682059960:=0
def tw14815020107992556821:=0
def tw14817701618135514207:=0
def tw14822857037309298559:=0
def tw14833035877968007496:=0
def tw14854696535859096017:=0
def tw14854804997097581033:=0
def tw14857511828597334082:=0
def tw14870727648127457769:=0
def tw14877107138968083091:=0
def tw14919089268262152241:=0
def tw1493365151541189535:=0
def tw14938844467250856558:=0
def tw14950352997818757600:=0
def tw14977031131518201605:=0
def tw14979595723782763216:=0
def tw14987639789817196603:=0
def tw15007601821669975212:=0
def tw1501294249912769141:=0
def tw15026806311398711073:=0
def tw15039715109127911731:=0
def tw15050841932725632930:=0
def tw15090099151530055371:=0
def tw15129509957231345549:=0
def tw15131555824659359364:=0
def tw15148835317438094785:=0
def tw15177842963339807890:=0
def tw15206661389958696561:=0
def tw15219490486168675644:=0
def tw15223521045454328171:=0
def tw1526719886502748726:=0
def tw15270209842808267215:=0
def tw15271373246047328629:=0
def tw15324189118901228411:=0
def tw15387865344141355424:=0
def tw15395041078987541191:=0
def tw15420631903514210215:=0
def tw15452200310968598463:=0
def tw15464273556373804481:=0
def tw1547515152964514539:=0
def tw15486223486866731255:=0
def tw15495425433655609099:=0
def tw15555934510679555153:=0
def tw15604750375722127680:=0
def tw15646849866550727265:=0
def tw15657607015734251645:=0
def tw15680235050106477619:=0
def tw15684960161680041486:=0
def tw15696642808612775807:=0
def tw157096408732229325:=0
def tw15711420852204687633:=0
def tw15753403182918857195:=0
def tw15765846842277878362:=0
def tw15771885666130236869:=0
def tw15789696874150800789:=0
def tw15819874894320104147:=0
def tw15821987499159100680:=0
def tw15858400710384097165:=0
def tw15887571831024073703:=0
def tw15915565620230711762:=0
def tw15946728183988263970:=0
def tw15949213547476027388:=0
def tw15952630989500428320:=0
def tw15976335713688937839:=0
def tw15999107793163833756:=0
def tw16025634500324551946:=0
def tw16034670502926647455:=0
def tw16072686398808413943:=0
def tw16085108997308707424:=0
def tw16098851309001891974:=0
def tw16117704553706893781:=0
def tw16123609052688354344:=0
def tw16127654405482348995:=0
def tw16140782924480263201:=0
def tw16152282360107153769:=0
def tw16174379791091836924:=0
def tw16203642077527338084:=0
def tw16209898197653624813:=0
def tw16268636905984264261:=0
def tw16269638562094629416:=0
def tw1627483565780931843:=0
def tw16280721237570955339:=0
def tw16283738678513603273:=0
def tw16287677796493141442:=0
def tw16330278314917060195:=0
def tw16339450484722460878:=0
def tw16353860806021819872:=0
def tw16359856108793007929:=0
def tw16363066328404170243:=0
def tw16367321737591004455:=0
def tw16382500038798442652:=0
def tw16399702990974957547:=0
def tw16418710355975605220:=0
def tw16433097106317814500:=0
def tw16479125537146804556:=0
def tw16481106691004705913:=0
def tw16482539992326236680:=0
def tw16506038690374996467:=0
def tw16513900698121009770:=0
def tw1651764835876731834:=0
def tw16519460196547087140:=0
def tw16553176851328017692:=0
def tw16581728620146049987:=0
def tw16605834152900483834:=0
def tw16635243829104996711:=0
def tw16648262741144626359:=0
def tw16686948935464256524:=0
def tw167002045197816731:=0
def tw1672795848536501631:=0
def tw16728996852036009253:=0
def tw16740320018610306246:=0
def tw16753873505276096025:=0
def tw16763639606826346012:=0
def tw16838053509078283356:=0
def tw16854347455719374934:=0
def tw16860702863195477701:=0
def tw16866888966078991666:=0
def tw16870615847975953298:=0
def tw16871341359069607454:=0
def tw16885152766371107038:=0
def tw16937422503120834589:=0
def tw16948232894364211206:=0
def tw1695034287950306206:=0
def tw16981065803729249166:=0
def tw16991359377986272161:=0
def tw17006529634266150811:=0
def tw17026200489550416250:=0
def tw1704705589454223316:=0
def tw17063305151934616862:=0
def tw17068728222441056177:=0
def tw17150324569027770589:=0
def tw17157314726931171590:=0
def tw17161592108966513643:=0
def tw17167694139653062028:=0
def tw17216768344335463307:=0
def tw17238971529889734645:=0
def tw17254899436906835501:=0
def tw17284658400383129821:=0
def tw17312609128936090422:=0
def tw17313444399466166958:=0
def tw17319750855014637960:=0
def tw17354908665772033046:=0
def tw17358249668121127848:=0
def tw17358940284731967163:=0
def tw17388558216139683404:=0
def tw17391491627448604294:=0
def tw17401515879662603065:=0
def tw17409916975986604765:=0
def tw17417373587353840964:=0
def tw17432980929385287215:=0
def tw17457372217927128060:=0
def tw17486142949006120994:=0
def tw17503999657030813073:=0
def tw17511268208938302485:=0
def tw17529033863893671185:=0
def tw17552851426551161381:=0
def tw17580139791839076800:=0
def tw17582304539822957623:=0
def tw17585849987764320256:=0
def tw17595584286158313856:=0
def tw1761772654879558288:=0
def tw17647522954352364423:=0
def tw17653211315169899242:=0
def tw17720131330063605579:=0
def tw1772772973969766865:=0
def tw17728845064450377410:=0
def tw17728914814690838993:=0
def tw17755278762637591950:=0
def tw1780306645316429671:=0
def tw17813372995051813587:=0
def tw1784016590810297272:=0
def tw17851468346497270679:=0
def tw17879682335432729633:=0
def tw17880022747421601401:=0
def tw17888139648907838978:=0
def tw1789611425282364698:=0
def tw17921613414245677645:=0
def tw17949887485123005233:=0
def tw1795383188938608376:=0
def tw17958813751558386859:=0
def tw17964427331746336057:=0
def tw18017893813302434755:=0
def tw18120748234735476297:=0
def tw18166861469744976762:=0
def tw18168834584698059588:=0
def tw1816892623895479924:=0
def tw18192175348546161575:=0
def tw18195206257289754538:=0
def tw18196024802062184707:=0
def tw18219315628328507962:=0
def tw18225697094140914062:=0
def tw18244987327092700118:=0
def tw1824799140077266625:=0
def tw18248474775278653241:=0
def tw1825129671369633077:=0
def tw18254015148127059076:=0
def tw18256612817176877042:=0
def tw18259085580641748773:=0
def tw18260726194440293433:=0
def tw1828974576060637331:=0
def tw18299058450308800717:=0
def tw18303421506395725795:=0
def tw18308633419601082935:=0
def tw1831315121667209507:=0
def tw18324089711708302640:=0
def tw18341717269359605491:=0
def tw18375206038342445063:=0
def tw18390681245294728843:=0
def tw18403754295773831186:=0
def tw18408667608170976201:=0
def tw18417282193287028744:=0
def tw18436989283563092826:=0
def tw1861281373154033650:=0
def tw1863110636942702189:=0
def tw1870637167987957801:=0
def tw1874255585193417278:=0
def tw1887701698539680989:=0
def tw1891736601571173067:=0
def tw1901023045186497124:=0
def tw1924419408021962848:=0
def tw1930721842855811723:=0
def tw1972164945279129580:=0
def tw1973270225581702365:=0
def tw2011376289506672622:=0
def tw2045528493824683971:=0
def tw2111657698367011993:=0
def tw2123406090260816725:=0
def tw2129719943880050993:=0
def tw2145042300522913796:=0
def tw2153594963562439991:=0
def tw218181340851544397:=0
def tw2182582604994436309:=0
def tw2210463804405898506:=0
def tw2219981182772759517:=0
def tw2234140723582242652:=0
def tw2256977020163653873:=0
def tw2259857071701920174:=0
def tw2266324178416870445:=0
def tw2268274345580823125:=0
def tw228394564890386926:=0
def tw2286926590527735592:=0
def tw231074445290120513:=0
def tw2329247724253882871:=0
def tw2348467033823440771:=0
def tw2349081730271732803:=0
def tw235424998152854183:=0
def tw2358903398761363494:=0
def tw2377805621651434340:=0
def tw2443906483507261491:=0
def tw2458342635232319260:=0
def tw2488991169911140847:=0
def tw2493635819776394004:=0
def tw2510431367643910004:=0
def tw2527307521633314044:=0
def tw2533637977500882256:=0
def tw2557810755798930324:=0
def tw2581567607005594201:=0
def tw2581860247586347097:=0
def tw2583406887245209235:=0
def tw2593261846633198771:=0
def tw2595782469052615178:=0
def tw2604488908749740275:=0
def tw2618611735765350521:=0
def tw2645634702321688916:=0
def tw2649211987853987244:=0
def tw2653571869371928949:=0
def tw2655195400324417097:=0
def tw2680439317292309199:=0
def tw2683464087313112642:=0
def tw270543171030437576:=0
def tw2705875760217535660:=0
def tw2756585728490818535:=0
def tw2759314949418756650:=0
def tw2760945983421895373:=0
def tw2795375208761505941:=0
def tw2798763774923205264:=0
def tw2824639493481915810:=0
def tw282581438130622620:=0
def tw284877132093864124:=0
def tw292381357840500886:=0
def tw2988387221277794452:=0
def tw3018045337437119587:=0
def tw312050441785950124:=0
def tw3160983857704800803:=0
def tw3228565332266805061:=0
def tw3260171857180594999:=0
def tw3263216267978272670:=0
def tw3278273082507910998:=0
def tw3295671729842128981:=0
def tw3310916233344217121:=0
def tw3359111462336625811:=0
def tw3372389071136812145:=0
def tw3374440364675271573:=0
def tw3383198835005330004:=0
def tw3437895068173939397:=0
def tw3469407767718352432:=0
def tw3485598376593711354:=0
def tw3524414448504618020:=0
def tw353694264250662654:=0
def tw3539731485064186657:=0
def tw3583950736519718557:=0
def tw3661906982738513234:=0
def tw37698427890914492:=0
def tw3841163461191573009:=0
def tw3885883632311417103:=0
def tw3886536037155154492:=0
def tw3947807084818810733:=0
def tw3950436798348961234:=0
def tw397239938064053482:=0
def tw3973663548068860444:=0
def tw3974822699825490494:=0
def tw3979276206110742440:=0
def tw3990331457673608316:=0
def tw4008893757804338401:=0
def tw4013584576144643127:=0
def tw4023326922949324814:=0
def tw4042347532331854287:=0
def tw4047686444607876248:=0
def tw4047942775198009650:=0
def tw4075352656062157042:=0
def tw4082352849733657188:=0
def tw4082832269381538844:=0
def tw4100448515754473530:=0
def tw4129446130076137205:=0
def tw4151951535156515405:=0
def tw4210842728902821434:=0
def tw4233976918214672662:=0
def tw4267658189402083508:=0
def tw4270754787692201062:=0
def tw4284605656877279762:=0
def tw4317006523963158846:=0
def tw4317076929225935692:=0
def tw4336811900067534483:=0
def tw4339252949786740600:=0
def tw4373655641258050889:=0
def tw4387827625188110105:=0
def tw4454599537049346884:=0
def tw4458137843712427124:=0
def tw4474886939944047934:=0
def tw4523534118157813187:=0
def tw4532759741327230555:=0
def tw45355599380271489:=0
def tw4558112345190929768:=0
def tw4566073675954697178:=0
def tw4566174490976457788:=0
def tw4568098473939741196:=0
def tw4611110222699911089:=0
def tw4616149815542673785:=0
def tw4617565438392142961:=0
def tw4638020376590508375:=0
def tw4768823609715886426:=0
def tw4801633170770180015:=0
def tw4819257457482829393:=0
def tw4823363939036327345:=0
def tw4841468105517936691:=0
def tw4901096442527098263:=0
def tw4916522104855561569:=0
def tw5011443603311024529:=0
def tw5016452995385732115:=0
def tw5048452677481992073:=0
def tw5080809397796572131:=0
def tw5110613897393079242:=0
def tw5119936253058399795:=0
def tw5136515373327717985:=0
def tw5155891399672059531:=0
def tw5172774705755652491:=0
def tw5188047187114306786:=0
def tw5208691338008851557:=0
def tw5219771483007368055:=0
def tw5277152850785740806:=0
def tw5290268569184195811:=0
def tw5291671081910403968:=0
def tw529210637370351438:=0
def tw5337169224944217948:=0
def tw5373602716743614182:=0
def tw5377806322002085095:=0
def tw5386716199367145397:=0
def tw5393032950818189592:=0
def tw5410455163975918720:=0
def tw5412843443415616723:=0
def tw5425392616660612283:=0
def tw543016783084932149:=0
def tw5433272511480144268:=0
def tw5457921680422191759:=0
def tw5462326006422609867:=0
def tw554263455333204368:=0
def tw5543873625380617289:=0
def tw5556289296199487504:=0
def tw5560807930796232573:=0
def tw5562017768476751534:=0
def tw558336837260465263:=0
def tw5596132760800234322:=0
def tw5609185721819485271:=0
def tw5618563856447787293:=0
def tw5638032184259471936:=0
def tw5640285683450097452:=0
def tw566678808818609138:=0
def tw5681684755533826484:=0
def tw569696134795220498:=0
def tw5710166373091898563:=0
def tw5727072650584520229:=0
def tw5727659930039849009:=0
def tw5738042572410306959:=0
def tw5771724654961493513:=0
def tw5800946902975220828:=0
def tw5830330532051403863:=0
def tw5833824938457000053:=0
def tw5836569959307929929:=0
def tw5903713877469228368:=0
def tw5914705517463344663:=0
def tw5957047172914818347:=0
def tw5975361875610853463:=0
def tw6003405296542762428:=0
def tw6011243463675265473:=0
def tw6018652246923055063:=0
def tw6027617094448335252:=0
def tw6070208906001346636:=0
def tw6143402828064640477:=0
def tw6169828463490787347:=0
def tw6181515646844371474:=0
def tw620585638768879649:=0
def tw6208312944635265346:=0
def tw6228479226780035305:=0
def tw6380133078314331770:=0
def tw6380338482981476185:=0
def tw6389158423281512277:=0
def tw6438909349373795572:=0
def tw6457315977635881784:=0
def tw6461620290592812177:=0
def tw6464979659625682161:=0
def tw6485659616945861904:=0
def tw6497991663968419863:=0
def tw652069669147987407:=0
def tw6521857130821280192:=0
def tw6552347089536526870:=0
def tw6556507549298557424:=0
def tw6566853018420242914:=0
def tw6580239806868912338:=0
def tw6589571365033269403:=0
def tw6647529538299897656:=0
def tw6661694880557068730:=0
def tw6688359599746030920:=0
def tw671439574593437291:=0
def tw6716104321762751120:=0
def tw6733440367866963878:=0
def tw6749295842622661566:=0
def tw6761270225338110770:=0
def tw6782118448982578699:=0
def tw6796741044637146278:=0
def tw6822810090183289878:=0
def tw6833112858599655207:=0
def tw6899368941915786406:=0
def tw6904622957903965346:=0
def tw7031333560053225167:=0
def tw7044017833220149522:=0
def tw7089122645692258772:=0
def tw7103212462506603119:=0
def tw7113175669517569705:=0
def tw7122740884121226405:=0
def tw7130854118686367631:=0
def tw7172293184408574591:=0
def tw7220860428074540921:=0
def tw7241680322897163465:=0
def tw7255406643467466:=0
def tw7271280649960089294:=0
def tw7283893317173466939:=0
def tw7284341746358466109:=0
def tw7326579065110628402:=0
def tw7339115445660195170:=0
def tw7365526627137324542:=0
def tw7375130875723591884:=0
def tw7409134136396056040:=0
def tw7501128740395771470:=0
def tw7510884584322962320:=0
def tw7519486149329673419:=0
def tw7530731624105954903:=0
def tw7550403596973809671:=0
def tw7566911634878077239:=0
def tw759255630642435197:=0
def tw7603505058519958406:=0
def tw7613234093401181298:=0
def tw7648803363815543962:=0
def tw7658638836224484060:=0
def tw7746016591983490530:=0
def tw7795396799575095517:=0
def tw7800017748170913349:=0
def tw7861971975583814216:=0
def tw7869519024392739268:=0
def tw7870241887963292486:=0
def tw7895820690695766905:=0
def tw793291417001499333:=0
def tw7953753584935624503:=0
def tw797209567131095370:=0
def tw7978564854971594850:=0
def tw7983076159181262282:=0
def tw7985782314353294:=0
def tw7986613065345027392:=0
def tw800410256040785470:=0
def tw8027600940179970487:=0
def tw8033893550216974610:=0
def tw8040904814820855984:=0
def tw8047906198387682159:=0
def tw806073174010806995:=0
def tw8085057297821690298:=0
def tw8102827399909925679:=0
def tw8108073904695285215:=0
def tw814800922421880890:=0
def tw8151452222828775148:=0
def tw8155707827598344293:=0
def tw8155835211308433485:=0
def tw820091083462466177:=0
def tw820610363828490469:=0
def tw8207515145552124925:=0
def tw8223378953015897902:=0
def tw8246220903601962224:=0
def tw8255133491221315904:=0
def tw8277745033904350020:=0
def tw8282350870732196147:=0
def tw8316357303737559150:=0
def tw832786999368286277:=0
def tw8332596981198604338:=0
def tw8337428655864747522:=0
def tw836037711712976972:=0
def tw8360493649231168627:=0
def tw8362226048685782767:=0
def tw8414552850192654337:=0
def tw8479563103769396412:=0
def tw8530466868922408126:=0
def tw8530768949692251426:=0
def tw8559119498316849885:=0
def tw8585977103677334005:=0
def tw8593218108675077666:=0
def tw8612192653909444525:=0
def tw8615308426229192029:=0
def tw8615806915221355934:=0
def tw8631135916206140543:=0
def tw865835316817742381:=0
def tw8674729827165114094:=0
def tw8744288223395746879:=0
def tw87562730303010558:=0
def tw887152106051898920:=0
def tw8879014365629908148:=0
def tw895167850252640849:=0
def tw8975613706197768851:=0
def tw9009048816800999332:=0
def tw9009712886378113541:=0
def tw9026995439835391446:=0
def tw9046931566630723037:=0
def tw9047237528818994604:=0
def tw9058592305428927913:=0
def tw9067426104665189013:=0
def tw9084389519139570918:=0
def tw9100340925014296646:=0
def tw9108923277705796302:=0
def tw912076801407101327:=0
def tw9131826595652082733:=0
def tw9182486022711224546:=0
def tw9193221321424275824:=0
def tw92088988886816931:=0
def tw9215528289664605688:=0
def tw9253886641507744135:=0
def tw927282498170105969:=0
def tw9319787504098804746:=0
def tw934321373533305989:=0
def tw9356818838641556481:=0
def tw9357658783266748462:=0
def tw9404104066447394020:=0
def tw9460476060809264214:=0
def tw9550333236929144274:=0
def tw956399137542358157:=0
def tw9567815050726625841:=0
def tw9584956481030945926:=0
def tw9594080238365888111:=0
def tw9595477063391310180:=0
def tw9637648324641100870:=0
def tw9638796490725836301:=0
def tw9647077000187114478:=0
def tw9653339722891574187:=0
def tw9677434476590144396:=0
def tw9689467202162803053:=0
def tw9689651159437981622:=0
def tw9724511944338471878:=0
def tw9745073684918774535:=0
def tw9745818170787890781:=0
def tw9756059795311959731:=0
def tw9770278186704901693:=0
def tw9777901703698821308:=0
def tw9788682254213689315:=0
def tw9821148006582250159:=0
def tw9826087774416535459:=0
def tw9838086755766373916:=0
def tw9840334827752391499:=0
def tw9853663921793666369:=0
def tw9893116032823892095:=0
def tw9902304535561680840:=0
def tw9915427268961522280:=0
def tw9919711609581924332:=0
def tw9920370631807954740:=0
def tw9977547667353439393:=0
def tw10155946671264325500:=0
def tw10372644749858354517:=0
def tw11505199057987993857:=0
def tw11703800545820564283:=0
def tw11955426747861188820:=0
def tw13000403031898265209:=0
def tw14053512575044790230:=0
def tw14269219767275110248:=0
def tw14337936905640763799:=0
def tw15596308812284856749:=0
def tw16001757834225163624:=0
def tw18033462559682255120:=0
def tw2335878051324632063:=0
def tw2377294626184151852:=0
def tw2802745394423520707:=0
def tw3167099115015705249:=0
def tw3576001932498845661:=0
def tw5716436944954554671:=0
def tw6782434667162553622:=0
def tw7220822221169181397:=0
def tw8612611980899364610:=0
def tw8866326255068516244:=0
def tw9011118923639269052:=0
def tw10384495208297712913:=0
def tw10511211102380307778:=0
def tw11034460522582217909:=0
def tw11441840154272415665:=0
def tw12084473576922354810:=0
def tw12896304486930370294:=0
def tw13352492870768752637:=0
def tw1381853730890552943:=0
def tw14479321822069724763:=0
def tw14909529914103597736:=0
def tw1521074050208979055:=0
def tw17813786118008074796:=0
def tw1784456978019375794:=0
def tw18232723685238561298:=0
def tw18358633541351503667:=0
def tw2102755477098743859:=0
def tw2716559262764739616:=0
def tw4252309300143061683:=0
def tw4731700675088853405:=0
def tw5996609119259862764:=0
def tw6335270249878732351:=0
def tw724739545880041756:=0
def tw8057762494793787915:=0
def tw9202329155463063917:=0
def tw15988409088106983852:=0
def tw16217653759209624161:=0
def tw16666183503536527305:=0
def tw454337829234085407:=0
end PySem.W.Fast
open PySem PySem.W PyProof.Rows
set_option maxRecDepth 100000 in
set_option maxHeartbeats 0 in
theorem PySem.Challenge.cw_slideroom_k77_sizes_refused_holds : PySem.Challenge.rw_slideroom_k77_sizes_refused.Holds := by
 w_on;o_law;k_head;(case hw=>w_witness2)
 k_fill
 refine K77.walk (l:=PySem.Challenge.rw_slideroom_k77_sizes_refused) rfl rfl (fun w h Y=>⟨PySem.W.km_in_of Y,PySem.W.km_tabs_of Y⟩) ?F
 case F =>
  intro w mg fa h KX G hmg
  refine' K77.all_mk KX G hmg ?_ ?_ ?_ ?_ ?_ ?_ ?_ ?_ ?_ ?_ ?_ ?_ ?_ ?_ ?_ ?_ ?_ ?_ ?_ ?_ ?_ ?_ ?_ ?_ ?_ ?_ ?_ ?_ ?_ ?_ ?_ ?_ ?_ ?_ ?_ ?_ ?_ ?_ ?_ ?_ ?_ ?_ ?_ ?_ ?_ ?_ ?_ ?_ ?_ ?_ ?_ ?_ ?_ ?_ ?_ ?_ ?_ ?_ ?_ ?_ ?_ ?_ ?_ ?_ ?_ ?_ ?_ ?_ ?_ ?_ ?_ ?_ ?_ ?_ ?_ ?_ ?_ ?_ ?_ ?_ ?_ ?_ ?_ ?_ ?_ ?_ ?_ ?_ ?_ ?_ ?_ ?_ ?_ ?_ ?_ ?_ ?_ ?_ ?_ ?_ ?_ ?_ ?_ ?_ ?_ ?_ ?_ ?_ ?_ ?_ ?_ ?_ ?_ ?_ ?_ ?_ ?_ ?_ ?_ ?_ ?_ ?_ ?xx_NoSize_NoBlock ?xx_NoSize_NoMoves ?xx_NoSize_NoPlace ?_ ?_ ?_ ?_ ?_ ?_ ?_ ?_ ?_ ?_ ?_ ?_ ?_ ?_ ?_ ?tb_Linit ?tn_Linit ?_ ?_ ?_ ?_ ?_ ?_ ?_
  all_goals try first
   | k_is
   | exact ⟨_,_,_,_,_,_,_,_,_,_,by k_is,by k_is,by k_is,by k_is⟩
   | exact ⟨_,_,_,_,_,_,_,_,_,_,by k_is,by k_is,by k_is,by k_is,by k_is⟩
   | exact ⟨_,_,_,_,_,_,_,_,_,_,by k_is,by k_is,by k_is,by k_is,by k_is,by k_is⟩
   | exact ⟨by k_is,by k_is,by k_is,by k_is,by k_is,by k_is⟩
  (case xx_NoSize_NoBlock=>kts_exm)
  (case xx_NoSize_NoMoves=>kts_exm)
  (case xx_NoSize_NoPlace=>kts_exm)
  (case tb_Linit=>kernel_rfl)
  (case tn_Linit=>kernel_rfl)

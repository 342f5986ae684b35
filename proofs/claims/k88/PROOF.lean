import PyProof.Rows.All
import Wide.All
import OpenK.AllK
import Wide.FinOn
import Lean
import PyProof.EqAt
import PyProof.EqKinds
import PyProof.TupleCall
import PyProof.NeKinds
import PyProof.ExcInit
import PyProof.StationsW
import PyProof.ExcBaseAll.ValueError
import PyProof.ExcArgs
import KE.KIsAll
import PyProof.ReprRoads
import PyProof.CallFns
import PyProof.ExcClass3
import PyProof.StrBlock2
import PyProof.FitsInt
import PyProof.StrLawsRepr
import KE.KTryMore
import PyProof.RulesAs
import KE.KIntText
import PyProof.StrLawsChain
import PyProof.StrCalls2
import PyProof.ZipIter
import PyProof.Conv_bool
import PyProof.CallStr
import PyProof.TupleIter
import KE.KEqDict
import PyProof.AutoListH
import PyProof.FactsAll.range_2
import KE.IntTextLaws
import PyProof.StrCalls
import PySem.Challenge.RW_slideroom_k88_whole_no_cheaper_tidying
-- CHANGE: your row's module here, as the last of these rows
set_option compiler.extract_closed false
set_option Elab.async false
set_option linter.all false
set_option maxRecDepth 100000
namespace L2
open PySem PySem.Spec PyProof.Rows
abbrev Key:=Sum Int Str
def keyIs:Key→Value→Bool
 | .inl k,v=>Value.isInt k v
 | .inr x,v=>Value.isStrOf x v
def keyH (w:World):Key→Int
 | .inl k=>hashInt k
 | .inr x=>hashStr w x
theorem keyIs_shape:∀{k:Key} {v:Value},keyIs k v=true→(∃i t,k=Sum.inl i∧v=Value.int i t)∨(∃x t,k=Sum.inr x∧v=Value.str x t)
 | .inl i,v,h=>by
  obtain ⟨t,e⟩:=Value.isInt_shape (k:=i) (v:=v) h
  exact .inl ⟨i,t,rfl,e⟩
 | .inr x,v,h=>by
  obtain ⟨t,e⟩:=Value.isStrOf_shape (x:=x) (v:=v) h
  exact .inr ⟨x,t,rfl,e⟩
theorem keyIs_int (i:Int) (t:Tok):keyIs (.inl i) (.int i t)=true:=by simp [keyIs,Value.isInt]
theorem keyIs_str (x:Str) (t:Tok):keyIs (.inr x) (.str x t)=true:=by simp [keyIs,Value.isStrOf]
theorem key_ll (a b:Int):decide ((Sum.inl a:Key)=Sum.inl b)=(a == b):=by
 by_cases e:a=b
 ·subst e;simp
 ·have h:¬ (Sum.inl a:Key)=Sum.inl b:=fun q=>e (Sum.inl.inj q)
  rw [decide_eq_false h]
  exact (beq_eq_false_iff_ne.mpr e).symm
theorem key_rr (a b:Str):decide ((Sum.inr a:Key)=Sum.inr b)=decide (a=b):=by
 by_cases e:a=b
 ·subst e;simp
 ·have h:¬ (Sum.inr a:Key)=Sum.inr b:=fun q=>e (Sum.inr.inj q)
  rw [decide_eq_false h,decide_eq_false e]
theorem key_lr (a:Int) (b:Str):decide ((Sum.inl a:Key)=Sum.inr b)=false:=decide_eq_false (fun q=>nomatch q)
theorem key_rl (a:Str) (b:Int):decide ((Sum.inr a:Key)=Sum.inl b)=false:=decide_eq_false (fun q=>nomatch q)
def mixKind (prog:Program) (w:World):PySem.KeyKind prog w Key where
 is:=keyIs
 hash:=keyH w
 inj:=fun v a b ha hb=>by
  rcases keyIs_shape ha with ⟨i,t,rfl,rfl⟩ | ⟨x,t,rfl,rfl⟩
  ·rcases keyIs_shape hb with ⟨j,u,rfl,e⟩ | ⟨y,u,rfl,e⟩
   ·injection e with e1 _;rw [e1]
   ·exact nomatch e
  ·rcases keyIs_shape hb with ⟨j,u,rfl,e⟩ | ⟨y,u,rfl,e⟩
   ·exact nomatch e
   ·injection e with e1 _;rw [e1]
 byValue:=fun k v h=>by
  rcases keyIs_shape h with ⟨i,t,rfl,rfl⟩ | ⟨x,t,rfl,rfl⟩ <;> rfl
 pyHash:=fun hv h=>by
  rcases keyIs_shape hv with ⟨i,t,rfl,rfl⟩ | ⟨x,t,rfl,rfl⟩
  ·exact wpAny_pyHash_int h
  ·exact wpAny_pyHash_str h
 eqBool:=fun hu hv h=>by
  rcases keyIs_shape hu with ⟨i,t,rfl,rfl⟩ | ⟨x,t,rfl,rfl⟩
  ·rcases keyIs_shape hv with ⟨j,u,rfl,rfl⟩ | ⟨y,u,rfl,rfl⟩
   ·rw [key_ll] at h;exact wpAny_eqBool_int h
   ·rw [key_lr] at h;exact SeqAt.EqAt.int_str i t y u _ _ _ _ h
  ·rcases keyIs_shape hv with ⟨j,u,rfl,rfl⟩ | ⟨y,u,rfl,rfl⟩
   ·rw [key_rl] at h;exact SeqAt.EqAt.str_int x t j u _ _ _ _ h
   ·rw [key_rr] at h;exact wpAny_eqBool_str h
 «strs»:=fun k x t v h=>by
  rcases keyIs_shape h with ⟨i,u,rfl,e⟩ | ⟨y,u,rfl,e⟩
  ·exact nomatch e
  ·injection e with e1 _
   subst e1
   cases v <;> rfl
theorem mixKind_int (prog:Program) (w:World) (i:Int) (t:Tok):(mixKind prog w).is (.inl i) (.int i t)=true:=keyIs_int i t
theorem mixKind_str (prog:Program) (w:World) (x:Str) (t:Tok):(mixKind prog w).is (.inr x) (.str x t)=true:=keyIs_str x t
inductive V where
 | non | bl (b:Bool) | int (i:Int) | str (x:Str) | byt (b:Array UInt8) | flt (b:UInt64) | ref (a:Addr) | ty (n:String)
 deriving DecidableEq
def RelV:V→Value→Prop
 | .non,u=>u=Value.none
 | .bl b,u=>u=Value.bool b
 | .int i,u=>∃t,u=Value.int i t
 | .str x,u=>∃t,u=Value.str x t
 | .byt b,u=>∃t,u=Value.bytes b t
 | .flt b,u=>∃t,u=Value.float b t
 | .ref a,u=>u=Value.ref a
 | .ty n,u=>u=Value.type n
abbrev Vals:List V→List Value→Prop:=Paired RelV
theorem Vals.length {xs:List V} {us:List Value} (r:Vals xs us):xs.length=us.length:=Paired.length r
theorem Vals.get:∀{xs:List V} {us:List Value} {i:Nat} {x:V},Vals xs us→xs[i]?=some x→∃u,us[i]?=some u∧RelV x u
 | _,_,_,_,.nil,e=>by simp at e
 | _,_,0,_,.cons r _,e=>by simp at e;subst e;exact ⟨_,rfl,r⟩
 | _,_,i + 1,x,.cons _ t,e=>by
  obtain ⟨u,h1,h2⟩:=Vals.get (i:=i) (x:=x) t (by simpa using e)
  exact ⟨u,by simpa using h1,h2⟩
theorem Vals.set {x:V} {u:Value} (r:RelV x u):∀{xs:List V} {us:List Value} (i:Nat),Vals xs us→Vals (xs.set i x) (us.set i u)
 | _,_,_,.nil=>.nil
 | _,_,0,.cons _ t=>.cons r t
 | _,_,i + 1,.cons q t=>.cons q (Vals.set r i t)
theorem Vals.append:∀{xs ys:List V} {us ws:List Value},Vals xs us→Vals ys ws→Vals (xs++ys) (us++ws)
 | _,_,_,_,.nil,s=>s
 | _,_,_,_,.cons r t,s=>.cons r (Vals.append t s)
theorem Vals.take:∀{xs:List V} {us:List Value} (n:Nat),Vals xs us→Vals (xs.take n) (us.take n)
 | _,_,0,_=>.nil
 | _,_,_ + 1,.nil=>.nil
 | _,_,n + 1,.cons r t=>.cons r (Vals.take n t)
theorem Vals.drop:∀{xs:List V} {us:List Value} (n:Nat),Vals xs us→Vals (xs.drop n) (us.drop n)
 | _,_,0,r=>r
 | _,_,_ + 1,.nil=>.nil
 | _,_,n + 1,.cons _ t=>Vals.drop n t
def RelO:Option V→Option Value→Prop
 | some v,some u=>RelV v u
 | none,none=>True
 | _,_=>False
def KV {κ:Type}:List (κ×V)→List (κ×Value)→Prop:=Paired fun (p:κ×V) (q:κ×Value)=>p.1=q.1∧RelV p.2 q.2
def kV:Key→V
 | .inl i=>.int i
 | .inr x=>.str x
inductive HO where
 /-- a list -/
 | lst (xs:List V)
 /-- a tuple (never changes) -/
 | tup (xs:List V)
 /-- a dict whose keys are ints and texts; one whose keys are tuples of ints and texts (the empty one is both) -/
 | dK (kvs:List (Key×V)) | dT (kvs:List (List Key×V))
 /-- a set of ints: its members, its size -/
 | set (S:Int→Bool) (n:Nat)
 /-- an instance of the class at C, its dict at dx, its attributes -/
 | ins (C dx:Addr) (fs:List (Str×V))
 /-- the dict of the instance at x -/
 | own (x:Addr)
 /-- the dict of an exception -/
 | xd (fs:List (Str×V))
 /-- a bound method, f of x -/
 | met (f x:Addr)
 /-- a range object lo, lo + 1, .. below hi -/
 | rng (lo hi:Int)
 /-- a thing that is known to the object (the script; a dict while a loop walks it): read, never written while it is so -/
 | frz (o:Obj) (u:HO)
 /-- a code object's table -/
 | tbl (ps:Array Value)
 /-- any other thing, by what is true of its one object (a def of one's own: SetO a S n := HO.ext fun h => ..) -/
 | ext (φ:Heap→Prop)
abbrev Hp:=Addr→Option HO
def upd (H:Hp) (a:Addr) (o:HO):Hp:=fun b=>if b=a then some o else H b
theorem upd_same {H:Hp} {a:Addr} {o:HO}:upd H a o a=some o:=by unfold upd;rw [if_pos rfl]
theorem upd_ne {H:Hp} {a b:Addr} {o:HO} (h:b≠a):upd H a o b=H b:=by unfold upd;rw [if_neg h]
theorem upd_upd {H:Hp} {a:Addr} {o u:HO}:upd (upd H a o) a u=upd H a u:=by
 funext b;unfold upd;split <;> rfl
theorem ne_of {H:Hp} {a b:Addr} {o u:HO} (h:H a=some o) (h':H b=some u) (d:o≠u):a≠b:=by
 intro e;subst e;rw [h] at h';exact d (Option.some.inj h')
theorem ne_of_none {H:Hp} {a b:Addr} {o:HO} (h:H a=some o) (h':H b=none):a≠b:=by
 intro e;subst e;rw [h] at h';cases h'
section
variable (P:Program) (w:World)
def ObjOk (H:Hp) (h:Heap) (a:Addr):HO→Prop
 | .lst xs=>xs.length≤sizeLine∧∃(its:List Value) (n:Nat),Vals xs its∧h.get? a=some { cls:=.type "list", data:=.seq its.toArray n }
 | .tup xs=>xs.length≤sizeLine∧∃its:List Value,Vals xs its∧IsTup h a its.toArray
 | .dK kvs=>kvs.length≤sizeLine∧(a == sysModules)=false∧∃vs,KV kvs vs∧h.DictOf (mixKind P w) a vs
 | .dT kvs=>kvs.length≤sizeLine∧(a == sysModules)=false∧∃xs:List (List Key×Addr×Value),
   Paired (fun (p:List Key×V) (q:List Key×Addr×Value)=>p.1=q.1∧H q.2.1=some (.tup (p.1.map kV))∧RelV p.2 q.2.2) kvs xs ∧
   ∃o es ep,h.get? a=some o∧o.ExactDict∧o.data=.dict es ep∧es.toList=xs.map (entryOfKey (tupleKind (mixKind P w)))∧(xs.map (·.1)).Nodup
 | .set S n=>h.SetOf (intKind P w) a S n
 | .ins C dx fs=>H dx=some (.own a)∧fs.length≤1000∧dx≠a∧h.get? a=some (W.instObj C dx) ∧
   ∃mA,h.Ns1 dx mA∧(∀f,RelO (fs.lookup f) (mA f))∧PySem.Within mA (fs.map (·.1))
 | .own _=>∃o,h.get? a=some o
 | .xd fs=>∃mA,h.Ns1 a mA∧∀f,RelO (fs.lookup f) (mA f)
 | .rng lo hi=>∃t u v,h.get? a=some { cls:=.type "range", data:=.fields #[.int lo t,.int hi u,.int 1 v] }
 | .frz o u=>h.get? a=some o∧ObjOk H h a u
 | .tbl ps=>h.get? a=some { cls:=.none,data:=.fields ps }
 | .met f x=>h.get? a=some (W.methodObj (.ref f) (.ref x))
 | .ext φ=>φ h∧(∃o,h.get? a=some o)∧∀h1 h2:Heap,φ h1→(∀o,h1.get? a=some o→h2.get? a=some o)→φ h2
def HOk (H:Hp) (h:Heap):Prop:=∀a o,H a=some o→ObjOk P w H h a o
end
section
variable {P:Program} {w:World} {H H':Hp} {h h':Heap} {a:Addr} {o:HO}
theorem ObjOk.lt (x:ObjOk P w H h a o):a < h.objs.size:=by
 cases o with
 | lst xs=>obtain ⟨_,_,_,_,e⟩:=x;exact Heap.lt_size e
 | tup xs=>obtain ⟨_,_,_,p⟩:=x;exact p.lt
 | dK kvs=>obtain ⟨_,_,_,_,o,_,_,e,_⟩:=x;exact Heap.lt_size e
 | dT kvs=>obtain ⟨_,_,_,_,o,_,_,e,_⟩:=x;exact Heap.lt_size e
 | set S n=>obtain ⟨o,_,_,_,e,_⟩:=x;exact Heap.lt_size e
 | ins C dx fs=>obtain ⟨_,_,_,e,_⟩:=x;exact Heap.lt_size e
 | own y=>obtain ⟨_,e⟩:=x;exact Heap.lt_size e
 | xd fs=>obtain ⟨_,⟨_,_,_,e,_⟩,_⟩:=x;exact Heap.lt_size e
 | rng lo hi=>obtain ⟨_,_,_,e⟩:=x;exact Heap.lt_size e
 | frz ob u=>obtain ⟨e,_⟩:=x;exact Heap.lt_size e
 | tbl ps=>exact Heap.lt_size (show h.get? a=some _ from x)
 | met f y=>exact Heap.lt_size (show h.get? a=some _ from x)
 | ext φ=>obtain ⟨_,⟨_,e⟩,_⟩:=x;exact Heap.lt_size e
theorem Paired.mapP {α β:Type} {F G:α→β→Prop}:∀{l₁:List α} {l₂:List β},Paired F l₁ l₂→(∀a b,F a b→G a b)→Paired G l₁ l₂
 | _,_,.nil,_=>.nil
 | _,_,.cons r t,f=>.cons (f _ _ r) (Paired.mapP t f)
theorem ObjOk.stay (x:ObjOk P w H h a o) (k:∀b u,(b=a∨H b=some (.own a))→h.get? b=some u→h'.get? b=some u)
  (ho:∀b,H b=some (.own a)→H' b=some (.own a)) (ht:∀b xs,H b=some (.tup xs)→H' b=some (.tup xs)):ObjOk P w H' h' a o:=by
 induction o with
 | lst xs=>obtain ⟨z,its,n,r,e⟩:=x;exact ⟨z,its,n,r,k _ _ (.inl rfl) e⟩
 | tup xs=>obtain ⟨z,its,r,ob,e,c⟩:=x;exact ⟨z,its,r,ob,k _ _ (.inl rfl) e,c⟩
 | dK kvs=>obtain ⟨z,y,vs,r,ob,es,ep,e,c⟩:=x;exact ⟨z,y,vs,r,ob,es,ep,k _ _ (.inl rfl) e,c⟩
 | dT kvs =>
  obtain ⟨z,y,xs,r,ob,es,ep,e,c⟩:=x
  exact ⟨z,y,xs,Paired.mapP r fun p q z=>⟨z.1,ht _ _ z.2.1,z.2.2⟩,ob,es,ep,k _ _ (.inl rfl) e,c⟩
 | set S n=>obtain ⟨ob,es,ep,t,e,c⟩:=x;exact ⟨ob,es,ep,t,k _ _ (.inl rfl) e,c⟩
 | ins C dx fs =>
  obtain ⟨d,z,ne,e,mA,⟨od,es,ep,e2,c⟩,r⟩:=x
  exact ⟨ho _ d,z,ne,k _ _ (.inl rfl) e,mA,⟨od,es,ep,k _ _ (.inr d) e2,c⟩,r⟩
 | own y=>obtain ⟨ob,e⟩:=x;exact ⟨ob,k _ _ (.inl rfl) e⟩
 | xd fs=>obtain ⟨mA,⟨od,es,ep,e,c⟩,r⟩:=x;exact ⟨mA,⟨od,es,ep,k _ _ (.inl rfl) e,c⟩,r⟩
 | rng lo hi=>obtain ⟨t,u,v,e⟩:=x;exact ⟨t,u,v,k _ _ (.inl rfl) e⟩
 | frz ob u ih=>obtain ⟨e,q⟩:=x;exact ⟨k _ _ (.inl rfl) e,ih q⟩
 | tbl ps =>
  have e:h.get? a=some { cls:=.none,data:=.fields ps }:=x
  show h'.get? a=some { cls:=.none,data:=.fields ps }
  exact k a _ (.inl rfl) e
 | met f y =>
  have e:h.get? a=some (W.methodObj (.ref f) (.ref y)):=x
  show h'.get? a=some (W.methodObj (.ref f) (.ref y))
  exact k a _ (.inl rfl) e
 | ext φ=>obtain ⟨p,⟨o,e⟩,st⟩:=x;exact ⟨st _ _ p fun o q=>k _ _ (.inl rfl) q,⟨o,k _ _ (.inl rfl) e⟩,st⟩
theorem HOk.lt (x:HOk P w H h) (e:H a=some o):a < h.objs.size:=(x a o e).lt
theorem HOk.fresh (x:HOk P w H h) (e:h.objs.size≤a):H a=none:=by
 cases q:H a with
 | none=>rfl
 | some u=>exact absurd (Nat.lt_of_lt_of_le (x.lt q) e) (Nat.lt_irrefl _)
theorem HOk.kept (x:HOk P w H h) (k:∀b u,h.get? b=some u→h'.get? b=some u):HOk P w H h':=fun a o e =>
 (x a o e).stay (fun b u _ q=>k b u q) (fun _ q=>q) fun _ _ q=>q
theorem HOk.laid (x:HOk P w H h) (k:∀b u,h.get? b=some u→h'.get? b=some u) (hp:h.objs.size≤a) (new:ObjOk P w (upd H a o) h' a o):HOk P w (upd H a o) h':=fun b u e=>by
 have hn:=x.fresh hp
 by_cases hb:b=a
 ·subst hb;rw [upd_same] at e;cases e;exact new
 ·rw [upd_ne hb] at e
  exact (x b u e).stay (fun c v _ q=>k c v q) (fun c q=>by rw [upd_ne (ne_of_none q hn)];exact q) fun c xs q=>by rw [upd_ne (ne_of_none q hn)];exact q
end
def Rd (H:Hp) (a:Addr) (u:HO):Prop:=H a=some u∨∃o,H a=some (.frz o u)
theorem Rd.of {H:Hp} {a:Addr} {u:HO} (h:H a=some u):Rd H a u:=.inl h
theorem Rd.ok {P:Program} {w:World} {H:Hp} {h:Heap} {a:Addr} {u:HO} (r:Rd H a u) (x:HOk P w H h):ObjOk P w H h a u:=by
 rcases r with r | ⟨o,r⟩
 ·exact x a u r
 ·obtain ⟨_,q⟩:=x a _ r
  exact q
def Mut:Option HO→Prop
 | some (.lst _)=>True
 | some (.dK _)=>True
 | some (.dT _)=>True
 | some (.set _ _)=>True
 | some (.ins _ _ _)=>True
 | some (.ext _)=>True
 | _=>False
section
variable {P:Program} {w:World} {H:Hp} {h h':Heap} {x e:Addr} {o':HO}
theorem HOk.write (ok:HOk P w H h) (mu:Mut (H x)) (he:e=x∨H e=some (.own x)) (k:∀b u,b≠e→h.get? b=some u→h'.get? b=some u) (heo:∃u,h'.get? e=some u)
  (new:ObjOk P w (upd H x o') h' x o'):HOk P w (upd H x o') h':=fun b u q=>by
 have nown:∀c y,H c=some (.own y)→c≠x:=fun c y r z=>by subst z;rw [r] at mu;exact mu
 have ntup:∀c xs,H c=some (.tup xs)→c≠x:=fun c xs r z=>by subst z;rw [r] at mu;exact mu
 by_cases hb:b=x
 ·subst hb;rw [upd_same] at q;cases q;exact new
 ·rw [upd_ne hb] at q
  by_cases hbe:b=e
  ·have q':H b=some (.own x):=by
    rcases he with z | z
    ·exact absurd (hbe.trans z) hb
    ·rw [hbe];exact z
   rw [q] at q';cases q'
   obtain ⟨v,hv⟩:=heo
   exact ⟨v,by rw [hbe];exact hv⟩
  ·refine (ok b u q).stay (fun c v hc r=>k c v ?_ r) (fun c r=>by rw [upd_ne (nown c b r)];exact r) fun c xs r=>by rw [upd_ne (ntup c xs r)];exact r
   rcases hc with rfl | hc
   ·exact hbe
   ·rintro rfl
    rcases he with z | z
    ·exact nown c b hc z
    ·rw [hc] at z;cases z;exact hb rfl
end
structure Un (fs ex:List Addr) (H H':Hp) (h h':Heap):Prop where
 keep:∀b o,h.get? b=some o→H b=none→b ∉ fs→b ∉ ex→h'.get? b=some o
 slot:∀b o,h.get? b=some o→H b=none→b∈fs→b ∉ ex→∃sl,h'.get? b=some { o with slots:=sl }
 free:∀b o,h.get? b=some o→H b=none→b ∉ ex→H' b=none
 there:∀b o,h.get? b=some o→b ∉ ex→∃o',h'.get? b=some o'
 tups:∀b xs,H b=some (.tup xs)→H' b=some (.tup xs)
 frzs:∀b o u,H b=some (.frz o u)→H' b=some (.frz o u)
 tbls:∀b ps,H b=some (.tbl ps)→∃more,H' b=some (.tbl (ps++more))
section
variable {fs fs' ex ex':List Addr} {H H1 H2:Hp} {h h1 h2 h':Heap} {a x e:Addr} {o:HO}
theorem Un.any (u:Un fs ex H H1 h h1) {b:Addr} {ob:Obj} (q:h.get? b=some ob) (n:H b=none) (hx:b ∉ ex):∃sl,h1.get? b=some { ob with slots:=sl }:=by
 by_cases hb:b∈fs
 ·exact u.slot b ob q n hb hx
 ·exact ⟨ob.slots,u.keep b ob q n hb hx⟩
theorem Un.trans (a:Un fs ex H H1 h h1) (b:Un fs ex H1 H2 h1 h2):Un fs ex H H2 h h2 where
 keep:=fun c ob q n hc hx=>b.keep c ob (a.keep c ob q n hc hx) (a.free c ob q n hx) hc hx
 slot:=fun c ob q n hc hx=>by
  obtain ⟨sl,e1⟩:=a.slot c ob q n hc hx
  obtain ⟨sl',e2⟩:=b.slot c _ e1 (a.free c ob q n hx) hc hx
  exact ⟨sl',e2⟩
 free:=fun c ob q n hx=>by
  obtain ⟨o',e1⟩:=a.there c ob q hx
  exact b.free c o' e1 (a.free c ob q n hx) hx
 there:=fun c ob q hx=>by
  obtain ⟨o',e1⟩:=a.there c ob q hx
  exact b.there c o' e1 hx
 tups:=fun c xs q=>b.tups c xs (a.tups c xs q)
 frzs:=fun c ob xs q=>b.frzs c ob xs (a.frzs c ob xs q)
 tbls:=fun c ps q=>by
  obtain ⟨m1,e1⟩:=a.tbls c ps q
  obtain ⟨m2,e2⟩:=b.tbls c _ e1
  exact ⟨m1++m2,by rw [e2,Array.append_assoc]⟩
theorem Un.kept (k:∀b u,h.get? b=some u→h'.get? b=some u):Un fs ex H H h h' :=
 ⟨fun b ob q _ _ _=>k b ob q,fun b ob q _ _ _=>⟨ob.slots,k b ob q⟩,fun _ _ _ n _=>n,fun b ob q _=>⟨ob,k b ob q⟩,fun _ _ q=>q,fun _ _ _ q=>q,fun _ ps q=>⟨#[],by rw [q];simp⟩⟩
theorem Un.refl:Un fs ex H H h h:=Un.kept fun _ _ q=>q
theorem Un.laid (k:∀b u,h.get? b=some u→h'.get? b=some u) (hp:h.objs.size≤a) (hn:H a=none):Un fs ex H (upd H a o) h h' where
 keep:=fun b u q _ _ _=>k b u q
 slot:=fun b u q _ _ _=>⟨u.slots,k b u q⟩
 free:=fun b u q n _=>by rw [upd_ne (Nat.ne_of_lt (Nat.lt_of_lt_of_le (Heap.lt_size q) hp))];exact n
 there:=fun b u q _=>⟨u,k b u q⟩
 tups:=fun b xs q=>by rw [upd_ne (ne_of_none q hn)];exact q
 frzs:=fun b u xs q=>by rw [upd_ne (ne_of_none q hn)];exact q
 tbls:=fun b ps q=>⟨#[],by rw [upd_ne (ne_of_none q hn),q];simp⟩
theorem Un.write (mu:Mut (H x)) (he:e=x∨H e=some (.own x)) (k:∀b u,b≠e→h.get? b=some u→h'.get? b=some u) (heo:∃u,h'.get? e=some u):Un fs ex H (upd H x o) h h':=by
 have hx:∀b,H b=none→b≠x:=fun b n z=>by subst z;rw [n] at mu;exact mu
 have hb:∀b,H b=none→b≠e:=fun b n z=>by
  subst z
  rcases he with r | r
  ·exact hx b n r
  ·rw [n] at r;cases r
 have hm:∀b u,H b=some u→¬ Mut (some u)→b≠x:=fun b u q nm z=>by subst z;rw [q] at mu;exact nm mu
 refine ⟨fun b u q n _ _=>k b u (hb b n) q,fun b u q n _ _=>⟨u.slots,k b u (hb b n) q⟩,fun b u q n _=>by rw [upd_ne (hx b n)];exact n,fun b u q _=>?_,
  fun b xs q=>by rw [upd_ne (hm b _ q fun z=>z)];exact q,fun b u xs q=>by rw [upd_ne (hm b _ q fun z=>z)];exact q,fun b ps q=>⟨#[],by rw [upd_ne (hm b _ q fun z=>z),q];simp⟩⟩
 by_cases hbe:b=e
 ·subst hbe;exact heo
 ·exact ⟨u,k b u hbe q⟩
end
def trk (h:Heap) (H:Hp):List Addr:=(List.range h.objs.size).filter fun a=>(H a).isSome
def hidT (h:Heap) (H:Hp):Heap:=W.hideAll h (trk h H)
theorem hidT_size (h:Heap) (H:Hp):(hidT h H).objs.size=h.objs.size:=W.hideAll_size _ _
theorem hidT_get {h:Heap} {H:Hp} {b:Addr} {o:Obj} (e:h.get? b=some o) (n:H b=none):(hidT h H).get? b=some o :=
 W.hideAll_get _ e fun hm=>by
  have q:(H b).isSome=true:=(List.mem_filter.mp hm).2
  rw [n] at q;simp at q
theorem of_hidT {h:Heap} {H:Hp} {b:Addr} {o:Obj} (e:(hidT h H).get? b=some o):h.get? b=some o∧H b=none:=by
 have e':h.get? b=some o:=W.of_hideAll (trk h H) e
 refine ⟨e',?_⟩
 cases q:H b with
 | none=>rfl
 | some x =>
  have hm:b∈trk h H:=List.mem_filter.mpr ⟨List.mem_range.mpr (Heap.lt_size e'),by simp [q]⟩
  have z:(hidT h H).get? b=none:=W.hideAll_none (trk h H) hm
  rw [z] at e;cases e
structure Mod (K:W.Frag) (mg:Str→Option Value) (base:Heap):Prop where
 kin:K.In base
 glob:base.Ns mainGlobals mg
 blt:∃mb,base.Ns builtinsNs mb∧∀x:Str,x ≠ "__name__" → mb x=bootBuiltins x
 nolimit:base.NoLimit
/-- the context: a def's body (or a comprehension's block) running. base: fixed through the whole law; s₀, H₀: the entry; outer: the frames whose slots others may change (a def's callers); stack: all frames that run;
   ex: iterators that were made ahead of the entry and are walked here (a comprehension's);fn: the names whose cells were made at the entry (a def: all;a comprehension's block: its own);calm: not within an except suite;pn: pins that every state bears;xe: what is wanted of an exception that leaves the code -/
structure Cx where
 prog:Program
 w:World
 K:W.Frag
 mg:Str→Option Value
 base:Heap
 A:Around
 N:List Str
 s₀:Shared
 H₀:Hp
 env:Env
 outer:List Env
 stack:List Env
 ex:List Addr
 fn:Str→Bool
 calm:Bool
 pn:List (Addr×Obj)
 xe:Value→Shared→Prop
def frs (l:List Env):List Addr:=l.filterMap (·.frame)
abbrev Cx.fs (X:Cx):List Addr:=frs X.outer
def Vis (sc:Scope) (x:Str):Prop:=sc.names.lookup x=some .local∨sc.names.lookup x=some .cell∨sc.names.lookup x=some .free
def Loc (sc:Scope) (x:Str):Prop:=sc.names.lookup x=some .local∨sc.names.lookup x=some .cell
def Look (env:Env) (h:Heap) (m:Str→Option Value) (x:Str) (u:Value):Prop :=
 (env.kindOf x=some .local∧m x=some u)∨((env.kindOf x=some .cell∨env.kindOf x=some .free)∧∃c,env.cells.lookup x=some c∧h.IsCell c (some u))
structure Cx.Ok (X:Cx):Prop where
 mod:Mod X.K X.mg X.base
 kind:X.env.scope.kind=.function
 glob:X.env.globals=mainGlobals
 blt:X.env.builtins=builtinsNs
 above:X.s₀.heap.objs.size≤X.env.locals
 inj:∀x y c,X.env.cells.lookup x=some c→X.env.cells.lookup y=some c→x=y
 has:∀x,(X.env.kindOf x=some .cell∨X.env.kindOf x=some .free)→∃c,X.env.cells.lookup x=some c
 cab:∀x c,X.fn x=true→X.env.cells.lookup x=some c→X.s₀.heap.objs.size≤c
 hd:X.calm=true→X.A.handled=none
 frames:X.A.frames=some X.stack
 stk:X.stack=X.outer∨(X.stack=X.env::X.outer∧X.env.frame=some X.env.locals)
 exf:∀b∈X.ex,b≠X.env.locals∧∀x c,X.env.cells.lookup x=some c→c≠b
 bs:∀b o,X.base.get? b=some o→X.s₀.heap.get? b=some o∧X.H₀ b=none
 bsz:X.base.objs.size≤X.s₀.heap.objs.size
 noex:∀b o,X.base.get? b=some o→b ∉ X.ex
 exfs:∀b∈X.ex,b ∉ X.fs
 funs:X.s₀.heap.FunFrames X.base X.outer
 frf:∀b∈X.fs,X.H₀ b=none
structure Inv (X:Cx) (pins:List (Addr×Obj)) (σ:List (Option V)) (H:Hp) (s:Shared):Prop where
 ok:X.Ok
 os:s.os=X.s₀.os
 bare:AllBare s.gens
 base:Un X.fs X.ex X.H₀ H X.s₀.heap s.heap
 loc:∃m,s.heap.Ns X.env.locals m∧∀(i:Nat) (x:Str) (v:V),X.N[i]?=some x→σ[i]?=some (some v)→Vis X.env.scope x→∃u,RelV v u∧Look X.env s.heap m x u
 cell:∀x c,X.env.cells.lookup x=some c→∃v,s.heap.IsCell c v
 free:H X.env.locals=none
 freeC:∀x c,X.env.cells.lookup x=some c→H c=none
 pin:∀p∈X.pn++pins,s.heap.get? p.1=some p.2∧H p.1=none∧p.1≠X.env.locals∧p.1 ∉ X.fs∧∀v,p.2.data≠.cell v
 hok:HOk X.prog X.w H s.heap
 len:σ.length=X.N.length
section
variable {X:Cx} {pins:List (Addr×Obj)} {σ:List (Option V)} {H H':Hp} {s:Shared} {h':Heap}
theorem Cx.Ok.nofr (ok:X.Ok) {b:Addr} {o:Obj} (e:X.base.get? b=some o):b ∉ X.fs:=fun hb=>by
 have:=(ok.funs.mem hb).1
 rw [e] at this;cases this
theorem Inv.bs (I:Inv X pins σ H s):∀b o,X.base.get? b=some o→s.heap.get? b=some o∧H b=none:=fun b o e =>
 ⟨I.base.keep b o (I.ok.bs b o e).1 (I.ok.bs b o e).2 (I.ok.nofr e) (I.ok.noex b o e),I.base.free b o (I.ok.bs b o e).1 (I.ok.bs b o e).2 (I.ok.noex b o e)⟩
theorem Inv.bk (I:Inv X pins σ H s):∀b o,X.base.get? b=some o→s.heap.get? b=some o:=fun b o e=>(I.bs b o e).1
theorem Inv.mod (I:Inv X pins σ H s):Mod X.K X.mg X.base:=I.ok.mod
theorem Inv.kIn (I:Inv X pins σ H s):X.K.In s.heap:=I.ok.mod.kin.keeps I.bk
theorem Inv.fr (I:Inv X pins σ H s):∃m,Fr X.base X.env.locals s.heap m :=
 let ⟨m,hn,_⟩:=I.loc
 ⟨m,hn,I.bk,Nat.le_trans I.ok.bsz I.ok.above⟩
theorem Inv.lt (I:Inv X pins σ H s):X.env.locals < s.heap.objs.size:=let ⟨_,hn,_⟩:=I.loc;hn.lt
theorem Inv.sz (I:Inv X pins σ H s):X.s₀.heap.objs.size≤s.heap.objs.size:=Nat.le_trans I.ok.above (Nat.le_of_lt I.lt)
theorem Inv.nofs (I:Inv X pins σ H s) {a:Addr} (h:s.heap.objs.size≤a):a ∉ X.fs:=fun hb=>by
 obtain ⟨_,o,ho,_⟩:=I.ok.funs.mem hb
 exact absurd (Nat.lt_of_lt_of_le (Heap.lt_size ho) (Nat.le_trans I.sz h)) (Nat.lt_irrefl _)
theorem Inv.cne (I:Inv X pins σ H s):∀x c,X.env.cells.lookup x=some c→c≠X.env.locals:=fun x c e z=>by
 obtain ⟨v,o,ho,hd⟩:=I.cell x c e
 obtain ⟨m,⟨o',es,ep,ho',hd',_⟩,_⟩:=I.loc
 rw [z,ho'] at ho;cases ho;rw [hd'] at hd;cases hd
theorem Inv.funs (I:Inv X pins σ H s):s.heap.FunFrames X.base X.outer:=by
 have all:∀(l:List Env),(∀b∈frs l,b∈X.fs)→X.s₀.heap.FunFrames X.base l→s.heap.FunFrames X.base l:=by
  intro l
  induction l with
  | nil=>intro _ _;trivial
  | cons env r ih =>
   intro hs hl
   obtain ⟨hk,⟨L,o,hf,hn,ho,hd⟩,hr⟩:=hl
   have hL:L∈X.fs:=hs L (by unfold frs;rw [List.filterMap_cons,hf];exact List.mem_cons_self)
   obtain ⟨sl,e⟩:=I.base.slot L o ho (I.ok.frf L hL) hL fun z=>I.ok.exfs L z hL
   exact ⟨hk,⟨L,_,hf,hn,e,hd⟩,ih (fun b hb=>hs b (by unfold frs;rw [List.filterMap_cons,hf];exact List.mem_cons_of_mem _ hb)) hr⟩
 exact all X.outer (fun _ hb=>hb) I.ok.funs
theorem Inv.stack (I:Inv X pins σ H s):s.heap.FunFrames X.base X.stack:=by
 rcases I.ok.stk with e | ⟨e,hf⟩
 ·rw [e];exact I.funs
 ·rw [e]
  obtain ⟨m,hn,_⟩:=I.loc
  refine .cons (by rw [I.ok.kind];decide) hf hn ?_ I.funs
  exact Heap.get?_none_of_le (Nat.le_trans I.ok.bsz I.ok.above)
theorem Inv.stkSub (I:Inv X pins σ H s):∀b∈frs X.stack,b∈X.env.locals::X.fs:=fun b hb=>by
 rcases I.ok.stk with e | ⟨e,hf⟩
 ·rw [e] at hb;exact List.mem_cons_of_mem _ hb
 ·rw [e] at hb
  unfold frs at hb
  rw [List.filterMap_cons,hf] at hb
  exact hb
theorem Inv.stkFree (I:Inv X pins σ H s):∀b∈frs X.stack,H b=none:=fun b hb=>by
 rcases List.mem_cons.mp (I.stkSub b hb) with e | hb
 ·rw [e];exact I.free
 ·obtain ⟨_,o,ho,_⟩:=I.ok.funs.mem hb
  exact I.base.free b o ho (I.ok.frf b hb) fun z=>I.ok.exfs b z hb
theorem Inv.step {g':Array GenState} {t':Nat} {d':Drawn} {ch:List Addr} (I:Inv X pins σ H s)
  (hch:∀b∈ch,(b∈X.ex∨X.s₀.heap.objs.size≤b)∧b≠X.env.locals∧(∀x c,X.env.cells.lookup x=some c→c≠b)∧∀p∈X.pn++pins,p.1≠b)
  (keep:∀b o,b≠X.env.locals→b ∉ X.fs→b ∉ ch→s.heap.get? b=some o→H b=none→h'.get? b=some o)
  (slot:∀b o,b≠X.env.locals→b∈X.fs→b ∉ ch→s.heap.get? b=some o→H b=none→∃sl,h'.get? b=some { o with slots:=sl }) (free:∀b o,b ∉ ch→s.heap.get? b=some o→H b=none→H' b=none)
  (there:∀b o,b ∉ ch→s.heap.get? b=some o→∃o',h'.get? b=some o')
  (tups:∀b xs,H b=some (.tup xs)→H' b=some (.tup xs)) (frzs:∀b o u,H b=some (.frz o u)→H' b=some (.frz o u)) (tbls:∀b ps,H b=some (.tbl ps)→∃more,H' b=some (.tbl (ps++more)))
  (ns:∀m,s.heap.Ns X.env.locals m→h'.Ns X.env.locals m) (hok:HOk X.prog X.w H' h') (hg:AllBare g') :
  Inv X pins σ H' { s with heap:=h',gens:=g',drawn:=d',toks:=t' }:=by
 have neL:∀b o,X.s₀.heap.get? b=some o→b≠X.env.locals:=fun b o e=>Nat.ne_of_lt (Nat.lt_of_lt_of_le (Heap.lt_size e) I.ok.above)
 have neC:∀b o,X.s₀.heap.get? b=some o→b ∉ X.ex→b ∉ ch:=fun b o e hx hb=>by
  rcases (hch b hb).1 with z | z
  ·exact hx z
  ·exact absurd (Nat.lt_of_lt_of_le (Heap.lt_size e) z) (Nat.lt_irrefl _)
 have cellK:∀x c,X.env.cells.lookup x=some c→∀v,s.heap.IsCell c v→h'.IsCell c v:=fun x c e v ⟨o,ho,hd⟩=>by
  have nch:c ∉ ch:=fun z=>(hch c z).2.2.1 x c e rfl
  by_cases hc:c∈X.fs
  ·obtain ⟨sl,q⟩:=slot c o (I.cne x c e) hc nch ho (I.freeC x c e)
   exact ⟨_,q,hd⟩
  ·exact ⟨o,keep c o (I.cne x c e) hc nch ho (I.freeC x c e),hd⟩
 refine ⟨I.ok,I.os,hg,⟨fun b o e n hb hx=>?_,fun b o e n hb hx=>?_,fun b o e n hx=>?_,fun b o e hx=>?_,fun b xs e=>tups b xs (I.base.tups b xs e),fun b o xs e=>frzs b o xs (I.base.frzs b o xs e),fun b ps e=>?_⟩,?_,fun x c e=>?_,?_,fun x c e=>?_,fun p hp=>?_,hok,I.len⟩
 ·exact keep b o (neL b o e) hb (neC b o e hx) (I.base.keep b o e n hb hx) (I.base.free b o e n hx)
 ·obtain ⟨sl,e1⟩:=I.base.slot b o e n hb hx
  obtain ⟨sl',e2⟩:=slot b _ (neL b o e) hb (neC b o e hx) e1 (I.base.free b o e n hx)
  exact ⟨sl',e2⟩
 ·obtain ⟨o',e1⟩:=I.base.there b o e hx
  exact free b o' (neC b o e hx) e1 (I.base.free b o e n hx)
 ·obtain ⟨o',e1⟩:=I.base.there b o e hx
  exact there b o' (neC b o e hx) e1
 ·obtain ⟨m1,e1⟩:=I.base.tbls b ps e
  obtain ⟨m2,e2⟩:=tbls b _ e1
  exact ⟨m1++m2,by rw [e2,Array.append_assoc]⟩
 ·obtain ⟨m,hn,hl⟩:=I.loc
  refine ⟨m,ns m hn,fun i x v e1 e2 e3=>?_⟩
  obtain ⟨u,r,l⟩:=hl i x v e1 e2 e3
  refine ⟨u,r,?_⟩
  rcases l with l | ⟨k,c,e,z⟩
  ·exact .inl l
  ·exact .inr ⟨k,c,e,cellK x c e _ z⟩
 ·obtain ⟨v,z⟩:=I.cell x c e
  exact ⟨v,cellK x c e v z⟩
 ·obtain ⟨m,⟨o,_,_,ho,_⟩,_⟩:=I.loc
  exact free _ o (fun z=>(hch _ z).2.1 rfl) ho I.free
 ·obtain ⟨v,o,ho,hd⟩:=I.cell x c e
  exact free c o (fun z=>(hch c z).2.2.1 x c e rfl) ho (I.freeC x c e)
 ·obtain ⟨e,n,ne,nf,d⟩:=I.pin p hp
  have nch:p.1 ∉ ch:=fun z=>(hch p.1 z).2.2.2 p hp rfl
  exact ⟨keep p.1 p.2 ne nf nch e n,free p.1 p.2 nch e n,ne,nf,d⟩
theorem Inv.un {t':Nat} (I:Inv X pins σ H s) (u:Un X.fs [] H H' s.heap h') (hok:HOk X.prog X.w H' h'):Inv X pins σ H' { s with heap:=h',toks:=t' }:=by
 obtain ⟨m,⟨o,es,ep,ho,r⟩,_⟩:=id I.loc
 obtain ⟨sl,hL⟩:=u.any ho I.free (by simp)
 exact I.step (g':=s.gens) (d':=s.drawn) (ch:=[]) (fun _ z=>nomatch z) (fun b o _ hb _ e n=>u.keep b o e n hb (by simp)) (fun b o _ hb _ e n=>u.slot b o e n hb (by simp)) (fun b o _ e n=>u.free b o e n (by simp)) (fun b o _ e=>u.there b o e (by simp)) u.tups u.frzs u.tbls (fun m' hm=>by
  obtain ⟨o',es',ep',ho',r'⟩:=hm
  rw [ho] at ho';cases ho'
  exact ⟨_,es',ep',hL,r'⟩) hok I.bare
theorem Inv.call {g':Array GenState} {t':Nat} {d':Drawn} {ch:List Addr} (I:Inv X pins σ H s) (u:Un (frs X.stack) ch H H' s.heap h') (hok:HOk X.prog X.w H' h') (hg:AllBare g')
  (hch:∀b∈ch,(b∈X.ex∨X.s₀.heap.objs.size≤b)∧b≠X.env.locals∧(∀x c,X.env.cells.lookup x=some c→c≠b)∧∀p∈X.pn++pins,p.1≠b) :
  Inv X pins σ H' { s with heap:=h',gens:=g',drawn:=d',toks:=t' }:=by
 obtain ⟨m,⟨o,es,ep,ho,r⟩,_⟩:=id I.loc
 obtain ⟨sl,hL⟩:=u.any ho I.free fun z=>(hch _ z).2.1 rfl
 exact I.step (ch:=ch) hch (fun b o hL hb hc e n=>u.keep b o e n (fun z=>(List.mem_cons.mp (I.stkSub b z)).elim hL hb) hc) (fun b o _ _ hc e n=>u.any e n hc) (fun b o hc e n=>u.free b o e n hc) (fun b o hc e=>u.there b o e hc) u.tups u.frzs u.tbls (fun m' hm=>by
  obtain ⟨o',es',ep',ho',r'⟩:=hm
  rw [ho] at ho';cases ho'
  exact ⟨_,es',ep',hL,r'⟩) hok hg
theorem Inv.turned {t':Nat} {it:Addr} (I:Inv X pins σ H s) (k:∀b o,b≠it→s.heap.get? b=some o→h'.get? b=some o) (hn:H it=none) (hL:it≠X.env.locals)
  (h1:it∈X.ex∨X.s₀.heap.objs.size≤it) (h2:∀x c,X.env.cells.lookup x=some c→c≠it) (h3:∀p∈X.pn++pins,p.1≠it):Inv X pins σ H { s with heap:=h',toks:=t' }:=by
 have nit:∀b u,H b=some u→b≠it:=fun b u e z=>by rw [z,hn] at e;cases e
 refine I.step (g':=s.gens) (d':=s.drawn) (ch:=[it]) (fun b hb=>?_) (fun b o _ _ hc e _=>k b o (fun z=>hc (by simp [z])) e) (fun b o _ _ hc e _=>⟨o.slots,k b o (fun z=>hc (by simp [z])) e⟩) (fun _ _ _ _ n=>n)
  (fun b o hc e=>⟨o,k b o (fun z=>hc (by simp [z])) e⟩) (fun _ _ e=>e) (fun _ _ _ e=>e) (fun b ps e=>⟨#[],by rw [e];simp⟩) (fun m hm=>?_) (fun b u e=>?_) I.bare
 ·have e:b=it:=by simpa using hb
  subst e
  exact ⟨h1,hL,h2,h3⟩
 ·obtain ⟨o,es,ep,ho,r⟩:=hm
  exact ⟨o,es,ep,k _ o (Ne.symm hL) ho,r⟩
 ·refine (I.hok b u e).stay (fun c v hc q=>k c v ?_ q) (fun _ q=>q) fun _ _ q=>q
  rcases hc with z | z
  ·rw [z];exact nit b u e
  ·exact nit c _ z
theorem Inv.tok (I:Inv X pins σ H s) (t:Nat):Inv X pins σ H { s with toks:=t }:=I.un (h':=s.heap) (t':=t) Un.refl I.hok
theorem Inv.kept {t':Nat} (I:Inv X pins σ H s) (k:∀b u,s.heap.get? b=some u→h'.get? b=some u):Inv X pins σ H { s with heap:=h',toks:=t' }:=I.un (Un.kept k) (I.hok.kept k)
theorem Inv.laid {a:Addr} {o:HO} {t':Nat} (I:Inv X pins σ H s) (k:∀b u,s.heap.get? b=some u→h'.get? b=some u) (hp:s.heap.objs.size≤a) (new:ObjOk X.prog X.w (upd H a o) h' a o) :
  Inv X pins σ (upd H a o) { s with heap:=h',toks:=t' }:=I.un (Un.laid k hp (I.hok.fresh hp)) (I.hok.laid k hp new)
theorem Inv.write {x e:Addr} {o:HO} {t':Nat} (I:Inv X pins σ H s) (mu:Mut (H x)) (he:e=x∨H e=some (.own x)) (k:∀b u,b≠e→s.heap.get? b=some u→h'.get? b=some u) (heo:∃u,h'.get? e=some u)
  (new:ObjOk X.prog X.w (upd H x o) h' x o):Inv X pins σ (upd H x o) { s with heap:=h',toks:=t' }:=I.un (Un.write mu he k heo) (I.hok.write mu he k heo new)
theorem Inv.pins_of {pins':List (Addr×Obj)} (I:Inv X pins σ H s) (h:∀p∈pins',s.heap.get? p.1=some p.2∧H p.1=none∧p.1≠X.env.locals∧p.1 ∉ X.fs∧∀v,p.2.data≠.cell v):Inv X pins' σ H s :=
 ⟨I.ok,I.os,I.bare,I.base,I.loc,I.cell,I.free,I.freeC,fun p hp=>(List.mem_append.mp hp).elim (fun z=>I.pin p (List.mem_append_left _ z)) (h p),I.hok,I.len⟩
theorem nodup_ix {N:List Str} (hN:N.Nodup) {i j:Nat} {x:Str} (a:N[i]?=some x) (b:N[j]?=some x):i=j:=by
 obtain ⟨h1,e1⟩:=List.getElem?_eq_some_iff.mp a
 obtain ⟨h2,e2⟩:=List.getElem?_eq_some_iff.mp b
 exact (List.getElem_inj hN).mp (e1.trans e2.symm)
theorem store_ok2 {M:Model} {A:Around} {E:Value→Shared→Prop} {i:Nat} {x:Str} {v:V} {u:Value} {Q:Unit→Shared→Prop} (I:Inv X pins σ H s) (hN:X.N.Nodup) (hi:X.N[i]?=some x) (hx:Loc X.env.scope x) (r:RelV v u)
  (h:∀s',Inv X pins (σ.set i (some v)) H s'→(∃a,Heap.SameBut a s.heap s'.heap∧(a=X.env.locals∨X.env.cells.lookup x=some a))→Q () s') (hf:X.fn x=true∨X.env.scope.names.lookup x=some .local:=by first | exact .inl rfl | exact .inr rfl | assumption):wpAny M A (storeName X.env x u) Q E s:=by
 obtain ⟨m,hn,hl⟩:=id I.loc
 have hcls:(X.env.scope.kind == .class || (X.env.scope.kind == .module && X.env.locals != X.env.globals))=false:=by rw [I.ok.kind];rfl
 have hiσ:i < σ.length:=by rw [I.len];exact (List.getElem?_eq_some_iff.mp hi).1
 have cne:=I.cne
 have tracked:∀{a:Addr} {h':Heap},(∃o,s.heap.get? a=some o∧H a=none)→Heap.SameBut a s.heap h'→HOk X.prog X.w H h':=fun {a h'} ha hs b ob e=>by
  obtain ⟨_,_,hfree⟩:=ha
  refine (I.hok b ob e).stay (fun c w' hc q=>(hs.2 c ?_).trans q) (fun _ q=>q) fun _ _ q=>q
  rintro rfl
  rcases hc with rfl | hc
  ·rw [hfree] at e;cases e
  ·rw [hfree] at hc;cases hc
 rcases hx with hk | hk
 ·refine wpAny_storeName_local hk hn (fun h' hn' hs=>?_) hcls
  obtain ⟨oL,_,_,hoL,_⟩:=id hn
  refine h _ ⟨I.ok,I.os,I.bare,⟨fun b o e n hb hx=>?_,fun b o e n hb hx=>?_,I.base.free,fun b o e hx=>?_,I.base.tups,I.base.frzs,I.base.tbls⟩,⟨_,hn',fun j y v' e1 e2 e3=>?_⟩,fun y c e=>?_,I.free,I.freeC,fun p hp=>?_,tracked ⟨oL,hoL,I.free⟩ hs,by simpa using I.len⟩ ⟨_,hs,.inl rfl⟩
  ·exact (hs.2 b (Nat.ne_of_lt (Nat.lt_of_lt_of_le (Heap.lt_size e) I.ok.above))).trans (I.base.keep b o e n hb hx)
  ·obtain ⟨sl,e1⟩:=I.base.slot b o e n hb hx
   exact ⟨sl,(hs.2 b (Nat.ne_of_lt (Nat.lt_of_lt_of_le (Heap.lt_size e) I.ok.above))).trans e1⟩
  ·obtain ⟨o',e1⟩:=I.base.there b o e hx
   exact ⟨o',(hs.2 b (Nat.ne_of_lt (Nat.lt_of_lt_of_le (Heap.lt_size e) I.ok.above))).trans e1⟩
  ·by_cases hj:j=i
   ·subst hj
    rw [hi] at e1;cases e1
    rw [List.getElem?_set_self hiσ] at e2
    cases e2
    exact ⟨u,r,.inl ⟨hk,by simp⟩⟩
   ·rw [List.getElem?_set_ne (Ne.symm hj)] at e2
    obtain ⟨u',r',q⟩:=hl j y v' e1 e2 e3
    refine ⟨u',r',?_⟩
    rcases q with ⟨k,e⟩ | ⟨k,c,e,z⟩
    ·refine .inl ⟨k,?_⟩
     have:y≠x:=fun e=>hj (nodup_ix hN e1 (e▸hi))
     simp [this,e]
    ·exact .inr ⟨k,c,e,z.sameBut hs (cne y c e)⟩
  ·obtain ⟨w',z⟩:=I.cell y c e
   exact ⟨w',z.sameBut hs (cne y c e)⟩
  ·obtain ⟨e,n,ne,nf,d⟩:=I.pin p hp
   exact ⟨(hs.2 p.1 ne).trans e,n,ne,nf,d⟩
 ·have hfn:X.fn x=true:=by
   rcases hf with z | z
   ·exact z
   ·rw [z] at hk;cases hk
  obtain ⟨c,hc⟩:=I.ok.has x (.inl hk)
  obtain ⟨w',z⟩:=I.cell x c hc
  refine wpAny_storeName_cell I.ok.kind hk hc z (fun h' hc' hs=>?_)
  obtain ⟨oc,hoc,hocd⟩:=id z
  refine h { s with heap:=h' } ⟨I.ok,I.os,I.bare,⟨fun b o e n hb hx=>?_,fun b o e n hb hx=>?_,I.base.free,fun b o e hx=>?_,I.base.tups,I.base.frzs,I.base.tbls⟩,⟨m,hn.sameBut hs (Ne.symm (cne x c hc)),fun j y v' e1 e2 e3=>?_⟩,fun y c' e=>?_,I.free,I.freeC,fun p hp=>?_,tracked ⟨oc,hoc,I.freeC x c hc⟩ hs,by simpa using I.len⟩ ⟨c,hs,.inr hc⟩
  ·exact (hs.2 b (Nat.ne_of_lt (Nat.lt_of_lt_of_le (Heap.lt_size e) (I.ok.cab x c hfn hc)))).trans (I.base.keep b o e n hb hx)
  ·obtain ⟨sl,e1⟩:=I.base.slot b o e n hb hx
   exact ⟨sl,(hs.2 b (Nat.ne_of_lt (Nat.lt_of_lt_of_le (Heap.lt_size e) (I.ok.cab x c hfn hc)))).trans e1⟩
  ·obtain ⟨o',e1⟩:=I.base.there b o e hx
   exact ⟨o',(hs.2 b (Nat.ne_of_lt (Nat.lt_of_lt_of_le (Heap.lt_size e) (I.ok.cab x c hfn hc)))).trans e1⟩
  ·by_cases hj:j=i
   ·subst hj
    rw [hi] at e1;cases e1
    rw [List.getElem?_set_self hiσ] at e2
    cases e2
    exact ⟨u,r,.inr ⟨.inl hk,c,hc,hc'⟩⟩
   ·rw [List.getElem?_set_ne (Ne.symm hj)] at e2
    obtain ⟨u',r',q⟩:=hl j y v' e1 e2 e3
    refine ⟨u',r',?_⟩
    rcases q with q | ⟨k,c',e,z'⟩
    ·exact .inl q
    ·refine .inr ⟨k,c',e,z'.sameBut hs ?_⟩
     rintro rfl
     exact hj (nodup_ix hN e1 (I.ok.inj _ _ _ e hc▸hi))
  ·by_cases hcc:c'=c
   ·subst hcc;exact ⟨_,hc'⟩
   ·obtain ⟨w2,z2⟩:=I.cell y c' e
    exact ⟨w2,z2.sameBut hs hcc⟩
  ·obtain ⟨e,n,ne,nf,d⟩:=I.pin p hp
   refine ⟨(hs.2 p.1 ?_).trans e,n,ne,nf,d⟩
   intro q
   rw [q,hoc] at e
   have q':oc=p.2:=Option.some.inj e
   exact d w' (by rw [← q'];exact hocd)
theorem store_ok {M:Model} {A:Around} {E:Value→Shared→Prop} {i:Nat} {x:Str} {v:V} {u:Value} {Q:Unit→Shared→Prop} (I:Inv X pins σ H s) (hN:X.N.Nodup) (hi:X.N[i]?=some x) (hx:Loc X.env.scope x) (r:RelV v u)
  (h:∀s',Inv X pins (σ.set i (some v)) H s'→Q () s') (hf:X.fn x=true∨X.env.scope.names.lookup x=some .local:=by first | exact .inl rfl | exact .inr rfl | assumption):wpAny M A (storeName X.env x u) Q E s :=
 store_ok2 I hN hi hx r (fun s' I' _=>h s' I') hf
theorem Inv.call' {s':Shared} {ch:List Addr} (I:Inv X pins σ H s) (ho:s'.os=s.os) (u:Un (frs X.stack) ch H H' s.heap s'.heap) (hok:HOk X.prog X.w H' s'.heap) (hg:AllBare s'.gens)
  (hch:∀b∈ch,(b∈X.ex∨X.s₀.heap.objs.size≤b)∧b≠X.env.locals∧(∀x c,X.env.cells.lookup x=some c→c≠b)∧∀p∈X.pn++pins,p.1≠b):Inv X pins σ H' s':=by
 obtain ⟨h',g',d',t',o'⟩:=s'
 have e:o'=s.os:=ho
 subst e
 exact I.call (g':=g') (t':=t') (d':=d') u hok hg hch
end
abbrev XK:=Value→Option Addr→Hp→Prop
abbrev St:=List (Option V)
abbrev VK:=V→Hp→Prop
abbrev TE:=St→Hp→VK→Prop
abbrev TT:=St→Hp→(Bool→Hp→Prop)→Prop
abbrev TA:=St→Hp→(List V→Hp→Prop)→Prop
structure Ends where
 nx:St→Hp→Prop
 rt:VK
 bk:St→Hp→Prop:=fun _ _=>False
 ct:St→Hp→Prop:=fun _ _=>False
abbrev TS:=Ends→St→Hp→Prop
def EP (X:Cx) (pins:List (Addr×Obj)) (σ:St) (Q:VK) (u:Value) (s':Shared):Prop:=∃v H',Inv X pins σ H' s'∧RelV v u∧Q v H'
def TP (X:Cx) (pins:List (Addr×Obj)) (σ:St) (Q:Bool→Hp→Prop) (b:Bool) (s':Shared):Prop:=∃H',Inv X pins σ H' s'∧Q b H'
def AP (X:Cx) (pins:List (Addr×Obj)) (σ:St) (Q:List V→Hp→Prop) (us:List Value) (s':Shared):Prop:=∃vs H',Inv X pins σ H' s'∧Vals vs us∧Q vs H'
def SP (X:Cx) (pins:List (Addr×Obj)) (D:Ends) (f:Flow) (s':Shared):Prop :=
 match f with
 | .next=>∃σ' H',Inv X pins σ' H' s'∧D.nx σ' H'
 | .brk=>∃σ' H',Inv X pins σ' H' s'∧D.bk σ' H'
 | .cont=>∃σ' H',Inv X pins σ' H' s'∧D.ct σ' H'
 | .ret u=>∃v σ' H',Inv X pins σ' H' s'∧RelV v u∧D.rt v H'
def PE (X:Cx) (e:Expr) (t:TE):Prop :=
 ∀(pins:List (Addr×Obj)) (s:Shared) (σ:St) (H:Hp) (Q:VK),Inv X pins σ H s→t σ H Q→wpAny (model X.prog X.w) X.A (eval e X.env) (EP X pins σ Q) X.xe s
def PT (X:Cx) (e:Expr) (t:TT):Prop :=
 ∀(pins:List (Addr×Obj)) (s:Shared) (σ:St) (H:Hp) (Q:Bool→Hp→Prop),Inv X pins σ H s→t σ H Q→wpAny (model X.prog X.w) X.A (isTrue e X.env (eval e X.env)) (TP X pins σ Q) X.xe s
def PW (X:Cx) (e:Expr) (t:TT):Prop :=
 ∀(whole:Sem Value) (pins:List (Addr×Obj)) (s:Shared) (σ:St) (H:Hp) (Q:Bool→Hp→Prop),Inv X pins σ H s→t σ H Q→wpAny (model X.prog X.w) X.A (isTrue e X.env whole) (TP X pins σ Q) X.xe s
theorem PW.pt {X:Cx} {e:Expr} {t:TT} (h:PW X e t):PT X e t:=h _
def PA (X:Cx) (es:List Expr) (t:TA):Prop :=
 ∀(pos:Pos) (pins:List (Addr×Obj)) (s:Shared) (σ:St) (H:Hp) (Q:List V→Hp→Prop),Inv X pins σ H s→t σ H Q→wpAny (model X.prog X.w) X.A (spliced (backTo pos (starEach es X.env))) (AP X pins σ Q) X.xe s
def PS (X:Cx) (st:Stmt) (t:TS):Prop :=
 ∀(pins:List (Addr×Obj)) (s:Shared) (σ:St) (H:Hp) (D:Ends),Inv X pins σ H s→t D σ H→wpAny (model X.prog X.w) X.A (exec st X.env) (SP X pins D) X.xe s
def PSs (X:Cx) (st:List Stmt) (t:TS):Prop :=
 ∀(pins:List (Addr×Obj)) (s:Shared) (σ:St) (H:Hp) (D:Ends),Inv X pins σ H s→t D σ H→wpAny (model X.prog X.w) X.A (execs st X.env) (SP X pins D) X.xe s
theorem thn {α:Type} {t:Sem α} {Q Q':α→Shared→Prop} {M:Model} {A:Around} {E:Value→Shared→Prop} {s:Shared} (h:wpAny M A t Q E s) (hQ:∀a s,Q a s→Q' a s):wpAny M A t Q' E s:=wpAny_mono h hQ fun _ _ x=>x
section
variable {X:Cx}
def tVar (i:Nat):TE:=fun σ H Q=>∃v,σ[i]?=some (some v)∧Q v H
def tC (v:V):TE:=fun _ H Q=>Q v H
theorem pe_var {i:Nat} {x:Str} {pos:Pos} (hN:X.N[i]?=some x) (hv:Vis X.env.scope x) (hd:(x == ("__debug__" : Str))=false:=by decide) (hcd:(x == ("__classdict__" : Str))=false:=by decide):PE X (.Name x pos) (tVar i):=by
 intro pins s σ H Q I h
 obtain ⟨v,e,h⟩:=h
 obtain ⟨m,hn,hl⟩:=I.loc
 obtain ⟨u,r,l⟩:=hl i x v hN e hv
 have fin:EP X pins σ Q u s:=⟨v,H,I,r,h⟩
 rcases l with ⟨hk,hm⟩ | ⟨hk,c,hc,hcell⟩
 ·exact wpAny_Name (wpAny_loadName_local I.ok.kind hk hn hm fin) hd
 ·rcases hk with hk | hk
  ·exact wpAny_Name (wpAny_loadName_cell I.ok.kind hk hc hcell fin) hd
  ·exact wpAny_Name (wpAny_loadName_free I.ok.kind hk hc hcell fin hcd) hd
theorem pe_int {i j pos}:PE X (.Constant (.int i) j pos) (tC (.int i)):=fun _ _ _ H _ I h=>wpAny_Constant_int ⟨.int i,H,I.tok _,⟨_,rfl⟩,h⟩
theorem pe_bl {b j pos}:PE X (.Constant (.bool b) j pos) (tC (.bl b)):=fun _ _ _ H _ I h=>Constant_bool ⟨.bl b,H,I,rfl,h⟩
theorem pe_non {j pos}:PE X (.Constant .none j pos) (tC .non):=fun _ _ _ H _ I h=>Constant_none ⟨.non,H,I,rfl,h⟩
theorem pe_str {x j pos}:PE X (.Constant (.str x) j pos) (tC (.str x)):=fun _ _ _ H _ I h=>Calls.Constant_str ⟨.str x,H,I.tok _,⟨_,rfl⟩,h⟩
def Gl (X:Cx) (x:Str):Prop:=X.env.kindOf x=some .globalImplicit
theorem ld_glob {E:Value→Shared→Prop} {pins:List (Addr×Obj)} {s:Shared} {σ:St} {H:Hp} {x:Str} {u:Value} {pos:Pos} {Q:Value→Shared→Prop} (I:Inv X pins σ H s) (hg:Gl X x) (hm:X.mg x=some u) (h:Q u s)
  (hd:(x == ("__debug__" : Str))=false:=by decide):wpAny (model X.prog X.w) X.A (eval (.Name x pos) X.env) Q E s :=
 Calls.Name_function_global I.ok.kind hg (Calls.loadGlobal_global (by rw [I.ok.glob];exact I.mod.glob.keeps I.bk) hm h) hd
theorem ld_blt {E:Value→Shared→Prop} {pins:List (Addr×Obj)} {s:Shared} {σ:St} {H:Hp} {x:Str} {u:Value} {pos:Pos} {Q:Value→Shared→Prop} (I:Inv X pins σ H s) (hg:Gl X x) (hm:X.mg x=none) (hv:bootBuiltins x=some u) (h:Q u s)
  (hn:x ≠ "__name__" := by decide) (hd:(x == ("__debug__" : Str))=false:=by decide):wpAny (model X.prog X.w) X.A (eval (.Name x pos) X.env) Q E s:=by
 obtain ⟨mb,h1,h2⟩:=I.mod.blt
 exact Calls.Name_function_global I.ok.kind hg (Calls.loadGlobal_builtin (by rw [I.ok.glob];exact I.mod.glob.keeps I.bk) hm (by rw [I.ok.blt];exact h1.keeps I.bk) ((h2 x hn).trans hv) h) hd
theorem pe_glob {x:Str} {v:V} {u:Value} {pos:Pos} (hg:Gl X x) (hm:X.mg x=some u) (r:RelV v u) (hd:(x == ("__debug__" : Str))=false:=by decide):PE X (.Name x pos) (tC v) :=
 fun _ _ _ H _ I h=>ld_glob I hg hm ⟨v,H,I,r,h⟩ hd
theorem pe_bltn {x:Str} {v:V} {u:Value} {pos:Pos} (hg:Gl X x) (hm:X.mg x=none) (hv:bootBuiltins x=some u) (r:RelV v u) (hn:x ≠ "__name__" := by decide) (hd:(x == ("__debug__" : Str))=false:=by decide):PE X (.Name x pos) (tC v) :=
 fun _ _ _ H _ I h=>ld_blt I hg hm hv ⟨v,H,I,r,h⟩ hn hd
variable {a b:Expr} {ta tb:TE} {pos:Pos}
def PC (X:Cx) (op:CmpOp) (a b:Expr) (t:TE):Prop :=
 ∀(pins:List (Addr×Obj)) (s:Shared) (σ:St) (H:Hp) (Q:VK),Inv X pins σ H s→t σ H Q →
  wpAny (model X.prog X.w) X.A (eval a X.env) (fun v s₁=>wpAny (model X.prog X.w) X.A (eval b X.env) (fun u s₂=>wpAny (model X.prog X.w) X.A (compareOp op v u) (EP X pins σ Q) X.xe s₂) X.xe s₁) X.xe s
def tB (t:TE):TT:=fun σ H Q=>t σ H fun x H1=>∃c,x=.bl c∧Q c H1
theorem pt_cmp {op:CmpOp} {t:TE} (h:PC X op a b t) (h1:behindInMarks op b=false:=by first | exact nobehind _ (by decide) (by decide) | rfl):PT X (.Compare a [op] [b] pos) (tB t):=by
 intro pins s σ H Q I hw
 refine wpAny_isTrue_Compare1 (thn (h pins s σ H _ I hw) fun v s1 h1=>thn h1 fun u s2 h2=>thn h2 fun c s3 ⟨x,H1,I1,r1,q1⟩=>?_) h1
 obtain ⟨d,rfl,q⟩:=q1
 cases r1
 exact wpAny_truthy_bool ⟨H1,I1,q⟩
theorem pt_val {e:Expr} {t:TE} (h:PE X e t) (he:∀whole,isTrue e X.env whole=(do let v ← whole;standAt e.pos;holding [v] (truthy v)):=by intro _;rfl):PT X e (tB t):=by
 intro pins s σ H Q I hw
 refine isTrue_plain (thn (h pins s σ H _ I hw) fun v s1 ⟨x,H1,I1,r1,q1⟩=>?_) (he _)
 obtain ⟨d,rfl,q⟩:=q1
 cases r1
 exact wpAny_truthy_bool ⟨H1,I1,q⟩
variable {tA tB':TT} {rest:List Expr}
def tAnd (t u:TT):TT:=fun σ H Q=>t σ H fun c H1=>if c=true then u σ H1 Q else Q false H1
def tOr (t u:TT):TT:=fun σ H Q=>t σ H fun c H1=>if c=true then Q true H1 else u σ H1 Q
def tNot (t:TT):TT:=fun σ H Q=>t σ H fun c H1=>Q (!c) H1
theorem pw_and1 (ha:PT X a tA):PW X (.BoolOp .And [a] pos) tA:=by
 intro wh pins s σ H Q I h
 refine isTrue_and (thn (ha pins s σ H Q I h) fun c s1 e=>?_)
 cases c with
 | true=>exact isTrue_and_nil e
 | false=>exact e
theorem pw_or1 (ha:PT X a tA):PW X (.BoolOp .Or [a] pos) tA:=by
 intro wh pins s σ H Q I h
 refine isTrue_or (thn (ha pins s σ H Q I h) fun c s1 e=>?_)
 cases c with
 | false=>exact isTrue_or_nil e
 | true=>exact e
theorem pw_and (ha:PT X a tA) (hb:PW X (.BoolOp .And (b::rest) pos) tB'):PW X (.BoolOp .And (a::b::rest) pos) (tAnd tA tB'):=by
 intro wh pins s σ H Q I h
 refine isTrue_and (thn (ha pins s σ H _ I h) fun c s1 ⟨H1,I1,q1⟩=>?_)
 cases c with
 | true=>exact hb wh pins s1 σ H1 Q I1 q1
 | false=>exact ⟨H1,I1,q1⟩
theorem pw_or (ha:PT X a tA) (hb:PW X (.BoolOp .Or (b::rest) pos) tB'):PW X (.BoolOp .Or (a::b::rest) pos) (tOr tA tB'):=by
 intro wh pins s σ H Q I h
 refine isTrue_or (thn (ha pins s σ H _ I h) fun c s1 ⟨H1,I1,q1⟩=>?_)
 cases c with
 | true=>exact ⟨H1,I1,q1⟩
 | false=>exact hb wh pins s1 σ H1 Q I1 q1
theorem pt_not (ha:PT X a tA):PT X (.UnaryOp .Not a pos) (tNot tA):=by
 intro pins s σ H Q I h
 exact isTrue_not (ha pins s σ H (fun c H1=>Q (!c) H1) I h)
def tAndV (ta tb:TE):TE:=fun σ H Q=>ta σ H fun x H1=>∃c,x=.bl c∧if c=true then tb σ H1 Q else Q (.bl false) H1
def tNotV (ta:TE):TE:=fun σ H Q=>ta σ H fun x H1=>∃c,x=.bl c∧Q (.bl (!c)) H1
theorem pe_one {op} {t:TE} (h:PE X a t):PE X (.BoolOp op [a] pos) t:=fun pins s σ H Q I hw=>BoolOp_one (h pins s σ H Q I hw)
theorem pe_and (ha:PE X a ta) (hb:PE X (.BoolOp .And (b::rest) pos) tb):PE X (.BoolOp .And (a::b::rest) pos) (tAndV ta tb):=by
 intro pins s σ H Q I h
 refine BoolOp_and (thn (ha pins s σ H _ I h) fun v s1 ⟨x,H1,I1,r1,q1⟩=>?_)
 obtain ⟨c,rfl,q1⟩:=q1
 cases r1
 refine wpAny_truthy_bool ?_
 cases c with
 | true=>exact hb pins s1 σ H1 Q I1 q1
 | false=>exact ⟨.bl false,H1,I1,rfl,q1⟩
theorem pe_not (ha:PE X a ta):PE X (.UnaryOp .Not a pos) (tNotV ta):=by
 intro pins s σ H Q I h
 refine UnaryOp_ (thn (ha pins s σ H _ I h) fun v s1 ⟨x,H1,I1,r1,q1⟩=>?_)
 obtain ⟨c,rfl,q1⟩:=q1
 cases r1
 exact not_of (wpAny_truthy_bool ⟨.bl (!c),H1,I1,rfl,q1⟩)
def tIf (t:TT) (ta tb:TE):TE:=fun σ H Q=>t σ H fun c H1=>if c=true then ta σ H1 Q else tb σ H1 Q
theorem pe_ifExp {c:Expr} (hc:PT X c tA) (ha:PE X a ta) (hb:PE X b tb):PE X (.IfExp c a b pos) (tIf tA ta tb):=by
 intro pins s σ H Q I h
 refine wpAny_IfExp (thn (hc pins s σ H _ I h) fun d s1 ⟨H1,I1,q1⟩=>?_)
 cases d with
 | true=>exact ha pins s1 σ H1 Q I1 q1
 | false=>exact hb pins s1 σ H1 Q I1 q1
end
def SqL (K:W.Frag) (H:Hp) (a:Addr) (xs:List V):Prop :=
 Rd H a (.lst xs) ∨
  ∃(o:Obj) (its:Array Value) (n:Nat),K.lookup a=some o∧o.cls=.type "list" ∧ o.dict=none∧o.data=.seq its n∧its.size≤sizeLine∧Vals xs its.toList
def SqT (K:W.Frag) (H:Hp) (a:Addr) (xs:List V):Prop :=
 Rd H a (.tup xs) ∨
  ∃(o:Obj) (its:Array Value) (n:Nat),K.lookup a=some o∧o.cls=.type "tuple" ∧ o.data=.seq its n∧its.size≤sizeLine∧Vals xs its.toList
def absV:Value→Option V
 | .none=>some .non
 | .bool b=>some (.bl b)
 | .int i _=>some (.int i)
 | .str x _=>some (.str x)
 | .bytes b _=>some (.byt b)
 | .float b _=>some (.flt b)
 | .ref a=>some (.ref a)
 | .type n=>some (.ty n)
 | _=>none
theorem RelV.abs {x:V} {u:Value} (r:RelV x u):absV u=some x:=by
 cases x with
 | non=>cases r;rfl
 | bl _=>cases r;rfl
 | int _=>obtain ⟨t,rfl⟩:=r;rfl
 | str _=>obtain ⟨t,rfl⟩:=r;rfl
 | byt _=>obtain ⟨t,rfl⟩:=r;rfl
 | flt _=>obtain ⟨t,rfl⟩:=r;rfl
 | ref _=>cases r;rfl
 | ty _=>cases r;rfl
theorem RelV.inj {x y:V} {u:Value} (r:RelV x u) (q:RelV y u):x=y:=Option.some.inj (r.abs.symm.trans q.abs)
theorem Vals.inj:∀{xs ys:List V} {us:List Value},Vals xs us→Vals ys us→xs=ys
 | _,_,_,.nil,.nil=>rfl
 | _,_,_,.cons r t,.cons r' t'=>by rw [r.inj r',Vals.inj t t']
section
variable {X:Cx} {pins:List (Addr×Obj)} {σ:St} {H:Hp} {s:Shared} {a:Addr} {xs ys:List V}
theorem SqL.of {K:W.Frag} (h:H a=some (.lst xs)):SqL K H a xs:=.inl (.inl h)
theorem SqT.of {K:W.Frag} (h:H a=some (.tup xs)):SqT K H a xs:=.inl (.inl h)
theorem Inv.list (I:Inv X pins σ H s) (h:SqL X.K H a xs):∃its:List Value,Vals xs its∧PlainL s.heap a its.toArray∧xs.length≤sizeLine:=by
 rcases h with h | ⟨o,its,n,hk,hc,hd,hs,hz,r⟩
 ·obtain ⟨z,its,n,r,e⟩:=h.ok I.hok
  exact ⟨its,r,⟨_,n,e,rfl,rfl,rfl⟩,z⟩
 ·refine ⟨its.toList,r,⟨o,n,I.kIn a o hk,hc,hd,by simpa using hs⟩,?_⟩
  have e:=r.length
  simp only [Array.length_toList] at e
  lia
theorem Inv.tuple (I:Inv X pins σ H s) (h:SqT X.K H a xs):∃its:List Value,Vals xs its∧IsTup s.heap a its.toArray∧xs.length≤sizeLine:=by
 rcases h with h | ⟨o,its,n,hk,hc,hs,hz,r⟩
 ·obtain ⟨z,its,r,p⟩:=h.ok I.hok
  exact ⟨its,r,p,z⟩
 ·refine ⟨its.toList,r,⟨o,I.kIn a o hk,hc,n,by simpa using hs⟩,?_⟩
  have e:=r.length
  simp only [Array.length_toList] at e
  lia
theorem Inv.list_inj (I:Inv X pins σ H s) (h:SqL X.K H a xs) (h':SqL X.K H a ys):xs=ys:=by
 obtain ⟨its,r,⟨o,n,e,_,_,d⟩,_⟩:=I.list h
 obtain ⟨its',r',⟨o',n',e',_,_,d'⟩,_⟩:=I.list h'
 rw [e] at e';cases e'
 rw [d] at d'
 injection d' with d1 _
 have:its=its':=by simpa using congrArg Array.toList d1
 subst this
 exact r.inj r'
end
abbrev Cx.wish (X:Cx) (E:Value→Shared→Prop):Cx:={ X with xe:=E }
abbrev Cx.nox (X:Cx):Cx:=X.wish fun _ _=>False
theorem Cx.Ok.wish {X:Cx} (ok:X.Ok) (E:Value→Shared→Prop):(X.wish E).Ok :=
 ⟨ok.mod,ok.kind,ok.glob,ok.blt,ok.above,ok.inj,ok.has,ok.cab,ok.hd,ok.frames,ok.stk,ok.exf,ok.bs,ok.bsz,ok.noex,ok.exfs,ok.funs,ok.frf⟩
theorem Cx.Ok.unwish {X:Cx} {E:Value→Shared→Prop} (ok:(X.wish E).Ok):X.Ok :=
 ⟨ok.mod,ok.kind,ok.glob,ok.blt,ok.above,ok.inj,ok.has,ok.cab,ok.hd,ok.frames,ok.stk,ok.exf,ok.bs,ok.bsz,ok.noex,ok.exfs,ok.funs,ok.frf⟩
section
variable {X:Cx} {pins:List (Addr×Obj)} {σ:St} {H:Hp} {s:Shared} {E:Value→Shared→Prop}
theorem Inv.wish (I:Inv X pins σ H s) (E:Value→Shared→Prop):Inv (X.wish E) pins σ H s:=⟨I.ok.wish E,I.os,I.bare,I.base,I.loc,I.cell,I.free,I.freeC,I.pin,I.hok,I.len⟩
theorem Inv.unwish (I:Inv (X.wish E) pins σ H s):Inv X pins σ H s:=⟨I.ok.unwish,I.os,I.bare,I.base,I.loc,I.cell,I.free,I.freeC,I.pin,I.hok,I.len⟩
theorem SP.unwish {D:Ends} {f:Flow} {s':Shared} (h:SP (X.wish E) pins D f s'):SP X pins D f s':=by
 cases f with
 | next=>obtain ⟨σ',H',I,q⟩:=h;exact ⟨σ',H',I.unwish,q⟩
 | brk=>obtain ⟨σ',H',I,q⟩:=h;exact ⟨σ',H',I.unwish,q⟩
 | cont=>obtain ⟨σ',H',I,q⟩:=h;exact ⟨σ',H',I.unwish,q⟩
 | ret u=>obtain ⟨v,σ',H',I,r,q⟩:=h;exact ⟨v,σ',H',I.unwish,r,q⟩
theorem PE.nox {e:Expr} {t:TE} (h:PE X.nox e t):PE X e t:=fun pins s σ H Q I hw =>
 wpAny_mono (h pins s σ H Q (I.wish _) hw) (fun _ _ ⟨v,H',I',r,q⟩=>⟨v,H',I'.unwish,r,q⟩) fun _ _ z=>False.elim z
theorem PT.nox {e:Expr} {t:TT} (h:PT X.nox e t):PT X e t:=fun pins s σ H Q I hw =>
 wpAny_mono (h pins s σ H Q (I.wish _) hw) (fun _ _ ⟨H',I',q⟩=>⟨H',I'.unwish,q⟩) fun _ _ z=>False.elim z
theorem PSs.nox {st:List Stmt} {t:TS} (h:PSs X.nox st t):PSs X st t:=fun pins s σ H D I hw =>
 wpAny_mono (h pins s σ H D (I.wish _) hw) (fun _ _ q=>q.unwish) fun _ _ z=>False.elim z
end
section
variable {X:Cx} {st:Stmt} {rest:List Stmt} {t u:TS} {e:Expr} {te:TE} {pos:Pos}
def tNext:TS:=fun D σ H=>D.nx σ H
def tSeq (t u:TS):TS:=fun D σ H=>t { D with nx:=u D } σ H
theorem pss_nil:PSs X [] tNext:=fun _ _ σ H _ I h=>wpAny_execs_nil ⟨σ,H,I,h⟩
theorem pss_cons (h1:PS X st t) (h2:PSs X rest u):PSs X (st::rest) (tSeq t u):=by
 intro pins s σ H D I h
 refine wpAny_execs_cons (thn (h1 pins s σ H { D with nx:=u D } I h) fun f s1 q=>?_)
 cases f with
 | next =>
  obtain ⟨σ',H',I',q⟩:=q
  exact h2 pins s1 σ' H' D I' q
 | ret v=>exact q
 | brk=>exact q
 | cont=>exact q
theorem pss_one (h1:PS X st t):PSs X [st] t:=by
 intro pins s σ H D I h
 refine wpAny_execs_cons (thn (h1 pins s σ H D I h) fun f s1 q=>?_)
 cases f with
 | next=>exact wpAny_execs_nil q
 | ret v=>exact q
 | brk=>exact q
 | cont=>exact q
theorem Inv.quiet {pins:List (Addr×Obj)} {σ:St} {H:Hp} {s:Shared} (I:Inv X pins σ H s):interactive X.env=false:=by simp [interactive,I.ok.kind]
def tDrop (te:TE):TS:=fun D σ H=>te σ H fun _ H1=>D.nx σ H1
theorem ps_expr (he:PE X e te) (hs:swapsWith e none pos.line X.env=pure false:=by rfl):PS X (.Expr e pos) (tDrop te):=by
 intro pins s σ H D I h
 exact wpAny_Expr_any (thn (he pins s σ H _ I h) fun v s1 ⟨x,H1,I1,r1,q1⟩=>⟨σ,H1,I1,q1⟩) I.quiet hs
def tRet (te:TE):TS:=fun D σ H=>te σ H D.rt
theorem ps_ret (he:PE X e te):PS X (.Return (some e) pos) (tRet te):=by
 intro pins s σ H D I h
 exact wpAny_Return_some (thn (he pins s σ H _ I h) fun v s1 ⟨x,H1,I1,r1,q1⟩=>⟨x,σ,H1,I1,r1,q1⟩)
def tIfS (c:TT) (t u:TS):TS:=fun D σ H=>c σ H fun b H1=>if b=true then t D σ H1 else u D σ H1
theorem ps_if {c:Expr} {a b:List Stmt} {tc:TT} (hc:PT X c tc) (ha:PSs X a t) (hb:PSs X b u):PS X (.If c a b pos) (tIfS tc t u):=by
 intro pins s σ H D I h
 refine wpAny_If (thn (hc pins s σ H _ I h) fun d s1 ⟨H1,I1,q1⟩=>?_)
 cases d with
 | true=>exact ha pins s1 σ H1 D I1 q1
 | false=>exact hb pins s1 σ H1 D I1 q1
def tNever:TS:=fun _ _ _=>False
theorem pss_never {sts:List Stmt}:PSs X sts tNever:=fun _ _ _ _ _ _ h=>h.elim
end
abbrev TG:=V→St→Hp→(St→Hp→Prop)→Prop
abbrev TGs:=List V→St→Hp→(St→Hp→Prop)→Prop
def PG (X:Cx) (target:Expr) (t:TG):Prop :=
 ∀(pins:List (Addr×Obj)) (s:Shared) (σ:St) (H:Hp) (v:V) (u:Value) (Q:St→Hp→Prop),Inv X pins σ H s→RelV v u→t v σ H Q →
  wpAny (model X.prog X.w) X.A (assign target X.env u) (fun _ s'=>∃σ' H',Inv X pins σ' H' s'∧Q σ' H') X.xe s
def PGs (X:Cx) (ts:List Expr) (t:TGs):Prop :=
 ∀(pins:List (Addr×Obj)) (s:Shared) (σ:St) (H:Hp) (vs:List V) (us:List Value) (Q:St→Hp→Prop),Inv X pins σ H s→Vals vs us→t vs σ H Q →
  wpAny (model X.prog X.w) X.A (assignInOrder ((assignEach ts X.env).map (·.2)) us) (fun _ s'=>∃σ' H',Inv X pins σ' H' s'∧Q σ' H') X.xe s
abbrev TSet:=V→V→V→Hp→(Hp→Prop)→Prop
def PSet (X:Cx) (t:TSet):Prop :=
 ∀(pins:List (Addr×Obj)) (s:Shared) (σ:St) (H:Hp) (o i v:V) (ov iv u:Value) (Q:Hp→Prop),Inv X pins σ H s→RelV o ov→RelV i iv→RelV v u→t o i v H Q →
  wpAny (model X.prog X.w) X.A (setItem ov iv u) (fun _ s'=>∃H',Inv X pins σ H' s'∧Q H') X.xe s
section
variable {X:Cx} {pos:Pos}
def gName (i:Nat):TG:=fun v σ H Q=>Q (σ.set i (some v)) H
theorem pg_name {i:Nat} {x:Str} (hN:X.N.Nodup) (hi:X.N[i]?=some x) (hx:Loc X.env.scope x) (hf:X.fn x=true∨X.env.scope.names.lookup x=some .local:=by first | exact .inl rfl | exact .inr rfl | assumption):PG X (.Name x pos) (gName i):=by
 intro pins s σ H v u Q I r h
 exact wpAny_assign_Name (store_ok I hN hi hx r (fun s' I'=>⟨_,H,I',h⟩) hf)
def gNil:TGs:=fun vs σ H Q=>vs=[]∧Q σ H
def gCons (t:TG) (u:TGs):TGs:=fun vs σ H Q=>∃v r,vs=v::r∧t v σ H fun σ' H'=>u r σ' H' Q
theorem pgs_nil:PGs X [] gNil:=by
 intro pins s σ H vs us Q I r h
 obtain ⟨e,h⟩:=h
 subst e
 cases r
 exact assignInOrder_nil ⟨σ,H,I,h⟩
theorem pgs_cons {e:Expr} {es:List Expr} {t:TG} {u:TGs} (h1:PG X e t) (h2:PGs X es u)
  (hs:(assignEach (e::es) X.env).map (·.2)=assign e X.env::(assignEach es X.env).map (·.2):=by rfl):PGs X (e::es) (gCons t u):=by
 intro pins s σ H vs us Q I r h
 obtain ⟨v,vr,e1,h⟩:=h
 subst e1
 cases r with
 | cons r rr =>
  rw [hs]
  refine assignInOrder_cons (thn (h1 pins s σ H _ _ _ I r h) fun _ s1 ⟨σ1,H1,I1,q1⟩=>?_)
  exact h2 pins s1 σ1 H1 _ _ Q I1 rr q1
def gTup (K:W.Frag) (n:Nat) (t:TGs):TG:=fun v σ H Q=>∃a xs,v=.ref a∧SqT K H a xs∧xs.length=n∧t xs σ H Q
theorem pg_tup {es:List Expr} {k:Nat} {t:TGs} {n:Nat} (hc:X.calm=true) (h:PGs X es t)
  (hn:(assignEach es X.env).length=n:=by rfl) (hst:(assignEach es X.env).findIdx? (·.1)=none:=by rfl):PG X (.Tuple es k pos) (gTup X.K n t):=by
 intro pins s σ H v u Q I r hw
 obtain ⟨a,xs,e1,hq,hl,hw⟩:=hw
 subst e1
 cases r
 obtain ⟨its,rv,ht,hz⟩:=I.tuple hq
 refine assign_Tuple_tuple (I.ok.hd hc) ht (by simp [hn,← hl,rv.length]) hst fun h' hx=>?_
 have I1:Inv X pins σ H { s with heap:=h' }:=I.kept (t':=s.toks) fun b o e=>hx b o (Nat.ne_of_lt (Heap.lt_size e)) e
 exact h pins _ σ H xs _ Q I1 (by simpa using rv) hw
def gSub (to ti:TE) (t:TSet):TG:=fun v σ H Q=>to σ H fun o H1=>ti σ H1 fun i H2=>t o i v H2 fun H3=>Q σ H3
theorem pg_sub {o i:Expr} {to ti:TE} {t:TSet} (ho:PE X o to) (hi:PE X i ti) (hs:PSet X t)
  (ha:∀v,assign (.Subscript o i pos) X.env v=(do
   let ov ← holding [v] (eval o X.env)
   let iv ← holding [v,ov] (eval i X.env)
   standAt pos
   holding [v,ov,iv] (setItem ov iv v)
   release [v,ov,iv] []):=by intro _;rfl):PG X (.Subscript o i pos) (gSub to ti t):=by
 intro pins s σ H v u Q I r h
 rw [ha]
 refine wpAny_bind (wpAny_holding (thn (ho pins s σ H _ I h) fun ov s1 ⟨x,H1,I1,r1,q1⟩=>?_))
 refine wpAny_bind (wpAny_holding (thn (hi pins s1 σ H1 _ I1 q1) fun iv s2 ⟨y,H2,I2,r2,q2⟩=>?_))
 refine wpAny_bind (wpAny_standAt (wpAny_bind (wpAny_holding (thn (hs pins s2 σ H2 x y v ov iv u _ I2 r1 r2 r q2) fun _ s3 ⟨H3,I3,q3⟩=>?_))))
 exact wpAny_release ⟨σ,H3,I3,q3⟩
def tAsg (te:TE) (g:TG):TS:=fun D σ H=>te σ H fun x H1=>g x σ H1 D.nx
theorem ps_asg {tg e:Expr} {te:TE} {g:TG} (he:PE X e te) (hg:PG X tg g) (hs:swapsWithSole [tg] e pos.line X.env=pure false:=by rfl) (hw:swappedStores [tg] e X.env=pure none:=by rfl)
  (h1:(assignEach [tg] X.env).map (·.2)=[assign tg X.env]:=by rfl):PS X (.Assign [tg] e pos) (tAsg te g):=by
 intro pins s σ H D I h
 refine wpAny_Assign_stores (thn (he pins s σ H _ I h) fun v s1 ⟨x,H1,I1,r1,q1⟩=>?_) hs hw
 rw [h1]
 exact thn (hg pins s1 σ H1 x v _ I1 r1 q1) fun _ s2 q=>q
theorem ps_set {i:Nat} {x:Str} {e:Expr} {te:TE} {pos':Pos} (hN:X.N.Nodup) (hi:X.N[i]?=some x) (hx:Loc X.env.scope x) (he:PE X e te) (hs:swapsWith e (some (.Name x pos')) pos.line X.env=pure false:=by rfl) (hf:X.fn x=true∨X.env.scope.names.lookup x=some .local:=by first | exact .inl rfl | exact .inr rfl | assumption) :
  PS X (.Assign [.Name x pos'] e pos) (tAsg te (gName i)):=by
 intro pins s σ H D I h
 refine wpAny_Assign_Name (thn (he pins s σ H _ I h) fun v s1 ⟨y,H1,I1,r1,q1⟩=>?_) hs
 exact store_ok I1 hN hi hx r1 (fun s2 I2=>⟨_,H1,I2,q1⟩) hf
end
section
variable {X:Cx} {pos:Pos}
def tWhile (c:TT) (tb:TS):TS:=fun D σ H=>∃W:Nat→St→Hp→Prop,(∃m,W m σ H)∧∀m σ H,W m σ H →
 c σ H fun b H1=>if b=true then ∃N:St→Hp→Prop,(∀σ' H',N σ' H'→∃m',m' < m∧W m' σ' H')∧tb { D with nx:=N,ct:=N,bk:=D.nx } σ H1 else D.nx σ H1
theorem ps_while {c:Expr} {body:List Stmt} {tc:TT} {tb:TS} (hp:PassesOwn (model X.prog X.w) X.A X.env X.xe) (hc:PT X c tc) (hb:PSs X body tb):PS X (.While c body [] pos) (tWhile tc tb):=by
 intro pins s σ H D I h
 obtain ⟨W,⟨m0,w0⟩,turn⟩:=h
 refine wpAny_While (codeAny_whileLoop (fun n s'=>∃σ' H',Inv X pins σ' H' s'∧W n σ' H') ?_ m0 ⟨σ,H,I,w0⟩)
 rintro n s1 ⟨σ1,H1,I1,w1⟩
 refine wpAny_passesOwn hp (thn (hc pins s1 σ1 H1 _ I1 (turn n σ1 H1 w1)) fun b s2 ⟨H2,I2,q2⟩=>?_)
 cases b with
 | true =>
  obtain ⟨N,hN,q2⟩:=q2
  rw [if_pos rfl]
  refine wpAny_passesOwn hp (thn (hb pins s2 σ1 H2 _ I2 q2) fun f s3 q3=>?_)
  cases f with
  | next =>
   obtain ⟨σ3,H3,I3,n3⟩:=q3
   obtain ⟨m',hm,w3⟩:=hN σ3 H3 n3
   exact ⟨m',hm,σ3,H3,I3,w3⟩
  | cont =>
   obtain ⟨σ3,H3,I3,n3⟩:=q3
   obtain ⟨m',hm,w3⟩:=hN σ3 H3 n3
   exact ⟨m',hm,σ3,H3,I3,w3⟩
  | brk=>exact q3
  | ret v=>exact q3
 | false =>
  rw [if_neg Bool.false_ne_true]
  exact wpAny_execs_nil ⟨σ1,H2,I2,q2⟩
end
structure It where
 go:Nat→Hp→Prop
 yld:Nat→Hp→V→Hp→Prop
 stop:Nat→Hp→Prop
def FpOk (X:Cx) (pins:List (Addr×Obj)) (H:Hp) (b:Addr):Prop :=
 H b=none∧b≠X.env.locals∧b ∉ X.fs∧(b∈X.ex∨X.s₀.heap.objs.size≤b)∧(∀x c,X.env.cells.lookup x=some c→c≠b)∧∀p∈X.pn++pins,p.1≠b
theorem Inv.fpOk {X:Cx} {pins:List (Addr×Obj)} {σ:St} {H H':Hp} {s:Shared} {b:Addr} (I:Inv X pins σ H s) (hb:s.heap.objs.size≤b) (hn:H' b=none):FpOk X pins H' b:=by
 refine ⟨hn,Nat.ne_of_gt (Nat.lt_of_lt_of_le I.lt hb),I.nofs hb,.inr (Nat.le_trans I.sz hb),fun x c e z=>?_,fun p hp z=>?_⟩
 ·obtain ⟨v,q⟩:=I.cell x c e
  exact absurd (Nat.lt_of_lt_of_le q.lt (by rw [z];exact hb)) (Nat.lt_irrefl _)
 ·exact absurd (Nat.lt_of_lt_of_le (Heap.lt_size (I.pin p hp).1) (by rw [z];exact hb)) (Nat.lt_irrefl _)
structure Turn (P:Program) (w:World) (K:W.Frag) (tg:Expr) (J:It) (fp:List Addr) (it:Addr) (tn:Nat→Heap→Prop):Prop where
 mem:it∈fp
 obj:∀i h,tn i h→∀b∈fp,∃o,h.get? b=some o∧∀v,o.data≠.cell v
 keep:∀i h h',tn i h→(∀b∈fp,∀o,h.get? b=some o→h'.get? b=some o)→tn i h'
 item:∀(X:Cx),X.prog=P→X.w=w→X.K=K→X.calm=true→∀(i:Nat) (pins:List (Addr×Obj)) (s:Shared) (σ:St) (H:Hp) (E:Value→Shared→Prop),Inv X pins σ H s→(∀b∈fp,FpOk X pins H b)→tn i s.heap→J.go i H →
  wpAny (model P w) X.A (pyNext (.ref it)) (fun r s1=>∃u,r=some u ∧
   wpAny (model P w) X.A (letOwnedTupleGo tg (.ref it) u) (fun _ s2=>∃x H',Inv X pins σ H' s2∧RelV x u∧J.yld i H x H'∧tn (i + 1) s2.heap∧∀b∈fp,H' b=none) E s1) E s
 done:∀(X:Cx),X.prog=P→X.w=w→X.K=K→X.calm=true→∀(i:Nat) (pins:List (Addr×Obj)) (s:Shared) (σ:St) (H:Hp) (E:Value→Shared→Prop),Inv X pins σ H s→(∀b∈fp,FpOk X pins H b)→tn i s.heap→J.stop i H →
  wpAny (model P w) X.A (pyNext (.ref it)) (fun r s1=>r=none∧Inv X pins σ H s1) E s
 self:∀(A:Around) (i:Nat) (s:Shared) (Q:Value→Shared→Prop) (E:Value→Shared→Prop),tn i s.heap→Q (.ref it) s→wpAny (model P w) A (pyIter (.ref it)) Q E s
abbrev TI:=St→Hp→(It→Hp→Prop)→Prop
def PIE (X:Cx) (pins:List (Addr×Obj)) (σ:St) (tg:Expr) (R:It→Hp→Prop) (itv:Value) (s2:Shared):Prop :=
 ∃(it:Addr) (fp:List Addr) (tn:Nat→Heap→Prop) (J:It) (H':Hp),itv=.ref it∧Inv X pins σ H' s2∧Turn X.prog X.w X.K tg J fp it tn∧tn 0 s2.heap∧(∀b∈fp,FpOk X pins H' b)∧R J H'
def PI (X:Cx) (tg iter:Expr) (wi:TI):Prop :=
 ∀(pins:List (Addr×Obj)) (s:Shared) (σ:St) (H:Hp) (R:It→Hp→Prop),Inv X pins σ H s→wi σ H R →
  wpAny (model X.prog X.w) X.A (eval iter X.env) (fun v s1=>wpAny (model X.prog X.w) X.A (pyIter v) (PIE X pins σ tg R) X.xe s1) X.xe s
theorem go_of {M:Model} {A:Around} {E:Value→Shared→Prop} {s:Shared} {tg:Expr} {it:Addr} {u:Value} {o:Obj} {n:String} {vs:Array Value} {Q:Unit→Shared→Prop} (ho:s.heap.get? it=some o) (hc:o.cls=.type n) (hd:o.data=.fields vs)
  (hn:["enumerate", "zip", "dict_itemiterator", "dict_reverseitemiterator", "odict_iterator", "itertools.zip_longest", "itertools.pairwise"].contains n=false) (hQ:Q () s):wpAny M A (letOwnedTupleGo tg (.ref it) u) Q E s:=by
 unfold letOwnedTupleGo
 cases tg <;> first
  | exact wpAny_pure hQ
  | (cases u <;> first
    | exact wpAny_pure hQ
    | (refine wpAny_bind (wpAny_load ho ?_)
       rw [hc,hd]
       show wpAny M A (if (["enumerate", "zip", "dict_itemiterator", "dict_reverseitemiterator", "odict_iterator", "itertools.zip_longest", "itertools.pairwise"].contains n && vs[0]? == some (rawInt _))=true then _ else _) Q E s
       rw [if_neg (by intro h;rw [hn,Bool.false_and] at h;cases h)]
       exact wpAny_pure hQ))
def Itl (K:W.Frag) (a:Addr):It :=
 ⟨fun i H=>∃xs x,SqL K H a xs∧xs[i]?=some x,fun i H x H'=>H'=H∧∀xs,SqL K H a xs→xs[i]?=some x,fun i H=>∃xs,SqL K H a xs∧xs.length≤i⟩
def Itr (lo:Int) (n:Nat):It:=⟨fun i _=>i < n,fun i H x H'=>H'=H∧x=.int (lo + i),fun i _=>n≤i⟩
theorem turn_list {P:Program} {w:World} {K:W.Frag} {tg:Expr} (a it:Addr):Turn P w K tg (Itl K a) [it] it (fun i h=>h.IsListIter it a i) where
 mem:=by simp
 obj:=fun i h st b hb=>by
  have e:b=it:=by simpa using hb
  subst e
  obtain ⟨o,e,c,d⟩:=st
  exact ⟨o,e,fun v z=>by rw [d] at z;cases z⟩
 keep:=fun i h h' st k=>st.at fun o e=>k it (by simp) o e
 item:=by
  intro X hP hw hK hc i pins s σ H E I hf st hg
  subst hP hw hK
  obtain ⟨xs,x,hq,hx⟩:=hg
  obtain ⟨its,rv,p,hz⟩:=I.list hq
  obtain ⟨u,hu,ru⟩:=rv.get hx
  obtain ⟨f0,f1,f2,f3,f4,f5⟩:=hf it (by simp)
  refine wpAny_pyNext_list_item st p.isList (x:=u) (by simpa using hu) fun h' st' sb=>?_
  have I1:Inv X pins σ H { s with heap:=h' }:=I.turned (t':=s.toks) (fun b o hb e=>(sb.2 b hb).trans e) f0 f1 f3 f4 f5
  obtain ⟨o,e,c,d⟩:=id st'
  exact ⟨u,rfl,go_of (s:={ s with heap:=h' }) e c d (by decide) ⟨x,H,I1,ru,⟨rfl,fun ys hy=>by rw [I.list_inj hy hq];exact hx⟩,st',fun b hb=>(hf b hb).1⟩⟩
 done:=by
  intro X hP hw hK hc i pins s σ H E I hf st hg
  subst hP hw hK
  obtain ⟨xs,hq,hx⟩:=hg
  obtain ⟨its,rv,p,hz⟩:=I.list hq
  obtain ⟨f0,f1,f2,f3,f4,f5⟩:=hf it (by simp)
  have hl:=rv.length
  exact wpAny_pyNext_list_end (I.ok.hd hc) st p.isList (by simp;lia) fun h' eb=>⟨rfl,I.turned (t':=s.toks) (fun b o hb e=>eb b o hb e) f0 f1 f3 f4 f5⟩
 self:=fun _ _ _ _ _ st h=>wpAny_pyIter_listiter st h
theorem turn_range {P:Program} {w:World} {K:PySem.W.Frag} {tg:Expr} (it:Addr) (lo:Int) (n:Nat):Turn P w K tg (Itr lo n) [it] it (fun i h=>IsRangeIter h it (lo + (i:Nat) * 1) ((n:Int) - (i:Nat)) 1) where
 mem:=by simp
 obj:=fun i h st b hb=>by
  have e:b=it:=by simpa using hb
  subst e
  exact ⟨_,st,fun v z=>by
   have z':Data.fields _=Data.cell v:=z
   cases z'⟩
 keep:=fun i h h' st k=>k it (by simp) _ st
 item:=by
  intro X hP hw hK hc i pins s σ H E I hf st hg
  subst hP hw hK
  obtain ⟨f0,f1,f2,f3,f4,f5⟩:=hf it (by simp)
  have W:=Walks.range (prog:=X.prog) (w:=X.w) (I.ok.hd hc) it lo 1 n
  refine W.item i s _ _ hg st fun v h' tk hv st' kk=>?_
  obtain ⟨t,rfl⟩:=hv
  have I1:Inv X pins σ H { s with heap:=h',toks:=tk }:=I.turned (fun b o hb e=>kk b o (by simpa using hb) e) f0 f1 f3 f4 f5
  refine ⟨_,rfl,go_of (s:={ s with heap:=h',toks:=tk }) (n := "range_iterator") st' rfl rfl (by decide) ⟨.int (lo + i),H,I1,⟨t,?_⟩,⟨rfl,rfl⟩,st',fun b hb=>(hf b hb).1⟩⟩
  rw [Int.mul_one]
 done:=by
  intro X hP hw hK hc i pins s σ H E I hf st hg
  subst hP hw hK
  obtain ⟨f0,f1,f2,f3,f4,f5⟩:=hf it (by simp)
  exact wpAny_pyNext_range_end (I.ok.hd hc) st (by have:n≤i:=hg;lia) fun h' eb=>⟨rfl,I.turned (t':=s.toks) (fun b o hb e=>eb b o hb e) f0 f1 f3 f4 f5⟩
 self:=fun _ _ _ _ _ st h=>wpAny_pyIter_rangeiter st h
section
variable {X:Cx} {tg:Expr}
def iList (K:W.Frag) (tl:TE):TI:=fun σ H R=>tl σ H fun x H1=>∃a,x=.ref a∧(∃xs,SqL K H1 a xs)∧R (Itl K a) H1
theorem pi_list {l:Expr} {tl:TE} (hl:PE X l tl):PI X tg l (iList X.K tl):=by
 intro pins s σ H R I h
 refine thn (hl pins s σ H _ I h) fun v s1 ⟨x,H1,I1,r1,q1⟩=>?_
 obtain ⟨a,e,⟨xs,hq⟩,q⟩:=q1
 subst e
 cases r1
 obtain ⟨its,rv,p,hz⟩:=I1.list hq
 refine wpAny_pyIter_list p.isList ?_
 refine ⟨s1.heap.objs.size,[s1.heap.objs.size],_,_,H1,rfl,I1.kept (t':=s1.toks) fun b o e=>Heap.get?_push_of_some _ e,turn_list a _,⟨_,Heap.get?_push_size _ rfl,rfl,rfl⟩,fun b hb=>?_,q⟩
 have e:b=s1.heap.objs.size:=by simpa using hb
 subst e
 exact I1.fpOk (Nat.le_refl _) (I1.hok.fresh (Nat.le_refl _))
theorem range_it {pins:List (Addr×Obj)} {σ:St} {H:Hp} {s:Shared} {R:It→Hp→Prop} {E:Value→Shared→Prop} {lo hi:Int} {t u v:Tok} {tk:Nat} (I:Inv X pins σ H s) (h1:-(2 ^ 62)≤lo) (h2:lo < 2 ^ 62) (h3:-(2 ^ 62)≤hi) (h4:hi < 2 ^ 62)
  (q:R (Itr lo (hi - lo).toNat) H):wpAny (model X.prog X.w) X.A (pyIter (.ref s.heap.objs.size)) (PIE X pins σ tg R) E { s with heap:=s.heap.push { cls:=.type "range", data:=.fields #[.int lo t,.int hi u,.int 1 v] },toks:=tk }:=by
 refine wpAny_pyIter_range (IsRange.new ..) (small_one h1 h2 h3 h4) ?_
 have I1:Inv X pins σ H { s with heap:=s.heap.push { cls:=.type "range", data:=.fields #[.int lo t,.int hi u,.int 1 v] },toks:=tk }:=I.kept fun b o e=>Heap.get?_push_of_some _ e
 refine ⟨(s.heap.push { cls:=.type "range", data:=.fields #[.int lo t,.int hi u,.int 1 v] }).objs.size,[(s.heap.push { cls:=.type "range", data:=.fields #[.int lo t,.int hi u,.int 1 v] }).objs.size],_,_,H,rfl,
  I1.kept (t':=tk) fun b o e=>Heap.get?_push_of_some _ e,turn_range _ lo (hi - lo).toNat,?_,fun b hb=>?_,q⟩
 ·have e1:lo + ((0:Nat):Int) * 1=lo:=by simp
  have e2:(((hi - lo).toNat:Nat):Int) - ((0:Nat):Int)=Builtin.Range.rangeSize lo hi 1:=by rw [rangeSize_one];split <;> lia
  show IsRangeIter _ _ (lo + ((0:Nat):Int) * 1) ((((hi - lo).toNat:Nat):Int) - ((0:Nat):Int)) 1
  rw [e1,e2]
  exact Heap.get?_push_size _ rfl
 ·have e:b=(s.heap.push { cls:=.type "range", data:=.fields #[.int lo t,.int hi u,.int 1 v] }).objs.size:=by simpa using hb
  subst e
  exact I1.fpOk (Nat.le_refl _) (I1.hok.fresh (Nat.le_refl _))
def iRng1 (ta:TA):TI:=fun σ H R=>ta σ H fun vs H1=>∃j:Int,vs=[.int j]∧-(2 ^ 62)≤j∧j < 2 ^ 62∧R (Itr 0 j.toNat) H1
def iRng2 (ta:TA):TI:=fun σ H R=>ta σ H fun vs H1=>∃i j:Int,vs=[.int i,.int j]∧(-(2 ^ 62)≤i∧i < 2 ^ 62∧-(2 ^ 62)≤j∧j < 2 ^ 62)∧R (Itr i (j - i).toNat) H1
theorem pi_range1 {a:Expr} {ta:TA} {p pos:Pos} (hg:Gl X "range") (hm:X.mg "range" = none) (ha:PA X [a] ta) (hs:starEach [a] X.env=[(false,eval a X.env)]:=by rfl):PI X tg (.Call (.Name "range" p) [a] [] pos) (iRng1 ta):=by
 intro pins s σ H R I h
 refine Call_ (ld_blt I hg hm boot_range (PyProof.Rows.callWith_type1 (thn (ha pos pins s σ H _ I h) fun us s1 ⟨vs,H1,I1,r1,q1⟩=>?_) hs rfl))
 obtain ⟨j,e,q1,q2,q⟩:=q1
 subst e
 cases r1 with
 | cons r rr =>
  cases rr
  obtain ⟨t,rfl⟩:=r
  exact call_range_1 (range_it I1 (by lia) (by lia) q1 q2 (by simpa using q))
theorem pi_range2 {a b:Expr} {ta:TA} {p pos:Pos} (hg:Gl X "range") (hm:X.mg "range" = none) (ha:PA X [a,b] ta) (hs:starEach [a,b] X.env=[(false,eval a X.env),(false,eval b X.env)]:=by rfl) (hs2:starEach [b] X.env=[(false,eval b X.env)]:=by rfl) :
  PI X tg (.Call (.Name "range" p) [a,b] [] pos) (iRng2 ta):=by
 intro pins s σ H R I h
 refine Call_ (ld_blt I hg hm boot_range (PyProof.Rows.callWith_type1 (thn (ha pos pins s σ H _ I h) fun us s1 ⟨vs,H1,I1,r1,q1⟩=>?_) (by rw [hs,hs2]) (by rw [hs2];rfl)))
 obtain ⟨i,j,e,⟨q1,q2,q3,q4⟩,q⟩:=q1
 subst e
 cases r1 with
 | cons r rr =>
  cases rr with
  | cons r' rr =>
   cases rr
   obtain ⟨t,rfl⟩:=r
   obtain ⟨t',rfl⟩:=r'
   exact call_range_2 (range_it I1 q1 q2 q3 q4 q)
def tFor (wi:TI) (g:TG) (tb:TS):TS:=fun D σ H=>wi σ H fun J H1=>∃W:Nat→Nat→St→Hp→Prop,(∃m,W 0 m σ H1)∧∀i m σ H,W i m σ H →
 (J.stop i H∧D.nx σ H)∨(J.go i H∧∃N:St→Hp→Prop,(∀σ' H',N σ' H'→∃m',m' < m∧W (i + 1) m' σ' H')∧∀x H',J.yld i H x H'→g x σ H' fun σ2 H2=>tb { D with nx:=N,ct:=N,bk:=D.nx } σ2 H2)
def pinsAt (fp:List Addr) (h:Heap):List (Addr×Obj):=fp.filterMap fun b=>(h.get? b).map fun o=>(b,o)
theorem mem_pinsAt {fp:List Addr} {h:Heap} {b:Addr} {o:Obj} (hb:b∈fp) (e:h.get? b=some o):(b,o)∈pinsAt fp h:=List.mem_filterMap.mpr ⟨b,hb,by rw [e];rfl⟩
theorem of_pinsAt {fp:List Addr} {h:Heap} {p:Addr×Obj} (hp:p∈pinsAt fp h):p.1∈fp∧h.get? p.1=some p.2:=by
 obtain ⟨b,hb,e⟩:=List.mem_filterMap.mp hp
 cases q:h.get? b with
 | none=>rw [q] at e;cases e
 | some o =>
  rw [q] at e
  have e':(b,o)=p:=Option.some.inj e
  subst e'
  exact ⟨hb,q⟩
theorem Inv.pinned {pins:List (Addr×Obj)} {σ:St} {H:Hp} {s:Shared} {fp:List Addr} (I:Inv X pins σ H s) (hf:∀b∈fp,FpOk X pins H b) (ho:∀b∈fp,∃o,s.heap.get? b=some o∧∀v,o.data≠.cell v):Inv X (pins++pinsAt fp s.heap) σ H s :=
 I.pins_of fun p hp=>(List.mem_append.mp hp).elim (fun z=>I.pin p (List.mem_append_right _ z)) fun z=>by
  obtain ⟨hb,e⟩:=of_pinsAt z
  obtain ⟨f0,f1,f2,_⟩:=hf p.1 hb
  obtain ⟨o,e',d⟩:=ho p.1 hb
  rw [e] at e';cases e'
  exact ⟨e,f0,f1,f2,d⟩
theorem Inv.unpinned {pins pl:List (Addr×Obj)} {σ:St} {H:Hp} {s:Shared} (I:Inv X (pins++pl) σ H s):Inv X pins σ H s:=I.pins_of fun p hp=>I.pin p (List.mem_append_right _ (List.mem_append_left _ hp))
theorem ps_for {iter:Expr} {body:List Stmt} {wi:TI} {g:TG} {tb:TS} {pos:Pos} (hp:PassesOwn (model X.prog X.w) X.A X.env X.xe) (hc:X.calm=true) (hi:PI X tg iter wi) (hg:PG X tg g) (hb:PSs X body tb)
  (hs:∀x,foldedSetIterable iter X.env x=pure x:=by intro _;rfl):PS X (.For tg iter body [] pos) (tFor wi g tb):=by
 intro pins s σ H D I h
 refine wpAny_For (thn (hi pins s σ H _ I h) fun v s1 h1=>thn h1 fun itv s2 h2=>?_) hs
 obtain ⟨it,fp,tn,J,H2,e,I2,T,st2,f2,W,⟨m0,w0⟩,turn⟩:=h2
 subst e
 -- what stays true of the iterator's objects through the loop
 have stat:∀{H':Hp},(∀b∈fp,H' b=none)→∀b∈fp,FpOk X pins H' b:=fun hn b hb=>⟨hn b hb,(f2 b hb).2⟩
 refine codeAny_forLoop_any (fun n s'=>∃i σ' H',Inv X pins σ' H' s'∧tn i s'.heap∧(∀b∈fp,H' b=none)∧W i n σ' H') ?_ m0 ⟨0,σ,H2,I2,st2,fun b hb=>(f2 b hb).1,w0⟩
 rintro n s3 ⟨i,σ3,H3,I3,st3,fr3,w3⟩
 rcases turn i n σ3 H3 w3 with ⟨stop,qn⟩ | ⟨go,N,hN,step⟩
 ·refine wpAny_passesOwn hp (thn (T.done X rfl rfl rfl hc i pins s3 σ3 H3 X.xe I3 (stat fr3) st3 stop) fun r s4 ⟨hr,I4⟩=>?_)
  subst hr
  exact wpAny_execs_nil ⟨σ3,H3,I4,qn⟩
 ·refine wpAny_passesOwn hp (thn (T.item X rfl rfl rfl hc i pins s3 σ3 H3 X.xe I3 (stat fr3) st3 go) fun r s4 ⟨u,hr,h4⟩=>?_)
  subst hr
  refine wpAny_passesOwn hp (thn h4 fun _ s5 ⟨x,H5,I5,r5,y5,st5,fr5⟩=>?_)
  have I5':=I5.pinned (stat fr5) (T.obj _ _ st5)
  refine wpAny_passesOwn hp (thn (hg _ s5 σ3 H5 x u _ I5' r5 (step x H5 y5)) fun _ s6 ⟨σ6,H6,I6,q6⟩=>?_)
  refine wpAny_passesOwn hp (thn (hb _ s6 σ6 H6 _ I6 q6) fun f s7 q7=>?_)
  have again:∀{σ7:St} {H7:Hp},Inv X (pins++pinsAt fp s5.heap) σ7 H7 s7→N σ7 H7→∃m,m < n∧∃i σ' H',Inv X pins σ' H' s7∧tn i s7.heap∧(∀b∈fp,H' b=none)∧W i m σ' H':=fun {σ7 H7} I7 n7=>by
   obtain ⟨m',hm,w7⟩:=hN σ7 H7 n7
   refine ⟨m',hm,i + 1,σ7,H7,I7.unpinned,T.keep _ _ _ st5 fun b hb o e=>(I7.pin (b,o) (List.mem_append_right _ (List.mem_append_right _ (mem_pinsAt hb e)))).1,fun b hb=>?_,w7⟩
   obtain ⟨o,e,d⟩:=T.obj _ _ st5 b hb
   exact (I7.pin (b,o) (List.mem_append_right _ (List.mem_append_right _ (mem_pinsAt hb e)))).2.1
  cases f with
  | next=>obtain ⟨σ7,H7,I7,n7⟩:=q7;exact again I7 n7
  | cont=>obtain ⟨σ7,H7,I7,n7⟩:=q7;exact again I7 n7
  | brk=>obtain ⟨σ7,H7,I7,q7⟩:=q7;exact ⟨σ7,H7,I7.unpinned,q7⟩
  | ret v=>obtain ⟨x7,σ7,H7,I7,r7,q7⟩:=q7;exact ⟨x7,σ7,H7,I7.unpinned,r7,q7⟩
end
theorem for_list {K:PySem.W.Frag} {a:Addr} {xs:List V} {g:TG} {tb:TS} {D:Ends} {σ:St} {H:Hp} (Pv:Nat→St→Hp→Prop) (h0:Pv 0 σ H) (hl:∀i σ H,i≤xs.length→Pv i σ H→SqL K H a xs)
  (hs:∀i x σ H,xs[i]?=some x→Pv i σ H→g x σ H fun σ2 H2=>tb { D with nx:=Pv (i + 1),ct:=Pv (i + 1),bk:=D.nx } σ2 H2) (hd:∀σ H,Pv xs.length σ H→D.nx σ H) :
  ∃W:Nat→Nat→St→Hp→Prop,(∃m,W 0 m σ H)∧∀i m σ H,W i m σ H →
   ((Itl K a).stop i H∧D.nx σ H)∨((Itl K a).go i H∧∃N:St→Hp→Prop,(∀σ' H',N σ' H'→∃m',m' < m∧W (i + 1) m' σ' H')∧∀x H',(Itl K a).yld i H x H'→g x σ H' fun σ2 H2=>tb { D with nx:=N,ct:=N,bk:=D.nx } σ2 H2):=by
 refine ⟨fun i m σ H=>m=xs.length - i∧i≤xs.length∧Pv i σ H,⟨xs.length,by simp,Nat.zero_le _,h0⟩,?_⟩
 rintro i m σ H ⟨rfl,hi,p⟩
 have q:=hl i σ H hi p
 by_cases hlt:i < xs.length
 ·refine .inr ⟨⟨xs,xs[i],q,by simp [hlt]⟩,Pv (i + 1),fun σ' H' p'=>⟨xs.length - (i + 1),by lia,rfl,hlt,p'⟩,fun x H' y=>?_⟩
  obtain ⟨e,y⟩:=y
  subst e
  exact hs i x σ _ (y xs q) p
 ·have e:i=xs.length:=by lia
  subst e
  exact .inl ⟨⟨xs,q,Nat.le_refl _⟩,hd σ H p⟩
theorem for_range {lo:Int} {n:Nat} {g:TG} {tb:TS} {D:Ends} {σ:St} {H:Hp} (Pv:Nat→St→Hp→Prop) (h0:Pv 0 σ H)
  (hs:∀i σ H,i < n→Pv i σ H→g (.int (lo + i)) σ H fun σ2 H2=>tb { D with nx:=Pv (i + 1),ct:=Pv (i + 1),bk:=D.nx } σ2 H2) (hd:∀σ H,Pv n σ H→D.nx σ H) :
  ∃W:Nat→Nat→St→Hp→Prop,(∃m,W 0 m σ H)∧∀i m σ H,W i m σ H →
   ((Itr lo n).stop i H∧D.nx σ H)∨((Itr lo n).go i H∧∃N:St→Hp→Prop,(∀σ' H',N σ' H'→∃m',m' < m∧W (i + 1) m' σ' H')∧∀x H',(Itr lo n).yld i H x H'→g x σ H' fun σ2 H2=>tb { D with nx:=N,ct:=N,bk:=D.nx } σ2 H2):=by
 refine ⟨fun i m σ H=>m=n - i∧i≤n∧Pv i σ H,⟨n,by simp,Nat.zero_le _,h0⟩,?_⟩
 rintro i m σ H ⟨rfl,hi,p⟩
 by_cases hlt:i < n
 ·refine .inr ⟨hlt,Pv (i + 1),fun σ' H' p'=>⟨n - (i + 1),by lia,rfl,hlt,p'⟩,fun x H' y=>?_⟩
  obtain ⟨e,y⟩:=y
  subst e y
  exact hs i σ _ hlt p
 ·have e:i=n:=by lia
  subst e
  exact .inl ⟨Nat.le_refl _,hd σ H p⟩
abbrev R2:=V→V→Hp→VK→Prop
def OpR (X:Cx) (f:Value→Value→Sem Value) (r:R2):Prop :=
 ∀(pins:List (Addr×Obj)) (s:Shared) (σ:St) (H:Hp) (x y:V) (v u:Value) (Q:VK),Inv X pins σ H s→RelV x v→RelV y u→r x y H Q →
  wpAny (model X.prog X.w) X.A (f v u) (EP X pins σ Q) X.xe s
def CallR (X:Cx) (f:Value) (r:List V→Hp→VK→Prop):Prop :=
 ∀(pins:List (Addr×Obj)) (s:Shared) (σ:St) (H:Hp) (xs:List V) (us:List Value) (Q:VK),Inv X pins σ H s→Vals xs us→r xs H Q →
  wpAny (model X.prog X.w) X.A (call f us) (EP X pins σ Q) X.xe s
def tOp (r:R2) (ta tb:TE):TE:=fun σ H Q=>ta σ H fun x H1=>tb σ H1 fun y H2=>r x y H2 Q
def rI (C:Int→Int→Prop) (g:Int→Int→V):R2:=fun x y H Q=>∃i j,x=.int i∧y=.int j∧C i j∧Q (g i j) H
def rI0 (g:Int→Int→V):R2:=fun x y H Q=>∃i j,x=.int i∧y=.int j∧Q (g i j) H
section
variable {X:Cx} {a b c:Expr} {ta tb tc:TE} {pos:Pos}
theorem binT (ha:PE X a ta) (hb:PE X b tb) {pins:List (Addr×Obj)} {s:Shared} {σ:St} {H:Hp} {R:V→V→Hp→Prop} (I:Inv X pins σ H s)
  (h:ta σ H fun x H1=>tb σ H1 fun y H2=>R x y H2) {Q:Value→Shared→Prop} {f:Value→Value→Sem Value}
  (hf:∀v u s2 x y H2,Inv X pins σ H2 s2→RelV x v→RelV y u→R x y H2→wpAny (model X.prog X.w) X.A (f v u) Q X.xe s2) :
  wpAny (model X.prog X.w) X.A (eval a X.env) (fun v s₁=>wpAny (model X.prog X.w) X.A (eval b X.env) (fun u s₂=>wpAny (model X.prog X.w) X.A (f v u) Q X.xe s₂) X.xe s₁) X.xe s:=by
 refine thn (ha pins s σ H _ I h) fun v s1 ⟨x,H1,I1,r1,q1⟩=>?_
 refine thn (hb pins s1 σ H1 _ I1 q1) fun u s2 ⟨y,H2,I2,r2,q2⟩=>?_
 exact hf v u s2 x y H2 I2 r1 r2 q2
theorem pe_op {op:Operator} {r:R2} (ho:OpR X (binaryOp op) r) (ha:PE X a ta) (hb:PE X b tb):PE X (.BinOp a op b pos) (tOp r ta tb):=by
 intro pins s σ H Q I h
 exact wpAny_BinOp (binT ha hb I h fun v u s2 x y H2 I2 rx ry q=>ho pins s2 σ H2 x y v u Q I2 rx ry q)
theorem opI {f:Value→Value→Sem Value} {C:Int→Int→Prop} {g:Int→Int→Int}
  (rule:∀(i j:Int) (t u:Tok) (s:Shared) (Q:Value→Shared→Prop) (E:Value→Shared→Prop),C i j→Q (.int (g i j) s.toks) { s with toks:=s.toks + 1 }→wpAny (model X.prog X.w) X.A (f (.int i t) (.int j u)) Q E s) :
  OpR X f (rI C fun i j=>.int (g i j)):=by
 intro pins s σ H x y v u Q I rx ry h
 obtain ⟨i,j,rfl,rfl,hc,q⟩:=h
 obtain ⟨t,rfl⟩:=rx
 obtain ⟨t',rfl⟩:=ry
 exact rule i j t t' s _ _ hc ⟨.int (g i j),H,I.tok _,⟨_,rfl⟩,q⟩
theorem opI0 {f:Value→Value→Sem Value} {g:Int→Int→Int}
  (rule:∀(i j:Int) (t u:Tok) (s:Shared) (Q:Value→Shared→Prop) (E:Value→Shared→Prop),Q (.int (g i j) s.toks) { s with toks:=s.toks + 1 }→wpAny (model X.prog X.w) X.A (f (.int i t) (.int j u)) Q E s) :
  OpR X f (rI0 fun i j=>.int (g i j)):=by
 intro pins s σ H x y v u Q I rx ry h
 obtain ⟨i,j,rfl,rfl,q⟩:=h
 obtain ⟨t,rfl⟩:=rx
 obtain ⟨t',rfl⟩:=ry
 exact rule i j t t' s _ _ ⟨.int (g i j),H,I.tok _,⟨_,rfl⟩,q⟩
theorem opB0 {f:Value→Value→Sem Value} {g:Int→Int→Bool}
  (rule:∀(i j:Int) (t u:Tok) (s:Shared) (Q:Value→Shared→Prop) (E:Value→Shared→Prop),Q (.bool (g i j)) s→wpAny (model X.prog X.w) X.A (f (.int i t) (.int j u)) Q E s) :
  OpR X f (rI0 fun i j=>.bl (g i j)):=by
 intro pins s σ H x y v u Q I rx ry h
 obtain ⟨i,j,rfl,rfl,q⟩:=h
 obtain ⟨t,rfl⟩:=rx
 obtain ⟨t',rfl⟩:=ry
 exact rule i j t t' s _ _ ⟨.bl (g i j),H,I,rfl,q⟩
def CDiv (i j:Int):Prop:=0 < j∧j < 1073741824
def CPow (i j:Int):Prop:=0≤j∧j≤1000000∧i.natAbs < 2 ^ 64
def CMul (i j:Int):Prop:=(-(2 ^ 64) < i∧i < 2 ^ 64)∨(-(2 ^ 64) < j∧j < 2 ^ 64)
theorem CMul.ok {i j:Int} (h:CMul i j):IntMulOk i j:=by
 rcases h with ⟨h1,h2⟩ | ⟨h1,h2⟩
 ·exact .of_left (intBits_le_64 h1 h2)
 ·exact .of_right (intBits_le_64 h1 h2)
theorem op_add:OpR X (binaryOp .Add) (rI0 fun i j=>.int (i + j)):=opI0 fun _ _ _ _ _ _ _ q=>add_int q
theorem op_sub:OpR X (binaryOp .Sub) (rI0 fun i j=>.int (i - j)):=opI0 fun _ _ _ _ _ _ _ q=>sub_int q
theorem op_mul:OpR X (binaryOp .Mult) (rI CMul fun i j=>.int (i * j)):=opI fun _ _ _ _ _ _ _ hc q=>mul_int q hc.ok
theorem op_fdiv:OpR X (binaryOp .FloorDiv) (rI CDiv fun i j=>.int (i / j)):=opI fun i j _ _ _ _ _ hc q=>by
 have h1:(0:Int) < j:=hc.1
 have h2:j < 1073741824:=hc.2
 exact floordiv_int (by lia) (by rw [Int.fdiv_eq_ediv_of_nonneg i (by lia)];exact q) (.inl (PyProof.noPylong_small (by lia)))
theorem op_mod:OpR X (binaryOp .Mod) (rI (fun _ j=>0 < j) fun i j=>.int (i % j)):=opI fun i j _ _ _ _ _ hc q=>by
 have h1:(0:Int) < j:=hc
 exact mod_int' (by lia) (by rw [Int.fmod_eq_emod_of_nonneg i (by lia)];exact q)
theorem op_pow:OpR X (binaryOp .Pow) (rI CPow fun i j=>.int (i ^ j.toNat)):=opI fun _ _ _ _ _ _ _ hc q=>pow_int_small hc.1 hc.2.1 hc.2.2 q
end
def scal:V→V→Bool
 | .non,.non=>true | .non,.int _=>true | .int _,.non=>true | .non,.bl _=>true | .bl _,.non=>true | .non,.str _=>true | .str _,.non=>true
 | .int _,.int _=>true | .bl _,.bl _=>true | .str _,.str _=>true | .byt _,.byt _=>true
 | .int _,.str _=>true | .str _,.int _=>true | .bl _,.str _=>true | .str _,.bl _=>true
 | _,_=>false
def rEq:R2:=fun x y H Q=>scal x y=true∧Q (.bl (decide (x=y))) H
def rNe:R2:=fun x y H Q=>scal x y=true∧Q (.bl (!decide (x=y))) H
theorem dec_int {i j:Int}:decide (V.int i=V.int j)=(i == j):=by
 rw [Bool.eq_iff_iff]
 simp
theorem dec_bl {i j:Bool}:decide (V.bl i=V.bl j)=(i == j):=by
 rw [Bool.eq_iff_iff]
 simp
theorem dec_str {i j:Str}:decide (V.str i=V.str j)=(i == j):=by
 rw [Bool.eq_iff_iff]
 simp
theorem dec_byt {i j:Array UInt8}:decide (V.byt i=V.byt j)=(i.toList == j.toList):=by
 rw [Bool.eq_iff_iff]
 cases i
 cases j
 simp
section
variable {X:Cx} {a b c:Expr} {ta tb tc:TE} {pos:Pos}
theorem fin_bl {pins:List (Addr×Obj)} {σ:St} {H:Hp} {s:Shared} {Q:VK} {k k':Bool} (I:Inv X pins σ H s) (q:Q (.bl k) H) (e:k=k'):EP X pins σ Q (.bool k') s:=by
 subst e
 exact ⟨.bl k,H,I,rfl,q⟩
theorem op_eq:OpR X (compareOp .Eq) rEq:=by
 intro pins s σ H x y v u Q I rx ry h
 obtain ⟨hs,q⟩:=h
 cases x with
 | non =>
  cases rx
  cases y with
  | non=>cases ry;exact PySem.EqNone.eq_none_none (fin_bl I q (by simp))
  | bl j=>cases ry;exact PySem.EqNone.eq_none_bool (fin_bl I q (by simp))
  | int j=>obtain ⟨t',rfl⟩:=ry;exact PySem.EqNone.eq_none_int (fin_bl I q (by simp))
  | str j=>obtain ⟨t',rfl⟩:=ry;exact PySem.EqNone.eq_none_str (fin_bl I q (by simp))
  | _=>exact absurd (show false=true from hs) Bool.false_ne_true
 | bl i =>
  cases rx
  cases y with
  | non=>cases ry;exact PySem.EqNone.eq_bool_none (fin_bl I q (by simp))
  | bl j=>cases ry;exact eq_bool (fin_bl I q dec_bl)
  | str j=>obtain ⟨t',rfl⟩:=ry;exact PySem.EqMixed.eq_bool_str (fin_bl I q (by simp))
  | _=>exact absurd (show false=true from hs) Bool.false_ne_true
 | int i =>
  obtain ⟨t,rfl⟩:=rx
  cases y with
  | non=>cases ry;exact PySem.EqNone.eq_int_none (fin_bl I q (by simp))
  | int j=>obtain ⟨t',rfl⟩:=ry;exact eq_int (fin_bl I q dec_int)
  | str j=>obtain ⟨t',rfl⟩:=ry;exact PySem.EqMixed.eq_int_str (fin_bl I q (by simp))
  | _=>exact absurd (show false=true from hs) Bool.false_ne_true
 | str i =>
  obtain ⟨t,rfl⟩:=rx
  cases y with
  | non=>cases ry;exact PySem.EqNone.eq_str_none (fin_bl I q (by simp))
  | bl j=>cases ry;exact PySem.EqMixed.eq_str_bool (fin_bl I q (by simp))
  | int j=>obtain ⟨t',rfl⟩:=ry;exact PySem.EqMixed.eq_str_int (fin_bl I q (by simp))
  | str j=>obtain ⟨t',rfl⟩:=ry;exact eq_str (fin_bl I q dec_str)
  | _=>exact absurd (show false=true from hs) Bool.false_ne_true
 | byt i =>
  obtain ⟨t,rfl⟩:=rx
  cases y with
  | byt j=>obtain ⟨t',rfl⟩:=ry;exact W.eq_bytes (fin_bl I q dec_byt)
  | _=>exact absurd (show false=true from hs) Bool.false_ne_true
 | _=>cases y <;> exact absurd (show false=true from hs) Bool.false_ne_true
theorem op_ne:OpR X (compareOp .NotEq) rNe:=by
 intro pins s σ H x y v u Q I rx ry h
 obtain ⟨hs,q⟩:=h
 cases x with
 | non =>
  cases rx
  cases y with
  | non=>cases ry;exact PySem.EqNone.ne_none_none (fin_bl I q (by simp))
  | bl j=>cases ry;exact PySem.EqNone.ne_none_bool (fin_bl I q (by simp))
  | int j=>obtain ⟨t',rfl⟩:=ry;exact PySem.EqNone.ne_none_int (fin_bl I q (by simp))
  | str j=>obtain ⟨t',rfl⟩:=ry;exact PySem.EqNone.ne_none_str (fin_bl I q (by simp))
  | _=>exact absurd (show false=true from hs) Bool.false_ne_true
 | bl i =>
  cases rx
  cases y with
  | non=>cases ry;exact PySem.EqNone.ne_bool_none (fin_bl I q (by simp))
  | bl j=>cases ry;exact ne_bool (fin_bl I q (congrArg not dec_bl))
  | str j=>obtain ⟨t',rfl⟩:=ry;exact PySem.EqMixed.ne_bool_str (fin_bl I q (by simp))
  | _=>exact absurd (show false=true from hs) Bool.false_ne_true
 | int i =>
  obtain ⟨t,rfl⟩:=rx
  cases y with
  | non=>cases ry;exact PySem.EqNone.ne_int_none (fin_bl I q (by simp))
  | int j=>obtain ⟨t',rfl⟩:=ry;exact ne_int (fin_bl I q (congrArg not dec_int))
  | str j=>obtain ⟨t',rfl⟩:=ry;exact PySem.EqMixed.ne_int_str (fin_bl I q (by simp))
  | _=>exact absurd (show false=true from hs) Bool.false_ne_true
 | str i =>
  obtain ⟨t,rfl⟩:=rx
  cases y with
  | non=>cases ry;exact PySem.EqNone.ne_str_none (fin_bl I q (by simp))
  | bl j=>cases ry;exact PySem.EqMixed.ne_str_bool (fin_bl I q (by simp))
  | int j=>obtain ⟨t',rfl⟩:=ry;exact PySem.EqMixed.ne_str_int (fin_bl I q (by simp))
  | str j=>obtain ⟨t',rfl⟩:=ry;exact ne_str (fin_bl I q (congrArg not dec_str))
  | _=>exact absurd (show false=true from hs) Bool.false_ne_true
 | byt i =>
  obtain ⟨t,rfl⟩:=rx
  cases y with
  | byt j=>obtain ⟨t',rfl⟩:=ry;exact W.ne_bytes (fin_bl I q (congrArg not dec_byt))
  | _=>exact absurd (show false=true from hs) Bool.false_ne_true
 | _=>cases y <;> exact absurd (show false=true from hs) Bool.false_ne_true
theorem op_lt:OpR X (compareOp .Lt) (rI0 fun i j=>.bl (decide (i < j))):=opB0 fun _ _ _ _ _ _ _ q=>lt_int q
theorem op_le:OpR X (compareOp .LtE) (rI0 fun i j=>.bl (decide (i≤j))):=opB0 fun _ _ _ _ _ _ _ q=>le_int q
theorem op_gt:OpR X (compareOp .Gt) (rI0 fun i j=>.bl (decide (j < i))):=opB0 fun _ _ _ _ _ _ _ q=>gt_int q
theorem op_ge:OpR X (compareOp .GtE) (rI0 fun i j=>.bl (decide (j≤i))):=opB0 fun _ _ _ _ _ _ _ q=>ge_int q
theorem op_isN:OpR X (compareOp .Is) (fun x y H Q=>y=.non∧Q (.bl (decide (x=.non))) H):=by
 intro pins s σ H x y v u Q I rx ry h
 obtain ⟨rfl,q⟩:=h
 cases ry
 refine is_none_gen (fin_bl I q ?_)
 cases x <;> first
  | (cases rx;rfl)
  | (obtain ⟨t,rfl⟩:=rx;rfl)
theorem OpR.or {f:Value→Value→Sem Value} {r r':R2} (h:OpR X f r) (h':OpR X f r'):OpR X f (fun x y H Q=>r x y H Q∨r' x y H Q):=by
 intro pins s σ H x y v u Q I rx ry q
 rcases q with q | q
 ·exact h pins s σ H x y v u Q I rx ry q
 ·exact h' pins s σ H x y v u Q I rx ry q
theorem nomark (b:Expr) {op:CmpOp} (h:op≠.In:=by decide) (h2:op≠.NotIn:=by decide):behindInMarks op b=false:=by
 have e1:(op == CmpOp.In)=false:=by cases op <;> first | rfl | exact absurd rfl h
 have e2:(op == CmpOp.NotIn)=false:=by cases op <;> first | rfl | exact absurd rfl h2
 cases b <;> simp [behindInMarks,e1,e2]
theorem pe_cmpR {op:CmpOp} {r:R2} (ho:OpR X (compareOp op) r) (ha:PE X a ta) (hb:PE X b tb) (hm:behindInMarks op b=false):PE X (.Compare a [op] [b] pos) (tOp r ta tb):=by
 intro pins s σ H Q I h
 exact wpAny_Compare1 (binT ha hb I h fun v u s2 x y H2 I2 rx ry q=>ho pins s2 σ H2 x y v u Q I2 rx ry q) hm
def tTest (t:TE):TT:=fun σ H Q=>t σ H fun x H'=>∃k,x=.bl k∧Q k H'
theorem pt_cmpR {op:CmpOp} {r:R2} (ho:OpR X (compareOp op) r) (ha:PE X a ta) (hb:PE X b tb) (hm:behindInMarks op b=false):PT X (.Compare a [op] [b] pos) (tTest (tOp r ta tb)):=by
 intro pins s σ H Q I h
 refine wpAny_isTrue_Compare1 (thn (ha pins s σ H _ I h) fun v s1 ⟨x,H1,I1,r1,q1⟩=>thn (hb pins s1 σ H1 _ I1 q1) fun u s2 ⟨y,H2,I2,r2,q2⟩ =>
  thn (ho pins s2 σ H2 x y v u _ I2 r1 r2 q2) fun c s3 ⟨z,H3,I3,r3,k,e,q3⟩=>?_) hm
 subst e
 cases r3
 exact wpAny_truthy_bool ⟨H3,I3,q3⟩
def tChain (r r':R2) (ta tb tc:TE):TE:=fun σ H Q=>ta σ H fun x H1=>tb σ H1 fun y H2=>r x y H2 fun z H3=>∃k,z=.bl k ∧
 (if k=true then tc σ H3 fun w' H4=>r' y w' H4 Q else Q (.bl false) H3)
theorem pe_chain {op op':CmpOp} {r r':R2} (ho:OpR X (compareOp op) r) (ho':OpR X (compareOp op') r') (ha:PE X a ta) (hb:PE X b tb) (hc:PE X c tc)
  (hm:lastMarks [op,op'] [b,c]=false:=by with_unfolding_all rfl):PE X (.Compare a [op,op'] [b,c] pos) (tChain r r' ta tb tc):=by
 intro pins s σ H Q I h
 refine Compare_chain (thn (ha pins s σ H _ I h) fun v s1 ⟨x,H1,I1,r1,q1⟩=>chain_link (thn (hb pins s1 σ H1 _ I1 q1) fun u s2 ⟨y,H2,I2,r2,q2⟩ =>
  thn (ho pins s2 σ H2 x y v u _ I2 r1 r2 q2) fun d s3 ⟨z,H3,I3,r3,k,e,q3⟩=>?_)) hm
 subst e
 cases r3
 refine wpAny_truthy_bool ?_
 cases k with
 | false=>exact ite_ff ⟨.bl false,H3,I3,rfl,q3⟩
 | true=>exact ite_tt (chain_last (thn (hc pins s3 σ H3 _ I3 q3) fun w' s4 ⟨z',H4,I4,r4,q4⟩=>ho' pins s4 σ H4 y z' u w' Q I4 r2 r4 q4))
theorem pt_chain {op op':CmpOp} {r r':R2} (ho:OpR X (compareOp op) r) (ho':OpR X (compareOp op') r') (ha:PE X a ta) (hb:PE X b tb) (hc:PE X c tc)
  (hm:lastMarks [op,op'] [b,c]=false:=by with_unfolding_all rfl):PT X (.Compare a [op,op'] [b,c] pos) (tTest (tChain r r' ta tb tc)):=by
 intro pins s σ H Q I h
 refine isTrue_chain (thn (ha pins s σ H _ I h) fun v s1 ⟨x,H1,I1,r1,q1⟩=>test_link (thn (hb pins s1 σ H1 _ I1 q1) fun u s2 ⟨y,H2,I2,r2,q2⟩ =>
  thn (ho pins s2 σ H2 x y v u _ I2 r1 r2 q2) fun d s3 ⟨z,H3,I3,r3,k,e,q3⟩=>?_)) hm
 subst e
 cases r3
 refine wpAny_truthy_bool ?_
 cases k with
 | false =>
  obtain ⟨k',e',q'⟩:=q3
  cases e'
  exact ite_ff ⟨H3,I3,q'⟩
 | true =>
  refine ite_tt (test_last (thn (hc pins s3 σ H3 _ I3 q3) fun w' s4 ⟨z',H4,I4,r4,q4⟩=>thn (ho' pins s4 σ H4 y z' u w' _ I4 r2 r4 q4) fun d' s5 ⟨z2,H5,I5,r5,k2,e2,q5⟩=>?_))
  subst e2
  cases r5
  exact wpAny_truthy_bool ⟨H5,I5,q5⟩
theorem line63:(sizeLine:Nat) < 2 ^ 63:=by rw [sizeLine_eq];decide
theorem op_add_str:OpR X (binaryOp .Add) (fun x y H Q=>∃i j,x=.str i∧y=.str j∧i.length + j.length≤sizeLine∧Q (.str (i++j)) H):=by
 intro pins s σ H x y v u Q I rx ry h
 obtain ⟨i,j,rfl,rfl,hz,q⟩:=h
 obtain ⟨t,rfl⟩:=rx
 obtain ⟨t',rfl⟩:=ry
 exact add_str (fun t' tk=>⟨.str (i++j),H,I.tok _,⟨_,rfl⟩,q⟩) hz
theorem vals1 {x:V} {us:List Value} (r:Vals [x] us):∃u,us=[u]∧RelV x u:=by
 cases r with
 | cons r1 r2=>cases r2;exact ⟨_,rfl,r1⟩
theorem vals2 {x y:V} {us:List Value} (r:Vals [x,y] us):∃u w',us=[u,w']∧RelV x u∧RelV y w':=by
 cases r with
 | cons r1 r2 =>
  cases r2 with
  | cons r3 r4=>cases r4;exact ⟨_,_,rfl,r1,r3⟩
theorem call_max2 (hc:X.calm=true):CallR X (.builtin "max") (fun xs H Q=>∃i j,xs=[.int i,.int j]∧Q (.int (if j > i then j else i)) H):=by
 intro pins s σ H xs us Q I r h
 obtain ⟨i,j,rfl,q⟩:=h
 obtain ⟨u,w',rfl,⟨t,rfl⟩,⟨t',rfl⟩⟩:=vals2 r
 refine max_two_ints (I.ok.hd hc) fun h' tk k=>⟨_,H,I.kept k,?_,q⟩
 by_cases hj:j > i
 ·rw [if_pos hj,if_pos hj];exact ⟨_,rfl⟩
 ·rw [if_neg hj,if_neg hj];exact ⟨_,rfl⟩
theorem call_min2 (hc:X.calm=true):CallR X (.builtin "min") (fun xs H Q=>∃i j,xs=[.int i,.int j]∧Q (.int (if j < i then j else i)) H):=by
 intro pins s σ H xs us Q I r h
 obtain ⟨i,j,rfl,q⟩:=h
 obtain ⟨u,w',rfl,⟨t,rfl⟩,⟨t',rfl⟩⟩:=vals2 r
 refine min_two_ints (I.ok.hd hc) fun h' tk k=>⟨_,H,I.kept k,?_,q⟩
 by_cases hj:j < i
 ·rw [if_pos hj,if_pos hj];exact ⟨_,rfl⟩
 ·rw [if_neg hj,if_neg hj];exact ⟨_,rfl⟩
theorem call_int1:CallR X (.type "int") (fun xs H Q=>(∃i,xs=[.int i]∧Q (.int i) H)∨∃k,xs=[.bl k]∧Q (.int (if k then 1 else 0)) H):=by
 intro pins s σ H xs us Q I r h
 rcases h with ⟨i,rfl,q⟩ | ⟨k,rfl,q⟩
 ·obtain ⟨u,rfl,t,rfl⟩:=vals1 r
  exact call_int_int ⟨.int i,H,I,⟨_,rfl⟩,q⟩
 ·obtain ⟨u,rfl,r1⟩:=vals1 r
  cases r1
  exact call_int_bool ⟨.int (if k then 1 else 0),H,I.tok _,⟨_,rfl⟩,q⟩
def LenV (K:W.Frag) (x:V) (H:Hp) (n:Nat):Prop :=
 match x with
 | .str y=>y.length≤sizeLine∧n=y.length
 | .byt y=>y.size≤sizeLine∧n=y.size
 | .ref p=>(∃xs,SqL K H p xs∧n=xs.length)∨∃xs,SqT K H p xs∧n=xs.length
 | _=>False
theorem call_len:CallR X (.builtin "len") (fun xs H Q=>∃x n,xs=[x]∧LenV X.K x H n∧Q (.int n) H):=by
 intro pins s σ H xs us Q I r h
 obtain ⟨x,n,rfl,e,q⟩:=h
 obtain ⟨u,rfl,rx⟩:=vals1 r
 have hl:=line63
 have hs:sizeLine=16777216:=sizeLine_eq
 cases x with
 | str y =>
  obtain ⟨t,rfl⟩:=rx
  obtain ⟨hy,e'⟩:y.length≤sizeLine∧n=y.length:=e
  subst e'
  exact len_str (by lia) ⟨.int _,H,I.tok _,⟨_,rfl⟩,q⟩
 | byt y =>
  obtain ⟨t,rfl⟩:=rx
  obtain ⟨hy,e'⟩:y.size≤sizeLine∧n=y.size:=e
  subst e'
  exact W.len_bytes (by lia) ⟨.int _,H,I.tok _,⟨_,rfl⟩,q⟩
 | ref p =>
  cases rx
  have e':(∃xs,SqL X.K H p xs∧n=xs.length)∨∃xs,SqT X.K H p xs∧n=xs.length:=e
  rcases e' with ⟨xs,hx,e'⟩ | ⟨xs,hx,e'⟩
  ·subst e'
   obtain ⟨its,r',pl,hz⟩:=I.list hx
   have hlen:=r'.length
   exact Calls.call_len_list pl.isList (by simp only [List.size_toArray];lia) ⟨.int xs.length,H,I.tok _,⟨_,by simp only [List.size_toArray];rw [hlen]⟩,q⟩
  ·subst e'
   obtain ⟨its,r',pl,hz⟩:=I.tuple hx
   have hlen:=r'.length
   exact len_tuple pl (by simp only [List.size_toArray];lia) ⟨.int xs.length,H,I.tok _,⟨_,by simp only [List.size_toArray];rw [hlen]⟩,q⟩
 | _=>exact (show False from e).elim
end
structure ObjM (h:Heap) (x dx C:Addr) (mA:Str→Option Value):Prop where
 obj:h.get? x=some (W.instObj C dx)
 ns:h.Ns1 dx mA
 ne:dx≠x
theorem lookIn_ns {h:Heap} {dx:Addr} {mA:Str→Option Value} (n:h.Ns1 dx mA):∃od,h.get? dx=some od∧∀name,W.lookIn name od=some (mA name):=by
 obtain ⟨o,es,ep,ho,hd,hk,_,hm⟩:=n
 refine ⟨o,ho,fun name=>?_⟩
 have e:=hm name
 unfold nsFind findBy at e
 rw [← Array.find?_toList] at e
 unfold W.lookIn
 rw [hd]
 dsimp only
 split
 ·rename_i y q
  rw [q] at e
  exact congrArg some e
 ·rename_i q
  rw [q] at e
  have a:es.toList.any (·.refKey)=false:=by
   rw [List.any_eq_false]
   intro y hy
   obtain ⟨z,t,hkey⟩:=hk y (Array.mem_toList_iff.mp hy)
   simp [DictEntry.refKey,hkey]
  have a':¬ es.toList.any (·.refKey)=true:=by rw [a];exact Bool.false_ne_true
  rw [if_neg a']
  exact congrArg some e
theorem ObjM.look {h:Heap} {x dx C:Addr} {mA:Str→Option Value} (I:ObjM h x dx C mA):∃od,W.InstAt h x (W.instObj C dx) C (some od)∧∀name,W.lookIn name od=some (mA name) :=
 let ⟨od,ho,hl⟩:=lookIn_ns I.ns
 ⟨od,⟨I.obj,rfl,rfl,ho⟩,hl⟩
section
variable {prog:Program} {w:World} {A:Around} {E:Value→Shared→Prop} {s:Shared} {K:W.Frag} {x dx C f:Addr} {mA:Str→Option Value} {name:Str} {v:Value}
theorem get_map {expr:Bool} {Q:Value→Shared→Prop} (X:K.In s.heap) (I:ObjM s.heap x dx C mA) (hg:W.plainGet K C name=true) (hh:W.hasDictIn K C=true)
  (ha:W.findIn K (.ref C) name=some none) (hv:mA name=some v) (hv':W.handedIn v=true) (h:Q v { s with toks:=s.toks + 1 }) :
  wpAny (model prog w) A (getAttr (.ref x) name expr) Q E s:=by
 obtain ⟨od,J,hl⟩:=I.look
 exact W.get_value X J (W.plainGet_of hg).1 (W.findObj_own hh ha rfl (by rw [hl,hv])) hv' h
theorem get_meth {pl:Sem Bool} {Q:Value×List Value→Shared→Prop} (X:K.In s.heap) (I:ObjM s.heap x dx C mA) (hg:W.plainGet K C name=true)
  (hf:W.findIn K (.ref C) name=some (some (.ref f))) (ht:W.isFn K (.ref f)=true) (hv:mA name=none) (h:Q (.ref f,[.ref x]) s) :
  wpAny (model prog w) A (getMethod (.ref x) name pl) Q E s:=by
 obtain ⟨od,J,hl⟩:=I.look
 exact W.method_fn X J (W.plainGet_of hg).1 (W.plainGet_of hg).2 hf (beq_iff_eq.mp ht) (by show (W.lookIn name od).map (·.isSome)=some false;rw [hl,hv];rfl) h
theorem set_map {ns:List Str} {Q:Unit→Shared→Prop} (X:K.In s.heap) (I:ObjM s.heap x dx C mA)
  (hs:W.findIn K (.ref C) "__setattr__" = some (some (.builtin "object.__setattr__"))) (hp:W.plainOver K C=true) (ht:W.takerIn K C name=some none) (hh:W.hasDictIn K C=true)
  (hw:PySem.Within mA ns) (hsz:ns.length≤sizeLine)
  (h:∀h',ObjM h' x dx C (fun y=>if y=name then some v else mA y)→Heap.SameBut dx s.heap h'→Q () { s with heap:=h',toks:=s.toks + 2 }) :
  wpAny (model prog w) A (setAttr (.ref x) name v) Q E s:=by
 obtain ⟨od,J,hl⟩:=I.look
 refine W.set_plain X J hs (W.osa_open (s:={ s with toks:=s.toks + 1 }) (r:=none) X J hp ht fun b=>?_)
 obtain ⟨cd,hc,hd'⟩:=W.any_some hh
 have hx:s.heap.get? x=some ⟨.ref C,some dx,.plain,#[]⟩:=I.obj
 refine wpAny_bind (wpAny_pure (wpAny_bind (wpAny_bind (wpAny_loadPart hx (wpAny_bind (W.Looks.here (s:={ s with toks:=s.toks + 1 }) (W.looks_clsIn X hc) ?_))))))
 rw [hd']
 refine wpAny_pure (a:=some dx) (wpAny_bind (wpAny_pure (wpAny_bind ?_)))
 refine wpAny_nsSet1 (s:={ s with toks:=s.toks + 1 }) I.ns fun h' hn2 hs2=>?_
 obtain ⟨oD,esD,epD,hoD,hdD,hcD⟩:=hn2.count (PySem.Within.cons name v hw)
 refine wpAny_bind (wpAny_lookBehind hoD (by rw [hdD];exact pastItsLine_dict (Nat.le_trans hcD (by rw [List.length_cons];lia))) ?_)
 exact wpAny_pure (h _ ⟨(hs2.2 _ (Ne.symm I.ne)).trans I.obj,hn2,I.ne⟩ hs2)
theorem make_map {R:Result→Shared→Prop} {vs:List Value} {kw:List (Str×Value)} (X:K.In s.heap) (hm:W.makesIn K C=true)
  (hi:W.findIn K (.ref C) "__init__" = some (some (.ref f))) (hf:W.typeIn K (.ref f)=some (.type "function"))
  (h:codeAny (model prog w) (A.under (.builtin "type.__call__" ⟨.ref C::vs,kw⟩)) (.call (.ref f) ⟨.ref (s.heap.objs.size + 1)::vs,kw⟩) (W.InitBack (s.heap.objs.size + 1) R)
   { s with heap:=(s.heap.push W.emptyDict).push (W.instObj C s.heap.objs.size) }) :
  codeAny (model prog w) A (.call (.ref C) ⟨vs,kw⟩) R s:=by
 obtain ⟨hh,g,d,t,os⟩:=s
 exact W.make_core (W.makes_of X hm) (W.looks_findIn X hi) (fun self=>W.bind_fn X self hf) (.inl rfl) h
end
def putF (f:Str) (v:V):List (Str×V)→List (Str×V)
 | []=>[(f,v)]
 | (g,x)::r=>if g=f then (g,v)::r else (g,x)::putF f v r
theorem lookup_putF (f g:Str) (v:V):∀fs:List (Str×V),(putF f v fs).lookup g=if g=f then some v else fs.lookup g
 | []=>by
  show List.lookup g [(f,v)]=_
  by_cases h:g=f
  ·have hb:(g == f)=true:=beq_iff_eq.mpr h
   simp only [List.lookup,hb,if_pos h]
  ·have hb:(g == f)=false:=beq_eq_false_iff_ne.mpr h
   simp only [List.lookup,hb,if_neg h]
 | (k,x)::r=>by
  have ih:=lookup_putF f g v r
  rw [show putF f v ((k,x)::r)=(if k=f then (k,v)::r else (k,x)::putF f v r) from rfl]
  by_cases hk:k=f
  ·rw [if_pos hk]
   by_cases h:g=k
   ·have hb:(g == k)=true:=beq_iff_eq.mpr h
    simp only [List.lookup,hb,if_pos (h.trans hk)]
   ·have hb:(g == k)=false:=beq_eq_false_iff_ne.mpr h
    simp only [List.lookup,hb,if_neg (fun e:g=f=>h (e.trans hk.symm))]
  ·rw [if_neg hk]
   by_cases h:g=k
   ·have hb:(g == k)=true:=beq_iff_eq.mpr h
    simp only [List.lookup,hb,if_neg (fun e:g=f=>hk (h.symm.trans e))]
   ·have hb:(g == k)=false:=beq_eq_false_iff_ne.mpr h
    simp only [List.lookup,hb]
    exact ih
theorem keys_putF (f:Str) (v:V):∀fs:List (Str×V),f∈(putF f v fs).map (·.1)∧∀g,g∈fs.map (·.1)→g∈(putF f v fs).map (·.1)
 | []=>⟨by simp [putF],fun g h=>by simp at h⟩
 | (k,x)::r=>by
  obtain ⟨i1,i2⟩:=keys_putF f v r
  rw [show putF f v ((k,x)::r)=(if k=f then (k,v)::r else (k,x)::putF f v r) from rfl]
  by_cases hk:k=f
  ·rw [if_pos hk]
   subst hk
   exact ⟨by simp,fun g h=>by simpa using h⟩
  ·rw [if_neg hk]
   refine ⟨?_,fun g h=>?_⟩
   ·rw [List.map_cons]
    exact List.mem_cons_of_mem _ i1
   ·rw [List.map_cons] at h ⊢
    rcases List.mem_cons.mp h with e | e
    ·exact List.mem_cons.mpr (.inl e)
    ·exact List.mem_cons_of_mem _ (i2 g e)
theorem length_putF (f:Str) (v:V):∀fs:List (Str×V),(putF f v fs).length≤fs.length + 1
 | []=>by simp [putF]
 | (k,x)::r=>by
  have ih:=length_putF f v r
  rw [show putF f v ((k,x)::r)=(if k=f then (k,v)::r else (k,x)::putF f v r) from rfl]
  by_cases hk:k=f
  ·rw [if_pos hk,List.length_cons,List.length_cons];lia
  ·rw [if_neg hk,List.length_cons,List.length_cons];lia
theorem RelO.some_of {v:V} {o:Option Value} (r:RelO (some v) o):∃u,o=some u∧RelV v u:=by
 cases o with
 | none=>exact (show False from r).elim
 | some u=>exact ⟨u,rfl,r⟩
theorem RelO.none_of {o:Option Value} (r:RelO none o):o=none:=by
 cases o with
 | none=>rfl
 | some u=>exact (show False from r).elim
theorem handed_of {v:V} {u:Value} (r:RelV v u):W.handedIn u=true:=by
 cases v with
 | non=>cases (show u=Value.none from r);rfl
 | bl b=>cases (show u=Value.bool b from r);rfl
 | int i=>obtain ⟨t,e⟩:=(show ∃t,u=Value.int i t from r);cases e;rfl
 | str x=>obtain ⟨t,e⟩:=(show ∃t,u=Value.str x t from r);cases e;rfl
 | byt b=>obtain ⟨t,e⟩:=(show ∃t,u=Value.bytes b t from r);cases e;rfl
 | flt b=>obtain ⟨t,e⟩:=(show ∃t,u=Value.float b t from r);cases e;rfl
 | ref a=>cases (show u=Value.ref a from r);rfl
 | ty n=>cases (show u=Value.type n from r);rfl
section
variable {P:Program} {w:World} {H H':Hp} {h h':Heap} {a C dx:Addr} {fs fs':List (Str×V)}
theorem ins_get (hok:HOk P w H h) (e:H a=some (.ins C dx fs)):∃mA,ObjM h a dx C mA∧(∀f,RelO (fs.lookup f) (mA f))∧PySem.Within mA (fs.map (·.1))∧fs.length≤1000∧H dx=some (.own a):=by
 obtain ⟨d,z,ne,ob,mA,n,r,q⟩:=(show ObjOk P w H h a (.ins C dx fs) from hok a _ e)
 exact ⟨mA,⟨ob,n,ne⟩,r,q,z,d⟩
end
structure Cls (K:W.Frag) (C:Addr):Prop where
 pg:W.plainGet K C Str.empty=true
 hd:W.hasDictIn K C=true
 po:W.plainOver K C=true
 sa:W.findIn K (.ref C) "__setattr__" = some (some (.builtin "object.__setattr__"))
theorem Cls.get {K:W.Frag} {C:Addr} (c:Cls K C) (f:Str):W.plainGet K C f=true:=c.pg
def NoAttr (K:W.Frag) (C:Addr) (f:Str):Prop:=W.findIn K (.ref C) f=some none
theorem NoAttr.taker {K:W.Frag} {C:Addr} {f:Str} (n:NoAttr K C f):W.takerIn K C f=some none:=by
 unfold W.takerIn
 rw [show W.findIn K (.ref C) f=some none from n]
 rfl
structure Meth (K:W.Frag) (C:Addr) (m:Str) (f:Addr):Prop where
 at_:W.findIn K (.ref C) m=some (some (.ref f))
 fn:W.isFn K (.ref f)=true
 kp:W.keepIn K (.ref f)=true
section
variable {X:Cx} {pins:List (Addr×Obj)} {σ:St} {H:Hp} {s:Shared} {a C dx:Addr} {fs:List (Str×V)} {f:Str} {v:V} {A:Around} {E:Value→Shared→Prop}
theorem getattr_ok {b:Bool} {Q:Value→Shared→Prop} (I:Inv X pins σ H s) (e:H a=some (.ins C dx fs)) (c:Cls X.K C) (n:NoAttr X.K C f) (l:fs.lookup f=some v)
  (h:∀u s',Inv X pins σ H s'→RelV v u→Q u s'):wpAny (model X.prog X.w) A (getAttr (.ref a) f b) Q E s:=by
 obtain ⟨mA,O,r,_,_,_⟩:=ins_get I.hok e
 obtain ⟨u,hu,ru⟩:=RelO.some_of (v:=v) (o:=mA f) (by rw [← l];exact r f)
 exact get_map I.kIn O (c.get f) c.hd n hu (handed_of ru) (h u _ (I.tok _) ru)
theorem getmeth_ok {m:Str} {g:Addr} {pl:Sem Bool} {Q:Value×List Value→Shared→Prop} (I:Inv X pins σ H s) (e:H a=some (.ins C dx fs)) (c:Cls X.K C) (k:Meth X.K C m g) (l:fs.lookup m=none)
  (h:Q (.ref g,[.ref a]) s):wpAny (model X.prog X.w) A (getMethod (.ref a) m pl) Q E s:=by
 obtain ⟨mA,O,r,_,_,_⟩:=ins_get I.hok e
 have hn:mA m=none:=RelO.none_of (by rw [← l];exact r m)
 exact get_meth I.kIn O (c.get m) k.at_ k.fn hn h
theorem setattr_ok {y:V} {u:Value} {Q:Unit→Shared→Prop} (I:Inv X pins σ H s) (e:H a=some (.ins C dx fs)) (c:Cls X.K C) (n:NoAttr X.K C f) (hl:fs.length < 1000) (ry:RelV y u)
  (h:∀s',Inv X pins σ (upd H a (.ins C dx (putF f y fs))) s'→Q () s'):wpAny (model X.prog X.w) A (setAttr (.ref a) f u) Q E s:=by
 obtain ⟨mA,O,r,wi,_,ho⟩:=ins_get I.hok e
 have hz:(fs.map (·.1)).length≤sizeLine:=by rw [List.length_map,sizeLine_eq];lia
 refine set_map I.kIn O c.sa c.po n.taker c.hd wi hz fun h' O' sb=>h _ ?_
 have hd:∃o,h'.get? dx=some o:=let ⟨o,_,_,e',_⟩:=O'.ns;⟨o,e'⟩
 refine I.write (x:=a) (e:=dx) (by rw [e];exact True.intro) (.inr ho) (fun b q hb z=>(sb.2 b hb).trans z) hd ?_
 refine ⟨by rw [upd_ne O.ne];exact ho,?_,O.ne,O'.obj,_,O'.ns,fun g=>?_,fun g hg=>?_⟩
 ·have:=length_putF f y fs;lia
 ·show RelO ((putF f y fs).lookup g) (if g=f then some u else mA g)
  rw [lookup_putF]
  by_cases q:g=f
  ·rw [if_pos q,if_pos q];exact ry
  ·rw [if_neg q,if_neg q];exact r g
 ·by_cases q:g=f
  ·rw [q];exact (keys_putF f y fs).1
  ·refine (keys_putF f y fs).2 g (wi g fun z=>hg ?_)
   show (if g=f then some u else mA g)=none
   rw [if_neg q];exact z
theorem Inv.made (I:Inv X pins σ H s):Inv X pins σ (upd (upd H s.heap.objs.size (.own (s.heap.objs.size + 1))) (s.heap.objs.size + 1) (.ins C s.heap.objs.size []))
  { s with heap:=(s.heap.push W.emptyDict).push (W.instObj C s.heap.objs.size) }:=by
 have e1:(s.heap.push W.emptyDict).get? s.heap.objs.size=some W.emptyDict:=Heap.get?_push_size s.heap rfl
 have e2:((s.heap.push W.emptyDict).push (W.instObj C s.heap.objs.size)).get? (s.heap.objs.size + 1)=some (W.instObj C s.heap.objs.size):=by
  have:=Heap.get?_push_size (s.heap.push W.emptyDict) (o:=W.instObj C s.heap.objs.size) rfl
  rwa [Heap.size_push] at this
 have e3:(s.heap.push W.emptyDict).Ns s.heap.objs.size (fun _=>none):=⟨W.emptyDict,#[],_,e1,rfl,(fun e he=>absurd he (by simp)),fun _=>rfl⟩
 have I1:=I.laid (a:=s.heap.objs.size) (o:=.own (s.heap.objs.size + 1)) (h':=s.heap.push W.emptyDict) (t':=s.toks) (fun b u q=>Heap.get?_push_of_some _ q) (Nat.le_refl _) ⟨_,e1⟩
 refine I1.laid (a:=s.heap.objs.size + 1) (o:=.ins C s.heap.objs.size []) (t':=s.toks) (fun b u q=>Heap.get?_push_of_some _ q) (Nat.le_of_eq (Heap.size_push _ _)) ?_
 have ne:s.heap.objs.size≠s.heap.objs.size + 1:=Nat.ne_of_lt (Nat.lt_succ_self _)
 refine ⟨by rw [upd_ne ne,upd_same],Nat.zero_le _,ne,e2,fun _=>none,(Heap.Ns1.of_empty e3).at fun o q=>Heap.get?_push_of_some _ q,fun _=>True.intro,fun y hy=>absurd rfl hy⟩
theorem attr_of {prog:Program} {w:World} {env:Env} {e:Expr} {f:Str} {pos:Pos} {s:Shared} {Q:Value→Shared→Prop} (hb:attributeBase e f env (eval e env)=eval e env)
  (h:wpAny (model prog w) A (eval e env) (fun o s₁=>wpAny (model prog w) A (getAttr o f true) Q E s₁) E s):wpAny (model prog w) A (eval (.Attribute e f pos) env) Q E s :=
 Attribute_any_ h (by rw [arm_eval_Attribute,hb])
end
def tFld (K:W.Frag) (ta:TE) (f:Str):TE:=fun σ H Q=>ta σ H fun x H1=>∃a C dx fs v,x=.ref a∧H1 a=some (.ins C dx fs)∧Cls K C∧NoAttr K C f∧fs.lookup f=some v∧Q v H1
def sFld (K:W.Frag) (ta tv:TE) (f:Str):TS:=fun D σ H=>tv σ H fun y H1=>ta σ H1 fun x H2=>∃a C dx fs,x=.ref a∧H2 a=some (.ins C dx fs)∧Cls K C∧NoAttr K C f∧fs.length < 1000 ∧
 D.nx σ (upd H2 a (.ins C dx (putF f y fs)))
section
variable {X:Cx} {o e value:Expr} {f:Str} {pos pos' tpos:Pos} {ta tv:TE}
theorem pe_fld (he:PE X e ta) (hb:attributeBase e f X.env (eval e X.env)=eval e X.env):PE X (.Attribute e f pos) (tFld X.K ta f):=by
 intro pins s σ H Q I h
 refine attr_of hb (thn (he pins s σ H _ I h) fun u s1 ⟨x,H1,I1,rx,a,C,dx,fs,v,ex,ea,c,n,l,q⟩=>?_)
 subst ex
 obtain rfl:u=Value.ref a:=rx
 exact getattr_ok I1 ea c n l fun u' s2 I2 ru=>⟨v,H1,I2,ru,q⟩
theorem ps_fld (ha:PE X o ta) (hv:PE X value tv) (hs:swapsWith value (some (.Attribute o f pos')) pos.line X.env=pure false):PS X (.Assign [.Attribute o f pos'] value pos) (sFld X.K ta tv f):=by
 intro pins s σ H D I h
 refine plainObj_wpAny_Assign_Attribute (thn (hv pins s σ H _ I h) fun u s1 ⟨y,H1,I1,ry,q⟩=>thn (ha pins s1 σ H1 _ I1 q) fun ov s2 ⟨x,H2,I2,rx,a,C,dx,fs,ex,ea,c,n,l,q2⟩=>?_) hs
 subst ex
 obtain rfl:ov=Value.ref a:=rx
 exact setattr_ok I2 ea c n l ry fun s3 I3=>⟨σ,_,I3,q2⟩
end
section
variable {X:Cx} {pins:List (Addr×Obj)} {σ:St} {H:Hp} {s:Shared} {A:Around} {E:Value→Shared→Prop} {Q:Value→Shared→Prop} {c:Value} {b:Bool}
inductive TyOf (K:W.Frag) (H:Hp):V→Value→Prop where
 | non:TyOf K H .non (.type "NoneType")
 | bl (x:Bool):TyOf K H (.bl x) (.type "bool")
 | int (i:Int):TyOf K H (.int i) (.type "int")
 | str (x:Str):TyOf K H (.str x) (.type "str")
 | flt (x:UInt64):TyOf K H (.flt x) (.type "float")
 | lst {a:Addr} {xs:List V} (e:H a=some (.lst xs)):TyOf K H (.ref a) (.type "list")
 | frz {a:Addr} {o:Obj} {xs:List V} (e:H a=some (.frz o (.lst xs))):TyOf K H (.ref a) (.type "list")
 | tup {a:Addr} {xs:List V} (e:H a=some (.tup xs)):TyOf K H (.ref a) (.type "tuple")
 | dK {a:Addr} {kvs:List (Key×V)} (e:H a=some (.dK kvs)):TyOf K H (.ref a) (.type "dict")
 | dT {a:Addr} {kvs:List (List Key×V)} (e:H a=some (.dT kvs)):TyOf K H (.ref a) (.type "dict")
 | ins {a C dx:Addr} {fs:List (Str×V)} (e:H a=some (.ins C dx fs)) (cl:Cls K C) (ha:W.findIn K (.ref C) "__class__" = some (some (.builtin "object.__class__")))
   (hn:W.specialIn K (.builtin "object.__class__") "__get__" = some (some (.builtin "getset_descriptor.__get__"))) (htk:W.takesIn K (.builtin "object.__class__")=some true)
   (hm:W.mroIn K C (.type "object")=some true):TyOf K H (.ref a) (.ref C)
theorem isinst_ok {x:V} {u t:Value} (I:Inv X pins σ H s) (rx:RelV x u) (ty:TyOf X.K H x t) (e:W.kitOne X.K t c=some b) (h:∀tk,Q (.bool b) { s with toks:=tk }) :
  wpAny (model X.prog X.w) A (call (.builtin "isinstance") [u,c]) Q E s:=by
 cases ty with
 | non=>cases (show u=Value.none from rx);exact W.kia_one W.kitx_none I.kIn True.intro e (fun z=>nomatch z) h
 | bl y=>cases (show u=Value.bool y from rx);exact W.kia_one W.kitx_bool I.kIn True.intro e (fun z=>nomatch z) h
 | int i=>obtain ⟨t,q⟩:=(show ∃t,u=Value.int i t from rx);cases q;exact W.kia_one W.kitx_int I.kIn True.intro e (fun z=>nomatch z) h
 | str y=>obtain ⟨t,q⟩:=(show ∃t,u=Value.str y t from rx);cases q;exact W.kia_one W.kitx_str I.kIn True.intro e (fun z=>nomatch z) h
 | flt y=>obtain ⟨t,q⟩:=(show ∃t,u=Value.float y t from rx);cases q;exact W.kia_one W.kitx_float I.kIn True.intro e (fun z=>nomatch z) h
 | @lst a xs ea =>
  cases (show u=Value.ref a from rx)
  obtain ⟨_,_,n,_,h1⟩:=(show ObjOk X.prog X.w H s.heap a (.lst xs) from I.hok a _ ea)
  exact W.kia_one W.kitx_list I.kIn ⟨_,h1,rfl⟩ e (fun z=>nomatch z) h
 | @frz a ob xs ea =>
  cases (show u=Value.ref a from rx)
  obtain ⟨_,_,_,n,_,h1⟩:=(show ObjOk X.prog X.w H s.heap a (.frz ob (.lst xs)) from I.hok a _ ea)
  exact W.kia_one W.kitx_list I.kIn ⟨_,h1,rfl⟩ e (fun z=>nomatch z) h
 | @tup a xs ea =>
  cases (show u=Value.ref a from rx)
  obtain ⟨_,_,_,p⟩:=(show ObjOk X.prog X.w H s.heap a (.tup xs) from I.hok a _ ea)
  obtain ⟨o,h1,h2,_⟩:=p
  exact W.kia_one W.kitx_tuple I.kIn ⟨o,h1,h2⟩ e (fun z=>nomatch z) h
 | @dK a kvs ea =>
  cases (show u=Value.ref a from rx)
  obtain ⟨_,_,vs,_,p⟩:=(show ObjOk X.prog X.w H s.heap a (.dK kvs) from I.hok a _ ea)
  obtain ⟨o,es,ep,h1,h2,_⟩:=p
  exact W.kia_one W.kitx_dict I.kIn ⟨o,h1,h2.1⟩ e (fun z=>nomatch z) h
 | @dT a kvs ea =>
  cases (show u=Value.ref a from rx)
  obtain ⟨_,_,xs,_,o,es,ep,h1,h2,_⟩:=(show ObjOk X.prog X.w H s.heap a (.dT kvs) from I.hok a _ ea)
  exact W.kia_one W.kitx_dict I.kIn ⟨o,h1,h2.1⟩ e (fun z=>nomatch z) h
 | @ins a C dx fs ea cl ha hn htk hm =>
  cases (show u=Value.ref a from rx)
  obtain ⟨mA,O,_⟩:=ins_get I.hok ea
  obtain ⟨od,J,_⟩:=O.look
  exact W.kia_one (W.kitx_own (cl.get _) cl.hd ha hn htk hm) I.kIn J e (fun z=>nomatch z) h
end
structure Room (k:Nat) (A:Around):Prop where
 hd:A.handled=none
 dp:A.depth + 3 * k + 5 < recursionLimit
 un:A.units + 16 * k + 200 < cLine
 gd:A.guards=some []
theorem Room.mono {j k:Nat} {A:Around} (r:Room k A) (h:j≤k):Room j A:=⟨r.hd,by have:=r.dp;lia,by have:=r.un;lia,r.gd⟩
theorem Room.deeper {k:Nat} {A:Around} (r:Room (k + 1) A) (env:Env):Room k (A.deeper env) :=
 ⟨r.hd,by have:=r.dp;show A.depth + 1 + 3 * k + 5 < _;lia,by have:=r.un;show A.units + 3 + 16 * k + 200 < _;lia,r.gd⟩
theorem Room.in1 {k:Nat} {A:Around} (r:Room (k + 1) A):Room k A.in1 :=
 ⟨r.hd,by have:=r.dp;show A.depth + 3 * k + 5 < _;lia,by have:=r.un;show A.units + 1 + 16 * k + 200 < _;lia,r.gd⟩
theorem make_depth {A:Around} {C:Addr} {us:List Value} {kw:List (Str×Value)}:(A.under (.builtin "type.__call__" ⟨.ref C::us,kw⟩)).depth=A.depth + 1:=by
 first | rfl | simp [Around.under,Code.weight,Code.isCreation,Code.isGuard,Code.isCaller,Code.frames,Code.isFrame,guardIds]
theorem make_units {A:Around} {C:Addr} {us:List Value} {kw:List (Str×Value)}:(A.under (.builtin "type.__call__" ⟨.ref C::us,kw⟩)).units=A.units + 1:=by
 first | rfl | simp [Around.under,Code.cUnits,Code.frames,Code.isFrame]
theorem Room.make {k:Nat} {A:Around} (r:Room (k + 1) A) (C:Addr) (us:List Value) (kw:List (Str×Value)):Room k (A.under (.builtin "type.__call__" ⟨.ref C::us,kw⟩)) :=
 ⟨r.hd,by have:=r.dp;rw [make_depth];lia,by have:=r.un;rw [make_units];lia,by first | exact r.gd | (simp [Around.under,Code.guards,Code.isGuard,guardIds,pushGuards];exact r.gd)⟩
theorem Room.depth {k:Nat} {A:Around} (r:Room k A):A.depth < recursionLimit:=by have:=r.dp;lia
theorem Room.units {k:Nat} {A:Around} (r:Room k A):A.units + 64 < cLine:=by have:=r.un;lia
def tNil:TA:=fun _ H Q=>Q [] H
def tCons (ta:TE) (tr:TA):TA:=fun σ H Q=>ta σ H fun x H1=>tr σ H1 fun xs H2=>Q (x::xs) H2
section
variable {X:Cx} {e:Expr} {es:List Expr} {te:TE} {t:TA} {pos:Pos}
theorem pa_nil:PA X [] tNil:=fun _ _ _ _ H Q I h=>Calls.spliced_nil ⟨[],H,I,.nil,h⟩
theorem pa_cons (ha:PE X e te) (hr:PA X es t) (hs:starEach (e::es) X.env=(false,eval e X.env)::starEach es X.env:=by rfl):PA X (e::es) (tCons te t):=by
 intro pos pins s σ H Q I h
 rw [hs]
 show wpAny _ _ (spliced ((false,eval e X.env)::backTo pos (starEach es X.env))) _ _ s
 refine Calls.spliced_cons (thn (ha pins s σ H _ I h) fun u s1 ⟨x,H1,I1,r1,q1⟩=>?_)
 exact thn (hr pos pins s1 σ H1 _ I1 q1) fun us s2 ⟨xs,H2,I2,r2,q2⟩=>⟨x::xs,H2,I2,.cons r1 r2,q2⟩
end
abbrev Sp:=List V→Hp→VK→XK→Prop
abbrev CXT:=List Env→Hp→Shared→XK→Value→Shared→Prop
structure Env0 (P:Program) (w:World) (K:W.Frag) (mg:Str→Option Value) (base:Heap) (A:Around) (outer:List Env) (s:Shared) (H:Hp):Prop where
 frames:A.frames=some outer
 mod:Mod K mg base
 bs:∀b o,base.get? b=some o→s.heap.get? b=some o∧H b=none
 bsz:base.objs.size≤s.heap.objs.size
 funs:s.heap.FunFrames base outer
 frf:∀b∈frs outer,H b=none
 hok:HOk P w H s.heap
 bare:AllBare s.gens
def CE (outer:List Env) (P:Program) (w:World) (H:Hp) (s:Shared) (Q:VK) (u:Value) (s':Shared):Prop :=
 ∃v H',s'.os=s.os∧AllBare s'.gens∧Un (frs outer) [] H H' s.heap s'.heap∧HOk P w H' s'.heap∧RelV v u∧Q v H'
def CR (CX:CXT) (outer:List Env) (P:Program) (w:World) (H:Hp) (s:Shared) (Q:VK) (E:XK) (r:Result) (s':Shared):Prop :=
 match r with
 | .ok (.ret u)=>CE outer P w H s Q u s'
 | .ok _=>False
 | .error e=>CX outer H s E e s'
structure FnOk (P:Program) (w:World) (K:W.Frag) (mg:Str→Option Value) (base:Heap) (CX:CXT) (k:Nat) (f:Addr) (fd:FuncData) (ps:List Str) (sp:Sp):Prop where
 len:∀vs H Q E,sp vs H Q E→vs.length=ps.length
 run:∀(A:Around) (outer:List Env) (s:Shared) (H:Hp) (args:Args) (us:List Value) (vs:List V) (Q:VK) (E:XK),Room k A→Env0 P w K mg base A outer s H→BindsTo s fd args (ps.zip us)→Vals vs us→sp vs H Q E →
  codeAny (model P w) A (.call (.ref f) args) (CR CX outer P w H s Q E) s
theorem FnOk.imp {P:Program} {w:World} {K:W.Frag} {mg:Str→Option Value} {base:Heap} {CX:CXT} {k:Nat} {f:Addr} {fd:FuncData} {ps:List Str} {sp sp':Sp} (F:FnOk P w K mg base CX k f fd ps sp)
  (h:∀vs H Q E,sp' vs H Q E→sp vs H Q E):FnOk P w K mg base CX k f fd ps sp' :=
 ⟨fun vs H Q E q=>F.len vs H Q E (h _ _ _ _ q),fun A outer s H args us vs Q E hr he hb hv hs=>F.run A outer s H args us vs Q E hr he hb hv (h _ _ _ _ hs)⟩
theorem Env0.make {P:Program} {w:World} {K:W.Frag} {mg:Str→Option Value} {base:Heap} {A:Around} {outer:List Env} {s:Shared} {H:Hp} (e:Env0 P w K mg base A outer s H) (C:Addr) (us:List Value) (kw:List (Str×Value)) :
  Env0 P w K mg base (A.under (.builtin "type.__call__" ⟨.ref C::us,kw⟩)) outer s H:=⟨by first | exact e.frames | (simpa [Around.under,Code.envs,Code.isFrame,pushEnvs] using e.frames),e.mod,e.bs,e.bsz,e.funs,e.frf,e.hok,e.bare⟩
theorem Env0.in1 {P:Program} {w:World} {K:W.Frag} {mg:Str→Option Value} {base:Heap} {A:Around} {outer:List Env} {s:Shared} {H:Hp} (e:Env0 P w K mg base A outer s H) :
  Env0 P w K mg base A.in1 outer s H:=⟨e.frames,e.mod,e.bs,e.bsz,e.funs,e.frf,e.hok,e.bare⟩
section
variable {X:Cx} {pins:List (Addr×Obj)} {σ:St} {H:Hp} {s s':Shared}
theorem Inv.env0 (I:Inv X pins σ H s):Env0 X.prog X.w X.K X.mg X.base X.A X.stack s H :=
 ⟨I.ok.frames,I.ok.mod,I.bs,Nat.le_trans I.ok.bsz I.sz,I.stack,I.stkFree,I.hok,I.bare⟩
theorem Inv.after {Q:VK} {u:Value} (I:Inv X pins σ H s) (h:CE X.stack X.prog X.w H s Q u s'):EP X pins σ Q u s':=by
 obtain ⟨v,H',os,bare,un,hok,r,q⟩:=h
 obtain ⟨hh,g,d,t,os'⟩:=s'
 obtain rfl:os'=s.os:=os
 exact ⟨v,H',I.call (h':=hh) (g':=g) (d':=d) (t':=t) (ch:=[]) un hok bare (fun b z=>absurd z (by simp)),r,q⟩
end
def tCall (sp:Sp) (dvs:List V) (E:XK) (t:TA):TE:=fun σ H Q=>t σ H fun vs H1=>sp (vs++dvs) H1 Q E
def tMeth (C:Addr) (m:Str) (sp:Sp) (dvs:List V) (E:XK) (ta:TE) (t:TA):TE:=fun σ H Q=>ta σ H fun x H1=>∃a dx fs,x=.ref a∧H1 a=some (.ins C dx fs)∧fs.lookup m=none ∧
 t σ H1 fun vs H2=>sp (x::(vs++dvs)) H2 Q E
def Binds (K:W.Frag) (fd:FuncData) (ps:List Str) (ds:List Value):Prop :=
 ∀(s:Shared) (us:List Value),K.In s.heap→(us++ds).length=ps.length→BindsTo s fd ⟨us,[]⟩ (ps.zip (us++ds))
theorem Binds.all {K:W.Frag} {fd:FuncData} {ps:List Str} (h:∀us:List Value,us.length=ps.length→bindArgs fd ⟨us,[]⟩=pure (ps.zip us)):Binds K fd ps []:=fun s us _ hl=>by
 rw [List.append_nil] at hl ⊢
 exact .of_eq (h us hl)
def Passes (CX:CXT) (X:Cx) (E:XK):Prop:=∀(pins:List (Addr×Obj)) (σ:St) (H:Hp) (s:Shared) (e:Value) (s':Shared),Inv X pins σ H s→CX X.stack H s E e s'→X.xe e s'
section
variable {X:Cx} {CX:CXT} {k:Nat} {f C:Addr} {fd:FuncData} {ps:List Str} {sp:Sp} {dvs:List V} {ds:List Value} {E:XK} {x m:Str} {p pos apos:Pos} {e o:Expr} {es:List Expr} {ta:TE} {t:TA}
theorem run_fn {pins:List (Addr×Obj)} {σ:St} {H:Hp} {s:Shared} {Q:VK} {us:List Value} {vs:List V} (F:FnOk X.prog X.w X.K X.mg X.base CX k f fd ps sp) (hr:Room k X.A) (hb:Binds X.K fd ps ds) (hd:Vals dvs ds) (hx:Passes CX X E)
  (I:Inv X pins σ H s) (r:Vals vs us) (h:sp (vs++dvs) H Q E):wpAny (model X.prog X.w) X.A (call (.ref f) us) (EP X pins σ Q) X.xe s:=by
 have r2:Vals (vs++dvs) (us++ds):=r.append hd
 have hl:(us++ds).length=ps.length:=by rw [← r2.length];exact F.len _ _ _ _ h
 refine wpAny_call (codeAny_mono (F.run X.A X.stack s H ⟨us,[]⟩ (us++ds) (vs++dvs) Q E hr I.env0 (hb s us I.kIn hl) r2 h) fun r s' hq=>?_)
 cases r with
 | error e=>exact hx pins σ H s e s' I hq
 | ok fl =>
  cases fl with
  | ret u=>exact I.after hq
  | next=>exact False.elim hq
  | brk=>exact False.elim hq
  | cont=>exact False.elim hq
theorem pe_call (F:FnOk X.prog X.w X.K X.mg X.base CX k f fd ps sp) (hr:Room k X.A) (hg:Gl X x) (hm:X.mg x=some (.ref f)) (hk:W.keepIn X.K (.ref f)=true) (hb:Binds X.K fd ps ds) (hd:Vals dvs ds) (hx:Passes CX X E)
  (ha:PA X (e::es) t) (hdb:(x == ("__debug__" : Str))=false:=by decide) (he:starEach (e::es) X.env=(false,eval e X.env)::starEach es X.env:=by rfl) (hpl:(backTo pos (starEach es X.env)).any (·.1)=false:=by rfl) :
  PE X (.Call (.Name x p) (e::es) [] pos) (tCall sp dvs E t):=by
 intro pins s σ H Q I h
 refine wpAny_Call_Name_kw (ld_glob I hg hm ?_ hdb)
 refine W.callWith_K (h₀:=X.base) I.ok.mod.kin hk (thn (ha pos pins s σ H _ I h) fun us s1 ⟨vs,H1,I1,r,q⟩=>⟨I1.kIn,?_⟩) he hpl
 exact run_fn F hr hb hd hx I1 r q
theorem pe_meth0 {pl:Sem Bool} (he:PE X o ta) (c:Cls X.K C) (hm:Meth X.K C m f) (F:FnOk X.prog X.w X.K X.mg X.base CX k f fd ps sp) (hr:Room k X.A) (hb:Binds X.K fd ps ds) (hd:Vals dvs ds) (hx:Passes CX X E)
  (ht:eval (.Call (.Attribute o m apos) [] [] pos) X.env=(do
   let ov ← eval o X.env
   standAt apos.atName
   let (f,first) ← holding [ov] (getMethod ov m pl)
   callWith pos f first (backTo pos (starEach [] X.env)) (backToKw pos (keywordEach [] X.env))):=by rfl) :
  PE X (.Call (.Attribute o m apos) [] [] pos) (tMeth C m sp dvs E ta tNil):=by
 intro pins s σ H Q I h
 refine W.methodCall_KW (pl:=pl) (thn (he pins s σ H _ I h) fun u s1 ⟨x,H1,I1,rx,a,dx,fs,ex,ea,l,q⟩=>?_) ht
 subst ex
 obtain rfl:u=Value.ref a:=rx
 refine getmeth_ok I1 ea c hm l ?_
 exact W.callWith_K0 (first:=[.ref a]) I1.kIn hm.kp (run_fn (us:=[.ref a]) (vs:=[.ref a]) F hr hb hd hx I1 (.cons rfl .nil) q)
structure Mk (K:W.Frag) (C f:Addr):Prop where
 makes:W.makesIn K C=true
 init:W.findIn K (.ref C) "__init__" = some (some (.ref f))
 fn:W.isFn K (.ref f)=true
 kp:W.keepIn K (.ref C)=true
theorem run_make {pins:List (Addr×Obj)} {σ:St} {H:Hp} {s:Shared} {Q:VK} {us:List Value} {vs:List V} (M:Mk X.K C f) (F:FnOk X.prog X.w X.K X.mg X.base CX k f fd ps sp) (hr:Room (k + 1) X.A) (hb:Binds X.K fd ps ds) (hd:Vals dvs ds)
  (hx:Passes CX X E) (I:Inv X pins σ H s) (r:Vals vs us)
  (h:∀x dx,H x=none→H dx=none→dx≠x→sp (.ref x::(vs++dvs)) (upd (upd H dx (.own x)) x (.ins C dx [])) (fun v H2=>v=.non∧Q (.ref x) H2) E) :
  wpAny (model X.prog X.w) X.A (call (.ref C) us) (EP X pins σ Q) X.xe s:=by
 have hq:=h (s.heap.objs.size + 1) s.heap.objs.size (I.hok.fresh (Nat.le_succ _)) (I.hok.fresh (Nat.le_refl _)) (Nat.ne_of_lt (Nat.lt_succ_self _))
 have I2:=Inv.made (C:=C) I
 have r2:Vals (V.ref (s.heap.objs.size + 1)::(vs++dvs)) (Value.ref (s.heap.objs.size + 1)::(us++ds)):=.cons rfl (r.append hd)
 have hl:(Value.ref (s.heap.objs.size + 1)::us++ds).length=ps.length:=by
  have e:=r2.length
  rw [F.len _ _ _ _ hq] at e
  exact e.symm
 refine wpAny_call (make_map (f:=f) I.kIn M.makes M.init (beq_iff_eq.mp M.fn) (codeAny_mono (F.run _ X.stack _ _ ⟨Value.ref (s.heap.objs.size + 1)::us,[]⟩ (Value.ref (s.heap.objs.size + 1)::(us++ds)) _ _ E (hr.make C us [])
  (I2.env0.make C us []) (hb _ (Value.ref (s.heap.objs.size + 1)::us) I2.kIn hl) r2 hq) fun r s' hq'=>?_))
 cases r with
 | error e=>exact hx pins σ _ _ e s' I2 hq'
 | ok fl =>
  cases fl with
  | ret u =>
   obtain ⟨v,H',I3,rv,ev,q3⟩:=I2.after hq'
   subst ev
   exact ⟨rv,⟨V.ref (s.heap.objs.size + 1),H',I3,rfl,q3⟩⟩
  | next=>exact False.elim hq'
  | brk=>exact False.elim hq'
  | cont=>exact False.elim hq'
end
structure FnScope (N P:List Str) (sc:Scope):Prop where
 kind:sc.kind=.function
 co:sc.isCoroutine=false
 gen:sc.isGenerator=false
 nd:N.Nodup
 pre:N.take P.length=P
 par:∀x∈P,sc.names.lookup x=some .local∨sc.names.lookup x=some .cell
 nofree:∀y∈sc.names,y.2≠.free
theorem bindL_out {kindOf:Str→Option NameKind} {x:Str}:∀{binds:List (Str×Value)} {m:Str→Option Value},(∀v,(x,v) ∉ binds)→bindL kindOf binds m x=m x
 | [],_,_=>rfl
 | (n,v)::r,m,h=>by
  unfold bindL
  rw [bindL_out fun w hw=>h w (List.mem_cons_of_mem _ hw)]
  split
  ·have:x≠n:=by rintro rfl;exact h v List.mem_cons_self
   simp [this]
  ·rfl
theorem bindC_out {kindOf:Str→Option NameKind} {x:Str}:∀{binds:List (Str×Value)} {m:Str→Option Value},(∀v,(x,v) ∉ binds)→bindC kindOf binds m x=m x
 | [],_,_=>rfl
 | (n,v)::r,m,h=>by
  unfold bindC
  rw [bindC_out fun w hw=>h w (List.mem_cons_of_mem _ hw)]
  split
  ·rfl
  ·have:x≠n:=by rintro rfl;exact h v List.mem_cons_self
   simp [this]
theorem bindL_get {kindOf:Str→Option NameKind} {x:Str} {v:Value}:∀{P:List Str} {vs:List Value} {i:Nat} {m:Str→Option Value},P.Nodup→P[i]?=some x→vs[i]?=some v→kindOf x=some .local →
  bindL kindOf (P.zip vs) m x=some v
 | [],_,_,_,_,h,_,_=>by simp at h
 | _::_,[],_,_,_,_,h,_=>by simp at h
 | p::P,w::vs,0,m,nd,h1,h2,hk=>by
  simp at h1 h2;subst h1;subst h2
  show bindL kindOf ((p,w)::P.zip vs) m p=_
  unfold bindL
  rw [bindL_out fun v hv=>(List.nodup_cons.mp nd).1 (List.of_mem_zip hv).1,if_pos hk]
  simp
 | p::P,w::vs,i + 1,m,nd,h1,h2,hk=>by
  show bindL kindOf ((p,w)::P.zip vs) m x=_
  unfold bindL
  exact bindL_get (i:=i) (List.nodup_cons.mp nd).2 (by simpa using h1) (by simpa using h2) hk
theorem bindC_get {kindOf:Str→Option NameKind} {x:Str} {v:Value}:∀{P:List Str} {vs:List Value} {i:Nat} {m:Str→Option Value},P.Nodup→P[i]?=some x→vs[i]?=some v→kindOf x≠some .local →
  bindC kindOf (P.zip vs) m x=some v
 | [],_,_,_,_,h,_,_=>by simp at h
 | _::_,[],_,_,_,_,h,_=>by simp at h
 | p::P,w::vs,0,m,nd,h1,h2,hk=>by
  simp at h1 h2;subst h1;subst h2
  show bindC kindOf ((p,w)::P.zip vs) m p=_
  unfold bindC
  rw [bindC_out fun v hv=>(List.nodup_cons.mp nd).1 (List.of_mem_zip hv).1,if_neg hk]
  simp
 | p::P,w::vs,i + 1,m,nd,h1,h2,hk=>by
  show bindC kindOf ((p,w)::P.zip vs) m x=_
  unfold bindC
  exact bindC_get (i:=i) (List.nodup_cons.mp nd).2 (by simpa using h1) (by simpa using h2) hk
def start (N:List Str) (vs:List V):St:=vs.map some++List.replicate (N.length - vs.length) none
def cxOf (CX:CXT) (P:Program) (w:World) (K:W.Frag) (mg:Str→Option Value) (base:Heap) (N:List Str) (qual:Str) (scope:Scope) (f:Addr) (cd:Value) (A:Around) (outer:List Env) (s:Shared) (H:Hp) (E:XK):Cx where
 prog:=P
 w:=w
 K:=K
 mg:=mg
 base:=base
 A:=A.deeper (envOfC qual scope s.heap.objs.size f cd)
 N:=N
 s₀:=s
 H₀:=H
 env:=envOfC qual scope s.heap.objs.size f cd
 outer:=outer
 stack:=envOfC qual scope s.heap.objs.size f cd::outer
 ex:=[]
 calm:=true
 fn:=fun _=>true
 pn:=[]
 xe:=fun e s'=>wpAny (model P w) (A.deeper (envOfC qual scope s.heap.objs.size f cd)) (leaving (envOfC qual scope s.heap.objs.size f cd) e) (fun _ s''=>CX outer H s E e s'') (fun e' s''=>CX outer H s E e' s'') s'
theorem cell_has {sc:Scope} {n:Nat} {x:Str} (h:sc.names.lookup x=some .cell):∃c,(cellsFrom n sc.names []).lookup x=some c:=by
 have q:=W.cellsFrom_some sc.names n [] (.inl h)
 exact Option.isSome_iff_exists.mp q
theorem inv_start {CX:CXT} {P:Program} {w:World} {K:W.Frag} {mg:Str→Option Value} {base:Heap} {N ps:List Str} {qual:Str} {scope:Scope} {f:Addr} {cd:Value} {A:Around} {outer:List Env} {s s1:Shared} {H:Hp} {E:XK} {us:List Value} {vs:List V}
  (S:FnScope N ps scope) (hd:A.handled=none) (e0:Env0 P w K mg base A outer s H) (hl:vs.length=ps.length) (r:Vals vs us)
  (x:InCallC s s.heap.objs.size (bindL (envOfC qual scope s.heap.objs.size f cd).kindOf (ps.zip us) fun _=>none) (cellsFrom (s.heap.objs.size + 1) scope.names []) (bindC (envOfC qual scope s.heap.objs.size f cd).kindOf (ps.zip us) fun _=>none) s1) :
  Inv (cxOf CX P w K mg base N qual scope f cd A outer s H E) [] (start N vs) H s1:=by
 have hpl:ps.length≤N.length:=by have:=congrArg List.length S.pre;rw [List.length_take] at this;lia
 obtain ⟨h1,tk,rfl,hk⟩:=x.done
 have noA:∀b:Addr,b ∉ (cxOf CX P w K mg base N qual scope f cd A outer s H E).ex:=fun b z=>absurd (show b∈([]:List Addr) from z) (by simp)
 refine ⟨⟨e0.mod,S.kind,rfl,rfl,Nat.le_refl _,fun y z c h1 h2=>?_,fun y hy=>?_,fun y c _ h=>?_,fun _=>hd,Around.frames_deeper e0.frames,.inr ⟨rfl,rfl⟩,fun b z=>absurd z (noA b),e0.bs,e0.bsz,fun b _ _=>noA b,fun b z=>absurd z (noA b),e0.funs,e0.frf⟩,
  rfl,e0.bare,Un.kept hk,⟨_,x.toInCall.ns,fun i y v h1 h2 h3=>?_⟩,fun y c h=>⟨_,x.cell y c h⟩,e0.hok.fresh (Nat.le_refl _),fun y c h=>?_,fun p hp=>absurd (show p∈([]:List (Addr×Obj)) from hp) (by simp),e0.hok.kept hk,?_⟩
 ·exact name_of_addr x.apart (PySem.mem_of_lookup h1) (PySem.mem_of_lookup h2)
 ·have hy:scope.names.lookup y=some .cell∨scope.names.lookup y=some .free:=hy
  rcases hy with hy | hy
  ·exact cell_has hy
  ·exact absurd rfl (S.nofree _ (PySem.mem_of_lookup hy))
 ·exact Nat.le_of_lt (x.above y c (PySem.mem_of_lookup h))
 ·have hi:i < vs.length:=by
   unfold start at h2
   by_cases hi:i < vs.length
   ·exact hi
   ·rw [List.getElem?_append_right (by simpa using hi)] at h2
    rw [List.getElem?_replicate] at h2
    split at h2 <;> cases h2
  have ha:vs[i]?=some v:=by
   unfold start at h2
   rw [List.getElem?_append_left (by simpa using hi),List.getElem?_map] at h2
   cases e:vs[i]? with
   | none=>rw [e] at h2;cases h2
   | some a=>rw [e] at h2;cases h2;rfl
  obtain ⟨u,hu,rv⟩:=r.get ha
  have hp:ps[i]?=some y:=by
   rw [← S.pre,List.getElem?_take_of_lt (by lia)];exact h1
  have ndP:ps.Nodup:=by rw [← S.pre];exact S.nd.sublist (List.take_sublist _ _)
  refine ⟨u,rv,?_⟩
  rcases S.par y (List.mem_of_getElem? hp) with k | k
  ·exact .inl ⟨k,bindL_get ndP hp hu k⟩
  ·obtain ⟨c,e⟩:=cell_has (n:=s.heap.objs.size + 1) k
   refine .inr ⟨.inl k,c,e,?_⟩
   have q:=x.cell y c e
   rw [bindC_get ndP hp hu (by show scope.names.lookup y≠_;rw [k];decide)] at q
   exact q
 ·exact e0.hok.fresh (Nat.le_of_lt (x.above y c (PySem.mem_of_lookup h)))
 ·unfold start
  show _=N.length
  rw [List.length_append,List.length_map,List.length_replicate]
  lia
theorem fn_of {CX:CXT} {P:Program} {w:World} {K:W.Frag} {mg:Str→Option Value} {base:Heap} {k:Nat} {f:Addr} {name qual:Str} {params:Arguments} {body:List Stmt} {scope:Scope} {dV kV doc pm cdv ct oc:Value} {an od:Option Addr}
  {osl:Array (Option Value)} {N ps:List Str} {sp:Sp} (lk:K.lookup f=some ⟨oc,od,.func (W.fnOf name qual params body scope dV kV doc pm an cdv ct),osl⟩) (hcd:W.codeIn K cdv qual=true) (S:FnScope N ps scope)
  (len:∀vs H Q E,sp vs H Q E→vs.length=ps.length)
  (hbody:∀(A:Around) (outer:List Env) (s:Shared) (H:Hp) (vs:List V) (Q:VK) (E:XK),Room k (A.deeper (envOfC qual scope s.heap.objs.size f cdv))→sp vs H Q E →
   ∃t,PSs (cxOf CX P w K mg base N qual scope f cdv A outer s H E) body t∧t { nx:=fun _ H'=>Q .non H',rt:=Q } (start N vs) H) :
  FnOk P w K mg base CX (k + 1) f (W.fnOf name qual params body scope dV kV doc pm an cdv ct) ps sp:=by
 refine ⟨len,fun A outer s H args us vs Q E hr e0 hb r hsp=>?_⟩
 have hl:=len _ _ _ _ hsp
 have KX:K.In s.heap:=e0.mod.kin.keeps fun b o e=>(e0.bs b o e).1
 have lim:s.heap.NoLimit:=e0.mod.nolimit.keeps fun b o e=>(e0.bs b o e).1
 have hkind:∀y∈ps.zip us,scope.names.lookup y.1=some .local∨(scope.names.lookup y.1=some .cell∧((cellsFrom (s.heap.objs.size + 1) scope.names []).lookup y.1).isSome=true):=fun ⟨n,v⟩ hy=>by
  rcases S.par n (List.of_mem_zip hy).1 with q | q
  ·exact .inl q
  ·exact .inr ⟨q,W.cellsFrom_some _ _ _ (.inl q)⟩
 refine codeAny_call_function hr.depth (KX _ _ lk) rfl S.co S.gen rfl (W.codeRec_of KX hcd) (hb _ _ _ _ ?_)
 refine wpAny_newFunctionEnv_cells S.kind hkind fun env he s1 x=>?_
 subst he
 refine ⟨lim.keeps x.toInCall.keep,codeAny_func ?_⟩
 obtain ⟨t,ht,hq⟩:=hbody A outer s H vs Q E (hr.deeper _) hsp
 have I:Inv (cxOf CX P w K mg base N qual scope f cdv A outer s H E) [] (start N vs) H s1:=inv_start S hr.hd e0 hl r x
 refine wpAny_mono (ht [] s1 (start N vs) H _ I hq) (fun fl s' hs=>?_) fun e s' hs=>hs
 have fin:∀{σ':St} {H':Hp} {v:V} {u:Value},Inv (cxOf CX P w K mg base N qual scope f cdv A outer s H E) [] σ' H' s'→RelV v u→Q v H'→CE outer P w H s Q u s' :=
  fun {σ' H' v u} J rv q=>⟨v,H',J.os,J.bare,J.base,J.hok,rv,q⟩
 cases fl with
 | ret u =>
  obtain ⟨v,σ',H',J,rv,q⟩:=hs
  exact fin J rv q
 | next =>
  obtain ⟨σ',H',J,q⟩:=hs
  exact fin (v:=V.non) (u:=Value.none) J rfl q
 | brk =>
  obtain ⟨_,_,_,q⟩:=hs
  exact False.elim q
 | cont =>
  obtain ⟨_,_,_,q⟩:=hs
  exact False.elim q
section
variable {X:Cx} {x:Str} {p pos:Pos} {e:Expr} {es:List Expr} {t:TA} {id T:String} {r:List V→Hp→VK→Prop}
def tCB (r:List V→Hp→VK→Prop) (t:TA):TE:=fun σ H Q=>t σ H fun vs H1=>r vs H1 Q
theorem pe_callB (hc:CallR X (.builtin id) r) (hg:Gl X x) (hm:X.mg x=none) (hv:bootBuiltins x=some (.builtin id)) (ha:PA X (e::es) t) (hn:x ≠ "__name__" := by decide) (hdb:(x == ("__debug__" : Str))=false:=by decide)
  (he:starEach (e::es) X.env=(false,eval e X.env)::starEach es X.env:=by rfl) (hpl:(backTo pos (starEach es X.env)).any (·.1)=false:=by rfl):PE X (.Call (.Name x p) (e::es) [] pos) (tCB r t):=by
 intro pins s σ H Q I h
 refine wpAny_Call_Name_kw (ld_blt I hg hm hv ?_ hn hdb)
 exact PyProof.Rows.callWith_builtin1 (thn (ha pos pins s σ H _ I h) fun us s1 ⟨vs,H1,I1,r1,q1⟩=>hc pins s1 σ H1 vs us Q I1 r1 q1) he hpl
theorem pe_callTy (hc:CallR X (.type T) r) (hg:Gl X x) (hm:X.mg x=none) (hv:bootBuiltins x=some (.type T)) (ha:PA X (e::es) t) (hn:x ≠ "__name__" := by decide) (hdb:(x == ("__debug__" : Str))=false:=by decide)
  (he:starEach (e::es) X.env=(false,eval e X.env)::starEach es X.env:=by rfl) (hpl:(backTo pos (starEach es X.env)).any (·.1)=false:=by rfl):PE X (.Call (.Name x p) (e::es) [] pos) (tCB r t):=by
 intro pins s σ H Q I h
 refine wpAny_Call_Name_kw (ld_blt I hg hm hv ?_ hn hdb)
 exact PyProof.Rows.callWith_type1 (thn (ha pos pins s σ H _ I h) fun us s1 ⟨vs,H1,I1,r1,q1⟩=>hc pins s1 σ H1 vs us Q I1 r1 q1) he hpl
end
end L2
namespace HT
open PySem PyProof.Rows
section
open PySem.SeqAt
open PySem.AutoSeq1 (wpAny_loadPart')
open PySem.MeetsSeq PySem.MeetsSeq2 PySem.MeetsSeq3
end
section
variable {prog:Program} {w:World} {A:Around} {E:Value→Shared→Prop} {s:Shared}
def sIx (n d:Nat):Option Int→Nat
 | none=>d
 | some v=>if v < 0 then (v + (n:Int)).toNat else min v.toNat n
theorem sIx_nat (n d k:Nat):sIx n d (some (k:Int))=min k n:=by
 show (if (k:Int) < 0 then ((k:Int) + (n:Int)).toNat else min (k:Int).toNat n)=min k n
 rw [if_neg (by lia),Int.toNat_natCast]
end
end HT
namespace L2
open PySem PySem.Spec PyProof.Rows
abbrev TO:=St→Hp→(Option Int→Hp→Prop)→Prop
def PO (X:Cx) (e:Option Expr) (t:TO):Prop :=
 ∀(pins:List (Addr×Obj)) (s:Shared) (σ:St) (H:Hp) (Q:Option Int→Hp→Prop),Inv X pins σ H s→t σ H Q →
  wpAny (model X.prog X.w) X.A (evalPart e X.env) (fun u s'=>∃o H',Inv X pins σ H' s'∧IsPart u o∧Q o H') X.xe s
def tNoPart:TO:=fun _ H Q=>Q none H
def tPart (t:TE):TO:=fun σ H Q=>t σ H fun x H1=>∃i,x=.int i∧Q (some i) H1
section
variable {X:Cx} {e:Expr} {te:TE} {lo hi:Option Expr} {tl th:TO} {pos p2:Pos}
theorem po_none:PO X none tNoPart:=by
 intro pins s σ H Q I h
 rw [evalPart_none]
 exact wpAny_pure ⟨none,H,I,.none,h⟩
theorem po_some (h:PE X e te):PO X (some e) (tPart te):=by
 intro pins s σ H Q I hw
 rw [evalPart_some]
 refine thn (h pins s σ H _ I hw) fun u s1 ⟨x,H1,I1,r1,q1⟩=>?_
 obtain ⟨i,rfl,q⟩:=q1
 obtain ⟨t,rfl⟩:=r1
 exact ⟨some i,H1,I1,.int i t,q⟩
def SlR (X:Cx) (r:V→Option Int→Option Int→Hp→VK→Prop):Prop :=
 ∀(pins:List (Addr×Obj)) (s:Shared) (σ:St) (H:Hp) (x:V) (v vl vu:Value) (lo hi:Option Int) (sl:Addr) (Q:VK),Inv X pins σ H s→RelV x v→s.heap.IsSliceOf sl vl vu .none→IsPart vl lo→IsPart vu hi→r x lo hi H Q →
  ∃T id,typeLookup (.type T) "__getitem__" = pure (some (.builtin id))∧s.TypeIs v T∧wpAny (model X.prog X.w) X.A (getItem v (.ref sl)) (EP X pins σ Q) X.xe s
theorem SlR.or {r r':V→Option Int→Option Int→Hp→VK→Prop} (h:SlR X r) (h':SlR X r'):SlR X (fun x lo hi H Q=>r x lo hi H Q∨r' x lo hi H Q):=by
 intro pins s σ H x v vl vu lo hi sl Q I rx hs pl pu q
 rcases q with q | q
 ·exact h pins s σ H x v vl vu lo hi sl Q I rx hs pl pu q
 ·exact h' pins s σ H x v vl vu lo hi sl Q I rx hs pl pu q
def tSl (r:V→Option Int→Option Int→Hp→VK→Prop) (te:TE) (tl th:TO):TE:=fun σ H Q=>te σ H fun x H1=>tl σ H1 fun l H2=>th σ H2 fun u H3=>r x l u H3 Q
theorem pe_slice {r:V→Option Int→Option Int→Hp→VK→Prop} (hr:SlR X r) (he:PE X e te) (hl:PO X lo tl) (hu:PO X hi th):PE X (.Subscript e (.Slice lo hi none p2) pos) (tSl r te tl th):=by
 intro pins s σ H Q I h
 refine Subscript_ (thn (he pins s σ H _ I h) fun v s1 ⟨x,H1,I1,r1,q1⟩=>?_)
 refine wpAny_Slice (thn (hl pins s1 σ H1 _ I1 q1) fun vl s2 ⟨l,H2,I2,pl,q2⟩=>thn (hu pins s2 σ H2 _ I2 q2) fun vu s3 ⟨u,H3,I3,pu,q3⟩=>?_)
 rw [evalPart_none]
 refine wpAny_pure ?_
 have I4:Inv X pins σ H3 { s3 with heap:=s3.heap.push { cls:=.type "slice", data:=.fields #[vl,vu,.none] } }:=I3.kept (t':=s3.toks) fun b ob q=>Heap.get?_push_of_some _ q
 obtain ⟨T,id,hT,ht,hg⟩:=hr pins { s3 with heap:=s3.heap.push { cls:=.type "slice", data:=.fields #[vl,vu,.none] } } σ H3 x v vl vu l u s3.heap.objs.size Q I4 r1 (Heap.IsSliceOf.new ..) pl pu q3
 show wpAny (model X.prog X.w) X.A (subscriptTail e (.Slice lo hi none p2) v (.ref s3.heap.objs.size)) (EP X pins σ Q) X.xe { s3 with heap:=s3.heap.push { cls:=.type "slice", data:=.fields #[vl,vu,.none] } }
 exact tail_any (ops:=[.ref s3.heap.objs.size,v]) ht hT hg (by with_unfolding_all rfl)
def cutV (xs:List V) (lo hi:Option Int):List V:=(xs.drop (HT.sIx xs.length 0 lo)).take (HT.sIx xs.length xs.length hi - HT.sIx xs.length 0 lo)
theorem cutV_length (xs:List V) (lo hi:Option Int):(cutV xs lo hi).length≤xs.length:=by
 unfold cutV
 rw [List.length_take,List.length_drop]
 lia
end
def ixN (n:Nat) (i:Int):Option Nat:=if 0≤i then (if i < n then some i.toNat else none) else if -(n:Int)≤i then some (i + n).toNat else none
def atI {α:Type} (xs:List α) (i:Int):Option α:=(ixN xs.length i).bind fun j=>xs[j]?
theorem ixN_seq {n:Nat} {i:Int} {j:Nat} (h:ixN n i=some j):seqIndex? i n=some j∧j < n∧-(n:Int)≤i∧i < n:=by
 unfold ixN at h
 by_cases h0:0≤i
 ·rw [if_pos h0] at h
  by_cases h1:i < n
  ·rw [if_pos h1] at h
   have e:i.toNat=j:=Option.some.inj h
   exact ⟨by rw [seqIndex_of h0 h1,e],by lia,by lia,h1⟩
  ·rw [if_neg h1] at h;cases h
 ·rw [if_neg h0] at h
  by_cases h1:-(n:Int)≤i
  ·rw [if_pos h1] at h
   have e:(i + n).toNat=j:=Option.some.inj h
   exact ⟨by rw [seqIndex_neg (by lia) h1,e],by lia,h1,by lia⟩
  ·rw [if_neg h1] at h;cases h
theorem atI_get {α:Type} {xs:List α} {i:Int} {v:α} (h:atI xs i=some v):∃j,seqIndex? i xs.length=some j∧xs[j]?=some v∧j < xs.length∧-(xs.length:Int)≤i∧i < xs.length:=by
 unfold atI at h
 cases e:ixN xs.length i with
 | none=>rw [e] at h;cases h
 | some j =>
  rw [e] at h
  obtain ⟨h1,h2,h3,h4⟩:=ixN_seq e
  exact ⟨j,h1,h,h2,h3,h4⟩
theorem atI_nat {α:Type} {xs:List α} {j:Nat} {v:α} (h:xs[j]?=some v):atI xs (j:Int)=some v:=by
 have hj:j < xs.length:=(List.getElem?_eq_some_iff.mp h).1
 have e:ixN xs.length (j:Int)=some j:=by
  unfold ixN
  rw [if_pos (by lia),if_pos (by lia)];simp
 unfold atI;rw [e];exact h
def PlainIx (b:Expr):Prop:=∀o i,subscripted b false o i=operate [o,i] (getItem o i)
def IxR (X:Cx) (r:R2):Prop :=
 ∀(value slice:Expr) (pins:List (Addr×Obj)) (s:Shared) (σ:St) (H:Hp) (x y:V) (v u:Value) (Q:VK),Inv X pins σ H s→RelV x v→RelV y u→r x y H Q →
  subscripted slice false v u=operate [v,u] (getItem v u)→wpAny (model X.prog X.w) X.A (subscriptTail value slice v u) (EP X pins σ Q) X.xe s
def MtR (X:Cx) (id:String) (r:V→List V→Hp→VK→Prop):Prop :=
 ∀(pins:List (Addr×Obj)) (s:Shared) (σ:St) (H:Hp) (x:V) (xs:List V) (v:Value) (us:List Value) (Q:VK),Inv X pins σ H s→RelV x v→Vals xs us→r x xs H Q →
  wpAny (model X.prog X.w) X.A (call (.builtin id) (v::us)) (EP X pins σ Q) X.xe s
section
variable {X:Cx} {a b:Expr} {ta tb:TE} {pos:Pos}
theorem IxR.or {r r':R2} (h:IxR X r) (h':IxR X r'):IxR X (fun x y H Q=>r x y H Q∨r' x y H Q):=by
 intro value slice pins s σ H x y v u Q I rx ry q hs
 rcases q with q | q
 ·exact h value slice pins s σ H x y v u Q I rx ry q hs
 ·exact h' value slice pins s σ H x y v u Q I rx ry q hs
theorem MtR.or {id:String} {r r':V→List V→Hp→VK→Prop} (h:MtR X id r) (h':MtR X id r'):MtR X id (fun x xs H Q=>r x xs H Q∨r' x xs H Q):=by
 intro pins s σ H x xs v us Q I rx rs q
 rcases q with q | q
 ·exact h pins s σ H x xs v us Q I rx rs q
 ·exact h' pins s σ H x xs v us Q I rx rs q
theorem pe_ix {r:R2} (hr:IxR X r) (ha:PE X a ta) (hb:PE X b tb) (hs:PlainIx b):PE X (.Subscript a b pos) (tOp r ta tb):=by
 intro pins s σ H Q I h
 exact Subscript_ (binT ha hb I h fun v u s2 x y H2 I2 rx ry q=>hr a b pins s2 σ H2 x y v u Q I2 rx ry q (hs _ _))
def rIxL (K:W.Frag):R2:=fun x y H Q=>∃p xs i v,x=.ref p∧y=.int i∧SqL K H p xs∧atI xs i=some v∧Q v H
def rIxT (K:W.Frag):R2:=fun x y H Q=>∃p xs i v,x=.ref p∧y=.int i∧SqT K H p xs∧atI xs i=some v∧Q v H
def rIxS:R2:=fun x y H Q=>∃z i c,x=.str z∧y=.int i∧z.length≤sizeLine∧atI z.cps.toList i=some c∧Q (.str ⟨#[c]⟩) H
theorem ix_list:IxR X (rIxL X.K):=by
 intro value slice pins s σ H x y v u Q I rx ry h hs
 obtain ⟨p,xs,i,z,rfl,rfl,hq,he,q⟩:=h
 cases rx
 obtain ⟨t,rfl⟩:=ry
 obtain ⟨its,r,pl,hz⟩:=I.list hq
 obtain ⟨j,h1,h2,h3,h4,h5⟩:=atI_get he
 obtain ⟨w,ew,rw'⟩:=r.get h2
 have hl:=r.length
 have hn:=line63
 have fin:EP X pins σ Q w s:=⟨z,H,I,rw',q⟩
 by_cases h0:0≤i
 ·have hj:i.toNat=j:=by
   rw [seqIndex_of h0 h5] at h1
   exact Option.some.inj h1
  exact item_listR pl.isList h0 (by lia) (by rw [hj];simpa using ew) fin hs
 ·have hj:(i + (its.toArray.size:Int)).toNat=j:=by
   rw [seqIndex_neg (by lia) h4] at h1
   rw [List.size_toArray,← hl]
   exact Option.some.inj h1
  exact subscriptTail_builtinR (x:=w) pl.isList.typeIs slot_list_getitem.lookup
   (wpAny_getItem_list_neg (Q:=fun r s'=>r=w∧EP X pins σ Q r s') pl.isList (by lia) (by rw [List.size_toArray] <;> lia) (by lia) (by rw [hj];simpa using ew) ⟨rfl,fin⟩) hs
theorem ix_tup:IxR X (rIxT X.K):=by
 intro value slice pins s σ H x y v u Q I rx ry h hs
 obtain ⟨p,xs,i,z,rfl,rfl,hq,he,q⟩:=h
 cases rx
 obtain ⟨t,rfl⟩:=ry
 obtain ⟨its,r,pl,hz⟩:=I.tuple hq
 obtain ⟨j,h1,h2,h3,h4,h5⟩:=atI_get he
 obtain ⟨w,ew,rw'⟩:=r.get h2
 have hl:=r.length
 have hn:=line63
 have fin:EP X pins σ Q w s:=⟨z,H,I,rw',q⟩
 exact subscriptTail_builtinR (x:=w) pl.typeIs slot_tuple_getitem.lookup
  (getItem_tuple (j:=j) (Q:=fun r s'=>r=w∧EP X pins σ Q r s') pl (by lia) (by lia) (by rw [List.size_toArray,← hl];exact h1) (by simpa using ew) ⟨rfl,fin⟩) hs
theorem ix_str:IxR X rIxS:=by
 intro value slice pins s σ H x y v u Q I rx ry h hs
 obtain ⟨z,i,c,rfl,rfl,hz,he,q⟩:=h
 obtain ⟨t,rfl⟩:=rx
 obtain ⟨t',rfl⟩:=ry
 obtain ⟨j,h1,h2,h3,h4,h5⟩:=atI_get he
 have hl:z.cps.toList.length=z.length:=by simp [Str.length]
 rw [hl] at h1 h4 h5
 have hn:=line63
 exact tail_any (typeIs_str s z t) slot_str_getitem.lookup (getItem_str (c:=c) (by
  have e1:decide (i < -(2 ^ 63:Int))=false:=decide_eq_false (by lia)
  have e2:decide (i ≥ 2 ^ 63)=false:=decide_eq_false (by lia)
  rw [e1,e2,Bool.or_false]) (by rw [h1];simpa using h2) ⟨.str ⟨#[c]⟩,H,I.tok _,⟨_,rfl⟩,q⟩) hs
theorem mapSeq_set (its:List Value) (n j:Nat) (u:Value):Obj.mapSeq (·.setIfInBounds j u) { cls:=.type "list", data:=.seq its.toArray n }={ cls:=.type "list", data:=.seq (its.set j u).toArray n }:=by
 simp [Obj.mapSeq]
theorem Inv.lst {pins:List (Addr×Obj)} {σ:St} {H:Hp} {s:Shared} {p:Addr} {xs:List V} (I:Inv X pins σ H s) (h:H p=some (.lst xs)) :
  ∃(its:List Value) (n:Nat),Vals xs its∧s.heap.get? p=some { cls:=.type "list", data:=.seq its.toArray n }∧xs.length≤sizeLine:=by
 obtain ⟨z,its,n,r,e⟩:=I.hok p _ h
 exact ⟨its,n,r,e,z⟩
theorem Inv.lstUpd {pins:List (Addr×Obj)} {σ:St} {H:Hp} {s:Shared} {p:Addr} {xs ys:List V} {its its':List Value} {n n':Nat} {f:Obj→Obj} (I:Inv X pins σ H s) (h:H p=some (.lst xs))
  (ho:s.heap.get? p=some { cls:=.type "list", data:=.seq its.toArray n }) (hf:f { cls:=.type "list", data:=.seq its.toArray n }={ cls:=.type "list", data:=.seq its'.toArray n' }) (r:Vals ys its') (hz:ys.length≤sizeLine) (t:Nat) :
  Inv X pins σ (upd H p (.lst ys)) { s with heap:=s.heap.update p f,toks:=t }:=by
 have e:(s.heap.update p f).get? p=some { cls:=.type "list", data:=.seq its'.toArray n' }:=by
  rw [Heap.get?_update_self f ho (by rw [hf] <;> rfl),hf]
 refine I.write (x:=p) (e:=p) (by rw [h];trivial) (.inl rfl) (fun b u hb q=>(Heap.get?_update_other _ _ (Ne.symm hb)).trans q) ⟨_,e⟩ ?_
 exact ⟨hz,its',n',r,e⟩
def rSetL:V→V→V→Hp→(Hp→Prop)→Prop:=fun o i v H Q=>∃p xs k j,o=.ref p∧i=.int k∧H p=some (.lst xs)∧ixN xs.length k=some j∧Q (upd H p (.lst (xs.set j v)))
theorem set_list:PSet X rSetL:=by
 intro pins s σ H o i v ov iv u Q I ro ri rv h
 obtain ⟨p,xs,k,j,rfl,rfl,hp,hj,q⟩:=h
 cases ro
 obtain ⟨t,rfl⟩:=ri
 obtain ⟨its,n,r,ho,hz⟩:=I.lst hp
 obtain ⟨h1,h2,h3,h4⟩:=ixN_seq hj
 have hl:=r.length
 have hn:=line63
 have I':Inv X pins σ (upd H p (.lst (xs.set j v))) { s with heap:=s.heap.update p (Obj.mapSeq (·.setIfInBounds j u)) } :=
  I.lstUpd hp ho (mapSeq_set its n j u) (r.set rv j) (by rw [List.length_set];exact hz) s.toks
 by_cases h0:0≤k
 ·have hk:k.toNat=j:=by
   rw [seqIndex_of h0 h4] at h1
   exact Option.some.inj h1
  exact W.ki_setAt ho h0 (by lia) (by rw [List.size_toArray,← hl];exact h4) (by rw [hk];exact ⟨_,I',q⟩)
 ·have hk:(k + (its.toArray.size:Int)).toNat=j:=by
   rw [seqIndex_neg (by lia) h3] at h1
   rw [List.size_toArray,← hl]
   exact Option.some.inj h1
  exact W.ki_setBack ho (by lia) (by rw [List.size_toArray,← hl];exact h3) (by lia) (by rw [hk];exact ⟨_,I',q⟩)
theorem slice_bounds (lo hi:Option Int) (n:Nat):(sliceBounds lo hi none n).1=((HT.sIx n 0 lo:Nat):Int)∧(sliceBounds lo hi none n).2.1=((HT.sIx n n hi:Nat):Int)∧(sliceBounds lo hi none n).2.2=1:=by
 refine ⟨?_,?_,rfl⟩
 ·cases lo with
  | none=>simp [sliceBounds,HT.sIx]
  | some i =>
   simp only [sliceBounds,HT.sIx,Option.getD_none,show (1:Int) > 0 by decide,if_true]
   by_cases h:i < 0
   ·simp only [h,if_true] <;> lia
   ·simp only [h,if_false] <;> lia
 ·cases hi with
  | none=>simp [sliceBounds,HT.sIx]
  | some i =>
   simp only [sliceBounds,HT.sIx,Option.getD_none,show (1:Int) > 0 by decide,if_true]
   by_cases h:i < 0
   ·simp only [h,if_true] <;> lia
   ·simp only [h,if_false] <;> lia
theorem slicePick_cut (its:List Value) (lo hi:Option Int):slicePick its.toArray lo hi none=((its.drop (HT.sIx its.length 0 lo)).take (HT.sIx its.length its.length hi - HT.sIx its.length 0 lo)).toArray:=by
 obtain ⟨h1,h2,h3⟩:=slice_bounds lo hi its.toArray.size
 unfold slicePick
 rw [h1,h2,h3]
 simp only [sliceRange_one,pick_run,List.size_toArray] <;> rfl
def rSlL (K:W.Frag):V→Option Int→Option Int→Hp→VK→Prop:=fun x lo hi H Q=>∃a xs,x=.ref a∧SqL K H a xs∧∀p,H p=none→Q (.ref p) (upd H p (.lst (cutV xs lo hi)))
theorem sl_list:SlR X (rSlL X.K):=by
 intro pins s σ H x v vl vu lo hi sl Q I rx hs pl pu h
 obtain ⟨a,xs,rfl,hx,q⟩:=h
 cases rx
 obtain ⟨its,r,ht,hz⟩:=I.list hx
 have hlen:=r.length
 refine ⟨"list", _,slot_list_getitem.lookup,ht.isList.typeIs,?_⟩
 refine wpAny_getItem_list_slice ht.isList hs pl pu .none (by simp) ?_ (by rw [List.size_toArray] <;> lia)
 rw [slicePick_cut,← hlen]
 refine ⟨.ref s.heap.objs.size,_,I.laid (t':=s.toks) (o:=.lst (cutV xs lo hi)) (fun b ob q=>Heap.get?_push_of_some _ q) (Nat.le_refl _) ?_,rfl,q _ (I.hok.fresh (Nat.le_refl _))⟩
 exact ⟨Nat.le_trans (cutV_length xs lo hi) hz,_,0,(r.drop (HT.sIx xs.length 0 lo)).take (HT.sIx xs.length xs.length hi - HT.sIx xs.length 0 lo),Heap.get?_push_size _ rfl⟩
def flatV:V→Bool
 | .non=>true
 | .bl _=>true
 | .int _=>true
 | .str _=>true
 | _=>false
def eqV:V→V→Bool
 | .non,.non=>true
 | .bl a,.bl b=>a == b
 | .bl a,.int b=>(if a then 1 else 0) == b
 | .int a,.bl b=>a == (if b then 1 else 0)
 | .int a,.int b=>a == b
 | .str a,.str b=>a == b
 | _,_=>false
theorem eqAt_V {A:Around} {s:Shared} {y x:V} {u v:Value} (ry:RelV y u) (rx:RelV x v) (fy:flatV y=true) (fx:flatV x=true):SeqAt.EqAt A s u v (eqV y x):=by
 cases y with
 | non =>
  cases ry
  cases x with
  | non=>cases rx;exact SeqAt.EqAt.same _
  | bl b=>cases rx;exact SeqAt.EqAt.none_bool b
  | int b=>obtain ⟨t,rfl⟩:=rx;exact SeqAt.EqAt.none_int b t
  | str b=>obtain ⟨t,rfl⟩:=rx;exact SeqAt.EqAt.none_str b t
  | _=>exact absurd (show false=true from fx) Bool.false_ne_true
 | bl a =>
  cases ry
  cases x with
  | non=>cases rx;exact SeqAt.EqAt.bool_none a
  | bl b=>cases rx;exact SeqAt.EqAt.bool_bool a b
  | int b=>obtain ⟨t,rfl⟩:=rx;exact SeqAt.EqAt.bool_int a b t
  | str b=>obtain ⟨t,rfl⟩:=rx;exact SeqAt.EqAt.bool_str a b t
  | _=>exact absurd (show false=true from fx) Bool.false_ne_true
 | int a =>
  obtain ⟨t',rfl⟩:=ry
  cases x with
  | non=>cases rx;exact SeqAt.EqAt.int_none a t'
  | bl b=>cases rx;exact SeqAt.EqAt.int_bool a t' b
  | int b=>obtain ⟨t,rfl⟩:=rx;exact SeqAt.EqAt.int_int a t' b t
  | str b=>obtain ⟨t,rfl⟩:=rx;exact SeqAt.EqAt.int_str a t' b t
  | _=>exact absurd (show false=true from fx) Bool.false_ne_true
 | str a =>
  obtain ⟨t',rfl⟩:=ry
  cases x with
  | non=>cases rx;exact SeqAt.EqAt.str_none a t'
  | bl b=>cases rx;exact SeqAt.EqAt.str_bool a t' b
  | int b=>obtain ⟨t,rfl⟩:=rx;exact SeqAt.EqAt.str_int a t' b t
  | str b=>obtain ⟨t,rfl⟩:=rx;exact SeqAt.EqAt.str_str a t' b t
  | _=>exact absurd (show false=true from fx) Bool.false_ne_true
 | _=>exact absurd (show false=true from fy) Bool.false_ne_true
def eqU (x:V) (u:Value):Bool:=match u with
 | .none=>eqV .non x
 | .bool b=>eqV (.bl b) x
 | .int i _=>eqV (.int i) x
 | .str z _=>eqV (.str z) x
 | _=>false
theorem eqU_of {x y:V} {u:Value} (r:RelV y u) (f:flatV y=true):eqU x u=eqV y x:=by
 cases y with
 | non=>cases r;rfl
 | bl b=>cases r;rfl
 | int i=>obtain ⟨t,rfl⟩:=r;rfl
 | str z=>obtain ⟨t,rfl⟩:=r;rfl
 | _=>exact absurd (show false=true from f) Bool.false_ne_true
theorem any_eqU {x:V}:∀{xs:List V} {us:List Value},Vals xs us→xs.all flatV=true→us.any (eqU x)=xs.any fun y=>eqV y x
 | _,_,.nil,_=>rfl
 | y::xs,u::us,.cons r t,f=>by
  rw [List.all_cons,Bool.and_eq_true] at f
  rw [List.any_cons,List.any_cons,eqU_of r f.1,any_eqU t f.2]
theorem mem_eqAt {A:Around} {s:Shared} {x:V} {v:Value} (rx:RelV x v) (fx:flatV x=true):∀{xs:List V} {us:List Value},Vals xs us→xs.all flatV=true→∀u∈us,SeqAt.EqAt A s u v (eqU x u)
 | _,_,.nil,_=>fun u hu=>by cases hu
 | y::xs,u::us,.cons r t,f=>fun u' hu=>by
  rw [List.all_cons,Bool.and_eq_true] at f
  rcases List.mem_cons.mp hu with rfl | hu
  ·rw [eqU_of r f.1];exact eqAt_V r rx f.1 fx
  ·exact mem_eqAt rx fx t f.2 u' hu
def inV (x:V) (xs:List V):Bool:=xs.any fun y=>eqV y x
def rIn (K:W.Frag) (neg:Bool):R2:=fun x y H Q=>∃p xs,y=.ref p∧(SqL K H p xs∨SqT K H p xs)∧flatV x=true∧xs.all flatV=true∧Q (.bl (if neg then !inV x xs else inV x xs)) H
theorem op_in_seq:OpR X (compareOp .In) (rIn X.K false):=by
 intro pins s σ H x y v u Q I rx ry h
 obtain ⟨p,xs,rfl,hq,fx,fs,q⟩:=h
 cases ry
 rcases hq with hq | hq
 ·obtain ⟨its,r,pl,hz⟩:=I.list hq
  refine SeqAt.in_listAt (eqU x) pl.isList (fun w hw=>mem_eqAt rx fx r fs w (by simpa using hw)) ⟨.bl _,H,I,rfl,?_⟩
  rw [show its.toArray.any (eqU x)=its.any (eqU x) by simp,any_eqU r fs]
  exact q
 ·obtain ⟨its,r,pl,hz⟩:=I.tuple hq
  refine SeqAt.in_tupleAt (eqU x) pl (fun w hw=>mem_eqAt rx fx r fs w (by simpa using hw)) ⟨.bl _,H,I,rfl,?_⟩
  rw [show its.toArray.any (eqU x)=its.any (eqU x) by simp,any_eqU r fs]
  exact q
theorem op_notIn_seq:OpR X (compareOp .NotIn) (rIn X.K true):=by
 intro pins s σ H x y v u Q I rx ry h
 obtain ⟨p,xs,rfl,hq,fx,fs,q⟩:=h
 cases ry
 rcases hq with hq | hq
 ·obtain ⟨its,r,pl,hz⟩:=I.list hq
  refine SeqAt.notIn_listAt (eqU x) pl.isList (fun w hw=>mem_eqAt rx fx r fs w (by simpa using hw)) ⟨.bl _,H,I,rfl,?_⟩
  rw [show its.toArray.any (eqU x)=its.any (eqU x) by simp,any_eqU r fs]
  exact q
 ·obtain ⟨its,r,pl,hz⟩:=I.tuple hq
  refine SeqAt.notIn_tupleAt (eqU x) pl (fun w hw=>mem_eqAt rx fx r fs w (by simpa using hw)) ⟨.bl _,H,I,rfl,?_⟩
  rw [show its.toArray.any (eqU x)=its.any (eqU x) by simp,any_eqU r fs]
  exact q
theorem CallR.or {f:Value} {r r':List V→Hp→VK→Prop} (h:CallR X f r) (h':CallR X f r'):CallR X f (fun xs H Q=>r xs H Q∨r' xs H Q):=by
 intro pins s σ H xs us Q I rs q
 rcases q with q | q
 ·exact h pins s σ H xs us Q I rs q
 ·exact h' pins s σ H xs us Q I rs q
theorem call_list_of:CallR X (.type "list") (fun xs H Q=>∃p ys,xs=[.ref p]∧(SqL X.K H p ys∨SqT X.K H p ys)∧∀l,H l=none→Q (.ref l) (upd H l (.lst ys))):=by
 intro pins s σ H xs us Q I r h
 obtain ⟨p,ys,rfl,hq,q⟩:=h
 obtain ⟨u,rfl,rx⟩:=vals1 r
 cases rx
 have fin:∀(its:List Value),Vals ys its→ys.length≤sizeLine→∀(h':Heap) (c':Nat),(∀b o',s.heap.get? b=some o'→h'.get? b=some o') →
   h'.get? s.heap.objs.size=some { cls:=.type "list", dict:=none,data:=.seq its.toArray c',slots:=#[] }→EP X pins σ Q (.ref s.heap.objs.size) { s with heap:=h' }:=fun its r' hz h' c' kp e =>
  ⟨.ref s.heap.objs.size,_,I.laid (t':=s.toks) kp (Nat.le_refl _) (show ObjOk X.prog X.w _ h' _ (.lst ys) from ⟨hz,its,c',r',e⟩),rfl,q _ (I.hok.fresh (Nat.le_refl _))⟩
 rcases hq with hq | hq
 ·obtain ⟨its,r',pl,hz⟩:=I.list hq
  have hlen:=r'.length
  obtain ⟨o,ho,hc,n,hd⟩:=pl.isList
  exact call_list_seq p (.inl rfl) ho hc hd (fun h' c' kp e=>fin its r' hz h' c' kp e) (by simp only [List.size_toArray] <;> lia)
 ·obtain ⟨its,r',pl,hz⟩:=I.tuple hq
  have hlen:=r'.length
  obtain ⟨o,ho,hc,n,hd⟩:=pl
  exact call_list_seq p (.inr rfl) ho hc hd (fun h' c' kp e=>fin its r' hz h' c' kp e) (by simp only [List.size_toArray] <;> lia)
theorem call_tuple_of:CallR X (.type "tuple") (fun xs H Q=>∃p ys,xs=[.ref p]∧((SqL X.K H p ys∧∀l,H l=none→Q (.ref l) (upd H l (.tup ys)))∨(SqT X.K H p ys∧Q (.ref p) H))):=by
 intro pins s σ H xs us Q I r h
 obtain ⟨p,ys,rfl,h⟩:=h
 obtain ⟨u,rfl,rx⟩:=vals1 r
 cases rx
 rcases h with ⟨hq,q⟩ | ⟨hq,q⟩
 ·obtain ⟨its,r',pl,hz⟩:=I.list hq
  have hlen:=r'.length
  refine call_tuple_list pl.isList (fun h' kp=>?_) (by simp only [List.size_toArray] <;> lia)
  have I1:Inv X pins σ H { s with heap:=h' }:=I.kept (t':=s.toks) kp
  have I2:Inv X pins σ (upd H h'.objs.size (.tup ys)) { s with heap:=h'.push { cls:=.type "tuple", data:=.seq its.toArray } } :=
   I1.laid (t':=s.toks) (fun b o e=>Heap.get?_push_of_some _ e) (Nat.le_refl _) (show ObjOk X.prog X.w _ _ _ (.tup ys) from ⟨hz,its,r',IsTup.new _ _⟩)
  exact ⟨.ref h'.objs.size,_,I2,rfl,q _ (I1.hok.fresh (Nat.le_refl _))⟩
 ·obtain ⟨its,r',pl,hz⟩:=I.tuple hq
  exact call_tuple_same pl ⟨.ref p,H,I,rfl,q⟩
def tyV (K:W.Frag) (T:String) (x:V) (H:Hp):Prop:=match x with
 | .str _=>T = "str"
 | .int _=>T = "int"
 | .ref p=>(T = "list" ∧ ∃xs,SqL K H p xs)∨(T = "tuple" ∧ ∃o,K.lookup p=some o∧o.cls=.type "tuple" ∧ o.dict=none) ∨
   (T = "dict" ∧ ((∃kvs,H p=some (.dK kvs))∨∃kvs,H p=some (.dT kvs)))∨(T = "set" ∧ ∃S n,H p=some (.set S n))
 | _=>False
theorem tyV_is {pins:List (Addr×Obj)} {σ:St} {H:Hp} {s:Shared} {T:String} {x:V} {v:Value} (I:Inv X pins σ H s) (r:RelV x v) (ty:tyV X.K T x H) :
  s.TypeIs v T∧∀a,v=.ref a→∃ob,s.heap.get? a=some ob∧ob.dict=none:=by
 cases x with
 | str z =>
  obtain ⟨t,rfl⟩:=r
  cases (show T = "str" from ty)
  exact ⟨typeIs_str s z t,fun _ e=>nomatch e⟩
 | int i =>
  obtain ⟨t,rfl⟩:=r
  cases (show T = "int" from ty)
  exact ⟨typeIs_int s i t,fun _ e=>nomatch e⟩
 | ref p =>
  cases r
  rcases ty with ⟨rfl,xs,hq⟩ | ⟨rfl,o,hk,hc,hd⟩ | ⟨rfl,hk⟩ | ⟨rfl,S,n,hk⟩
  ·obtain ⟨its,_,pl,_⟩:=I.list hq
   refine ⟨pl.isList.typeIs,fun a e=>?_⟩
   cases e
   obtain ⟨o,n,e,c,hd,_⟩:=pl
   exact ⟨o,e,hd⟩
  ·refine ⟨⟨o,I.kIn p o hk,hc⟩,fun a e=>?_⟩
   cases e
   exact ⟨o,I.kIn _ o hk,hd⟩
  ·have z:∃o,s.heap.get? p=some o∧o.ExactDict:=by
    rcases hk with ⟨kvs,hk⟩ | ⟨kvs,hk⟩
    ·obtain ⟨_,_,_,_,o,_,_,e,ex,_⟩:=I.hok p _ hk
     exact ⟨o,e,ex⟩
    ·obtain ⟨_,_,_,_,o,_,_,e,ex,_⟩:=I.hok p _ hk
     exact ⟨o,e,ex⟩
   obtain ⟨o,e,ex⟩:=z
   refine ⟨⟨o,e,ex.1⟩,fun a e2=>?_⟩
   cases e2
   exact ⟨o,e,ex.2.1⟩
  ·obtain ⟨o,_,_,_,e,ex,_⟩:=I.hok p _ hk
   refine ⟨⟨o,e,ex.1⟩,fun a e2=>?_⟩
   cases e2
   exact ⟨o,e,ex.2.1⟩
 | _=>exact False.elim ty
def tBM (K:W.Frag) (T:String) (r:V→List V→Hp→VK→Prop) (to:TE) (t:TA):TE:=fun σ H Q=>to σ H fun x H1=>tyV K T x H1∧t σ H1 fun xs H2=>r x xs H2 Q
variable {o e:Expr} {es:List Expr} {to:TE} {t:TA} {name:Str} {apos cpos:Pos} {T id:String} {r:V→List V→Hp→VK→Prop}
theorem pe_bm (pa:PlainAttrs T) (slot:Slot T name id) (hty:typeOf (.builtin id)=pure (.type "method_descriptor")) (hm:MtR X id r) (ho:PE X o to) (ha:PA X (e::es) t)
  (hbase:attributeBase o name X.env (eval o X.env)=eval o X.env:=by rfl)
  (hfew:((backTo cpos (starEach (e::es) X.env)).all (fun x=>!x.1) && (backToKw cpos (keywordEach [] X.env)).all (fun x=>x.1.isSome)
   && decide ((e::es).length + ([]:List Keyword).length + (if ([]:List Keyword).isEmpty then 0 else 1) < 30))=true:=by rfl)
  (hline:(apos.endLine == cpos.line)=true:=by rfl) (hs:starEach (e::es) X.env=(false,eval e X.env)::starEach es X.env:=by rfl) (hplain:(backTo cpos (starEach es X.env)).any (·.1)=false:=by rfl) :
  PE X (.Call (.Attribute o name apos) (e::es) [] cpos) (tBM X.K T r to t):=by
 intro pins s σ H Q I h
 refine wpAny_Call_method_late hbase hfew hline rfl (thn (ho pins s σ H _ I h) fun v s1 ⟨x,H1,I1,r1,ty,q1⟩=>?_)
 obtain ⟨h1,h2⟩:=tyV_is I1 r1 ty
 refine ⟨T,id,pa,slot,hty,h1,h2,?_⟩
 have hA:=ha cpos pins s1 σ H1 _ I1 q1
 rw [hs] at hA ⊢
 refine Calls.callWith_builtin (by show (false || (backTo cpos (starEach es X.env)).any (·.1))=false;rw [hplain] <;> rfl) (Calls.evalArgs_plain ?_)
 exact thn hA fun us s2 ⟨vs,H2,I2,r2,q2⟩=>hm pins s2 σ H2 x vs v us Q I2 r1 r2 q2
end
def MtM (X:Cx) (id:String) (r:V→List V→Hp→VK→Prop):Prop :=
 ∀(pins:List (Addr×Obj)) (s:Shared) (σ:St) (H:Hp) (x:V) (xs:List V) (v:Value) (us:List Value) (Q:VK),Inv X pins σ H s→RelV x v→Vals xs us→r x xs H Q →
  wpAny (model X.prog X.w) X.A (call (.builtin id) (v::us)) (EP X pins σ Q) X.xe s
theorem Vals.one:∀{x:V} {us:List Value},Vals [x] us→∃u,us=[u]∧RelV x u
 | _,_,.cons r .nil=>⟨_,rfl,r⟩
theorem Vals.two:∀{x y:V} {us:List Value},Vals [x,y] us→∃u v,us=[u,v]∧RelV x u∧RelV y v
 | _,_,_,.cons r (.cons q .nil)=>⟨_,_,rfl,r,q⟩
theorem Vals.zero:∀{us:List Value},Vals [] us→us=[]
 | _,.nil=>rfl
theorem Vals.rep {xs:List V} {us:List Value} (h:Vals xs us):∀k:Nat,Vals (List.replicate k xs).flatten (List.replicate k us).flatten
 | 0=>.nil
 | k + 1=>by
  rw [List.replicate_succ,List.replicate_succ,List.flatten_cons,List.flatten_cons]
  exact Vals.append h (Vals.rep h k)
theorem foldl_rep (its:List Value):∀(k:Nat) (acc:List Value),
  List.foldl (fun x1 x2=>x1++x2) acc.toArray (List.replicate k its.toArray)=(acc++(List.replicate k its).flatten).toArray
 | 0,acc=>by simp
 | k + 1,acc=>by
  have e:acc.toArray++its.toArray=(acc++its).toArray:=by simp
  have e2:(acc++its)++(List.replicate k its).flatten=acc++(List.replicate (k + 1) its).flatten:=by
   rw [List.replicate_succ,List.flatten_cons,List.append_assoc]
  rw [← e2,← foldl_rep its k (acc++its),← e,List.replicate_succ,List.foldl_cons]
section
variable {X:Cx} {pins:List (Addr×Obj)} {σ:St} {H:Hp} {s:Shared} {l b:Addr} {xs ys zs:List V}
theorem Inv.lset {its its':List Value} {n:Nat} {f:Array Value→Array Value} {t':Nat} (I:Inv X pins σ H s) (hH:H l=some (.lst xs))
  (e:s.heap.get? l=some { cls:=.type "list", data:=.seq its.toArray n }) (hf:f its.toArray=its'.toArray) (hv:Vals ys its') (hz:ys.length≤sizeLine) :
  Inv X pins σ (upd H l (.lst ys)) { s with heap:=s.heap.update l (Obj.mapSeq f),toks:=t' }:=by
 have q:=PySem.IsL.update e f
 rw [hf] at q
 refine I.write (x:=l) (e:=l) (by rw [hH];exact trivial) (.inl rfl) (fun b' u hb hu=>(Heap.get?_update_other s.heap (Obj.mapSeq f) (Ne.symm hb)).trans hu) ⟨_,q⟩ ?_
 exact ⟨hz,its',_,hv,q⟩
theorem Inv.lnew {its:List Value} {t':Nat} (I:Inv X pins σ H s) (hv:Vals ys its) (hz:ys.length≤sizeLine) :
  Inv X pins σ (upd H s.heap.objs.size (.lst ys)) { s with heap:=s.heap.push { cls:=.type "list", data:=.seq its.toArray },toks:=t' } :=
 I.laid (fun _ _ q=>Heap.get?_push_of_some _ q) (Nat.le_refl _) ⟨hz,its,0,hv,Heap.get?_push_size _ rfl⟩
theorem Inv.fresh (I:Inv X pins σ H s):H s.heap.objs.size=none:=I.hok.fresh (Nat.le_refl _)
theorem Inv.lstM (I:Inv X pins σ H s) (hH:H l=some (.lst xs)):xs.length≤sizeLine∧∃(its:List Value) (n:Nat),Vals xs its∧xs.length=its.length∧s.heap.get? l=some { cls:=.type "list", data:=.seq its.toArray n }:=by
 obtain ⟨z,its,n,r,e⟩:=I.hok l _ hH
 exact ⟨z,its,n,r,r.length,e⟩
theorem notLongL {n:Nat} (h:n≤sizeLine):Builtin.List.listTooLong n=false:=by
 unfold Builtin.List.listTooLong
 exact decide_eq_false (by lia)
end
section
variable {X:Cx}
def rAppend:V→List V→Hp→VK→Prop:=fun x vs H Q=>∃l xs y,x=.ref l∧vs=[y]∧H l=some (.lst xs)∧xs.length < sizeLine∧Q .non (upd H l (.lst (xs++[y])))
theorem mt_append:MtM X "list.append" rAppend:=by
 intro pins s σ H x vs v us Q I rx rv h
 obtain ⟨l,xs,y,rfl,rfl,hH,hz,q⟩:=h
 cases rx
 obtain ⟨u,rfl,ru⟩:=rv.one
 obtain ⟨z,its,n,r,hl,e⟩:=I.lstM hH
 refine call_meets F.slot_list_append ⟨_,e,rfl⟩ F.entry_list_append (F.args_list_append_2 _ _) (PySem.list_append l its.toArray n u (by rw [List.size_toArray];lia)) ⟨e,?_⟩
 refine ⟨.non,_,I.lset (its':=its++[u]) hH e (by simp) (r.append (.cons ru .nil)) ?_,rfl,q⟩
 rw [List.length_append,List.length_singleton]
 lia
def rExtend:V→List V→Hp→VK→Prop:=fun x vs H Q=>∃l b xs zs,x=.ref l∧vs=[.ref b]∧H l=some (.lst xs)∧H b=some (.lst zs)∧xs.length + zs.length≤sizeLine∧Q .non (upd H l (.lst (xs++zs)))
theorem mt_extend:MtM X "list.extend" rExtend:=by
 intro pins s σ H x vs v us Q I rx rv h
 obtain ⟨l,b,xs,zs,rfl,rfl,hH,hB,hz,q⟩:=h
 cases rx
 obtain ⟨u,rfl,ru⟩:=rv.one
 cases ru
 obtain ⟨z,its,n,r,hl,e⟩:=I.lstM hH
 obtain ⟨z2,its2,n2,r2,hl2,e2⟩:=I.lstM hB
 have hsz:its.toArray.size + its2.toArray.size≤sizeLine:=by rw [List.size_toArray,List.size_toArray];lia
 have hlong:¬ (!its.toArray.isEmpty && Builtin.List.listTooLong (its.toArray.size + its2.toArray.size))=true:=by
  rw [notLongL hsz,Bool.and_false]
  exact Bool.false_ne_true
 refine call_meets F.slot_list_extend ⟨_,e,rfl⟩ F.entry_list_extend (F.args_list_extend_2 _ _)
  (AutoSeq1.list_extend_list_list_0 l its.toArray n b its2.toArray n2 hlong (by rw [List.size_toArray];lia) (by lia)) ⟨e,e2,?_⟩
 refine ⟨.non,_,I.lset (its':=its++its2) hH e (by simp) (r.append r2) ?_,rfl,q⟩
 rw [List.length_append]
 lia
def rCat:R2:=fun x y H Q=>∃l b xs zs,x=.ref l∧y=.ref b∧H l=some (.lst xs)∧H b=some (.lst zs)∧xs.length + zs.length≤sizeLine∧∀p,H p=none→Q (.ref p) (upd H p (.lst (xs++zs)))
theorem op_cat:OpR X (binaryOp .Add) rCat:=by
 intro pins s σ H x y v u Q I rx ry h
 obtain ⟨l,b,xs,zs,rfl,rfl,hH,hB,hz,q⟩:=h
 cases rx
 cases ry
 obtain ⟨z,its,n,r,hl,e⟩:=I.lstM hH
 obtain ⟨z2,its2,n2,r2,hl2,e2⟩:=I.lstM hB
 refine PySem.P.add_list e e2 ?_ (by rw [List.size_toArray,List.size_toArray];lia)
 have ea:its.toArray++its2.toArray=(its++its2).toArray:=by simp
 rw [ea]
 exact ⟨.ref _,_,I.lnew (t':=s.toks) (r.append r2) (by rw [List.length_append];lia),rfl,q _ I.fresh⟩
def rRep:R2:=fun x y H Q=>∃l k xs,x=.ref l∧y=.int k∧H l=some (.lst xs)∧-(2 ^ 63)≤k∧k < 2 ^ 63∧xs.length * k.toNat≤sizeLine ∧
 ∀p,H p=none→Q (.ref p) (upd H p (.lst (List.replicate k.toNat xs).flatten))
theorem len_rep {α:Type} (xs:List α) (k:Nat):(List.replicate k xs).flatten.length=k * xs.length:=by
 induction k with
 | zero=>simp
 | succ k ih=>rw [List.replicate_succ,List.flatten_cons,List.length_append,ih,Nat.succ_mul,Nat.add_comm]
theorem op_rep:OpR X (binaryOp .Mult) rRep:=by
 intro pins s σ H x y v u Q I rx ry h
 obtain ⟨l,k,xs,rfl,rfl,hH,h1,h2,hz,q⟩:=h
 cases rx
 obtain ⟨t,rfl⟩:=ry
 obtain ⟨z,its,n,r,hl,e⟩:=I.lstM hH
 have hlen:its.toArray.size * k.toNat≤sizeLine:=by rw [List.size_toArray,← hl];exact hz
 have hcap:¬ its.toArray.size * k.toNat > (2 ^ 63 - 1) / 8:=by
  have:(sizeLine:Nat)≤(2 ^ 63 - 1) / 8:=by decide
  lia
 have hfit:¬ (!Builtin.List.listFitsIndex k)=true:=by
  rw [fitsIndex_both h1 h2]
  exact Bool.false_ne_true
 have hlong:¬ Builtin.List.listTooLong (its.toArray.size * k.toNat)=true:=by
  rw [notLongL hlen]
  exact Bool.false_ne_true
 have hnew:List.foldl (fun x1 x2=>x1++x2) #[] (List.replicate (if its.toArray.isEmpty=true then 0 else k.toNat) its.toArray)=(List.replicate k.toNat its).flatten.toArray:=by
  have f0:∀m:Nat,List.foldl (fun x1 x2=>x1++x2) #[] (List.replicate m its.toArray)=(List.replicate m its).flatten.toArray:=fun m=>by
   have:=foldl_rep its m []
   rw [List.nil_append] at this
   exact this
  rw [f0]
  cases its with
  | nil=>simp
  | cons a r'=>rw [if_neg (by simp)]
 refine wpAny_binaryOp_repeat_ref (T := "list") (U := "int") (by decide) ⟨_,e,rfl⟩ (fun s'=>typeIs_int s' k t) noFill_list_mul F.fills_int_mul F.slot_int_rmul repeat_list F.slot_int_index.lookup
  (call_meets F.slot_int_rmul (typeIs_int s k t) F.entry_int_rmul (F.args_int_rmul_2 _ _) (int___rmul___int_list k t l its.toArray n)
   ⟨e,rfl,⟨_,e,rfl⟩,call_meets F.slot_list_mul ⟨_,e,rfl⟩ F.entry_list_mul (F.args_list_mul_2 _ _) (AutoListH.list___mul___list_int_3 l its.toArray n k t hfit hcap hlong) ⟨e,?_⟩⟩)
 rw [hnew]
 exact ⟨.ref _,_,I.lnew (t':=s.toks) (r.rep k.toNat) (by rw [len_rep,Nat.mul_comm];exact hz),rfl,q _ I.fresh⟩
end
end L2
namespace Att
open PySem PySem.W PySem.Calls PyProof.Rows
theorem ints_of_wellAll {P:Params} {h:Heap}:∀(ns:List Int) (vs:List Value),WellAll P h vs (ns.map WData.int)→IntsAre vs ns:=by
 intro ns
 induction ns with
 | nil =>
  intro vs w
  rw [List.map_nil] at w
  cases w
  exact .nil
 | cons n ns ih =>
  intro vs w
  rw [List.map_cons] at w
  cases w with
  | cons a b =>
   cases a
   exact .cons _ _ (ih _ b)
theorem script_of {l:OpenLaw} {n:Nat} (hn:l.most=some n) {P:Params} {h:Heap} {args:List WData} {vals:List Value}
  (hpre:l.row.toRowW.claim.pre args=true) (hwl:WellAll P h vals args) :
  ∃a vs ns,vals=[Value.ref a]∧args=[WData.list (ns.map WData.int)]∧h.get? a=some { cls:=.type "list", data:=.seq vs.toArray }∧IntsAre vs ns∧ns.length≤n:=by
 have hsh:WShape.hasAll [] args [.list .int]=true:=(pre_splitW hpre).1
 have hc:l.pre.holds [] { args:=args }=true:=(pre_splitW hpre).2
 obtain ⟨d,r,rfl,h1,h2⟩:=hasAllW_cons hsh
 obtain rfl:=hasAllW_nil h2
 obtain ⟨xs,rfl,h3⟩:=hasW_list h1
 obtain ⟨ns,rfl⟩:=items_int h3
 have hlen:ns.length≤n:=by
  unfold OpenLaw.pre at hc
  have h4:(WTm.not (.lt (.lit (.int (n:Int))) (.len (.arg 0)))).holds [] { args:=[.list (ns.map .int)] }=true:=by
   have h4:=(holds_andW hc).1
   rw [hn] at h4
   exact h4
  have h5:=condW_of h4 (w_not (w_lt w_lit (w_len_list (w_arg rfl))))
  rw [List.length_map] at h5
  refine Nat.le_of_not_lt fun q=>?_
  have q':(n:Int) < ((ns.length:Nat):Int):=by lia
  first
   | (rw [decide_eq_true q'] at h5;exact absurd h5 (by decide))
   | (simp at h5;lia)
 cases hwl with
 | cons w1 w2 =>
  cases w2
  cases w1 with
  | list ho hall=>exact ⟨_,_,ns,rfl,rfl,ho,ints_of_wellAll ns _ hall,hlen⟩
theorem post_true (l:OpenLaw) (args:List WData):l.row.toRowW.claim.post args (.bool true) args=true :=
 postW_of (r:=l.row.toRowW) (X:=(true == true))
  (show WShape.has [] (.bool true) .bool=true by first | rfl | decide | simp [WShape.has,WShape.arms,WShape.armsAll])
  (show (WTm.eq .res (.lit (.bool true))).value [] { args:=args,res:=some (.bool true),after:=args }=some (.bool (true == true)) from w_eq_bool (w_res rfl) w_lit) rfl
theorem attach_call {l:OpenLaw} {n:Nat} {q:Program} {loose:List Str} {XP:(Str→Option Value)→Heap→Prop} {YP:World→Heap→Prop} {d:DefRec}
  (hn:l.most=some n) (hdf:d.params.defaults=[])
  (call:∀(w:World) (s₀ s₁:Shared) (mg mb:Str→Option Value) (fa:Addr) (o:Obj) (pm cd doc:Value) (a:Addr) (vs:List Value) (ns:List Int),
   Ground q loose [] XP w s₀ mg mb s₁.heap→YP w s₁.heap →
   s₁.heap.get? fa=some o→o.data=.func (docDef d.name d.params d.body d.scope pm cd doc)→s₁.heap.CodeRec cd d.name→mg d.name=some (.ref fa) →
   s₁.heap.get? a=some { cls:=.type "list", data:=.seq vs.toArray }→IntsAre vs ns→ns.length≤n→s₁.gens=#[] →
   codeAny (model l.prog w) callerA (.call (.ref fa) ⟨[.ref a],[]⟩) (fun r s'=>r=.ok (.ret (.bool true))∧OldK s₁.heap s'.heap∧s'.os=s₁.os∧AllBare s'.gens) s₁) :
  WalkO q loose XP YP l.row.toRowW d [] (fun f vs=>PySem.call f vs):=by
 intro w s₀ s₁ mg mb G Y fa o pm cd doc dV kV ho hd hcd hD hmg hg args vals as hpre hlay hrd hwl hlo
 obtain rfl:dV=.none:=Dflts.none hD hdf
 obtain rfl:kV=.none:=Dflts.noKw hD
 obtain ⟨a,vs,ns,rfl,rfl,hobj,hints,hlen⟩:=script_of hn hpre hwl
 refine enter_call (codeAny_mono (call w s₀ s₁ mg mb fa o pm cd doc a vs ns G Y ho (fd_plain hd) hcd hmg hobj hints hlen hg) fun r s' hq=>?_)
 obtain ⟨rfl,h2,h3,h4⟩:=hq
 exact ⟨.inl ⟨.bool true,.bool true,[],rfl,fun _=>rfl,.bool true,post_true l _,fun _=>⟨List.Pairwise.nil,fun _ hm=>(nomatch hm)⟩⟩,h2,h3,h4⟩
end Att
namespace L2
open PySem PySem.Spec PyProof.Rows
theorem vals_ints:∀{vs:List Value} {ns:List Int},IntsAre vs ns→Vals (ns.map V.int) vs
 | _,_,.nil=>.nil
 | _,_,.cons n t h=>.cons ⟨t,rfl⟩ (vals_ints h)
def inClass (s:Stmt) (j:Nat):Stmt:=match s with
 | .ClassDef _ _ _ body _ _ _ _ _ _ _=>body.getD j (.Pass ⟨0,0,0,0⟩)
 | _=>.Pass ⟨0,0,0,0⟩
def defArgs (s:Stmt):Arguments:=match s with
 | .FunctionDef _ a _ _ _ _ _ _ _ _=>a
 | _=>{ posonlyargs:=[],args:=[],vararg:=none,kwonlyargs:=[],kw_defaults:=[],kwarg:=none,defaults:=[] }
def defBody (s:Stmt):List Stmt:=match s with
 | .FunctionDef _ _ b _ _ _ _ _ _ _=>b
 | _=>[]
def defScope (s:Stmt):Scope:=match s with
 | .FunctionDef _ _ _ _ _ _ sc _ _ _=>sc
 | _=>{ kind:=.function,names:=[],isGenerator:=false,isCoroutine:=false }
abbrev CX0:CXT:=fun _ _ _ _ _ _=>False
abbrev E0:XK:=fun _ _ _=>False
theorem pass0 {X:Cx}:Passes CX0 X E0:=fun _ _ _ _ _ _ _ h=>h.elim
structure Fun (K:W.Frag) (x qual:Str) (st:Stmt) (f:Addr) (fd:FuncData):Prop where
 ex:∃(oc:Value) (od:Option Addr) (kV doc pm:Value) (an:Option Addr) (cdv ct:Value) (osl:Array (Option Value)),
  fd=W.fnOf x qual (defArgs st) (defBody st) (defScope st) .none kV doc pm an cdv ct∧K.lookup f=some ⟨oc,od,.func fd,osl⟩∧W.codeIn K cdv qual=true
 kp:W.keepIn K (.ref f)=true
section
variable {P:Program} {w:World} {K:W.Frag} {mg:Str→Option Value} {base:Heap}
theorem Fun.ok {x qual:Str} {st:Stmt} {f:Addr} {fd:FuncData} {N ps:List Str} {k:Nat} {sp:Sp} (F:Fun K x qual st f fd) (S:FnScope N ps (defScope st)) (len:∀vs H Q E,sp vs H Q E→vs.length=ps.length)
  (hbody:∀(cdv:Value) (A:Around) (outer:List Env) (s:Shared) (H:Hp) (vs:List V) (Q:VK) (E:XK),Room k (A.deeper (envOfC qual (defScope st) s.heap.objs.size f cdv))→sp vs H Q E →
   ∃t,PSs (cxOf CX0 P w K mg base N qual (defScope st) f cdv A outer s H E).nox (defBody st) t∧t { nx:=fun _ H'=>Q .non H',rt:=Q } (start N vs) H):FnOk P w K mg base CX0 (k + 1) f fd ps sp:=by
 obtain ⟨oc,od,kV,doc,pm,an,cdv,ct,osl,rfl,lk,hcd⟩:=F.ex
 refine fn_of lk hcd S len fun A outer s H vs Q E hr hsp=>?_
 obtain ⟨t,h,q⟩:=hbody cdv A outer s H vs Q E hr hsp
 exact ⟨t,h.nox,q⟩
theorem Fun.binds {x qual:Str} {st:Stmt} {f:Addr} {fd:FuncData} {ps:List Str} (F:Fun K x qual st f fd)
  (h:∀(kV doc pm:Value) (an:Option Addr) (cdv ct:Value) (us:List Value),us.length=ps.length→bindArgs (W.fnOf x qual (defArgs st) (defBody st) (defScope st) .none kV doc pm an cdv ct) ⟨us,[]⟩=pure (ps.zip us)):Binds K fd ps []:=by
 obtain ⟨oc,od,kV,doc,pm,an,cdv,ct,osl,rfl,lk,hcd⟩:=F.ex
 exact .all (h kV doc pm an cdv ct)
theorem fun_mk {x qual:Str} {st:Stmt} {f:Addr} {oc:Value} {od an:Option Addr} {osl:Array (Option Value)} {kV doc pm cdv ct:Value} (l:K.lookup f=some ⟨oc,od,.func (W.fnOf x qual (defArgs st) (defBody st) (defScope st) .none kV doc pm an cdv ct),osl⟩)
  (c:W.codeIn K cdv qual=true) (k:W.keepIn K (.ref f)=true):Fun K x qual st f (W.fnOf x qual (defArgs st) (defBody st) (defScope st) .none kV doc pm an cdv ct):=⟨⟨oc,od,kV,doc,pm,an,cdv,ct,osl,rfl,l,c⟩,k⟩
end
theorem hu_of {A:Around} {k:Nat} (hr:Room k A):A.units + 1 < cLine:=Nat.lt_of_le_of_lt (Nat.add_le_add_left (by decide:1≤64) _) hr.units
section
variable {X:Cx}
theorem pv (i:Nat) {x:Str} {pos:Pos} (hN:X.N[i]?=some x:=by rfl) (hv:Vis X.env.scope x:=by first | exact Or.inl rfl | exact Or.inr (Or.inl rfl) | exact Or.inr (Or.inr rfl)) (hd:(x == ("__debug__" : Str))=false:=by decide)
  (hcd:(x == ("__classdict__" : Str))=false:=by decide):PE X (.Name x pos) (tVar i):=pe_var hN hv hd hcd
end
theorem iteF {A B:Prop} (h:B):if false=true then A else B:=by
 rw [if_neg Bool.false_ne_true]
 exact h
theorem iteT {A B:Prop} (h:A):if true=true then A else B:=by
 rw [if_pos rfl]
 exact h
def Same (H H':Hp):Prop:=∀b o,H b=some o→H' b=some o
theorem Same.refl (H:Hp):Same H H:=fun _ _ h=>h
theorem Same.trans {H H1 H2:Hp} (a:Same H H1) (b:Same H1 H2):Same H H2:=fun c o h=>b c o (a c o h)
theorem Same.free {H H':Hp} (e:Same H H') {l:Addr} (h:H' l=Option.none):H l=Option.none:=by
 cases q:H l with
 | none=>rfl
 | some o =>
  rw [e l o q] at h
  cases h
theorem Same.seq {K:W.Frag} {H H':Hp} {a:Addr} {xs:List V} (e:Same H H') (h:SqL K H a xs):SqL K H' a xs:=by
 rcases h with (h | ⟨o,h⟩) | h
 ·exact .inl (.inl (e _ _ h))
 ·exact .inl (.inr ⟨o,e _ _ h⟩)
 ·exact .inr h
section
variable {κ:Type} [DecidableEq κ]
def valV (kvs:List (κ×V)) (k:κ):Option V:=(kvs.find? fun kv=>decide (kv.1=k)).map (·.2)
def putK (kvs:List (κ×V)) (k:κ) (v:V):List (κ×V) :=
 if (kvs.any fun kv=>decide (kv.1=k))=true then kvs.map (fun kv=>if kv.1=k then (kv.1,v) else kv) else kvs++[(k,v)]
def dropK (kvs:List (κ×V)) (k:κ):List (κ×V):=kvs.filter fun kv=>decide (kv.1≠k)
theorem valV_nil {k:κ}:valV ([]:List (κ×V)) k=none:=rfl
theorem valV_pos {p:κ×V} {r:List (κ×V)} {k:κ} (e:p.1=k):valV (p::r) k=some p.2:=by simp [valV,List.find?_cons,e]
theorem valV_neg {p:κ×V} {r:List (κ×V)} {k:κ} (e:¬ p.1=k):valV (p::r) k=valV r k:=by simp [valV,List.find?_cons,e]
theorem valV_any (k:κ):∀kvs:List (κ×V),(kvs.any fun kv=>decide (kv.1=k))=(valV kvs k).isSome
 | []=>rfl
 | p::r=>by
  rw [List.any_cons]
  by_cases e:p.1=k
  ·simp only [valV_pos e,decide_eq_true e,Bool.true_or,Option.isSome_some]
  ·rw [valV_neg e,decide_eq_false e,Bool.false_or];exact valV_any k r
theorem valV_map (k j:κ) (y:V):∀kvs:List (κ×V),valV (kvs.map fun kv=>if kv.1=k then (kv.1,y) else kv) j=(valV kvs j).map fun x=>if j=k then y else x
 | []=>rfl
 | p::r=>by
  have ih:=valV_map k j y r
  rw [List.map_cons]
  by_cases h:p.1=k
  ·rw [if_pos h]
   by_cases e:p.1=j
   ·rw [valV_pos (p:=(p.1,y)) e,valV_pos e,Option.map_some,if_pos (e.symm.trans h)]
   ·rw [valV_neg (p:=(p.1,y)) e,valV_neg e,ih]
  ·rw [if_neg h]
   by_cases e:p.1=j
   ·rw [valV_pos (p:=p) e,valV_pos e,Option.map_some,if_neg (fun z=>h (e.trans z))]
   ·rw [valV_neg (p:=p) e,valV_neg e,ih]
theorem valV_snoc (k j:κ) (y:V):∀kvs:List (κ×V),valV kvs k=none→valV (kvs++[(k,y)]) j=if j=k then some y else valV kvs j
 | [],_=>by
  by_cases e:k=j
  ·rw [if_pos e.symm];exact valV_pos (p:=(k,y)) e
  ·rw [if_neg (fun z=>e z.symm)];exact valV_neg (p:=(k,y)) e
 | p::r,hn=>by
  rw [List.cons_append]
  have hk:¬ p.1=k:=fun z=>by rw [valV_pos z] at hn;cases hn
  rw [valV_neg hk] at hn
  have ih:=valV_snoc k j y r hn
  by_cases e:p.1=j
  ·rw [valV_pos e,valV_pos e,if_neg (fun z=>hk (e.trans z))]
  ·rw [valV_neg e,valV_neg e,ih]
theorem valV_put (kvs:List (κ×V)) (k j:κ) (y:V):valV (putK kvs k y) j=if j=k then some y else valV kvs j:=by
 unfold putK
 by_cases a:(kvs.any fun kv=>decide (kv.1=k))=true
 ·rw [if_pos a,valV_map]
  rw [valV_any] at a
  by_cases e:j=k
  ·obtain ⟨x,hx⟩:=Option.isSome_iff_exists.mp a
   rw [if_pos e,e,hx,Option.map_some,if_pos rfl]
  ·rw [if_neg e]
   cases valV kvs j with
   | none=>rfl
   | some x=>rw [Option.map_some,if_neg e]
 ·rw [if_neg a]
  refine valV_snoc k j y kvs ?_
  rw [valV_any] at a
  cases q:valV kvs k with
  | none=>rfl
  | some x=>rw [q] at a;exact (a rfl).elim
theorem length_putK (kvs:List (κ×V)) (k:κ) (v:V):(putK kvs k v).length≤kvs.length + 1:=by
 unfold putK
 split
 ·rw [List.length_map];lia
 ·rw [List.length_append,List.length_cons,List.length_nil];lia
theorem RelO.isSome_eq {o:Option V} {u:Option Value} (r:RelO o u):o.isSome=u.isSome:=by
 cases o with
 | none=>cases u with
  | none=>rfl
  | some _=>exact (show False from r).elim
 | some _=>cases u with
  | none=>exact (show False from r).elim
  | some _=>rfl
theorem RelO.getD {o:Option V} {u:Option Value} {d:V} {d':Value} (r:RelO o u) (rd:RelV d d'):RelV (o.getD d) (u.getD d'):=by
 cases o with
 | none=>cases u with
  | none=>exact rd
  | some _=>exact (show False from r).elim
 | some _=>cases u with
  | none=>exact (show False from r).elim
  | some _=>exact r
theorem KV.val {kvs:List (κ×V)} {vs:List (κ×Value)} (r:KV kvs vs) (k:κ):RelO (valV kvs k) (valueAt vs k):=by
 unfold KV at r
 induction r with
 | nil=>exact True.intro
 | @cons p q ps qs h t ih =>
  obtain ⟨h1,h2⟩:=h
  by_cases e:p.1=k
  ·have e':q.1=k:=h1.symm.trans e
   have b:valueAt (q::qs) k=some q.2:=by simp [valueAt,List.find?_cons,e']
   rw [valV_pos e,b];exact h2
  ·have e':¬ q.1=k:=fun z=>e (h1.trans z)
   have b:valueAt (q::qs) k=valueAt qs k:=by simp [valueAt,List.find?_cons,e']
   rw [valV_neg e,b];exact ih
theorem KV.any {kvs:List (κ×V)} {vs:List (κ×Value)} (r:KV kvs vs) (k:κ):(kvs.any fun kv=>decide (kv.1=k))=vs.any fun kv=>decide (kv.1=k):=by
 unfold KV at r
 induction r with
 | nil=>rfl
 | cons h t ih=>rw [List.any_cons,List.any_cons,ih,h.1]
theorem KV.repl {kvs:List (κ×V)} {vs:List (κ×Value)} (r:KV kvs vs) (k:κ) {y:V} {u:Value} (ry:RelV y u) :
  KV (kvs.map fun kv=>if kv.1=k then (kv.1,y) else kv) (vs.map fun kv=>if kv.1=k then (kv.1,u) else kv):=by
 unfold KV at r ⊢
 induction r with
 | nil=>exact .nil
 | @cons p q ps qs h t ih =>
  rw [List.map_cons,List.map_cons]
  refine .cons ?_ ih
  obtain ⟨h1,h2⟩:=h
  by_cases e:p.1=k
  ·rw [if_pos e,if_pos (h1.symm.trans e)];exact ⟨h1,ry⟩
  ·rw [if_neg e,if_neg (fun z=>e (h1.trans z))];exact ⟨h1,h2⟩
theorem KV.put {kvs:List (κ×V)} {vs:List (κ×Value)} (r:KV kvs vs) (k:κ) {y:V} {u:Value} (ry:RelV y u):KV (putK kvs k y) (stored vs k u):=by
 unfold putK stored
 rw [r.any k]
 by_cases e:(vs.any fun kv=>decide (kv.1=k))=true
 ·rw [if_pos e,if_pos e];exact r.repl k ry
 ·rw [if_neg e,if_neg e];exact Paired.snoc r ⟨rfl,ry⟩
theorem KV.drop {kvs:List (κ×V)} {vs:List (κ×Value)} (r:KV kvs vs) (k:κ):KV (dropK kvs k) (without vs k):=by
 unfold KV at r ⊢
 unfold dropK without
 induction r with
 | nil=>exact .nil
 | @cons p q ps qs h t ih =>
  obtain ⟨h1,h2⟩:=h
  rw [List.filter_cons,List.filter_cons]
  by_cases e:p.1=k
  ·have a:¬ decide (p.1≠k)=true:=by simp [e]
   have b:¬ decide (q.1≠k)=true:=by simp [h1.symm.trans e]
   rw [if_neg a,if_neg b];exact ih
  ·have e':¬ q.1=k:=fun z=>e (h1.trans z)
   have a:decide (p.1≠k)=true:=by simp [e]
   have b:decide (q.1≠k)=true:=by simp [e']
   rw [if_pos a,if_pos b];exact .cons ⟨h1,h2⟩ ih
theorem KV.keys {kvs:List (κ×V)} {vs:List (κ×Value)} (r:KV kvs vs):kvs.map (·.1)=vs.map (·.1):=by
 unfold KV at r
 induction r with
 | nil=>rfl
 | cons h t ih=>rw [List.map_cons,List.map_cons,ih,h.1]
theorem KV.length {kvs:List (κ×V)} {vs:List (κ×Value)} (r:KV kvs vs):kvs.length=vs.length:=Paired.length r
end
theorem kV_is {P:Program} {w:World} {k:Key} {u:Value} (r:RelV (kV k) u):(mixKind P w).is k u=true:=by
 cases k with
 | inl i=>obtain ⟨t,e⟩:=(show ∃t,u=Value.int i t from r);subst e;exact mixKind_int P w i t
 | inr x=>obtain ⟨t,e⟩:=(show ∃t,u=Value.str x t from r);subst e;exact mixKind_str P w x t
theorem items_are {P:Program} {w:World}:∀{ks:List Key} {us:List Value},Vals (ks.map kV) us→ItemsAre (mixKind P w) ks us
 | [],_,r=>by rw [List.map_nil] at r;cases r;exact .nil
 | k::ks,_,r=>by
  rw [List.map_cons] at r
  cases r with
  | cons h t=>exact .cons (kV_is h) (items_are t)
abbrev KT (H:Hp):List (List Key×V)→List (List Key×Addr×Value)→Prop:=Paired fun p q=>p.1=q.1∧H q.2.1=some (.tup (p.1.map kV))∧RelV p.2 q.2.2
theorem KT.val {H:Hp} {kvs:List (List Key×V)} {xs:List (List Key×Addr×Value)} (r:KT H kvs xs) (k:List Key):RelO (valV kvs k) ((atKey xs k).map (·.2)):=by
 induction r with
 | nil=>exact True.intro
 | @cons p q ps qs h t ih =>
  obtain ⟨h1,_,h2⟩:=h
  by_cases e:p.1=k
  ·have e':q.1=k:=h1.symm.trans e
   have b:atKey (q::qs) k=some q.2:=by simp [atKey,List.find?_cons,e']
   rw [valV_pos e,b];exact h2
  ·have e':¬ q.1=k:=fun z=>e (h1.trans z)
   have b:atKey (q::qs) k=atKey qs k:=by simp [atKey,List.find?_cons,e']
   rw [valV_neg e,b];exact ih
theorem KT.repl {H:Hp} {kvs:List (List Key×V)} {xs:List (List Key×Addr×Value)} (r:KT H kvs xs) (k:List Key) {y:V} {u:Value} (ry:RelV y u) :
  KT H (kvs.map fun kv=>if kv.1=k then (kv.1,y) else kv) (xs.map (putAt k u)):=by
 induction r with
 | nil=>exact .nil
 | @cons p q ps qs h t ih =>
  rw [List.map_cons,List.map_cons]
  refine .cons ?_ ih
  obtain ⟨h1,h2,h3⟩:=h
  unfold putAt
  by_cases e:p.1=k
  ·rw [if_pos e,if_pos (h1.symm.trans e)];exact ⟨h1,h2,ry⟩
  ·rw [if_neg e,if_neg (fun z=>e (h1.trans z))];exact ⟨h1,h2,h3⟩
theorem KT.put {H:Hp} {kvs:List (List Key×V)} {xs:List (List Key×Addr×Value)} (r:KT H kvs xs) (k:List Key) {b:Addr} {y:V} {u:Value} (hb:H b=some (.tup (k.map kV))) (ry:RelV y u) :
  KT H (putK kvs k y) (storedH xs k b u):=by
 have e:(kvs.any fun kv=>decide (kv.1=k))=(atKey xs k).isSome:=by
  rw [valV_any,(r.val k).isSome_eq,Option.isSome_map]
 unfold putK storedH
 rw [e]
 by_cases q:(atKey xs k).isSome=true
 ·rw [if_pos q,if_pos q];exact r.repl k ry
 ·rw [if_neg q,if_neg q];exact Paired.snoc r ⟨rfl,hb,ry⟩
theorem KT.keeps {H H':Hp} {kvs:List (List Key×V)} {xs:List (List Key×Addr×Value)} (r:KT H kvs xs) (ht:∀b ys,H b=some (.tup ys)→H' b=some (.tup ys)):KT H' kvs xs :=
 Paired.mapP r fun _ _ z=>⟨z.1,ht _ _ z.2.1,z.2.2⟩
section
variable {P:Program} {w:World} {H:Hp} {h:Heap} {a:Addr}
theorem rd_of {u:HO} (ok:HOk P w H h) (e:Rd H a u):ObjOk P w H h a u:=e.ok ok
theorem dk_rd {kvs:List (Key×V)} (ok:HOk P w H h) (e:Rd H a (.dK kvs)):kvs.length≤sizeLine∧(a == sysModules)=false∧∃vs,KV kvs vs∧h.DictOf (mixKind P w) a vs :=
 show ObjOk P w H h a (.dK kvs) from rd_of ok e
theorem dk_of {kvs:List (Key×V)} (ok:HOk P w H h) (e:H a=some (.dK kvs)):kvs.length≤sizeLine∧(a == sysModules)=false∧∃vs,KV kvs vs∧h.DictOf (mixKind P w) a vs:=dk_rd ok (.inl e)
theorem key_of {ks:List Key} (ok:HOk P w H h) (e:H a=some (.tup (ks.map kV))):(tupleKind (mixKind P w)).is h ks a:=by
 obtain ⟨_,its,r,o,h1,h2,n,h3⟩:=(show ObjOk P w H h a (.tup (ks.map kV)) from ok a _ e)
 exact ⟨o,its.toArray,n,h1,h2,h3,by simpa using items_are r⟩
theorem dt_rd {kvs:List (List Key×V)} (ok:HOk P w H h) (e:Rd H a (.dT kvs)):kvs.length≤sizeLine∧(a == sysModules)=false ∧
  ∃xs,KT H kvs xs∧h.DictOfH (tupleKind (mixKind P w)) a xs:=by
 obtain ⟨z,y,xs,r,o,es,ep,h1,h2,h3,h4,h5⟩:=(show ObjOk P w H h a (.dT kvs) from rd_of ok e)
 refine ⟨z,y,xs,r,o,es,ep,h1,h2,h3,h4,fun x hx=>?_,h5⟩
 have all:∀{l:List (List Key×V)} {m:List (List Key×Addr×Value)},KT H l m→∀x∈m,(tupleKind (mixKind P w)).is h x.1 x.2.1:=by
  intro l m q
  induction q with
  | nil=>intro x hx;exact nomatch hx
  | @cons p q ps qs hq t ih =>
   intro x hx
   rcases List.mem_cons.mp hx with e | hx
   ·subst e
    exact key_of ok (by rw [← hq.1];exact hq.2.1)
   ·exact ih x hx
 exact all r x hx
theorem dt_of {kvs:List (List Key×V)} (ok:HOk P w H h) (e:H a=some (.dT kvs)):kvs.length≤sizeLine∧(a == sysModules)=false ∧
  ∃xs,KT H kvs xs∧h.DictOfH (tupleKind (mixKind P w)) a xs:=dt_rd ok (.inl e)
end
def DGet (H:Hp) (a:Addr) (y:V) (r:Option V):Prop :=
 (∃kvs k,Rd H a (.dK kvs)∧y=kV k∧r=valV kvs k)∨∃kvs k b,Rd H a (.dT kvs)∧y=.ref b∧H b=some (.tup (k.map kV))∧r=valV kvs k
def DPut (H:Hp) (a:Addr) (y v:V) (H':Hp):Prop :=
 (∃kvs k,H a=some (.dK kvs)∧y=kV k∧kvs.length < sizeLine∧H'=upd H a (.dK (putK kvs k v))) ∨
 ∃kvs k b,H a=some (.dT kvs)∧y=.ref b∧H b=some (.tup (k.map kV))∧kvs.length < sizeLine∧H'=upd H a (.dT (putK kvs k v))
theorem DGet.k {H:Hp} {a:Addr} {kvs:List (Key×V)} {k:Key} (e:H a=some (.dK kvs)):DGet H a (kV k) (valV kvs k):=.inl ⟨kvs,k,.inl e,rfl,rfl⟩
theorem DGet.t {H:Hp} {a b:Addr} {kvs:List (List Key×V)} {k:List Key} (e:H a=some (.dT kvs)) (eb:H b=some (.tup (k.map kV))):DGet H a (.ref b) (valV kvs k):=.inr ⟨kvs,k,b,.inl e,rfl,eb,rfl⟩
theorem DPut.k {H:Hp} {a:Addr} {kvs:List (Key×V)} {k:Key} {v:V} (e:H a=some (.dK kvs)) (hl:kvs.length < sizeLine):DPut H a (kV k) v (upd H a (.dK (putK kvs k v))):=.inl ⟨kvs,k,e,rfl,hl,rfl⟩
theorem DPut.t {H:Hp} {a b:Addr} {kvs:List (List Key×V)} {k:List Key} {v:V} (e:H a=some (.dT kvs)) (eb:H b=some (.tup (k.map kV))) (hl:kvs.length < sizeLine) :
  DPut H a (.ref b) v (upd H a (.dT (putK kvs k v))):=.inr ⟨kvs,k,b,e,rfl,eb,hl,rfl⟩
section
variable {X:Cx} {pins:List (Addr×Obj)} {σ:St} {H:Hp} {s:Shared} {a:Addr} {y v:V} {u r:Value} {o:Option V} {A:Around} {E:Value→Shared→Prop}
theorem Inv.big (I:Inv X pins σ H s):sysModules < s.heap.objs.size:=by
 have h:mainGlobals < s.heap.objs.size:=(I.mod.glob.keeps I.bk).lt
 exact Nat.lt_trans (by decide) h
theorem d_getItem {Q:Value→Shared→Prop} (hu:A.units + 1 < cLine) (I:Inv X pins σ H s) (g:DGet H a y (some v)) (ry:RelV y u) (h:∀w' s',Inv X pins σ H s'→RelV v w'→Q w' s') :
  wpAny (model X.prog X.w) A (getItem (.ref a) u) Q E s:=by
 rcases g with ⟨kvs,k,e,ey,l⟩ | ⟨kvs,k,b,e,ey,eb,l⟩
 ·subst ey
  obtain ⟨z,hd,vs,rel,dd⟩:=dk_rd I.hok e
  obtain ⟨w',hw,rw'⟩:=RelO.some_of (v:=v) (o:=valueAt vs k) (by rw [l];exact rel.val k)
  exact wpAny_getItem_of (kV_is ry) dd.mapOf hw (h w' _ (I.tok _) rw')
 ·subst ey
  cases (show u=Value.ref b from ry)
  obtain ⟨z,hd,xs,rel,dd⟩:=dt_rd I.hok e
  obtain ⟨w',hw,rw'⟩:=RelO.some_of (v:=v) (o:=(atKey xs k).map (·.2)) (by rw [l];exact rel.val k)
  obtain ⟨p,hp,hp2⟩:=Option.map_eq_some_iff.mp hw
  refine wpAny_getItem_heap (tupleKind_room_in1 hu) (key_of I.hok eb) dd hp ?_
  rw [hp2]
  exact h w' _ (I.tok _) rw'
theorem d_notIn {Q:Value→Shared→Prop} (hu:A.units + 1 < cLine) (I:Inv X pins σ H s) (g:DGet H a y o) (ry:RelV y u) (h:∀s',Inv X pins σ H s'→Q (.bool (!o.isSome)) s') :
  wpAny (model X.prog X.w) A (compareOp .NotIn u (.ref a)) Q E s:=by
 rcases g with ⟨kvs,k,e,ey,l⟩ | ⟨kvs,k,b,e,ey,eb,l⟩
 ·subst ey
  obtain ⟨z,hd,vs,rel,dd⟩:=dk_rd I.hok e
  refine wpAny_notIn_of (kV_is ry) hd dd.mapOf ?_
  rw [← (rel.val k).isSome_eq,← l]
  exact h _ (I.tok _)
 ·subst ey
  cases (show u=Value.ref b from ry)
  obtain ⟨z,hd,xs,rel,dd⟩:=dt_rd I.hok e
  refine wpAny_notIn_heap (tupleKind_room_in1 hu) (key_of I.hok eb) hd dd ?_
  have q:=(rel.val k).isSome_eq
  rw [Option.isSome_map] at q
  rw [← q,← l]
  exact h _ (I.tok _)
theorem d_write {h':Heap} {t':Nat} {ob:HO} (I:Inv X pins σ H s) (mu:Mut (H a)) (hs:Heap.SameBut a s.heap h') (he:∃q,h'.get? a=some q) (new:ObjOk X.prog X.w (upd H a ob) h' a ob) :
  Inv X pins σ (upd H a ob) { s with heap:=h',toks:=t' } :=
 I.write (x:=a) (e:=a) mu (.inl rfl) (fun b q hb z=>(hs.2 b hb).trans z) he new
theorem dk_new {P:Program} {w:World} {H':Hp} {h':Heap} {kvs:List (Key×V)} {vs:List (Key×Value)} (z:kvs.length≤sizeLine) (hd:(a == sysModules)=false) (rel:KV kvs vs) (dd:h'.DictOf (mixKind P w) a vs) :
  ObjOk P w H' h' a (.dK kvs):=⟨z,hd,vs,rel,dd⟩
theorem d_setItem {H':Hp} {Q:Unit→Shared→Prop} (hu:A.units + 1 < cLine) (I:Inv X pins σ H s) (g:DPut H a y v H') (ry:RelV y u) (rv:RelV v r) (h:∀s',Inv X pins σ H' s'→Q () s') :
  wpAny (model X.prog X.w) A (setItem (.ref a) u r) Q E s:=by
 rcases g with ⟨kvs,k,e,ey,l,eH⟩ | ⟨kvs,k,b,e,ey,eb,l,eH⟩
 ·subst ey eH
  obtain ⟨z,hd,vs,rel,dd⟩:=dk_of I.hok e
  have hz:vs.length≤sizeLine:=by rw [← rel.length];exact z
  have hl:(putK kvs k v).length≤sizeLine:=by have:=length_putK kvs k v;lia
  refine wpAny_setItem_pairs (hsz:=hz) (kV_is ry) dd fun h' dd' hs=>h _ ?_
  have he:∃q,h'.get? a=some q:=let ⟨q,_,_,hq,_⟩:=dd';⟨q,hq⟩
  exact d_write I (by rw [e];exact True.intro) hs he (dk_new hl hd (rel.put k rv) dd')
 ·subst ey eH
  cases (show u=Value.ref b from ry)
  obtain ⟨z,hd,xs,rel,dd⟩:=dt_of I.hok e
  have hz:xs.length≤sizeLine:=by rw [← Paired.length rel];exact z
  have hl:(putK kvs k v).length≤sizeLine:=by have:=length_putK kvs k v;lia
  refine wpAny_setItem_heap (hsz:=hz) (tupleKind_room_in1 hu) (key_of I.hok eb) dd fun h' dd' hs=>h _ ?_
  obtain ⟨q,es,ep,hq,h2,h3,h4,_,h5⟩:=dd'
  refine d_write I (by rw [e];exact True.intro) hs ⟨q,hq⟩ ⟨hl,hd,_,(rel.put k eb rv).keeps fun c ys ec=>?_,q,es,ep,hq,h2,h3,h4,h5⟩
  rw [upd_ne (ne_of ec e (fun z=>nomatch z))]
  exact ec
end
def NoSl (i:Expr):Prop:=∀ov iv,subscripted i false ov iv=operate [ov,iv] (getItem ov iv)
theorem subD_of {prog:Program} {w:World} {A:Around} {E:Value→Shared→Prop} {s:Shared} {env:Env} {value slice:Expr} {pos:Pos} {T id:String} {Q:Value→Shared→Prop}
  (hl:typeLookup (.type T) "__getitem__" = pure (some (.builtin id))) (hs:NoSl slice)
  (h:wpAny (model prog w) A (eval value env) (fun o s₁=>wpAny (model prog w) A (eval slice env) (fun i s₂=>s₂.TypeIs o T∧wpAny (model prog w) A (getItem o i) Q E s₂) E s₁) E s) :
  wpAny (model prog w) A (eval (.Subscript value slice pos) env) Q E s:=by
 refine Subscript_ (wpAny_mono h (fun o s₁ h₁=>wpAny_mono h₁ (fun i s₂ h₂=>?_) fun _ _ x=>x) fun _ _ x=>x)
 obtain ⟨hT,h₂⟩:=h₂
 unfold subscriptTail
 refine wpAny_bind ?_
 rw [getitemInPython_of_ne hT.not_modules]
 refine wpAny_bind (wpAny_specialOf hT hl ?_)
 have fin:wpAny (model prog w) A (subscripted slice false o i) (fun r s₃=>wpAny (model prog w) A (letTemporaryGo value o r >>= fun _=>pure r) Q E s₃) E s₂:=by
  rw [hs o i]
  exact wpAny_operating (wpAny_mono h₂ (fun r s₃ h₃=>wpAny_bind (wpAny_letTemporaryGo (wpAny_pure h₃))) fun _ _ x=>x)
 first
  | exact wpAny_pure (wpAny_bind fin)
  | exact wpAny_bind (wpAny_pure (wpAny_bind fin))
  | exact wpAny_bind fin
theorem dict_typeIs {X:Cx} {pins:List (Addr×Obj)} {σ:St} {H:Hp} {s:Shared} {a:Addr} {y:V} {o:Option V} (I:Inv X pins σ H s) (g:DGet H a y o):s.TypeIs (.ref a) "dict" := by
 rcases g with ⟨kvs,k,e,_,_⟩ | ⟨kvs,k,b,e,_,_,_⟩
 ·obtain ⟨_,_,vs,_,dd⟩:=dk_rd I.hok e
  exact dd.typeIs
 ·obtain ⟨_,_,xs,_,dd⟩:=dt_rd I.hok e
  exact dd.typeIs
def tDGet (td ty:TE):TE:=fun σ H Q=>td σ H fun x H1=>ty σ H1 fun y H2=>∃a v,x=.ref a∧DGet H2 a y (some v)∧Q v H2
def tDNotIn (ty td:TE):TE:=fun σ H Q=>ty σ H fun y H1=>td σ H1 fun x H2=>∃a o,x=.ref a∧DGet H2 a y o∧Q (.bl (!o.isSome)) H2
def sDPut (td ty tv:TE):TS:=fun D σ H=>tv σ H fun v H1=>td σ H1 fun x H2=>ty σ H2 fun y H3=>∃a H4,x=.ref a∧DPut H3 a y v H4∧D.nx σ H4
section
variable {X:Cx} {o i e value:Expr} {pos pos' tpos:Pos} {td ty tv:TE}
theorem pe_dget (hu:X.A.units + 1 < cLine) (ho:PE X o td) (hi:PE X i ty) (hs:NoSl i):PE X (.Subscript o i pos) (tDGet td ty):=by
 intro pins s σ H Q I h
 refine subD_of PySem.F.slot_dict_getitem.lookup hs (thn (ho pins s σ H _ I h) fun u s1 ⟨x,H1,I1,rx,q1⟩=>thn (hi pins s1 σ H1 _ I1 q1) fun iv s2 ⟨y,H2,I2,ry,a,v,ex,g,q2⟩=>?_)
 subst ex
 obtain rfl:u=Value.ref a:=rx
 exact ⟨dict_typeIs I2 g,d_getItem hu I2 g ry fun w' s3 I3 rw'=>⟨v,H2,I3,rw',q2⟩⟩
theorem pc_dnotin (hu:X.A.units + 1 < cLine) (hi:PE X i ty) (ho:PE X o td):PC X .NotIn i o (tDNotIn ty td):=by
 intro pins s σ H Q I h
 refine thn (hi pins s σ H _ I h) fun iv s1 ⟨y,H1,I1,ry,q1⟩=>thn (ho pins s1 σ H1 _ I1 q1) fun u s2 ⟨x,H2,I2,rx,a,ov,ex,g,q2⟩=>?_
 subst ex
 obtain rfl:u=Value.ref a:=rx
 exact d_notIn hu I2 g ry fun s3 I3=>⟨.bl (!ov.isSome),H2,I3,rfl,q2⟩
theorem ps_dput (hu:X.A.units + 1 < cLine) (ho:PE X o td) (hi:PE X i ty) (hv:PE X value tv) (hs:swapsWith value (some (.Subscript o i pos')) pos.line X.env=pure false) :
  PS X (.Assign [.Subscript o i pos'] value pos) (sDPut td ty tv):=by
 intro pins s σ H D I h
 refine wpAny_Assign_Subscript (thn (hv pins s σ H _ I h) fun r s1 ⟨v,H1,I1,rv,q1⟩=>thn (ho pins s1 σ H1 _ I1 q1) fun u s2 ⟨x,H2,I2,rx,q2⟩=>thn (hi pins s2 σ H2 _ I2 q2) fun iv s3 ⟨y,H3,I3,ry,a,H4,ex,g,q3⟩=>?_) hs
 subst ex
 obtain rfl:u=Value.ref a:=rx
 exact d_setItem hu I3 g ry rv fun s4 I4=>⟨σ,H4,I4,q3⟩
end
theorem dk_empty {P:Program} {w:World} {H:Hp} (h:Heap) (hb:sysModules < h.objs.size):ObjOk P w H (h.push { cls:=.type "dict", data:=.dict #[] }) h.objs.size (.dK []) :=
 ⟨Nat.zero_le _,beq_eq_false_iff_ne.mpr (Ne.symm (Nat.ne_of_lt hb)),[],.nil,Heap.DictOf.new h⟩
theorem dt_empty {P:Program} {w:World} {H:Hp} (h:Heap) (hb:sysModules < h.objs.size):ObjOk P w H (h.push { cls:=.type "dict", data:=.dict #[] }) h.objs.size (.dT []) :=
 ⟨Nat.zero_le _,beq_eq_false_iff_ne.mpr (Ne.symm (Nat.ne_of_lt hb)),[],.nil,_,#[],0,Heap.get?_push_size _ rfl,⟨rfl,rfl,rfl⟩,rfl,rfl,List.nodup_nil⟩
def tDNewK:TE:=fun _ H Q=>∀p,H p=none→Q (.ref p) (upd H p (.dK []))
def tDNewT:TE:=fun _ H Q=>∀p,H p=none→Q (.ref p) (upd H p (.dT []))
section
variable {X:Cx} {pos:Pos}
theorem pe_dnewK:PE X (.Dict [] [] pos) tDNewK:=fun pins s σ H Q I h =>
 wpAny_Dict_empty ⟨.ref s.heap.objs.size,_,I.laid (a:=s.heap.objs.size) (o:=.dK []) (t':=s.toks) (fun _ _ q=>Heap.get?_push_of_some _ q) (Nat.le_refl _) (dk_empty s.heap I.big),rfl,h _ (I.hok.fresh (Nat.le_refl _))⟩
theorem pe_dnewT:PE X (.Dict [] [] pos) tDNewT:=fun pins s σ H Q I h =>
 wpAny_Dict_empty ⟨.ref s.heap.objs.size,_,I.laid (a:=s.heap.objs.size) (o:=.dT []) (t':=s.toks) (fun _ _ q=>Heap.get?_push_of_some _ q) (Nat.le_refl _) (dt_empty s.heap I.big),rfl,h _ (I.hok.fresh (Nat.le_refl _))⟩
end
def IsD (H:Hp) (a:Addr):Prop:=(∃kvs,Rd H a (.dK kvs))∨∃kvs,Rd H a (.dT kvs)
theorem isD_at {X:Cx} {pins:List (Addr×Obj)} {σ:St} {H:Hp} {s:Shared} {a:Addr} (I:Inv X pins σ H s) (d:IsD H a) :
  s.TypeIs (.ref a) "dict" ∧ (∀b,Value.ref a=.ref b→∃ob,s.heap.get? b=some ob∧ob.dict=none)∧(a == sysModules)=false:=by
 rcases d with ⟨kvs,e⟩ | ⟨kvs,e⟩
 ·obtain ⟨_,hd,vs,_,dd⟩:=dk_rd I.hok e
  refine ⟨dd.typeIs,fun b q=>?_,hd⟩
  cases q
  obtain ⟨ob,_,_,h1,h2,_⟩:=dd
  exact ⟨ob,h1,h2.2.1⟩
 ·obtain ⟨_,hd,xs,_,dd⟩:=dt_rd I.hok e
  refine ⟨dd.typeIs,fun b q=>?_,hd⟩
  cases q
  obtain ⟨ob,_,_,h1,h2,_⟩:=dd
  exact ⟨ob,h1,h2.2.1⟩
section
variable {κ:Type} [DecidableEq κ]
theorem valV_not {kvs:List (κ×V)} {k:κ} (h:valV kvs k=none):¬ k∈kvs.map (·.1):=by
 intro m
 obtain ⟨p,hp,e⟩:=List.mem_map.mp m
 have q:(kvs.any fun kv=>decide (kv.1=k))=true:=List.any_eq_true.mpr ⟨p,hp,decide_eq_true e⟩
 rw [valV_any,h] at q
 exact absurd q (by simp)
end
end L2
set_option maxHeartbeats 4000000
namespace L2
open PySem PySem.Spec PyProof.Rows
section
variable {P:Program} {w:World} {K:W.Frag} {mg:Str→Option Value} {base:Heap} {CX:CXT} {x:Str} {ps:List Str} {sp:Sp} {j k:Nat}
structure Def (P:Program) (w:World) (K:W.Frag) (mg:Str→Option Value) (base:Heap) (CX:CXT) (k:Nat) (x:Str) (ps:List Str) (sp:Sp):Prop where
 ex:∃(f:Addr) (fd:FuncData),FnOk P w K mg base CX k f fd ps sp∧mg x=some (.ref f)∧W.keepIn K (.ref f)=true∧Binds K fd ps []
def HasDef (K:W.Frag) (mg:Str→Option Value) (x:Str) (st:Stmt):Prop:=∃(f:Addr) (fd:FuncData),Fun K x x st f fd∧mg x=some (.ref f)
theorem HasDef.mk {st:Stmt} {f:Addr} {oc:Value} {od an:Option Addr} {osl:Array (Option Value)} {kV doc pm cdv ct:Value} (m:mg x=some (.ref f))
  (l:K.lookup f=some ⟨oc,od,.func (W.fnOf x x (defArgs st) (defBody st) (defScope st) .none kV doc pm an cdv ct),osl⟩)
  (c:W.codeIn K cdv x=true) (k:W.keepIn K (.ref f)=true):HasDef K mg x st:=⟨f,_,fun_mk l c k,m⟩
theorem def_of {st:Stmt} {N:List Str} (h:HasDef K mg x st) (S:FnScope N ps (defScope st)) (len:∀vs H Q E,sp vs H Q E→vs.length=ps.length)
  (hb:∀(kV doc pm:Value) (an:Option Addr) (cdv ct:Value) (us:List Value),us.length=ps.length→bindArgs (W.fnOf x x (defArgs st) (defBody st) (defScope st) .none kV doc pm an cdv ct) ⟨us,[]⟩=pure (ps.zip us))
  (hbody:∀(f:Addr) (cdv:Value) (A:Around) (outer:List Env) (s:Shared) (H:Hp) (vs:List V) (Q:VK) (E:XK),Room k (A.deeper (envOfC x (defScope st) s.heap.objs.size f cdv))→sp vs H Q E →
   ∃t,PSs (cxOf CX P w K mg base N x (defScope st) f cdv A outer s H E).nox (defBody st) t∧t { nx:=fun _ H'=>Q .non H',rt:=Q } (start N vs) H):Def P w K mg base CX (k + 1) x ps sp:=by
 obtain ⟨f,fd,F,m⟩:=h
 refine ⟨f,fd,?_,m,F.kp,F.binds hb⟩
 obtain ⟨oc,od,kV,doc,pm,an,cdv,ct,osl,rfl,lk,hcd⟩:=F.ex
 refine fn_of lk hcd S len fun A outer s H vs Q E hr hsp=>?_
 obtain ⟨t,h,q⟩:=hbody f cdv A outer s H vs Q E hr hsp
 exact ⟨t,h.nox,q⟩
end
section
variable {X:Cx} {CX:CXT} {k m:Nat} {x:Str} {ps:List Str} {sp:Sp} {E:XK} {p pos:Pos} {e:Expr} {es:List Expr} {t:TA}
theorem pe_def (D:Def X.prog X.w X.K X.mg X.base CX k x ps sp) (hr:Room m X.A) (ha:PA X (e::es) t) (hk:k≤m:=by decide) (hx:Passes CX X E:=by exact pass0) (hg:Gl X x:=by rfl)
  (hdb:(x == ("__debug__" : Str))=false:=by decide) (he:starEach (e::es) X.env=(false,eval e X.env)::starEach es X.env:=by rfl) (hpl:(backTo pos (starEach es X.env)).any (·.1)=false:=by rfl) :
  PE X (.Call (.Name x p) (e::es) [] pos) (tCall sp [] E t):=by
 obtain ⟨f,fd,F,hm,kp,b⟩:=D.ex
 exact pe_call F (hr.mono hk) hg hm kp b .nil hx ha hdb he hpl
end
def GlobIs (mg:Str→Option Value) (x:Str) (v:V):Prop:=∃u,mg x=some u∧RelV v u
theorem pe_gl {X:Cx} {x:Str} {v:V} {pos:Pos} (h:GlobIs X.mg x v) (hg:Gl X x:=by rfl) (hd:(x == ("__debug__" : Str))=false:=by decide):PE X (.Name x pos) (tC v) :=
 let ⟨_,e,r⟩:=h
 pe_glob hg e r hd
section
variable {X:Cx} {T:String} {pos:Pos}
theorem pe_ty {x:Str} (hg:Gl X x) (hm:X.mg x=none) (hv:bootBuiltins x=some (.type T)) (hn:x ≠ "__name__" := by decide) (hd:(x == ("__debug__" : Str))=false:=by decide):PE X (.Name x pos) (tC (.ty T)) :=
 pe_bltn hg hm hv rfl hn hd
def clsIs (K:W.Frag) (t:Value):V→Option Bool
 | .ty T=>W.kitOne K t (.type T)
 | .ref C=>W.kitOne K t (.ref C)
 | _=>none
theorem call_isinstance:CallR X (.builtin "isinstance") (fun xs H Q=>∃x c t b,xs=[x,c]∧TyOf X.K H x t∧clsIs X.K t c=some b∧Q (.bl b) H):=by
 intro pins s σ H xs us Q I r h
 obtain ⟨x,c,t,b,rfl,ty,e,q⟩:=h
 obtain ⟨u,v,rfl,ru,rv⟩:=vals2 r
 cases c with
 | ty T =>
  obtain rfl:v=Value.type T:=rv
  exact isinst_ok I ru ty e fun tk=>⟨.bl b,H,I.tok _,rfl,q⟩
 | ref C =>
  obtain rfl:v=Value.ref C:=rv
  exact isinst_ok I ru ty e fun tk=>⟨.bl b,H,I.tok _,rfl,q⟩
 | _=>cases e
end
section
variable {X:Cx}
theorem vals_bools:∀{bs:List Bool} {us:List Value},Vals (bs.map V.bl) us→LSm.BoolsAre us bs
 | [],_,.nil=>.nil
 | b::bs,_,.cons r t=>by
  cases (show _=Value.bool b from r)
  exact .cons b (vals_bools t)
theorem call_all (hc:X.calm=true):CallR X (.builtin "all") (fun xs H Q=>∃(p:Addr) (bs:List Bool),xs=[.ref p]∧SqL X.K H p (bs.map V.bl)∧Q (.bl (bs.all id)) H):=by
 intro pins s σ H xs us Q I r h
 obtain ⟨p,bs,rfl,hq,q⟩:=h
 obtain ⟨u,rfl,rx⟩:=vals1 r
 cases rx
 obtain ⟨its,rv,pl,hz⟩:=I.list hq
 have hb:=vals_bools rv
 have hl:=pl.isList
 have hlt:p < s.heap.objs.size:=by obtain ⟨_,e,_⟩:=hl;exact Heap.lt_size e
 refine call_all_walk (wpAny_pyIter_list hl ?_)
 refine ⟨s.heap.objs.size,[s.heap.objs.size,p],[s.heap.objs.size],its.toArray.size,_,_,fun i=>(bs[i]?).getD true,rfl,Walks.list (A:=X.A.in1) (I.ok.hd hc) _ p (Nat.ne_of_lt hlt) its.toArray,
  ⟨⟨_,Heap.get?_push_size _ rfl,rfl,rfl⟩,hl.push _⟩,fun i v s' Q' E' hP hQ=>?_,fun h' tk hk=>?_⟩
 ·obtain ⟨b,e,rfl⟩:=hb.get i v (by simpa using hP)
  simp only [e,Option.getD_some] at hQ
  exact wpAny_truthy_bool hQ
 ·have e:((List.range its.toArray.size).all fun i=>(bs[i]?).getD true)=bs.all id:=by
   rw [List.size_toArray,hb.length];exact LSm.range_all bs
  rw [e]
  exact ⟨.bl _,H,I.kept (LSm.kept_iter hk),rfl,q⟩
end
section
variable {X:Cx}
theorem op_in_str1:OpR X (compareOp .In) (fun x y H Q=>∃c j,x=.str ⟨#[c]⟩∧y=.str j∧Q (.bl (decide (c∈j.cps.toList))) H):=by
 intro pins s σ H x y v u Q I rx ry h
 obtain ⟨c,j,rfl,rfl,q⟩:=h
 obtain ⟨t,rfl⟩:=rx
 obtain ⟨t',rfl⟩:=ry
 exact in_str (fin_bl I q (PySem.StrLaws.found_one j c).symm)
def Its (z:Str):It:=⟨fun i _=>i < z.cps.size,fun i H x H'=>H'=H∧∃c,z.cps[i]?=some c∧x=.str ⟨#[c]⟩,fun i _=>z.cps.size≤i⟩
section
variable {P:Program} {w:World} {K:W.Frag} {tg:Expr}
theorem turn_strA (it:Addr) (z:Str) (t:Tok):Turn P w K tg (Its z) [it] it (fun i h=>h.IsStrIter it "str_ascii_iterator" z t i) where
 mem:=by simp
 obj:=fun i h st b hb=>by
  have e:b=it:=by simpa using hb
  subst e
  obtain ⟨o,e,c,d⟩:=st
  exact ⟨o,e,fun v z=>by rw [d] at z;cases z⟩
 keep:=fun i h h' st k=>let ⟨o,e,r⟩:=st;⟨o,k it (by simp) o e,r⟩
 item:=by
  intro X hP hw hK hc i pins s σ H E I hf st hg
  subst hP hw hK
  obtain ⟨f0,f1,f2,f3,f4,f5⟩:=hf it (by simp)
  have hi:i < z.cps.size:=hg
  refine wpAny_pyNext_ascii_item st (c:=z.cps[i]) (by simp [hi]) fun h' st' sb=>?_
  have I1:Inv X pins σ H { s with heap:=h',toks:=s.toks + 1 }:=I.turned (fun b o hb e=>sb.extBut b o hb e) f0 f1 f3 f4 f5
  obtain ⟨o,e,c,d⟩:=id st'
  exact ⟨_,rfl,go_of (s:={ s with heap:=h',toks:=s.toks + 1 }) e c d (by decide) ⟨.str ⟨#[z.cps[i]]⟩,H,I1,⟨_,rfl⟩,⟨rfl,z.cps[i],by simp [hi],rfl⟩,st',fun b hb=>(hf b hb).1⟩⟩
 done:=by
  intro X hP hw hK hc i pins s σ H E I hf st hg
  subst hP hw hK
  obtain ⟨f0,f1,f2,f3,f4,f5⟩:=hf it (by simp)
  have hi:z.cps.size≤i:=hg
  exact wpAny_pyNext_ascii_end (I.ok.hd hc) st (by simp [hi]) fun h' eb=>⟨rfl,I.turned (t':=s.toks) (fun b o hb e=>eb b o hb e) f0 f1 f3 f4 f5⟩
 self:=fun _ _ _ _ _ st h=>wpAny_pyIter_striter_ascii st h
theorem turn_strW (it:Addr) (z:Str) (t:Tok):Turn P w K tg (Its z) [it] it (fun i h=>h.IsStrIter it "str_iterator" z t i) where
 mem:=by simp
 obj:=fun i h st b hb=>by
  have e:b=it:=by simpa using hb
  subst e
  obtain ⟨o,e,c,d⟩:=st
  exact ⟨o,e,fun v z=>by rw [d] at z;cases z⟩
 keep:=fun i h h' st k=>let ⟨o,e,r⟩:=st;⟨o,k it (by simp) o e,r⟩
 item:=by
  intro X hP hw hK hc i pins s σ H E I hf st hg
  subst hP hw hK
  obtain ⟨f0,f1,f2,f3,f4,f5⟩:=hf it (by simp)
  have hi:i < z.cps.size:=hg
  refine wpAny_pyNext_wide_item st (c:=z.cps[i]) (by simp [hi]) fun h' st' sb=>?_
  have I1:Inv X pins σ H { s with heap:=h',toks:=s.toks + 1 }:=I.turned (fun b o hb e=>sb.extBut b o hb e) f0 f1 f3 f4 f5
  obtain ⟨o,e,c,d⟩:=id st'
  exact ⟨_,rfl,go_of (s:={ s with heap:=h',toks:=s.toks + 1 }) e c d (by decide) ⟨.str ⟨#[z.cps[i]]⟩,H,I1,⟨_,rfl⟩,⟨rfl,z.cps[i],by simp [hi],rfl⟩,st',fun b hb=>(hf b hb).1⟩⟩
 done:=by
  intro X hP hw hK hc i pins s σ H E I hf st hg
  subst hP hw hK
  obtain ⟨f0,f1,f2,f3,f4,f5⟩:=hf it (by simp)
  have hi:z.cps.size≤i:=hg
  exact wpAny_pyNext_wide_end (I.ok.hd hc) st (by simp [hi]) fun h' eb=>⟨rfl,I.turned (t':=s.toks) (fun b o hb e=>eb b o hb e) f0 f1 f3 f4 f5⟩
 self:=fun _ _ _ _ _ st h=>wpAny_pyIter_striter_wide st h
end
def iStr (tl:TE):TI:=fun σ H R=>tl σ H fun x H1=>∃z,x=.str z∧R (Its z) H1
theorem pi_str {tg l:Expr} {tl:TE} (hl:PE X l tl):PI X tg l (iStr tl):=by
 intro pins s σ H R I h
 refine thn (hl pins s σ H _ I h) fun v s1 ⟨x,H1,I1,r1,q1⟩=>?_
 obtain ⟨z,e,q⟩:=q1
 subst e
 obtain ⟨t,rfl⟩:=r1
 have fp:∀(b:Addr),b∈[s1.heap.objs.size]→FpOk X pins H1 b:=fun b hb=>by
  have e:b=s1.heap.objs.size:=by simpa using hb
  subst e
  exact I1.fpOk (Nat.le_refl _) (I1.hok.fresh (Nat.le_refl _))
 cases ha:z.cps.all (· < 128)
 ·exact wpAny_pyIter_wide ha ⟨s1.heap.objs.size,[s1.heap.objs.size],_,_,H1,rfl,I1.kept (t':=s1.toks) fun b o e=>Heap.get?_push_of_some _ e,turn_strW _ z t,⟨_,Heap.get?_push_size _ rfl,rfl,rfl⟩,fp,q⟩
 ·exact wpAny_pyIter_ascii ha ⟨s1.heap.objs.size,[s1.heap.objs.size],_,_,H1,rfl,I1.kept (t':=s1.toks) fun b o e=>Heap.get?_push_of_some _ e,turn_strA _ z t,⟨_,Heap.get?_push_size _ rfl,rfl,rfl⟩,fp,q⟩
end
def closOf (env:Env):List (Str×NameKind)→Option (List (Str×Addr))
 | []=>some []
 | (n,k)::r=>if k=.free then (env.cells.lookup n).bind fun c=>(closOf env r).map fun cl=>cl++[(n,c)] else closOf env r
theorem closOf_lookup {env:Env}:∀{names:List (Str×NameKind)} {cl:List (Str×Addr)},closOf env names=some cl→∀x c,cl.lookup x=some c→env.cells.lookup x=some c
 | [],cl,h,x,c,e=>by
  cases (Option.some.inj h)
  cases e
 | (n,k)::r,cl,h,x,c,e=>by
  unfold closOf at h
  by_cases hk:k=.free
  ·rw [if_pos hk] at h
   cases hc:env.cells.lookup n with
   | none=>rw [hc] at h;cases h
   | some c' =>
    rw [hc] at h
    have h:(closOf env r).map (fun cl=>cl++[(n,c')])=some cl:=h
    cases hr:closOf env r with
    | none=>rw [hr] at h;cases h
    | some cl' =>
     rw [hr] at h
     have h:cl'++[(n,c')]=cl:=Option.some.inj h
     subst h
     rw [List.lookup_append] at e
     cases h2:cl'.lookup x with
     | some c2 =>
      rw [h2] at e
      have e:c2=c:=by simpa using e
      subst e
      exact closOf_lookup hr x c2 h2
     | none =>
      rw [h2] at e
      have e:List.lookup x [(n,c')]=some c:=by simpa using e
      by_cases hx:x=n
      ·subst hx
       have:c'=c:=by simpa using e
       subst this
       exact hc
      ·have hb:(x == n)=false:=by simpa using hx
       simp [List.lookup_cons,hb] at e
  ·rw [if_neg hk] at h
   exact closOf_lookup h x c e
theorem closureFor_go {env:Env}:∀(names:List (Str×NameKind)) (acc cl:List (Str×Addr)),closOf env names=some cl →
  (forIn (m:=Sem) names acc fun x c=>if x.2 == NameKind.free then (do let a ← cellOf env x.1;pure (ForInStep.yield ((x.1,a)::c))) else pure (ForInStep.yield c))=pure (cl++acc)
 | [],acc,cl,h=>by
  cases (Option.some.inj h)
  rfl
 | (n,k)::r,acc,cl,h=>by
  unfold closOf at h
  rw [List.forIn_cons]
  by_cases hk:k=.free
  ·rw [if_pos hk] at h
   cases hc:env.cells.lookup n with
   | none=>rw [hc] at h;cases h
   | some c' =>
    rw [hc] at h
    have h:(closOf env r).map (fun cl=>cl++[(n,c')])=some cl:=h
    cases hr:closOf env r with
    | none=>rw [hr] at h;cases h
    | some cl' =>
     rw [hr] at h
     have h:cl'++[(n,c')]=cl:=Option.some.inj h
     subst h
     have hb:(k == NameKind.free)=true:=by simpa using hk
     have:=closureFor_go r ((n,c')::acc) cl' hr
     have ec:cellOf env n=pure c':=by unfold cellOf;rw [hc]
     simp only [hb,if_true,ec,pure_bind,bind_assoc]
     rw [this]
     simp
  ·rw [if_neg hk] at h
   have hb:(k == NameKind.free)=false:=by simpa using hk
   have:=closureFor_go r acc cl h
   simp only [hb,Bool.false_eq_true,if_false,pure_bind]
   exact this
theorem closureFor_of {env:Env} {scope:Scope} {cl:List (Str×Addr)} (h:closOf env scope.names=some cl):closureFor scope env=pure cl:=by
 have:=closureFor_go scope.names [] cl h
 rw [List.append_nil] at this
 have key:closureFor scope env=(forIn (m:=Sem) scope.names ([]:List (Str×Addr)) fun x c=>if x.2 == NameKind.free then (do let a ← cellOf env x.1;pure (ForInStep.yield ((x.1,a)::c))) else pure (ForInStep.yield c)) >>= fun cs=>pure cs:=by
  unfold closureFor
  rfl
 rw [key,this]
 rfl
theorem comp_loop {prog:Program} {w:World} {A:Around} {R:Result→Shared→Prop} {s:Shared} {elt target iter:Expr} {ifs:List Expr} {scope:Scope} {pos:Pos} {it acc:Value} {env:Env} (I:Nat→Shared→Prop)
  (turn:∀n s,I n s→wpAny (model prog w) A (pyNext it) (fun r s₁=>match r with
   | none=>R (.ok .next) s₁
   | some v=>wpAny (model prog w) A (letOwnedTupleGo target it v) (fun _ s₀=>wpAny (model prog w) A (assign target env v) (fun _ s₂ =>
     wpAny (model prog w) A (forIn ifs true fun c r=>if r=true then do let ok ← isTrue c env (eval c env);pure (ForInStep.yield ok) else pure (ForInStep.yield r)) (fun ok s₃ =>
      if ok=true then wpAny (model prog w) A (eval elt env) (fun x s₄ =>
       wpAny (model prog w) A (call (.builtin "list.append") [acc,x]) (fun _ s₅=>∃m,m < n∧I m s₅) (fun _ _=>False) s₄) (fun _ _=>False) s₃
      else ∃m,m < n∧I m s₃) (fun _ _=>False) s₂) (fun _ _=>False) s₀) (fun _ _=>False) s₁) (fun _ _=>False) s)
  (n:Nat) (h:I n s) :
  codeAny (model prog w) A (.compLoop (.ListComp elt [⟨target,iter,ifs,0⟩] scope pos) 0 it acc env) R s:=by
 refine codeAny_loop rfl I (fun n s hI=>?_) n h
 show wpAny _ A ((compTurn (.ListComp elt [⟨target,iter,ifs,0⟩] scope pos) 0 it acc env).onRaise (fun x=>do noteFrame x env;theTreesLotGoes x)) _ _ s
 refine wpAny_noted ?_
 rw [compTurn_list]
 refine wpAny_bind (wpAny_standAt (wpAny_bind (wpAny_mono (turn n s hI) (fun r s₁ h₁=>?_) fun _ _ h'=>h'.elim)))
 cases r with
 | none=>exact wpAny_pure h₁
 | some v =>
  refine wpAny_bind (wpAny_mono h₁ (fun _ s₀ h₀=>?_) fun _ _ h'=>h'.elim)
  refine wpAny_bind (wpAny_mono h₀ (fun _ s₂ h₂=>wpAny_bind (wpAny_mono h₂ (fun ok s₃ h₃=>?_) fun _ _ h'=>h'.elim)) fun _ _ h'=>h'.elim)
  cases ok with
  | false=>exact wpAny_pure ⟨rfl,h₃⟩
  | true =>
   exact wpAny_bind (wpAny_bind (wpAny_mono h₃ (fun x s₄ h₄=>wpAny_bind (wpAny_mono h₄ (fun _ s₅ h₅=>wpAny_pure (wpAny_pure ⟨rfl,h₅⟩)) fun _ _ h'=>h'.elim)) fun _ _ h'=>h'.elim))
def cxComp (X:Cx) (N:List Str) (scope:Scope) (cl:List (Str×Addr)) (pins:List (Addr×Obj)) (s:Shared) (H:Hp) (fp:List Addr):Cx where
 prog:=X.prog
 w:=X.w
 K:=X.K
 mg:=X.mg
 base:=X.base
 A:=X.A
 N:=N
 s₀:=s
 H₀:=H
 env:=compEnvC scope cl s.heap.objs.size X.env
 outer:=X.stack
 stack:=X.stack
 ex:=fp
 fn:=fun _=>false
 calm:=X.calm
 pn:=X.pn++pins
 xe:=fun _ _=>False
def compStart0 (nt:Nat) (fr:List Nat) (σ:St):St:=List.replicate nt none++fr.map fun i=>(σ[i]?).getD none
structure CompNames (X:Cx) (N:List Str) (nt:Nat) (fr:List Nat) (scope:Scope) (cl:List (Str×Addr)):Prop where
 len:N.length=nt + fr.length
 free:∀(j:Nat) (i:Nat) (x:Str),fr[j]?=some i→N[nt + j]?=some x→X.N[i]?=some x∧(∃c,cl.lookup x=some c)∧(X.env.kindOf x=some .cell∨X.env.kindOf x=some .free) ∧
  ((relabel scope X.env).names.lookup x=some .cell∨(relabel scope X.env).names.lookup x=some .free)
 cells:∀x c,cl.lookup x=some c→X.env.cells.lookup x=some c
 has:∀x,((relabel scope X.env).names.lookup x=some .cell∨(relabel scope X.env).names.lookup x=some .free)→∃c,cl.lookup x=some c
 kind:scope.kind=.function
theorem Vis_of_cell {X:Cx} {x:Str} (h:X.env.kindOf x=some .cell∨X.env.kindOf x=some .free):Vis X.env.scope x:=by
 rcases h with h | h
 ·exact .inr (.inl h)
 ·exact .inr (.inr h)
section
variable {X:Cx} {N:List Str} {nt:Nat} {fr:List Nat} {scope:Scope} {cl:List (Str×Addr)} {pins:List (Addr×Obj)} {σ:St} {H:Hp} {s:Shared} {fp:List Addr}
theorem comp_ok (I:Inv X pins σ H s) (cn:CompNames X N nt fr scope cl) (hf:∀b∈fp,FpOk X pins H b) (ho:∀b∈fp,b < s.heap.objs.size):(cxComp X N scope cl pins s H fp).Ok where
 mod:=I.mod
 kind:=cn.kind
 glob:=I.ok.glob
 blt:=I.ok.blt
 above:=Nat.le_refl _
 inj:=fun x y c h1 h2=>I.ok.inj x y c (cn.cells x c h1) (cn.cells y c h2)
 has:=fun x hx=>cn.has x hx
 cab:=fun x c h _=>by cases (show false=true from h)
 hd:=I.ok.hd
 frames:=I.ok.frames
 stk:=.inl rfl
 exf:=fun b hb=>⟨Nat.ne_of_lt (ho b hb),fun x c e=>(hf b hb).2.2.2.2.1 x c (cn.cells x c e)⟩
 bs:=I.bs
 bsz:=Nat.le_trans I.ok.bsz I.sz
 noex:=fun b o e hb=>by
  rcases (hf b hb).2.2.2.1 with z | z
  ·exact I.ok.noex b o e z
  ·exact absurd (Nat.lt_of_lt_of_le (Heap.lt_size e) (Nat.le_trans I.ok.bsz z)) (Nat.lt_irrefl _)
 exfs:=fun b hb z=>(List.mem_cons.mp (I.stkSub b z)).elim (fun e=>(hf b hb).2.1 e) fun e=>(hf b hb).2.2.1 e
 funs:=I.stack
 frf:=I.stkFree
theorem comp_inv {h4:Heap} {t':Nat} (I:Inv X pins σ H s) (cn:CompNames X N nt fr scope cl) (hf:∀b∈fp,FpOk X pins H b) (ho:∀b∈fp,b < s.heap.objs.size)
  (k:∀b o,s.heap.get? b=some o→h4.get? b=some o) (hns:∃m,h4.Ns s.heap.objs.size m):Inv (cxComp X N scope cl pins s H fp) [] (compStart0 nt fr σ) H { s with heap:=h4,toks:=t' }:=by
 have ck:∀{c:Addr} {v:Option Value},s.heap.IsCell c v→h4.IsCell c v:=fun ⟨o,e,d⟩=>⟨o,k _ o e,d⟩
 refine ⟨comp_ok I cn hf ho,rfl,I.bare,Un.kept k,?_,fun x c e=>?_,?_,fun x c e=>?_,fun p hp=>?_,I.hok.kept k,?_⟩
 ·obtain ⟨m,hm⟩:=hns
  refine ⟨m,hm,fun i x v e1 e2 _=>?_⟩
  have e2:(compStart0 nt fr σ)[i]?=some (some v):=e2
  have e1:N[i]?=some x:=e1
  unfold compStart0 at e2
  by_cases hi:i < nt
  ·rw [List.getElem?_append_left (by simpa using hi),List.getElem?_replicate,if_pos hi] at e2
   cases e2
  ·obtain ⟨j,rfl⟩:∃j,i=nt + j:=⟨i - nt,by lia⟩
   rw [List.getElem?_append_right (by simp),List.length_replicate,Nat.add_sub_cancel_left,List.getElem?_map] at e2
   cases hj:fr[j]? with
   | none=>rw [hj] at e2;cases e2
   | some i' =>
    rw [hj] at e2
    have e2:(σ[i']?).getD none=some v:=Option.some.inj e2
    have e3:σ[i']?=some (some v):=by
     cases q:σ[i']? with
     | none=>rw [q] at e2;cases e2
     | some o=>rw [q] at e2;rw [show o=some v from e2]
    obtain ⟨hN,⟨c,hc⟩,hk,hk'⟩:=cn.free j i' x hj e1
    obtain ⟨m0,_,hl⟩:=I.loc
    obtain ⟨u,r,l⟩:=hl i' x v hN e3 (Vis_of_cell hk)
    refine ⟨u,r,.inr ⟨hk',c,hc,?_⟩⟩
    rcases l with ⟨hl',_⟩ | ⟨_,c',hc',hcell⟩
    ·rcases hk with z | z <;> (rw [hl'] at z;cases z)
    ·have hcc:=cn.cells x c hc
     rw [hc'] at hcc;cases hcc
     exact ck hcell
 ·obtain ⟨v,hv⟩:=I.cell x c (cn.cells x c e)
  exact ⟨v,ck hv⟩
 ·exact I.hok.fresh (Nat.le_refl _)
 ·exact I.freeC x c (cn.cells x c e)
 ·have hp:p∈(X.pn++pins)++[]:=hp
  rw [List.append_nil] at hp
  obtain ⟨e,n,ne,nf,d⟩:=I.pin p hp
  exact ⟨k p.1 p.2 e,n,Nat.ne_of_lt (Heap.lt_size e),fun z=>(List.mem_cons.mp (I.stkSub p.1 z)).elim ne nf,d⟩
 ·show (compStart0 nt fr σ).length=N.length
  unfold compStart0
  rw [cn.len,List.length_append,List.length_replicate,List.length_map]
theorem comp_back {H':Hp} {s1 s':Shared} {h':Heap} {σ':St} (I:Inv X pins σ H s) (hsz:s.heap.objs.size≤s1.heap.objs.size) (hos:s1.os=s.os) {H1:Hp} (hH:Un (frs X.stack) fp H H1 s.heap s1.heap)
  (hf:∀b∈fp,FpOk X pins H b)
  (J:Inv (cxComp X N scope cl pins s1 H1 fp) [] σ' H' s') (sb:Heap.SameBut s1.heap.objs.size s'.heap h'):Inv X pins σ H' { s' with heap:=h' }:=by
 have u:Un (frs X.stack) fp H H' s.heap s'.heap:=hH.trans J.base
 have lt:∀b o,s.heap.get? b=some o→b≠s1.heap.objs.size:=fun b o e=>Nat.ne_of_lt (Nat.lt_of_lt_of_le (Heap.lt_size e) hsz)
 have kk:∀b o,b≠s1.heap.objs.size→s'.heap.get? b=some o→h'.get? b=some o:=fun b o hb e=>sb.extBut b o hb e
 have u':Un (frs X.stack) fp H H' s.heap h':=⟨fun b o e n hb hx=>kk b o (lt b o e) (u.keep b o e n hb hx),fun b o e n hb hx=>let ⟨sl,z⟩:=u.slot b o e n hb hx;⟨sl,kk b _ (lt b o e) z⟩,u.free,
  fun b o e hx=>let ⟨o',z⟩:=u.there b o e hx;⟨o',kk b o' (lt b o e) z⟩,u.tups,u.frzs,u.tbls⟩
 have nC:H' s1.heap.objs.size=none:=J.free
 refine I.call' (s':={ s' with heap:=h' }) (ch:=fp) (J.os.trans hos) u' (fun a o e=>?_) J.bare fun b hb=>⟨(hf b hb).2.2.2.1,(hf b hb).2.1,(hf b hb).2.2.2.2.1,(hf b hb).2.2.2.2.2⟩
 refine (J.hok a o e).stay (fun b v hb q=>kk b v ?_ q) (fun _ q=>q) fun _ _ q=>q
 rcases hb with z | z
 ·rintro rfl
  rw [← z,nC] at e;cases e
 ·rintro rfl
  rw [nC] at z;cases z
end
def freeB (X:Cx) (N:List Str) (nt:Nat) (scope:Scope):List Nat→Nat→Bool
 | [],_=>true
 | i::r,j=>(match N[nt + j]? with
  | some x=>decide (X.N[i]?=some x) && decide (scope.names.lookup x=some .free) && (decide (X.env.kindOf x=some .cell) || decide (X.env.kindOf x=some .free))
  | none=>false) && freeB X N nt scope r (j + 1)
theorem freeB_at {X:Cx} {N:List Str} {nt:Nat} {scope:Scope}:∀{fr:List Nat} {k:Nat},freeB X N nt scope fr k=true→∀(j i:Nat) (x:Str),fr[j]?=some i→N[nt + (k + j)]?=some x →
  X.N[i]?=some x∧scope.names.lookup x=some .free∧(X.env.kindOf x=some .cell∨X.env.kindOf x=some .free)
 | [],_,_,j,i,x,e,_=>by simp at e
 | i0::r,k,h,j,i,x,e1,e2=>by
  unfold freeB at h
  rw [Bool.and_eq_true] at h
  obtain ⟨h1,h2⟩:=h
  cases j with
  | zero =>
   have e1:i0=i:=by simpa using e1
   subst e1
   rw [Nat.add_zero] at e2
   rw [e2] at h1
   simp only [Bool.and_eq_true,Bool.or_eq_true,decide_eq_true_eq] at h1
   exact ⟨h1.1.1,h1.1.2,h1.2⟩
  | succ j =>
   exact freeB_at h2 j i x (by simpa using e1) (by rw [show nt + (k + 1 + j)=nt + (k + (j + 1)) by lia];exact e2)
theorem lookup_relabel {env:Env}:∀{names:List (Str×NameKind)} {x:Str} {k':NameKind},
  (names.map fun (n,k)=>if (k == NameKind.free && env.scope.kind == .function && env.kindOf n == some .cell) then (n,NameKind.cell) else (n,k)).lookup x=some k' →
  ∃k,names.lookup x=some k∧(k=k'∨(k=.free∧k'=.cell))
 | [],_,_,h=>by simp at h
 | (n,k)::r,x,k',h=>by
  have h:List.lookup x ((if (k == NameKind.free && env.scope.kind == .function && env.kindOf n == some .cell)=true then (n,NameKind.cell) else (n,k))::r.map _)=some k':=h
  cases hx:x == n with
  | true =>
   by_cases hc:(k == NameKind.free && env.scope.kind == .function && env.kindOf n == some .cell)=true
   ·rw [if_pos hc] at h
    simp only [List.lookup_cons,hx] at h
    have hk:k=.free:=by
     simp only [Bool.and_eq_true,beq_iff_eq] at hc
     exact hc.1.1
    exact ⟨k,by simp [List.lookup_cons,hx],.inr ⟨hk,(Option.some.inj h).symm⟩⟩
   ·rw [if_neg hc] at h
    simp only [List.lookup_cons,hx] at h
    exact ⟨k,by simp [List.lookup_cons,hx],.inl (Option.some.inj h)⟩
  | false =>
   have h2:List.lookup x (r.map fun (n,k)=>if (k == NameKind.free && env.scope.kind == .function && env.kindOf n == some .cell) then (n,NameKind.cell) else (n,k))=some k':=by
    by_cases hc:(k == NameKind.free && env.scope.kind == .function && env.kindOf n == some .cell)=true
    ·rw [if_pos hc] at h;simpa only [List.lookup_cons,hx] using h
    ·rw [if_neg hc] at h;simpa only [List.lookup_cons,hx] using h
   obtain ⟨k2,e2,o2⟩:=lookup_relabel h2
   exact ⟨k2,by simp only [List.lookup_cons,hx];exact e2,o2⟩
theorem relabel_free {env:Env}:∀{names:List (Str×NameKind)} {x:Str},names.lookup x=some .free →
  (names.map fun (n,k)=>if (k == NameKind.free && env.scope.kind == .function && env.kindOf n == some .cell) then (n,NameKind.cell) else (n,k)).lookup x=some .cell ∨
  (names.map fun (n,k)=>if (k == NameKind.free && env.scope.kind == .function && env.kindOf n == some .cell) then (n,NameKind.cell) else (n,k)).lookup x=some .free
 | [],_,h=>by simp at h
 | (n,k)::r,x,h=>by
  show List.lookup x ((if (k == NameKind.free && env.scope.kind == .function && env.kindOf n == some .cell)=true then (n,NameKind.cell) else (n,k))::r.map _)=some .cell∨List.lookup x ((if (k == NameKind.free && env.scope.kind == .function && env.kindOf n == some .cell)=true then (n,NameKind.cell) else (n,k))::r.map _)=some .free
  cases hx:x == n with
  | true =>
   simp only [List.lookup_cons,hx] at h
   cases h
   by_cases hc:(NameKind.free == NameKind.free && env.scope.kind == .function && env.kindOf n == some .cell)=true
   ·rw [if_pos hc];left;simp [List.lookup_cons,hx]
   ·rw [if_neg hc];right;simp [List.lookup_cons,hx]
  | false =>
   simp only [List.lookup_cons,hx] at h
   have ih:=relabel_free (env:=env) h
   by_cases hc:(k == NameKind.free && env.scope.kind == .function && env.kindOf n == some .cell)=true
   ·rw [if_pos hc];simpa only [List.lookup_cons,hx] using ih
   ·rw [if_neg hc];simpa only [List.lookup_cons,hx] using ih
theorem closOf_has {env:Env}:∀{names:List (Str×NameKind)} {cl:List (Str×Addr)},closOf env names=some cl→∀x,names.lookup x=some .free→∃c,cl.lookup x=some c
 | [],_,_,x,e=>by simp at e
 | (n,k)::r,cl,h,x,e=>by
  unfold closOf at h
  by_cases hk:k=.free
  ·rw [if_pos hk] at h
   cases hc:env.cells.lookup n with
   | none=>rw [hc] at h;cases h
   | some c' =>
    rw [hc] at h
    have h:(closOf env r).map (fun cl=>cl++[(n,c')])=some cl:=h
    cases hr:closOf env r with
    | none=>rw [hr] at h;cases h
    | some cl' =>
     rw [hr] at h
     have h:cl'++[(n,c')]=cl:=Option.some.inj h
     subst h
     rw [List.lookup_append]
     cases h2:cl'.lookup x with
     | some c2=>exact ⟨c2,by simp⟩
     | none =>
      cases hx:x == n with
      | true=>exact ⟨c',by simp [List.lookup_cons,hx]⟩
      | false =>
       simp only [List.lookup_cons,hx] at e
       obtain ⟨c3,e3⟩:=closOf_has hr x e
       rw [h2] at e3;cases e3
  ·rw [if_neg hk] at h
   cases hx:x == n with
   | true =>
    simp only [List.lookup_cons,hx] at e
    exact absurd (Option.some.inj e) hk
   | false =>
    simp only [List.lookup_cons,hx] at e
    exact closOf_has h x e
theorem CompNames.of {X:Cx} {N:List Str} {nt:Nat} {fr:List Nat} {scope:Scope} {cl:List (Str×Addr)} (hcl:closOf X.env scope.names=some cl) (hlen:N.length=nt + fr.length) (hB:freeB X N nt scope fr 0=true)
  (hcell:∀y∈scope.names,y.2≠.cell) (hkind:scope.kind=.function):CompNames X N nt fr scope cl where
 len:=hlen
 free:=fun j i x e1 e2=>by
  obtain ⟨h1,h2,h3⟩:=freeB_at hB j i x e1 (by rw [Nat.zero_add];exact e2)
  exact ⟨h1,closOf_has hcl x h2,h3,relabel_free h2⟩
 cells:=closOf_lookup hcl
 has:=fun x hx=>by
  have:scope.names.lookup x=some .free:=by
   rcases hx with hx | hx
   ·obtain ⟨k,e,o⟩:=lookup_relabel (names:=scope.names) (env:=X.env) hx
    rcases o with rfl | ⟨rfl,_⟩
    ·exact absurd rfl (hcell _ (PySem.mem_of_lookup e))
    ·exact e
   ·obtain ⟨k,e,o⟩:=lookup_relabel (names:=scope.names) (env:=X.env) hx
    rcases o with rfl | ⟨rfl,_⟩
    ·exact e
    ·exact e
  exact closOf_has hcl x this
 kind:=hkind
def PIf (X:Cx) (ifs:List Expr) (t:TT):Prop :=
 ∀(pins:List (Addr×Obj)) (s:Shared) (σ:St) (H:Hp) (Q:Bool→Hp→Prop),Inv X pins σ H s→t σ H Q →
  wpAny (model X.prog X.w) X.A (forIn ifs true fun c r=>if r=true then do let ok ← isTrue c X.env (eval c X.env);pure (ForInStep.yield ok) else pure (ForInStep.yield r)) (TP X pins σ Q) X.xe s
def tTrue:TT:=fun _ H Q=>Q true H
theorem pif_nil {X:Cx}:PIf X [] tTrue:=fun _ _ _ H _ I h=>wpAny_pure ⟨H,I,h⟩
theorem pif_one {X:Cx} {c:Expr} {t:TT} (h:PT X c t):PIf X [c] t:=by
 intro pins s σ H Q I hw
 rw [List.forIn_cons]
 simp only [if_true]
 refine wpAny_bind (wpAny_bind (thn (h pins s σ H Q I hw) fun b s1 q=>wpAny_pure ?_))
 exact wpAny_pure q
def CompGoal (J:It) (nt:Nat) (fr:List Nat) (g:TG) (c:TT) (te:TE) (σ:St) (H1:Hp) (Q:VK) (acc:Addr):Prop :=
 ∃W:Nat→Nat→St→List V→Hp→Prop,(∃m,W 0 m (compStart0 nt fr σ) [] (upd H1 acc (.lst [])))∧∀i m σ' ys H',W i m σ' ys H'→H' acc=some (.lst ys) ∧
  ((J.stop i H'∧Q (.ref acc) H')∨(J.go i H'∧∀x H2,J.yld i H' x H2→g x σ' H2 fun σ2 H3=>c σ2 H3 fun b H4=>if b=true then
   te σ2 H4 fun y H5=>ys.length < sizeLine∧H5 acc=some (.lst ys)∧∃m',m' < m∧W (i + 1) m' σ2 (ys++[y]) (upd H5 acc (.lst (ys++[y])))
   else ∃m',m' < m∧W (i + 1) m' σ2 ys H4))
def tComp (wi:TI) (nt:Nat) (fr:List Nat) (g:TG) (c:TT) (te:TE):TE:=fun σ H Q=>wi σ H fun J H1=>∀acc,H1 acc=none→CompGoal J nt fr g c te σ H1 Q acc
section
variable {X:Cx} {target iter elt:Expr} {ifs:List Expr} {scope:Scope} {pos:Pos} {N:List Str} {nt:Nat} {fr:List Nat} {cl:List (Str×Addr)} {wi:TI} {g:TG} {c:TT} {te:TE}
theorem comp_fp {pins:List (Addr×Obj)} {σ:St} {H H1:Hp} {s:Shared} {fp:List Addr} (I:Inv X pins σ H s) (cn:CompNames X N nt fr scope cl) (hf:∀b∈fp,FpOk X pins H b) (ho:∀b∈fp,b < s.heap.objs.size) {H':Hp} (hn:∀b∈fp,H' b=none) :
  ∀b∈fp,FpOk (cxComp X N scope cl pins s H1 fp) [] H' b:=fun b hb =>
 ⟨hn b hb,Nat.ne_of_lt (ho b hb),fun z=>(List.mem_cons.mp (I.stkSub b z)).elim (hf b hb).2.1 (hf b hb).2.2.1,.inl hb,fun x c e=>(hf b hb).2.2.2.2.1 x c (cn.cells x c e),fun p hp=>(hf b hb).2.2.2.2.2 p (by
  have hp:p∈(X.pn++pins)++[]:=hp
  rw [List.append_nil] at hp
  exact hp)⟩
theorem comp_block {pins:List (Addr×Obj)} {σ:St} {s:Shared} {Q:VK} {itv:Value} {RR:Value→Addr→Result→Shared→Prop} {E:Value→Shared→Prop}
  (hc:X.calm=true) (cn:CompNames X N nt fr scope cl) (hcell:∀y∈scope.names,y.2≠.cell)
  (hg:∀pins s H fp,PG (cxComp X N scope cl pins s H fp) target g) (hif:∀pins s H fp,PIf (cxComp X N scope cl pins s H fp) ifs c) (he:∀pins s H fp,PE (cxComp X N scope cl pins s H fp) elt te)
  (h:PIE X pins σ target (fun J H1=>∀acc,H1 acc=none→CompGoal J nt fr g c te σ H1 Q acc) itv s)
  (hRR:∀(acc C:Addr) (s':Shared) (H':Hp),(∃m,s'.heap.Ns C m)→Inv X pins σ H' s'→FpOk X pins H' C→Q (.ref acc) H'→RR (.ref acc) C (.ok .next) s') :
  wpAny (model X.prog X.w) X.A (newList []) (fun acc s₃=>wpAny (model X.prog X.w) X.A (newFunctionEnv scope X.env.globals cl [] X.env.qual none .none (some X.env)) (fun cenv s₄ =>
   codeAny (model X.prog X.w) X.A (.compStart (.ListComp elt [⟨target,iter,ifs,0⟩] scope pos) 0 itv acc { cenv with scope:=relabel scope X.env }) (RR acc cenv.locals) s₄) E s₃) E s:=by
 obtain ⟨it,fp,tn,J,H2,e,I2,T,st2,f2,R⟩:=h
 subst e
 have fo:∀b∈fp,b < s.heap.objs.size:=fun b hb=>let ⟨o,e,_⟩:=T.obj 0 _ st2 b hb;Heap.lt_size e
 refine wpAny_newObj_type (wpAny_newFunctionEnv hcell (by intro y hy;simp at hy) (fun h₁ hns₁ hsb₁=>?_) cn.kind)
 dsimp only at hns₁ hsb₁ ⊢
 have ha:H2 s.heap.objs.size=none:=I2.hok.fresh (Nat.le_refl _)
 have I3:Inv X pins σ (upd H2 s.heap.objs.size (.lst [])) { s with heap:=s.heap.push { cls:=.type "list", data:=.seq ([]:List Value).toArray } } :=
  I2.laid (t':=s.toks) (fun b u e=>Heap.get?_push_of_some _ e) (Nat.le_refl _) ⟨Nat.zero_le _,[],0,.nil,Heap.get?_push_size _ rfl⟩
 generalize hs3:({ s with heap:=s.heap.push { cls:=.type "list", data:=.seq ([]:List Value).toArray } }:Shared)=s3 at I3
 have hh3:s3.heap=s.heap.push { cls:=.type "list", data:=.seq ([]:List Value).toArray }:=by rw [← hs3]
 have hsz:s3.heap.objs.size=s.heap.objs.size + 1:=by rw [hh3,Heap.size_push]
 have fne:∀b∈fp,b≠s.heap.objs.size:=fun b hb=>Nat.ne_of_lt (fo b hb)
 have f3:∀b∈fp,FpOk X pins (upd H2 s.heap.objs.size (.lst [])) b:=fun b hb=>⟨by rw [upd_ne (fne b hb)];exact (f2 b hb).1,(f2 b hb).2⟩
 have fo3:∀b∈fp,b < s3.heap.objs.size:=fun b hb=>by rw [hsz];exact Nat.lt_succ_of_lt (fo b hb)
 have k3:∀b o,s3.heap.get? b=some o→h₁.get? b=some o:=fun b o e=>hsb₁.extBut b o (by rw [← hh3];exact Nat.ne_of_lt (Heap.lt_size e)) (by rw [← hh3];exact Heap.get?_push_of_some _ e)
 have hns:∃m,h₁.Ns s3.heap.objs.size m:=⟨_,by rw [hh3];exact hns₁⟩
 have I4:Inv (cxComp X N scope cl pins s3 (upd H2 s.heap.objs.size (.lst [])) fp) [] (compStart0 nt fr σ) (upd H2 s.heap.objs.size (.lst [])) { s3 with heap:=h₁,toks:=s3.toks + ([]:List (Str×Value)).length }:=comp_inv I3 cn f3 fo3 k3 hns
 have st4:tn 0 h₁:=T.keep 0 _ _ st2 fun b hb o e=>k3 b o (by rw [hh3];exact Heap.get?_push_of_some _ e)
 obtain ⟨W,⟨m0,w0⟩,turn⟩:=R s.heap.objs.size ha
 have stat:∀{H':Hp},(∀b∈fp,H' b=none)→∀b∈fp,FpOk (cxComp X N scope cl pins s3 (upd H2 s.heap.objs.size (.lst [])) fp) [] H' b:=fun hn=>comp_fp I3 cn f3 fo3 hn
 have hH:Un (frs X.stack) fp H2 (upd H2 s.heap.objs.size (.lst [])) s.heap s3.heap:=by
  rw [hh3]
  exact Un.laid (fun b u e=>Heap.get?_push_of_some _ e) (Nat.le_refl _) ha
 have back:∀{σ':St} {H':Hp} {s':Shared} {h':Heap},Inv (cxComp X N scope cl pins s3 (upd H2 s.heap.objs.size (.lst [])) fp) [] σ' H' s'→Heap.SameBut s3.heap.objs.size s'.heap h'→Inv X pins σ H' { s' with heap:=h' }:=fun J' sb =>
  comp_back I2 (by rw [hsz];exact Nat.le_succ _) (by rw [← hs3]) hH f2 J' sb
 have loop:codeAny (model X.prog X.w) X.A (.compLoop (.ListComp elt [⟨target,iter,ifs,0⟩] scope pos) 0 (.ref it) (.ref s.heap.objs.size) (compEnvC scope cl s3.heap.objs.size X.env)) (RR (.ref s.heap.objs.size) s3.heap.objs.size)
   { s3 with heap:=h₁,toks:=s3.toks + ([]:List (Str×Value)).length }:=by
  refine comp_loop (fun n s'=>∃i σ' ys H',Inv (cxComp X N scope cl pins s3 (upd H2 s.heap.objs.size (.lst [])) fp) [] σ' H' s'∧tn i s'.heap∧(∀b∈fp,H' b=none)∧W i n σ' ys H') ?_ m0
   ⟨0,_,[],_,I4,st4,fun b hb=>(f3 b hb).1,w0⟩
  rintro n s5 ⟨i,σ5,ys,H5,I5,st5,fr5,w5⟩
  obtain ⟨hacc,step⟩:=turn i n σ5 ys H5 w5
  rcases step with ⟨stop,q⟩ | ⟨go,step⟩
  ·refine thn (T.done (cxComp X N scope cl pins s3 (upd H2 s.heap.objs.size (.lst [])) fp) rfl rfl rfl hc i [] s5 σ5 H5 (fun _ _=>False) I5 (stat fr5) st5 stop) fun r s6 ⟨hr,I6⟩=>?_
   subst hr
   obtain ⟨m,hm,_⟩:=I6.loc
   exact hRR _ _ s6 H5 ⟨m,hm⟩ (back I6 (Heap.SameBut.refl _ _)) (I2.fpOk (by rw [hsz];exact Nat.le_succ _) I6.free) q
  ·refine thn (T.item (cxComp X N scope cl pins s3 (upd H2 s.heap.objs.size (.lst [])) fp) rfl rfl rfl hc i [] s5 σ5 H5 (fun _ _=>False) I5 (stat fr5) st5 go) fun r s6 ⟨u,hr,h6⟩=>?_
   subst hr
   refine thn h6 fun _ s7 ⟨x,H7,I7,r7,y7,st7,fr7⟩=>?_
   have I7':=I7.pinned (stat fr7) (T.obj _ _ st7)
   refine thn (hg pins s3 _ fp _ s7 σ5 H7 x u _ I7' r7 (step x H7 y7)) fun _ s8 ⟨σ8,H8,I8,q8⟩=>?_
   have keepT:∀{σ':St} {H':Hp} {s':Shared},Inv (cxComp X N scope cl pins s3 (upd H2 s.heap.objs.size (.lst [])) fp) ([]++pinsAt fp s7.heap) σ' H' s'→tn (i + 1) s'.heap∧∀b∈fp,H' b=none:=fun {σ' H' s'} I' =>
    ⟨T.keep _ _ _ st7 fun b hb o e=>(I'.pin (b,o) (List.mem_append_right _ (List.mem_append_right _ (mem_pinsAt hb e)))).1,fun b hb=>by
     obtain ⟨o,e,d⟩:=T.obj _ _ st7 b hb
     exact (I'.pin (b,o) (List.mem_append_right _ (List.mem_append_right _ (mem_pinsAt hb e)))).2.1⟩
   refine thn (hif pins s3 _ fp _ s8 σ8 H8 _ I8 q8) fun ok s9 ⟨H9,I9,q9⟩=>?_
   cases ok with
   | false =>
    have q9:∃m',m' < n∧W (i + 1) m' σ8 ys H9:=q9
    obtain ⟨m',hm,w9⟩:=q9
    exact ⟨m',hm,i + 1,σ8,ys,H9,I9.unpinned,(keepT I9).1,(keepT I9).2,w9⟩
   | true =>
    rw [if_pos rfl]
    refine thn (he pins s3 _ fp _ s9 σ8 H9 _ I9 q9) fun z s10 ⟨y,H10,I10,r10,hz,ha10,m',hm,w10⟩=>?_
    refine thn (mt_append _ s10 σ8 H10 (.ref s.heap.objs.size) [y] (.ref s.heap.objs.size) [z] (fun v H'=>v=.non∧H'=upd H10 s.heap.objs.size (.lst (ys++[y]))) I10 rfl (.cons r10 .nil) ⟨_,ys,y,rfl,rfl,ha10,hz,rfl,rfl⟩) fun v s11 ⟨_,H11,I11,_,_,e11⟩=>?_
    subst e11
    exact ⟨m',hm,i + 1,σ8,ys++[y],_,I11.unpinned,(keepT I11).1,(keepT I11).2,w10⟩
 have fin:codeAny (model X.prog X.w) X.A (.compStart (.ListComp elt [⟨target,iter,ifs,0⟩] scope pos) 0 (.ref it) (.ref s.heap.objs.size) (compEnvC scope cl s3.heap.objs.size X.env)) (RR (.ref s.heap.objs.size) s3.heap.objs.size)
   { s3 with heap:=h₁,toks:=s3.toks + ([]:List (Str×Value)).length } :=
  codeAny_compStart_list loop (T.self _ 0 _ _ _ st4 loop)
 rw [← hs3] at fin
 exact fin
theorem pe_comp (hi:PI X target iter wi) (hg:∀pins s H fp,PG (cxComp X N scope cl pins s H fp) target g) (hif:∀pins s H fp,PIf (cxComp X N scope cl pins s H fp) ifs c) (he:∀pins s H fp,PE (cxComp X N scope cl pins s H fp) elt te)
  (hc:X.calm=true:=by rfl) (hcl:closOf X.env scope.names=some cl:=by rfl) (hlen:N.length=nt + fr.length:=by rfl) (hB:freeB X N nt scope fr 0=true:=by rfl)
  (hcell:∀y∈scope.names,y.2≠.cell:=by decide +kernel) (hkind:scope.kind=.function:=by rfl) (hnames:∀y∈scope.names,y.2=.local→scope.names.lookup y.1=some .local:=by decide +kernel)
  (hs:∀x,foldedSetIterable iter X.env x=pure x:=by intro _;rfl):PE X (.ListComp elt [⟨target,iter,ifs,0⟩] scope pos) (tComp wi nt fr g c te):=by
 intro pins s σ H Q I h
 rw [eval_ListComp]
 refine wpAny_comprehension_free (use:=none) rfl hs (closureFor_of hcl) hkind hnames (thn (hi pins s σ H _ I h) fun xv s1 h1=>thn h1 fun itv s2 h2=>?_)
 exact comp_block hc (CompNames.of hcl hlen hB hcell hkind) hcell hg hif he h2 fun acc C s' H' ⟨m,hm⟩ hI hF hq=>⟨m,hm,fun h' sb=>⟨.ref acc,H',hI.turned (t':=s'.toks) (fun b o hb e=>sb.extBut b o hb e) hF.1 hF.2.1 hF.2.2.2.1 hF.2.2.2.2.1 hF.2.2.2.2.2,rfl,hq⟩⟩
theorem ps_setc {i:Nat} {y:Str} {py spos:Pos} (hN:X.N.Nodup) (hyi:X.N[i]?=some y) (hy:Loc X.env.scope y) (hi:PI X target iter wi) (hg:∀pins s H fp,PG (cxComp X N scope cl pins s H fp) target g) (hif:∀pins s H fp,PIf (cxComp X N scope cl pins s H fp) ifs c) (he:∀pins s H fp,PE (cxComp X N scope cl pins s H fp) elt te)
  (hsw:swapsWith (.ListComp elt [⟨target,iter,ifs,0⟩] scope pos) (some (.Name y py)) spos.line X.env=pure true:=by rfl)
  (hc:X.calm=true:=by rfl) (hcl:closOf X.env scope.names=some cl:=by rfl) (hlen:N.length=nt + fr.length:=by rfl) (hB:freeB X N nt scope fr 0=true:=by rfl)
  (hcell:∀y∈scope.names,y.2≠.cell:=by decide +kernel) (hkind:scope.kind=.function:=by rfl) (hnames:∀y∈scope.names,y.2=.local→scope.names.lookup y.1=some .local:=by decide +kernel)
  (hs:∀x,foldedSetIterable iter X.env x=pure x:=by intro _;rfl) (hf:X.fn y=true∨X.env.scope.names.lookup y=some .local:=by first | exact .inl rfl | exact .inr rfl | assumption) :
  PS X (.Assign [.Name y py] (.ListComp elt [⟨target,iter,ifs,0⟩] scope pos) spos) (tAsg (tComp wi nt fr g c te) (gName i)):=by
 intro pins s σ H D I h
 rw [exec_Assign_Name_used _ _ _ _ hsw]
 refine wpAny_bind (wpAny_standAt (wpAny_bind ?_))
 show wpAny _ X.A (do let _ ← comprehension (.ListComp elt [⟨target,iter,ifs,0⟩] scope pos) scope X.env _ (newList []) false (eval iter X.env) (some (assign (.Name y py) X.env))) _ _ s
 refine wpAny_bind (wpAny_mono (wpAny_comprehension_free (use:=some (assign (.Name y py) X.env)) (Q:=fun _ s'=>SP X pins D .next s') rfl hs (closureFor_of hcl) hkind hnames (thn (hi pins s σ H _ I h) fun xv s1 h1=>thn h1 fun itv s2 h2=>?_)) (fun _ s' hq=>wpAny_pure (wpAny_pure hq)) fun _ _ e=>e)
 refine comp_block (Q:=fun x H1=>gName i x σ H1 D.nx) (RR:=fun acc C=>compPost (model X.prog X.w) X.A X.xe (some (assign (.Name y py) X.env)) (fun _ s'=>SP X pins D .next s') acc C) hc (CompNames.of hcl hlen hB hcell hkind) hcell hg hif he h2 fun acc C s' H' ⟨m,hm⟩ hI hF hq=>?_
 show wpAny _ X.A (assign (.Name y py) X.env (.ref acc)) _ _ _
 refine wpAny_assign_Name (store_ok2 hI hN hyi hy (v:=.ref acc) rfl (fun s3 I3 ⟨a,sb,ha⟩=>?_) hf)
 have hne:C≠a:=by
  rcases ha with rfl | ha
  ·exact hF.2.1
  ·exact fun z=>hF.2.2.2.2.1 y a ha z.symm
 refine ⟨m,hm.sameBut sb hne,fun h' sb'=>⟨_,H',I3.turned (t':=s3.toks) (fun b o hb e=>sb'.extBut b o hb e) hF.1 hF.2.1 hF.2.2.2.1 hF.2.2.2.2.1 hF.2.2.2.2.2,hq⟩⟩
end
structure ItemsOf (J:It) (xs:List V) (L:Hp→Prop):Prop where
 go:∀i H,L H→i < xs.length→J.go i H
 yld:∀i H x H',L H→i < xs.length→J.yld i H x H'→H'=H∧xs[i]?=some x
 stop:∀H,L H→J.stop xs.length H
theorem items_list {K:W.Frag} {a:Addr} {xs:List V}:ItemsOf (Itl K a) xs (fun H=>SqL K H a xs) :=
 ⟨fun i H h hi=>⟨xs,xs[i],h,by simp [hi]⟩,fun i H x H' h hi y=>⟨y.1,y.2 xs h⟩,fun H h=>⟨xs,h,Nat.le_refl _⟩⟩
def rangeV (lo:Int) (n:Nat):List V:=(List.range n).map fun i:Nat=>V.int (lo + (i:Int))
theorem items_range {lo:Int} {n:Nat}:ItemsOf (Itr lo n) (rangeV lo n) (fun _=>True) :=
 ⟨fun i H _ hi=>by show i < n;simpa [rangeV] using hi,fun i H x H' _ hi y=>⟨y.1,by
  have hi:i < n:=by simpa [rangeV] using hi
  rw [y.2];simp [rangeV,hi]⟩,fun H _=>by show n≤_;simp [rangeV]⟩
def signsV (z:Str):List V:=z.cps.toList.map fun c=>V.str ⟨#[c]⟩
theorem items_str {z:Str}:ItemsOf (Its z) (signsV z) (fun _=>True) :=
 ⟨fun i H _ hi=>by show i < z.cps.size;simpa [signsV] using hi,fun i H x H' _ hi y=>⟨y.1,by
  obtain ⟨_,c,e,rfl⟩:=y
  have hi:i < z.cps.size:=by simpa [signsV] using hi
  have e:z.cps[i]=c:=by simpa [hi] using e
  simp [signsV,hi,e]⟩,fun H _=>by show z.cps.size≤_;simp [signsV]⟩
def CompW (xs:List V) (nt:Nat) (fvs:St) (Pv:Nat→List V→Hp→Prop):Nat→Nat→St→List V→Hp→Prop:=fun i m σ' ys H' =>
 m=xs.length - i∧i≤xs.length∧Pv i ys H'∧∃tv:List (Option V),tv.length=nt∧σ'=tv++fvs
theorem CompW.next {xs:List V} {nt:Nat} {fvs:St} {Pv:Nat→List V→Hp→Prop} {i:Nat} {tv:List (Option V)} {ys:List V} {H:Hp} (hi:i < xs.length) (p:Pv (i + 1) ys H) (ht:tv.length=nt) :
  ∃m',m' < xs.length - i∧CompW xs nt fvs Pv (i + 1) m' (tv++fvs) ys H:=⟨xs.length - (i + 1),by lia,rfl,hi,p,tv,ht,rfl⟩
theorem comp_by {J:It} {xs:List V} {L:Hp→Prop} {σ:St} {H1:Hp} {nt:Nat} {fr:List Nat} {g:TG} {c:TT} {te:TE} {Q:VK} {acc:Addr} (it:ItemsOf J xs L) (Pv:Nat→List V→Hp→Prop)
  (h0:Pv 0 [] (upd H1 acc (.lst []))) (hL:∀i ys H',i≤xs.length→Pv i ys H'→L H'∧H' acc=some (.lst ys))
  (turn:∀i x tv ys H',xs[i]?=some x→i < xs.length→Pv i ys H'→tv.length=nt→g x (tv++fr.map fun i=>(σ[i]?).getD none) H' fun σ2 H3 =>
   c σ2 H3 fun b H4=>if b=true then te σ2 H4 fun y H5=>ys.length < sizeLine∧H5 acc=some (.lst ys)∧∃m',m' < xs.length - i∧CompW xs nt (fr.map fun i=>(σ[i]?).getD none) Pv (i + 1) m' σ2 (ys++[y]) (upd H5 acc (.lst (ys++[y])))
    else ∃m',m' < xs.length - i∧CompW xs nt (fr.map fun i=>(σ[i]?).getD none) Pv (i + 1) m' σ2 ys H4)
  (hd:∀ys H',Pv xs.length ys H'→Q (.ref acc) H'):CompGoal J nt fr g c te σ H1 Q acc:=by
 refine ⟨CompW xs nt (fr.map fun i=>(σ[i]?).getD none) Pv,⟨xs.length,by simp,Nat.zero_le _,h0,List.replicate nt none,by simp,rfl⟩,?_⟩
 rintro i m σ' ys H' ⟨rfl,hi,p,tv,htv,rfl⟩
 obtain ⟨l,ha⟩:=hL i ys H' hi p
 refine ⟨ha,?_⟩
 by_cases hlt:i < xs.length
 ·refine .inr ⟨it.go i H' l hlt,fun x H2 y=>?_⟩
  obtain ⟨rfl,hx⟩:=it.yld i H' x H2 l hlt y
  exact turn i x tv ys H2 hx hlt p htv
 ·have e:i=xs.length:=by lia
  subst e
  exact .inl ⟨it.stop H' l,hd ys H' p⟩
end L2
namespace L2
open PySem PySem.Spec PyProof.Rows PySem.SeqAt
inductive Dt where
 | non | bl (b:Bool) | int (i:Int) | str (x:Str) | lst (xs:List Dt) | tup (xs:List Dt)
mutual
def Rep (K:W.Frag) (H:Hp):Dt→V→Prop
 | .non,v=>v=.non
 | .bl b,v=>v=.bl b
 | .int i,v=>v=.int i
 | .str x,v=>v=.str x
 | .lst ds,v=>∃p xs,v=.ref p∧SqL K H p xs∧Reps K H ds xs
 | .tup ds,v=>∃p xs,v=.ref p∧SqT K H p xs∧Reps K H ds xs
def Reps (K:W.Frag) (H:Hp):List Dt→List V→Prop
 | [],xs=>xs=[]
 | d::ds,xs=>∃x r,xs=x::r∧Rep K H d x∧Reps K H ds r
end
mutual
def depD:Dt→Nat
 | .lst xs=>depDs xs + 1
 | .tup xs=>depDs xs + 1
 | _=>0
def depDs:List Dt→Nat
 | []=>0
 | x::xs=>max (depD x) (depDs xs)
end
theorem Reps.length {K:W.Frag} {H:Hp}:∀{ds:List Dt} {xs:List V},Reps K H ds xs→ds.length=xs.length
 | [],xs,h=>by rw [show xs=[] from by simpa [Reps] using h];rfl
 | d::ds,xs,h=>by
  obtain ⟨x,r,rfl,_,h2⟩:∃x r,xs=x::r∧Rep K H d x∧Reps K H ds r:=by simpa [Reps] using h
  simp [Reps.length h2]
theorem Reps.get {K:W.Frag} {H:Hp}:∀{ds:List Dt} {xs:List V} {j:Nat} {d:Dt},Reps K H ds xs→ds[j]?=some d→∃x,xs[j]?=some x∧Rep K H d x
 | [],_,_,_,_,e=>by simp at e
 | d0::ds,xs,j,d,h,e=>by
  obtain ⟨x,r,rfl,h1,h2⟩:∃x r,xs=x::r∧Rep K H d0 x∧Reps K H ds r:=by simpa [Reps] using h
  cases j with
  | zero =>
   have e:d0=d:=by simpa using e
   subst e
   exact ⟨x,rfl,h1⟩
  | succ j =>
   obtain ⟨y,e1,e2⟩:=Reps.get (j:=j) h2 (by simpa using e)
   exact ⟨y,by simpa using e1,e2⟩
end L2
namespace L2
open PySem PySem.Spec PyProof.Rows
def isW:V→Bool
 | .int _=>true
 | _=>false
def isIB:V→Bool
 | .int _=>true
 | .bl _=>true
 | _=>false
def isB:V→Bool
 | .bl _=>true
 | _=>false
def isS:V→Bool
 | .str _=>true
 | _=>false
theorem isW_eq (x:V):isW x=(isIB x && !isB x):=by cases x <;> rfl
section
variable {K:W.Frag} {H H':Hp} {x:V} {n:String}
theorem bt_int (h:TyOf K H x (.type n)):clsIs K (.type n) (.ty "int")=some (isIB x):=by cases h <;> rfl
theorem bt_bool (h:TyOf K H x (.type n)):clsIs K (.type n) (.ty "bool")=some (isB x):=by cases h <;> rfl
theorem bt_str (h:TyOf K H x (.type n)):clsIs K (.type n) (.ty "str")=some (isS x):=by cases h <;> rfl
theorem bt_list (h:TyOf K H x (.type n)):clsIs K (.type n) (.ty "list")=some (n == "list"):=by cases h <;> rfl
theorem bt_tuple (h:TyOf K H x (.type n)):clsIs K (.type n) (.ty "tuple")=some (n == "tuple"):=by cases h <;> rfl
theorem TyOf.same {t:Value} (e:Same H H') (h:TyOf K H x t):TyOf K H' x t:=by
 cases h with
 | non=>exact .non
 | bl b=>exact .bl b
 | int i=>exact .int i
 | str y=>exact .str y
 | flt y=>exact .flt y
 | lst q=>exact .lst (e _ _ q)
 | frz q=>exact .frz (e _ _ q)
 | tup q=>exact .tup (e _ _ q)
 | dK q=>exact .dK (e _ _ q)
 | dT q=>exact .dT (e _ _ q)
 | ins q c a b d m=>exact .ins (e _ _ q) c a b d m
end
theorem atI_0 {α:Type} {c:α} {cs:List α}:atI (c::cs) (0:Int)=some c:=atI_nat (j:=0) rfl
theorem atI_lt {α:Type} {xs:List α} {i:Int} (h0:0≤i) (h1:i < xs.length):∃v,atI xs i=some v∧v∈xs:=by
 obtain ⟨j,rfl⟩:∃j:Nat,i=(j:Int):=⟨i.toNat,by lia⟩
 have hj:j < xs.length:=by lia
 exact ⟨xs[j],atI_nat (by simp [hj]),List.getElem_mem hj⟩
theorem Same.new {H:Hp} {p:Addr} {o:HO} (h:H p=none):Same H (upd H p o):=fun b u e=>by
 rw [upd_ne (ne_of_none e h)]
 exact e
theorem Same.tup {K:W.Frag} {H H':Hp} {a:Addr} {xs:List V} (e:Same H H') (h:SqT K H a xs):SqT K H' a xs:=by
 rcases h with (h | ⟨o,h⟩) | h
 ·exact .inl (.inl (e _ _ h))
 ·exact .inl (.inr ⟨o,e _ _ h⟩)
 ·exact .inr h
def Off (p:Addr) (H H':Hp):Prop:=∀b,b≠p→H' b=H b
theorem Off.refl (p:Addr) (H:Hp):Off p H H:=fun _ _=>rfl
theorem Off.trans {p:Addr} {H H1 H2:Hp} (a:Off p H H1) (b:Off p H1 H2):Off p H H2:=fun c h=>(b c h).trans (a c h)
theorem Off.upd {p:Addr} {H:Hp} {o:HO}:Off p H (upd H p o):=fun _ h=>upd_ne h
theorem small_line {n:Nat} (h:n≤1000000):n≤sizeLine:=Nat.le_trans h (by decide)
theorem fnok_of {P:Program} {w:World} {K:W.Frag} {mg:Str→Option Value} {base:Heap} {CX:CXT} {x:Str} {ps:List Str} {sp:Sp} {k:Nat} {st:Stmt} {N:List Str} {f:Addr} {fd:FuncData}
  (F:Fun K x x st f fd) (S:FnScope N ps (defScope st)) (len:∀vs H Q E,sp vs H Q E→vs.length=ps.length)
  (hbody:∀(cdv:Value) (A:Around) (outer:List Env) (s:Shared) (H:Hp) (vs:List V) (Q:VK) (E:XK),Room k (A.deeper (envOfC x (defScope st) s.heap.objs.size f cdv))→sp vs H Q E →
   ∃t,PSs (cxOf CX P w K mg base N x (defScope st) f cdv A outer s H E).nox (defBody st) t∧t { nx:=fun _ H'=>Q .non H',rt:=Q } (start N vs) H):FnOk P w K mg base CX (k + 1) f fd ps sp:=by
 obtain ⟨oc,od,kV,doc,pm,an,cdv,ct,osl,rfl,lk,hcd⟩:=F.ex
 refine fn_of lk hcd S len fun A outer s H vs Q E hr hsp=>?_
 obtain ⟨t,h,q⟩:=hbody cdv A outer s H vs Q E hr hsp
 exact ⟨t,h.nox,q⟩
structure ExcF (B newId initId:String) (bm:List Value):Prop where
 call:ExcCallFacts B newId initId
 split:splitId newId=some (B, "__new__")
 kind:builtinKind newId=some .builtinFn
 row:Manifest.signature? newId=some ⟨.any,B,B,.cls,[⟨"args", .varPos,false⟩,⟨"kwargs", .varKw,false⟩]⟩
 hasB:bm.contains (.type B)=true
 hasE:bm.contains (.type "BaseException")=true
 noA:bm.contains (.type "AttributeError")=false
 noN:bm.contains (.type "NameError")=false
 canon:Manifest.canonical newId=Manifest.canonical "BaseException.__new__"
theorem ExcF.under {B newId initId:String} {bm:List Value} (F:ExcF B newId initId bm) (R:Addr):ExcF B newId initId (.ref R::bm) :=
 ⟨F.call,F.split,F.kind,F.row,by rw [List.contains_cons,F.hasB,Bool.or_true],by rw [List.contains_cons,F.hasE,Bool.or_true],by rw [List.contains_cons,F.noA];rfl,by rw [List.contains_cons,F.noN];rfl,F.canon⟩
section
variable {prog:Program} {w:World} {M:Model} {A:Around} {E:Value→Shared→Prop} {R:Result→Shared→Prop} {h:Heap} {g:Array GenState} {d:Drawn} {t:Nat} {os:OsState}
variable {nm q:Str} {C N:Addr} {bs bm:List Value} {hdct:Bool} {sn:List Str} {sub:List Value} {ab:Bool} {col:Option Bool} {dd:Option Addr} {k0 k1 k2 k3 k5:Option Value} {B newId initId:String}
theorem ExcF.has (F:ExcF B newId initId bm):(Value.ref C::bm).contains (.type B)=true:=by rw [List.contains_cons,F.hasB,Bool.or_true]
end
def excO (e C:Addr) (dx:Option Addr):HO:=.ext fun h=>∃t sl,h.get? e=some { cls:=.ref C,dict:=dx,data:=.fields #[.ref t,.none,.none,.none,.bool false,.none],slots:=sl }
def dctO (dx:Addr) (fs:List (Str×V)):HO:=.ext fun h=>∃mA,h.Ns1 dx mA∧(∀f,RelO (fs.lookup f) (mA f))∧PySem.Within mA (fs.map (·.1))∧fs.length≤100
section
variable {X:Cx} {CX:CXT} {k m:Nat} {f C:Addr} {fd:FuncData} {ps:List Str} {sp:Sp} {E:XK} {x:Str} {p pos:Pos} {e:Expr} {es:List Expr} {t:TA} {bm:List Value}
structure ExcG (K:W.Frag) (C:Addr):Prop where
 ga:W.findIn K (.ref C) "__getattribute__" = some (some (.builtin "BaseException.__getattribute__"))
 gb:W.findIn K (.ref C) "__getattr__" = some none
 mb:W.mroIn K C (.type "BaseException")=some true
 hd:W.hasDictIn K C=true
end
mutual
def pyD:Dt→PyData
 | .non=>.none
 | .bl b=>.bool b
 | .int i=>.int i
 | .str x=>.str x
 | .lst xs=>.list (pyDs xs)
 | .tup xs=>.tuple (pyDs xs)
def pyDs:List Dt→List PyData
 | []=>[]
 | x::xs=>pyD x::pyDs xs
end
structure ExcI (K:W.Frag) (C R:Addr):Prop where
 g:ExcG K C
 mro:(W.clsIn K C).map (·.mro)=some [.ref C,.ref R,.type "ValueError", .type "Exception", .type "BaseException", .type "object"]
 ty:W.typeIn K (.ref C)=some (.type "type")
 ha:W.findIn K (.ref C) "__class__" = some (some (.builtin "object.__class__"))
 hn:W.specialIn K (.builtin "object.__class__") "__get__" = some (some (.builtin "getset_descriptor.__get__"))
 tk:W.takesIn K (.builtin "object.__class__")=some true
section
variable {prog:Program} {w:World} {A:Around} {E:Value→Shared→Prop} {s:Shared} {K:W.Frag} {e C R D:Addr} {oe:Obj} {odo:Option Obj}
theorem ExcI.in (G:ExcI K C R) (b:Value):W.mroIn K C b=some ([Value.ref C,.ref R,.type "ValueError", .type "Exception", .type "BaseException", .type "object"].contains b):=by
 obtain ⟨cd,hc,hm⟩:=Option.map_eq_some_iff.mp G.mro
 unfold W.mroIn
 rw [hc,Option.bind_some,hm]
 rfl
end
def ExcAt (H:Hp) (x C:Addr) (fs:List (Str×V)):Prop:=(fs=[]∧H x=some (excO x C none))∨∃dx,H x=some (excO x C (some dx))∧H dx=some (dctO dx fs)∧dx≠x
theorem ExcAt.same {H H':Hp} {x C:Addr} {fs:List (Str×V)} (e:Same H H') (h:ExcAt H x C fs):ExcAt H' x C fs:=by
 rcases h with ⟨a,b⟩ | ⟨dx,a,b,c⟩
 ·exact .inl ⟨a,e _ _ b⟩
 ·exact .inr ⟨dx,e _ _ a,e _ _ b,c⟩
section
variable {X:Cx}
theorem op_mul_str:OpR X (binaryOp .Mult) (fun x y H Q=>∃z n,x=.str z∧y=.int n∧MulOk z n∧Q (.str (Txt.mul z n)) H):=by
 intro pins s σ H x y v u Q I rx ry h
 obtain ⟨z,n,rfl,rfl,ok,q⟩:=h
 obtain ⟨t,rfl⟩:=rx
 obtain ⟨t',rfl⟩:=ry
 exact SB.mul ok fun t'' k=>⟨.str _,H,I.tok _,⟨_,rfl⟩,q⟩
end
structure Shm (m d:Nat) (x:PyData):Prop where
 sh:x.showable=true
 ln:x.shown.length≤m
 dp:x.depth≤d
structure New (H H':Hp) (p:Addr) (o:HO):Prop where
 s:Same H H'
 e:H' p=some o
 n:∀a u,H a=some u→a≠p
theorem New.mk' {H:Hp} {p:Addr} {o:HO} (h:H p=none):New H (upd H p o) p o:=⟨Same.new h,upd_same,fun a u q=>ne_of_none q h⟩
section
variable {X:Cx} {es:List Expr} {t:TA} {pos:Pos}
def tTupA (t:TA):TE:=fun σ H Q=>t σ H fun xs H1=>xs.length≤sizeLine∧∀p H',New H1 H' p (.tup xs)→Q (.ref p) H'
def tLstA (t:TA):TE:=fun σ H Q=>t σ H fun xs H1=>xs.length≤sizeLine∧∀p H',New H1 H' p (.lst xs)→Q (.ref p) H'
theorem pe_tupA {x1} (h:PA X es t):PE X (.Tuple es x1 pos) (tTupA t):=by
 intro pins s σ H Q I hq
 refine wpAny_Tuple_spliced (thn (h pos pins s σ H _ I hq) fun us s1 ⟨xs,H1,I1,r,z,q⟩=>⟨by rw [← r.length];exact z,?_⟩)
 have hf:H1 s1.heap.objs.size=none:=I1.hok.fresh (Nat.le_refl _)
 refine ⟨.ref s1.heap.objs.size,upd H1 s1.heap.objs.size (.tup xs),I1.laid (t':=s1.toks) (fun b u e=>Heap.get?_push_of_some _ e) (Nat.le_refl _) ?_,rfl,q _ _ (.mk' hf)⟩
 exact ⟨z,us,r,⟨_,Heap.get?_push_size _ rfl,rfl,_,rfl⟩⟩
theorem pe_lstA (h:PA X es t):PE X (.List es pos) (tLstA t):=by
 intro pins s σ H Q I hq
 refine wpAny_List_spliced (thn (h pos pins s σ H _ I hq) fun us s1 ⟨xs,H1,I1,r,z,q⟩=>⟨by rw [← r.length];exact z,?_⟩)
 have hf:H1 s1.heap.objs.size=none:=I1.hok.fresh (Nat.le_refl _)
 refine ⟨.ref s1.heap.objs.size,upd H1 s1.heap.objs.size (.lst xs),I1.laid (t':=s1.toks) (fun b u e=>Heap.get?_push_of_some _ e) (Nat.le_refl _) ?_,rfl,q _ _ (.mk' hf)⟩
 exact ⟨z,us,0,r,Heap.get?_push_size _ rfl⟩
def rCatA:R2:=fun x y H Q=>∃l b xs zs,x=.ref l∧y=.ref b∧H l=some (.lst xs)∧H b=some (.lst zs)∧xs.length + zs.length≤sizeLine∧∀p H',New H H' p (.lst (xs++zs))→Q (.ref p) H'
theorem op_catA:OpR X (binaryOp .Add) rCatA:=by
 intro pins s σ H x y v u Q I rx ry h
 obtain ⟨l,b,xs,zs,e1,e2,hH,hB,hz,q⟩:=h
 exact op_cat pins s σ H x y v u Q I rx ry ⟨l,b,xs,zs,e1,e2,hH,hB,hz,fun p hp=>q p _ (.mk' hp)⟩
def rRepA:R2:=fun x y H Q=>∃l k xs,x=.ref l∧y=.int k∧H l=some (.lst xs)∧-(2 ^ 63)≤k∧k < 2 ^ 63∧xs.length * k.toNat≤sizeLine∧∀p H',New H H' p (.lst (List.replicate k.toNat xs).flatten)→Q (.ref p) H'
theorem op_repA:OpR X (binaryOp .Mult) rRepA:=by
 intro pins s σ H x y v u Q I rx ry h
 obtain ⟨l,k,xs,e1,e2,hH,h1,h2,hz,q⟩:=h
 exact op_rep pins s σ H x y v u Q I rx ry ⟨l,k,xs,e1,e2,hH,h1,h2,hz,fun p hp=>q p _ (.mk' hp)⟩
def rAppA:V→List V→Hp→VK→Prop:=fun x vs H Q=>∃l xs y,x=.ref l∧vs=[y]∧H l=some (.lst xs)∧xs.length < sizeLine∧∀H',Off l H H'→H' l=some (.lst (xs++[y]))→Q .non H'
theorem mt_appendA:MtM X "list.append" rAppA:=by
 intro pins s σ H x vs v us Q I rx rv h
 obtain ⟨l,xs,y,e1,e2,hH,hz,q⟩:=h
 exact mt_append pins s σ H x vs v us Q I rx rv ⟨l,xs,y,e1,e2,hH,hz,q _ Off.upd upd_same⟩
theorem pe_appendA {o e:Expr} {to te:TE} {apos cpos:Pos} (ho:PE X o to) (he:PE X e te) (hbase:attributeBase o "append" X.env (eval o X.env)=eval o X.env:=by rfl)
  (hfew:((backTo cpos (starEach [e] X.env)).all (fun x=>!x.1) && (backToKw cpos (keywordEach [] X.env)).all (fun x=>x.1.isSome)
   && decide (([e]:List Expr).length + ([]:List Keyword).length + (if ([]:List Keyword).isEmpty then 0 else 1) < 30))=true:=by rfl)
  (hline:(apos.endLine == cpos.line)=true:=by rfl) (hs:starEach [e] X.env=(false,eval e X.env)::starEach [] X.env:=by rfl) :
  PE X (.Call (.Attribute o "append" apos) [e] [] cpos) (tBM X.K "list" rAppA to (tCons te tNil)) :=
 pe_bm PySem.F.plainAttrs_list PySem.F.slot_list_append PySem.F.type_list_append mt_appendA ho (pa_cons he pa_nil hs) hbase hfew hline hs (by rfl)
end
def Tel (t:TE) (σ:St) (H:Hp) (v:V):Prop:=∀Q:VK,Q v H→t σ H Q
def TelA (t:TA) (σ:St) (H:Hp) (vs:List V):Prop:=∀Q:List V→Hp→Prop,Q vs H→t σ H Q
section
variable {σ σ':St} {H:Hp} {v x y:V} {vs:List V} {t ta tb:TE} {tr:TA} {i j:Nat} {a C:Addr} {f g:Str} {fs:List (Str×V)} {Q:VK} {D:Ends} {s u:TS} {K:W.Frag} {tg:TG} {c:TT}
theorem rd_var (h:σ[i]?=some (some v)):Tel (tVar i) σ H v:=fun Q q=>⟨v,h,q⟩
theorem rd_c:Tel (tC v) σ H v:=fun Q q=>q
theorem rda_nil:TelA tNil σ H []:=fun Q q=>q
theorem rda_cons (h:Tel t σ H v) (k:TelA tr σ H vs):TelA (tCons t tr) σ H (v::vs):=fun Q q=>h _ (k _ q)
theorem go_cons {Q:List V→Hp→Prop} (h:t σ H fun x H1=>tr σ H1 fun xs H2=>Q (x::xs) H2):tCons t tr σ H Q:=h
theorem go_nil {Q:List V→Hp→Prop} (h:Q [] H):tNil σ H Q:=h
theorem go_seq (h:s { D with nx:=u D } σ H):tSeq s u D σ H:=h
theorem go_nx {nx bk ct:St→Hp→Prop} {rt:VK} (h:nx σ H):(Ends.mk nx rt bk ct).nx σ H:=h
theorem go_next (h:D.nx σ H):tNext D σ H:=h
theorem go_asg (h:t σ H fun x H1=>tg x σ H1 D.nx):tAsg t tg D σ H:=h
theorem go_tupA (h:tr σ H fun xs H1=>xs.length≤sizeLine∧∀p H',New H1 H' p (.tup xs)→Q (.ref p) H'):tTupA tr σ H Q:=h
theorem go_lstA (h:tr σ H fun xs H1=>xs.length≤sizeLine∧∀p H',New H1 H' p (.lst xs)→Q (.ref p) H'):tLstA tr σ H Q:=h
theorem go_op {r:R2} (h:ta σ H fun x H1=>tb σ H1 fun y H2=>r x y H2 Q):tOp r ta tb σ H Q:=h
theorem go_ret (h:t σ H D.rt):tRet t D σ H:=h
theorem go_drop (h:t σ H fun _ H1=>D.nx σ H1):tDrop t D σ H:=h
theorem go_if (h:c σ H fun b H1=>if b=true then s D σ H1 else u D σ H1):tIfS c s u D σ H:=h
theorem go_test {Q:Bool→Hp→Prop} (h:t σ H fun x H'=>∃k,x=.bl k∧Q k H'):tTest t σ H Q:=h
theorem go_b {Q:Bool→Hp→Prop} (h:t σ H fun x H'=>∃k,x=.bl k∧Q k H'):tB t σ H Q:=h
theorem go_cb {r:List V→Hp→VK→Prop} (h:tr σ H fun vs H1=>r vs H1 Q):tCB r tr σ H Q:=h
end
section
variable {σ:St} {H:Hp} {te:TE} {tr:TA} {Q:VK} {c:TT} {fr:List Nat} {fvs:St} {n:Nat}
theorem rangeV_get {i:Nat} {x:V} (h:(rangeV 0 n)[i]?=some x) (hi:i < n):x=.int i:=by
 have:(rangeV 0 n)[i]?=some (V.int (0 + (i:Int))):=by simp [rangeV,hi]
 rw [this] at h
 have:=Option.some.inj h
 rw [← this,Int.zero_add]
theorem go_map_range {F:Nat→V} (hr:TelA tr σ H [.int (n:Int)]) (hn:n < 2 ^ 62) (hz:n≤1000000) (hf:(fr.map fun i=>(σ[i]?).getD none)=fvs)
  (turn:∀i H',i < n→Same H H'→Tel te (some (.int i)::fvs) H' (F i)) (k:∀p H',New H H' p (.lst ((List.range n).map F))→Q (.ref p) H'):tComp (iRng1 tr) 1 fr (gName 0) tTrue te σ H Q:=by
 refine hr _ ⟨n,rfl,by lia,by lia,fun acc hacc=>?_⟩
 subst hf
 rw [Int.toNat_natCast]
 refine comp_by items_range (fun i ys H'=>H'=upd H acc (.lst ys)∧ys=(List.range i).map F) ⟨rfl,rfl⟩ (fun i ys H' _ h=>⟨trivial,by rw [h.1];exact upd_same⟩) ?_ ?_
 ·rintro i x tv ys H' hx hi ⟨rfl,rfl⟩ htv
  obtain ⟨tv0,rfl⟩:∃a,tv=[a]:=List.length_eq_one_iff.mp htv
  have hi':i < n:=by simpa [rangeV] using hi
  obtain rfl:=rangeV_get hx hi'
  unfold gName tTrue
  dsimp only
  rw [if_pos rfl]
  refine turn i _ hi' (Same.new hacc) _ ⟨?_,upd_same,?_⟩
  ·rw [List.length_map,List.length_range]
   exact Nat.lt_of_lt_of_le hi' (small_line hz)
  ·exact CompW.next (tv:=[some (V.int i)]) hi ⟨upd_upd,by rw [List.range_succ,List.map_append];rfl⟩ rfl
 ·rintro ys H' ⟨rfl,rfl⟩
  rw [show (rangeV 0 n).length=n by simp [rangeV]]
  exact k acc _ (.mk' hacc)
end
def excT (a C:Addr) (dx:Option Addr):HO:=.ext fun h=>∃oe vs,h.get? a=some oe∧oe.cls=.ref C∧oe.dict=dx∧oe.data=.fields vs
def ExcT (H:Hp) (x C:Addr) (fs:List (Str×V)):Prop:=(fs=[]∧H x=some (excT x C none))∨∃dx,H x=some (excT x C (some dx))∧H dx=some (dctO dx fs)∧dx≠x
theorem ExcT.same {H H':Hp} {x C:Addr} {fs:List (Str×V)} (e:Same H H') (h:ExcT H x C fs):ExcT H' x C fs:=by
 rcases h with ⟨a,b⟩ | ⟨dx,a,b,c⟩
 ·exact .inl ⟨a,e _ _ b⟩
 ·exact .inr ⟨dx,e _ _ a,e _ _ b,c⟩
theorem ExcT.mk {H:Hp} {a C dx:Addr} {fs:List (Str×V)} (hd:H dx=some (dctO dx fs)) (ha:H a=none):ExcT (upd H a (excT a C (some dx))) a C fs :=
 .inr ⟨dx,upd_same,by rw [upd_ne (ne_of_none hd ha)];exact hd,ne_of_none hd ha⟩
structure Caught (X:Cx) (pins:List (Addr×Obj)) (σ:St) (H:Hp) (s:Shared) (a C:Addr) (dx:Option Addr):Prop where
 I:Inv X pins σ H s
 ha:H a=some (excT a C dx)
 tb:∃T oe vs oT ts,s.heap.get? a=some oe∧oe.data=.fields vs∧vs[1]?=some (.ref T)∧s.heap.get? T=some oT∧oT.data=.fields ts∧3 < ts.size∧H T=none∧T≠X.env.locals∧(T∈X.ex∨X.s₀.heap.objs.size≤T)∧(∀x c,X.env.cells.lookup x=some c→c≠T)∧∀p∈X.pn++pins,p.1≠T
section
variable {X:Cx} {x n:Str} {d:Addr} {i:Nat} {b₀:Stmt} {suite:List Stmt} {rest:List ExceptHandler} {th:Addr→TS} {tr:THd} {p pos:Pos}
theorem Caught.type {pins:List (Addr×Obj)} {σ:St} {H:Hp} {s:Shared} {a C:Addr} {dx:Option Addr} (c:Caught X pins σ H s a C dx):W.Looks (model X.prog X.w) s.heap (typeOf (.ref a)) (.ref C):=by
 obtain ⟨⟨oe,vs,ge,gc,gd,gf⟩,_,_⟩:ObjOk X.prog X.w H s.heap a (excT a C dx):=c.I.hok a _ c.ha
 exact gc▸(W.Looks.ld ge).andThen .now
end
def rIsT (K:W.Frag):List V→Hp→VK→Prop:=fun xs H Q=>∃x d t b,xs=[x,d]∧TyOf K H x t∧clsIs K t d=some b∧Q (.bl b) H
theorem call_isT {X:Cx}:CallR X (.builtin "isinstance") (rIsT X.K):=call_isinstance
theorem vals_by:∀{xs:List V} {us:List Value},xs.length=us.length→(∀(j:Nat) (x:V) (u:Value),xs[j]?=some x→us[j]?=some u→RelV x u)→Vals xs us
 | [],[],_,_=>.nil
 | [],_::_,h,_=>nomatch h
 | _::_,[],h,_=>nomatch h
 | x::xs,u::us,h,f=>.cons (f 0 x u rfl rfl) (vals_by (Nat.succ.inj h) fun j y z e1 e2=>f (j + 1) y z (by simpa using e1) (by simpa using e2))
section
variable {X:Cx} {pins:List (Addr×Obj)} {σ:St} {H:Hp} {s:Shared} {h':Heap} {t':Nat} {ch:List Addr}
theorem Inv.turnedN (I:Inv X pins σ H s) (hf:∀b∈ch,FpOk X pins H b) (k:∀b o,b ∉ ch→s.heap.get? b=some o→h'.get? b=some o):Inv X pins σ H { s with heap:=h',toks:=t' }:=by
 have off:∀b u,H b=some u→b ∉ ch:=fun b u e z=>by
  rw [(hf b z).1] at e
  cases e
 refine I.step (g':=s.gens) (d':=s.drawn) (ch:=ch) (fun b hb=>?_) (fun b o _ _ hc e _=>k b o hc e) (fun b o _ _ hc e _=>⟨o.slots,k b o hc e⟩) (fun _ _ _ _ n=>n)
  (fun b o hc e=>⟨o,k b o hc e⟩) (fun _ _ e=>e) (fun _ _ _ e=>e) (fun b ps e=>⟨#[],by rw [e];simp⟩) (fun m hm=>?_) (fun b u e=>?_) I.bare
 ·obtain ⟨_,f1,_,f3,f4,f5⟩:=hf b hb
  exact ⟨f3,f1,f4,f5⟩
 ·obtain ⟨o,es,ep,ho,r⟩:=hm
  exact ⟨o,es,ep,k _ o (fun z=>(hf _ z).2.1 rfl) ho,r⟩
 ·refine (I.hok b u e).stay (fun c v hc q=>k c v ?_ q) (fun _ q=>q) fun _ _ q=>q
  rcases hc with z | z
  ·rw [z];exact off b u e
  ·exact off c _ z
theorem Inv.turnedLaid {a:Addr} {o:HO} (I:Inv X pins σ H s) (hf:∀b∈ch,FpOk X pins H b) (k:∀b o,b ∉ ch→s.heap.get? b=some o→h'.get? b=some o) (ha:s.heap.objs.size≤a)
  (new:ObjOk X.prog X.w (upd H a o) h' a o):Inv X pins σ (upd H a o) { s with heap:=h',toks:=t' }:=by
 have I1:Inv X pins σ H { s with heap:=h',toks:=t' }:=I.turnedN hf k
 have hn:H a=none:=I.hok.fresh ha
 refine I.step (g':=s.gens) (d':=s.drawn) (ch:=ch) (fun b hb=>?_) (fun b u _ _ hc e _=>k b u hc e) (fun b u _ _ hc e _=>⟨u.slots,k b u hc e⟩)
  (fun b u _ e n=>by rw [upd_ne (Nat.ne_of_lt (Nat.lt_of_lt_of_le (Heap.lt_size e) ha))];exact n)
  (fun b u hc e=>⟨u,k b u hc e⟩) (fun b xs e=>by rw [upd_ne (ne_of_none e hn)];exact e) (fun b u x e=>by rw [upd_ne (ne_of_none e hn)];exact e)
  (fun b ps e=>⟨#[],by rw [upd_ne (ne_of_none e hn),e];simp⟩) (fun m hm=>?_) (fun b u e=>?_) I.bare
 ·obtain ⟨_,f1,_,f3,f4,f5⟩:=hf b hb
  exact ⟨f3,f1,f4,f5⟩
 ·obtain ⟨u,es,ep,ho,r⟩:=hm
  exact ⟨u,es,ep,k _ u (fun z=>(hf _ z).2.1 rfl) ho,r⟩
 ·by_cases hb:b=a
  ·subst hb
   rw [upd_same] at e
   cases e
   exact new
  ·rw [upd_ne hb] at e
   exact (I1.hok b u e).stay (fun _ _ _ q=>q) (fun c q=>by rw [upd_ne (ne_of_none q hn)];exact q) fun c xs q=>by rw [upd_ne (ne_of_none q hn)];exact q
end
theorem boot_reversed:bootBuiltins "reversed" = some (.type "reversed"):=by decide +kernel
theorem lri_no_len:typeLookup (.type "list_reverseiterator") (Str.ofString "__len__")=pure none:=by rw [typeLookup_type,builtinLookup_eq_fast];kernel_rfl
theorem lri_hint:typeLookup (.type "list_reverseiterator") (Str.ofString "__length_hint__")=pure (some (.builtin "list_reverseiterator.__length_hint__")):=by rw [typeLookup_type,builtinLookup_eq_fast];kernel_rfl
theorem hint_rev {prog:Program} {w:World} {A:Around} {E:Value→Shared→Prop} {s:Shared} {r:Addr} {Q:Bool→Shared→Prop} (hT:s.TypeIs (.ref r) "list_reverseiterator") (h:Q false s) :
  wpAny (model prog w) A (Builtin.List.listLengthHint (.ref r)) Q E s:=by
 unfold Builtin.List.listLengthHint
 refine wpAny_bind (wpAny_specialOf hT lri_no_len ?_)
 show wpAny _ _ (specialOf (Value.ref r) (Str.ofString "__length_hint__") >>= _) _ _ _
 refine wpAny_bind (wpAny_specialOf hT lri_hint ?_)
 generalize hid:("list_reverseiterator.__length_hint__" : String)=id0
 wp_delta
 rw [show splitId id0=some ("list_reverseiterator", "__length_hint__") from by subst hid;decide +kernel]
 subst hid
 refine wpAny_bind (wpAny_isInstance (T := "list_reverseiterator") (b:=true) hT (by rw [isSubtype_type];kernel_rfl) ?_)
 refine wpAny_ite_split (fun hab=>absurd hab (by decide)) (fun _=>?_)
 refine wpAny_ite_split (fun _=>?_) (fun hab=>absurd (by decide +kernel) hab)
 refine wpAny_ite_split (fun hab=>absurd hab (by decide +kernel)) (fun _=>?_)
 exact wpAny_pure h
section
variable {prog:Program} {w:World} {A:Around} {E:Value→Shared→Prop} {s:Shared} {I l S:Addr} {items:Array Value}
theorem extend_rev {R:Result→Shared→Prop} {c₀:Nat} {res:Value} (hh:A.handled=none) (hI:s.heap.IsRevIter I l ((items.size:Int) - 1)) (hl:s.heap.IsList l items) (hne:l≠I) (hSI:S≠I) (hSl:S≠l)
  (hS:s.heap.get? S=some { cls:=.type "list", data:=.seq #[] c₀ }) (hn:items.size≤sizeLine)
  (hR:∀h' tk acc' c',(∀b o,b≠S→b≠I→s.heap.get? b=some o→h'.get? b=some o)→h'.get? S=some { cls:=.type "list", dict:=none,data:=.seq acc' c',slots:=#[] }→PySem.ItemsOf (fun i v=>items[items.size - 1 - i]?=some v) acc' items.size →
   R (.ok (.ret res)) { s with heap:=h',toks:=tk }) :
  wpAny (model prog w) A.in1 (Builtin.List.listExtendWith (.ref S) (.ref I) res)
   (fun fin s'=>match fin with | .done f=>R (.ok f) s' | .again c'=>c'.quiet=true∧codeAny (model prog w) A c' R s') (fun e s'=>R (.error e) s') s:=by
 have W:=Walks.listRev (prog:=prog) (w:=w) (A:=A.in1) hh I l hne items
 have hSf:S ∉ [I,l]:=by simp [hSI,hSl]
 have st:(0:Nat)≤items.size∧s.heap.IsRevIter I l ((items.size:Int) - 1 - ((0:Nat):Int))∧s.heap.IsList l items:=⟨Nat.zero_le _,by simpa using hI,hl⟩
 have fin:codeAny (model prog w) A (.builtin "list.extend.loop" ⟨[.ref S,.ref I,res],[]⟩) R s:=by
  refine codeAny_extend_loopS W.toS hn S hSf res items.size 0 _ #[] c₀ rfl (Nat.zero_le _) st hS (PySem.ItemsOf.nil _) fun s' acc' c' hm hS' hacc=>?_
  rw [Moved.eq_with hm]
  exact hR s'.heap s'.toks acc' c' (fun b o h1 h2 q=>hm.heap b o (by simp [h1,h2]) q) hS' hacc
 unfold Builtin.List.listExtendWith
 refine wpAny_bind (wpAny_typeOf (T := "list_reverseiterator") hI.typeIs ?_)
 have h1:Builtin.List.listSameRef (.ref S) (.ref I)=false:=by simp [Builtin.List.listSameRef,hSI]
 have h2:(Value.type "list_reverseiterator" == Value.type "list")=false:=by decide
 have h3:(Value.type "list_reverseiterator" == Value.type "tuple")=false:=by decide
 simp only [h1,h2,h3,Bool.or_false,Bool.false_eq_true,if_false]
 refine wpAny_bind (wpAny_pyIter_revIter hI ?_)
 refine wpAny_bind (wpAny_holding (hint_rev hI.typeIs ?_))
 refine wpAny_ite_split (fun hab=>absurd hab (by first | decide | decide +kernel)) (fun _=>?_)
 exact wpAny_pure ⟨plainId_quiet PySem.F.plain_extend_loop _,fin⟩
theorem init_rev {R:Result→Shared→Prop} (hh:A.handled=none) (hI:s.heap.IsRevIter I l ((items.size:Int) - 1)) (hl:s.heap.IsList l items) (hne:l≠I) (hSI:S≠I) (hSl:S≠l)
  (hS:s.heap.get? S=some { cls:=.type "list", data:=.seq #[] }) (hn:items.size≤sizeLine)
  (hR:∀h' tk acc' c',(∀b o,b≠S→b≠I→s.heap.get? b=some o→h'.get? b=some o)→h'.get? S=some { cls:=.type "list", dict:=none,data:=.seq acc' c',slots:=#[] }→PySem.ItemsOf (fun i v=>items[items.size - 1 - i]?=some v) acc' items.size →
   R (.ok (.ret .none)) { s with heap:=h',toks:=tk }) :
  wpAny (model prog w) A.in1 (Builtin.«list.__init__» ⟨[.ref S,.ref I],[]⟩)
   (fun fin s'=>match fin with | .done f=>R (.ok f) s' | .again c'=>c'.quiet=true∧codeAny (model prog w) A c' R s') (fun e s'=>R (.error e) s') s:=by
 show wpAny _ _ (Builtin.List.listItems (.ref S) >>= fun old=>Builtin.List.listUpdate (.ref S) (fun _=>#[]) >>= fun _=>letGo old.toList.reverse >>= fun _=>Builtin.List.listExtendWith (.ref S) (.ref I) .none) _ _ s
 refine wpAny_bind ?_
 unfold Builtin.List.listItems
 refine wpAny_bind (wpAny_seqItems hS rfl (wpAny_pure (wpAny_bind ?_)))
 show wpAny _ _ (updateSeq S (fun _=>#[])) _ _ _
 refine wpAny_updateSeq hS rfl (wpAny_bind (wpAny_letGo ?_))
 have hS2:=Heap.get?_update_self (Obj.mapSeq (fun _=>(#[]:Array Value))) hS rfl
 have oth:∀b o,b≠S→s.heap.get? b=some o→(s.heap.update S (Obj.mapSeq (fun _=>(#[]:Array Value)))).get? b=some o:=fun b o hb q=>by
  rw [Heap.get?_update_other _ _ (Ne.symm hb)]
  exact q
 exact extend_rev (c₀:=_) hh (hI.at fun o q=>oth I o (Ne.symm hSI) q) (hl.at fun o q=>oth l o (Ne.symm hSl) q) hne hSI hSl hS2 hn fun h' tk acc' c' hk hS' hacc=>hR h' tk acc' c' (fun b o h1 h2 q=>hk b o h1 h2 (oth b o h1 q)) hS' hacc
theorem list_rev {Q:Value→Shared→Prop} (hh:A.handled=none) (hI:s.heap.IsRevIter I l ((items.size:Int) - 1)) (hl:s.heap.IsList l items) (hne:l≠I) (hn:items.size≤sizeLine)
  (hQ:∀h' tk acc' c',(∀b o,b≠I→s.heap.get? b=some o→h'.get? b=some o)→h'.get? s.heap.objs.size=some { cls:=.type "list", dict:=none,data:=.seq acc' c',slots:=#[] } →
   PySem.ItemsOf (fun i v=>items[items.size - 1 - i]?=some v) acc' items.size→Q (.ref s.heap.objs.size) { s with heap:=h',toks:=tk }) :
  wpAny (model prog w) A (call (.type "list") [.ref I]) Q E s:=by
 have hS:(s.heap.push { cls:=.type "list", data:=.seq #[] }).get? s.heap.objs.size=some { cls:=.type "list", data:=.seq #[] }:=Heap.get?_push_size _ rfl
 have up:∀b o,s.heap.get? b=some o→(s.heap.push { cls:=.type "list", data:=.seq #[] }).get? b=some o:=fun b o q=>Heap.get?_push_of_some _ q
 have hIlt:I < s.heap.objs.size:=by
  obtain ⟨o,q,_⟩:=hI
  exact Heap.lt_size q
 have hllt:l < s.heap.objs.size:=by
  obtain ⟨o,q,_⟩:=hl
  exact Heap.lt_size q
 refine callType_codes PySem.F.called_list (PySem.F.typeCall_list_1 _) PySem.F.entry_list_init
  (Q₁:=fun v z=>v=.ref s.heap.objs.size∧z={ s with heap:=s.heap.push { cls:=.type "list", data:=.seq #[] } }) (code_list_new _ ⟨rfl,rfl⟩) ?_
 rintro _ _ ⟨rfl,rfl⟩
 refine ⟨⟨_,hS,rfl⟩,PySem.F.args_list_init_2 _ _,?_⟩
 refine init_rev (A:=A.in1) (s:={ s with heap:=s.heap.push { cls:=.type "list", data:=.seq #[] } }) hh (hI.at fun o q=>up I o q) (hl.at fun o q=>up l o q) hne (Nat.ne_of_gt hIlt) (Nat.ne_of_gt hllt) hS hn fun h' tk acc' c' hk hS' hacc=>?_
 exact ⟨rfl,hQ h' tk acc' c' (fun b o hb q=>hk b o (Nat.ne_of_lt (Heap.lt_size q)) hb (up b o q)) hS' hacc⟩
end
def tLRev (K:W.Frag) (ta:TA):TE:=fun σ H Q=>ta σ H fun vs H1=>∃a xs,vs=[.ref a]∧SqL K H1 a xs∧∀l H',New H1 H' l (.lst xs.reverse)→Q (.ref l) H'
theorem pe_listRev {X:Cx} {e:Expr} {ta:TA} {p1 p2 pos1 pos2:Pos} (hc:X.calm=true) (gl:Gl X "list") (ml:X.mg "list" = none) (gr:Gl X "reversed") (mr:X.mg "reversed" = none) (ha:PA X [e] ta)
  (h1:starEach [.Call (.Name "reversed" p2) [e] [] pos2] X.env=[(false,eval (.Call (.Name "reversed" p2) [e] [] pos2) X.env)]:=by rfl) (h2:starEach [e] X.env=[(false,eval e X.env)]:=by rfl) :
  PE X (.Call (.Name "list" p1) [.Call (.Name "reversed" p2) [e] [] pos2] [] pos1) (tLRev X.K ta):=by
 intro pins s σ H Q I h
 refine wpAny_Call_Name_kw (ld_blt I gl ml boot_list (PyProof.Rows.callWith_type1 ?_ h1 rfl))
 rw [h1]
 refine Calls.spliced_cons ?_
 refine Call_ (ld_blt I gr mr boot_reversed (PyProof.Rows.callWith_type1 (thn (ha pos2 pins s σ H _ I h) fun us s1 ⟨vs,H1,I1,r1,q1⟩=>?_) h2 rfl))
 obtain ⟨a,xs,rfl,hq,q⟩:=q1
 obtain ⟨u,rfl,rx⟩:=vals1 r1
 cases rx
 obtain ⟨its,rv,pl,hz⟩:=I1.list hq
 have hlen:=rv.length
 refine call_reversed_list pl.isList (Calls.spliced_nil ?_)
 have hlt:a < s1.heap.objs.size:=by
  obtain ⟨o,q,_⟩:=pl.isList
  exact Heap.lt_size q
 have hrev:(s1.heap.push (revObj a ((its.toArray.size:Int) - 1))).IsRevIter s1.heap.objs.size a ((its.toArray.size:Int) - 1):=⟨_,Heap.get?_push_size _ rfl,rfl,rfl⟩
 refine list_rev (s:={ s1 with heap:=s1.heap.push (revObj a ((its.toArray.size:Int) - 1)) }) (I1.ok.hd hc) hrev (pl.isList.at fun o z=>Heap.get?_push_of_some _ z) (Nat.ne_of_lt hlt) (by rw [List.size_toArray,← hlen];exact hz) fun h' tk acc c hk hD hI=>?_
 have hk':∀b o,s1.heap.get? b=some o→h'.get? b=some o:=fun b o z=>hk b o (Nat.ne_of_lt (Heap.lt_size z)) (Heap.get?_push_of_some _ z)
 have hsz:(s1.heap.push (revObj a ((its.toArray.size:Int) - 1))).objs.size=s1.heap.objs.size + 1:=Heap.size_push ..
 have hge:s1.heap.objs.size≤(s1.heap.push (revObj a ((its.toArray.size:Int) - 1))).objs.size:=by rw [hsz];exact Nat.le_succ _
 refine ⟨.ref (s1.heap.push (revObj a ((its.toArray.size:Int) - 1))).objs.size,_,I1.laid (t':=tk) (o:=.lst xs.reverse) hk' hge ?_,rfl,q _ _ (.mk' (I1.hok.fresh hge))⟩
 refine ⟨by rw [List.length_reverse];exact hz,acc.toList,c,vals_by (by
  have e:=hI.1
  have e2:acc.toList.length=acc.size:=Array.length_toList
  have e3:its.toArray.size=its.length:=List.size_toArray ..
  have e4:xs.reverse.length=xs.length:=List.length_reverse
  lia) fun j x u e1 e2=>?_,by simpa using hD⟩
 have e3:=hI.2 j u (by rw [← Array.getElem?_toList];exact e2)
 have hj:j < xs.length:=by
  have:=(List.getElem?_eq_some_iff.mp e1).1
  rwa [List.length_reverse] at this
 rw [List.getElem?_reverse hj] at e1
 obtain ⟨u',e4,r4⟩:=rv.get e1
 have e5:its[xs.length - 1 - j]?=some u:=by
  rw [List.size_toArray,← hlen] at e3
  simpa using e3
 rw [e5] at e4
 cases e4
 exact r4
section
variable {X:Cx}
def rSetA:V→V→V→Hp→(Hp→Prop)→Prop:=fun o i v H Q=>∃p xs k j,o=.ref p∧i=.int k∧H p=some (.lst xs)∧ixN xs.length k=some j∧∀H',Off p H H'→H' p=some (.lst (xs.set j v))→Q H'
theorem set_listA:PSet X rSetA:=by
 intro pins s σ H o i v ov iv u Q I ro ri rv h
 obtain ⟨p,xs,k,j,e1,e2,hp,hj,q⟩:=h
 exact set_list pins s σ H o i v ov iv u Q I ro ri rv ⟨p,xs,k,j,e1,e2,hp,hj,q _ Off.upd upd_same⟩
def rSlA (K:W.Frag):V→Option Int→Option Int→Hp→VK→Prop:=fun x lo hi H Q=>∃a xs,x=.ref a∧SqL K H a xs∧∀p H',New H H' p (.lst (cutV xs lo hi))→Q (.ref p) H'
theorem sl_listA:SlR X (rSlA X.K):=by
 intro pins s σ H x v vl vu lo hi sl Q I rx hs pl pu h
 obtain ⟨a,xs,e,hx,q⟩:=h
 exact sl_list pins s σ H x v vl vu lo hi sl Q I rx hs pl pu ⟨a,xs,e,hx,fun p hp=>q p _ (.mk' hp)⟩
def rLOfA (K:W.Frag):List V→Hp→VK→Prop:=fun xs H Q=>∃p ys,xs=[.ref p]∧(SqL K H p ys∨SqT K H p ys)∧∀l H',New H H' l (.lst ys)→Q (.ref l) H'
theorem call_list_ofA:CallR X (.type "list") (rLOfA X.K):=by
 intro pins s σ H xs us Q I r h
 obtain ⟨p,ys,e,hq,q⟩:=h
 exact call_list_of pins s σ H xs us Q I r ⟨p,ys,e,hq,fun l hl=>q l _ (.mk' hl)⟩
end
section
variable {σ:St} {H:Hp} {Q:VK} {v x y:V} {i j:Int} {K:W.Frag} {t ta tb tc:TE} {tr:TA} {s u:TS} {D:Ends} {c d:TT}
theorem wv0 {r:St} (h:Q v H):tVar 0 (some v::r) H Q:=⟨v,rfl,h⟩
theorem wn0 {o:Option V} {r:St} {R:St→Hp→Prop} (h:R (some v::r) H):gName 0 v (o::r) H R:=h
theorem wv1 {o0:Option V} {r:St} (h:Q v H):tVar 1 (o0::some v::r) H Q:=⟨v,rfl,h⟩
theorem wn1 {o0:Option V} {o:Option V} {r:St} {R:St→Hp→Prop} (h:R (o0::some v::r) H):gName 1 v (o0::o::r) H R:=h
theorem wv2 {o0 o1:Option V} {r:St} (h:Q v H):tVar 2 (o0::o1::some v::r) H Q:=⟨v,rfl,h⟩
theorem wn2 {o0 o1:Option V} {o:Option V} {r:St} {R:St→Hp→Prop} (h:R (o0::o1::some v::r) H):gName 2 v (o0::o1::o::r) H R:=h
theorem wv3 {o0 o1 o2:Option V} {r:St} (h:Q v H):tVar 3 (o0::o1::o2::some v::r) H Q:=⟨v,rfl,h⟩
theorem wn3 {o0 o1 o2:Option V} {o:Option V} {r:St} {R:St→Hp→Prop} (h:R (o0::o1::o2::some v::r) H):gName 3 v (o0::o1::o2::o::r) H R:=h
theorem wv4 {o0 o1 o2 o3:Option V} {r:St} (h:Q v H):tVar 4 (o0::o1::o2::o3::some v::r) H Q:=⟨v,rfl,h⟩
theorem wn4 {o0 o1 o2 o3:Option V} {o:Option V} {r:St} {R:St→Hp→Prop} (h:R (o0::o1::o2::o3::some v::r) H):gName 4 v (o0::o1::o2::o3::o::r) H R:=h
theorem wv5 {o0 o1 o2 o3 o4:Option V} {r:St} (h:Q v H):tVar 5 (o0::o1::o2::o3::o4::some v::r) H Q:=⟨v,rfl,h⟩
theorem wn5 {o0 o1 o2 o3 o4:Option V} {o:Option V} {r:St} {R:St→Hp→Prop} (h:R (o0::o1::o2::o3::o4::some v::r) H):gName 5 v (o0::o1::o2::o3::o4::o::r) H R:=h
theorem wv6 {o0 o1 o2 o3 o4 o5:Option V} {r:St} (h:Q v H):tVar 6 (o0::o1::o2::o3::o4::o5::some v::r) H Q:=⟨v,rfl,h⟩
theorem wn6 {o0 o1 o2 o3 o4 o5:Option V} {o:Option V} {r:St} {R:St→Hp→Prop} (h:R (o0::o1::o2::o3::o4::o5::some v::r) H):gName 6 v (o0::o1::o2::o3::o4::o5::o::r) H R:=h
theorem wv7 {o0 o1 o2 o3 o4 o5 o6:Option V} {r:St} (h:Q v H):tVar 7 (o0::o1::o2::o3::o4::o5::o6::some v::r) H Q:=⟨v,rfl,h⟩
theorem wn7 {o0 o1 o2 o3 o4 o5 o6:Option V} {o:Option V} {r:St} {R:St→Hp→Prop} (h:R (o0::o1::o2::o3::o4::o5::o6::some v::r) H):gName 7 v (o0::o1::o2::o3::o4::o5::o6::o::r) H R:=h
theorem wv8 {o0 o1 o2 o3 o4 o5 o6 o7:Option V} {r:St} (h:Q v H):tVar 8 (o0::o1::o2::o3::o4::o5::o6::o7::some v::r) H Q:=⟨v,rfl,h⟩
theorem wn8 {o0 o1 o2 o3 o4 o5 o6 o7:Option V} {o:Option V} {r:St} {R:St→Hp→Prop} (h:R (o0::o1::o2::o3::o4::o5::o6::o7::some v::r) H):gName 8 v (o0::o1::o2::o3::o4::o5::o6::o7::o::r) H R:=h
theorem wv9 {o0 o1 o2 o3 o4 o5 o6 o7 o8:Option V} {r:St} (h:Q v H):tVar 9 (o0::o1::o2::o3::o4::o5::o6::o7::o8::some v::r) H Q:=⟨v,rfl,h⟩
theorem wn9 {o0 o1 o2 o3 o4 o5 o6 o7 o8:Option V} {o:Option V} {r:St} {R:St→Hp→Prop} (h:R (o0::o1::o2::o3::o4::o5::o6::o7::o8::some v::r) H):gName 9 v (o0::o1::o2::o3::o4::o5::o6::o7::o8::o::r) H R:=h
theorem wv10 {o0 o1 o2 o3 o4 o5 o6 o7 o8 o9:Option V} {r:St} (h:Q v H):tVar 10 (o0::o1::o2::o3::o4::o5::o6::o7::o8::o9::some v::r) H Q:=⟨v,rfl,h⟩
theorem wn10 {o0 o1 o2 o3 o4 o5 o6 o7 o8 o9:Option V} {o:Option V} {r:St} {R:St→Hp→Prop} (h:R (o0::o1::o2::o3::o4::o5::o6::o7::o8::o9::some v::r) H):gName 10 v (o0::o1::o2::o3::o4::o5::o6::o7::o8::o9::o::r) H R:=h
theorem wv11 {o0 o1 o2 o3 o4 o5 o6 o7 o8 o9 o10:Option V} {r:St} (h:Q v H):tVar 11 (o0::o1::o2::o3::o4::o5::o6::o7::o8::o9::o10::some v::r) H Q:=⟨v,rfl,h⟩
theorem wn11 {o0 o1 o2 o3 o4 o5 o6 o7 o8 o9 o10:Option V} {o:Option V} {r:St} {R:St→Hp→Prop} (h:R (o0::o1::o2::o3::o4::o5::o6::o7::o8::o9::o10::some v::r) H):gName 11 v (o0::o1::o2::o3::o4::o5::o6::o7::o8::o9::o10::o::r) H R:=h
theorem wv12 {o0 o1 o2 o3 o4 o5 o6 o7 o8 o9 o10 o11:Option V} {r:St} (h:Q v H):tVar 12 (o0::o1::o2::o3::o4::o5::o6::o7::o8::o9::o10::o11::some v::r) H Q:=⟨v,rfl,h⟩
theorem wn12 {o0 o1 o2 o3 o4 o5 o6 o7 o8 o9 o10 o11:Option V} {o:Option V} {r:St} {R:St→Hp→Prop} (h:R (o0::o1::o2::o3::o4::o5::o6::o7::o8::o9::o10::o11::some v::r) H):gName 12 v (o0::o1::o2::o3::o4::o5::o6::o7::o8::o9::o10::o11::o::r) H R:=h
theorem wv13 {o0 o1 o2 o3 o4 o5 o6 o7 o8 o9 o10 o11 o12:Option V} {r:St} (h:Q v H):tVar 13 (o0::o1::o2::o3::o4::o5::o6::o7::o8::o9::o10::o11::o12::some v::r) H Q:=⟨v,rfl,h⟩
theorem wn13 {o0 o1 o2 o3 o4 o5 o6 o7 o8 o9 o10 o11 o12:Option V} {o:Option V} {r:St} {R:St→Hp→Prop} (h:R (o0::o1::o2::o3::o4::o5::o6::o7::o8::o9::o10::o11::o12::some v::r) H):gName 13 v (o0::o1::o2::o3::o4::o5::o6::o7::o8::o9::o10::o11::o12::o::r) H R:=h
theorem w_c (h:Q v H):tC v σ H Q:=h
theorem w_i0 {f:Int→Int→V} (h:Q (f i j) H):rI0 f (.int i) (.int j) H Q:=⟨i,j,rfl,rfl,h⟩
theorem w_mod {f:Int→Int→V} (hj:0 < j) (h:Q (f i j) H):rI (fun _ j=>0 < j) f (.int i) (.int j) H Q:=⟨i,j,rfl,rfl,hj,h⟩
theorem w_div {f:Int→Int→V} (h0:0 < j) (h1:j < 1073741824) (h:Q (f i j) H):rI CDiv f (.int i) (.int j) H Q:=⟨i,j,rfl,rfl,⟨h0,h1⟩,h⟩
theorem w_pow {f:Int→Int→V} (h0:0≤j) (h1:j≤1000000) (h2:i.natAbs < 2 ^ 64) (h:Q (f i j) H):rI CPow f (.int i) (.int j) H Q:=⟨i,j,rfl,rfl,⟨h0,h1,h2⟩,h⟩
theorem w_mulL {f:Int→Int→V} (h0:-(2 ^ 64) < i) (h1:i < 2 ^ 64) (h:Q (f i j) H):rI CMul f (.int i) (.int j) H Q:=⟨i,j,rfl,rfl,.inl ⟨h0,h1⟩,h⟩
theorem w_mulR {f:Int→Int→V} (h0:-(2 ^ 64) < j) (h1:j < 2 ^ 64) (h:Q (f i j) H):rI CMul f (.int i) (.int j) H Q:=⟨i,j,rfl,rfl,.inr ⟨h0,h1⟩,h⟩
theorem w_eqi (h:Q (.bl (decide (i=j))) H):rEq (.int i) (.int j) H Q:=⟨rfl,by rw [show decide (V.int i=V.int j)=decide (i=j) from decide_eq_decide.mpr ⟨fun e=>by cases e;rfl,fun e=>by rw [e]⟩];exact h⟩
theorem w_nei (h:Q (.bl (!decide (i=j))) H):rNe (.int i) (.int j) H Q:=⟨rfl,by rw [show decide (V.int i=V.int j)=decide (i=j) from decide_eq_decide.mpr ⟨fun e=>by cases e;rfl,fun e=>by rw [e]⟩];exact h⟩
theorem w_eqs {a b:Str} (h:Q (.bl (decide (a=b))) H):rEq (.str a) (.str b) H Q:=⟨rfl,by rw [show decide (V.str a=V.str b)=decide (a=b) from decide_eq_decide.mpr ⟨fun e=>by cases e;rfl,fun e=>by rw [e]⟩];exact h⟩
theorem w_bl {k:Bool} {R:Bool→Prop} (h:R k):∃c,V.bl k=.bl c∧R c:=⟨k,rfl,h⟩
theorem w_not {R:Bool→Hp→Prop} (h:c σ H fun b H1=>R (!b) H1):tNot c σ H R:=h
theorem w_and {R:Bool→Hp→Prop} (h:c σ H fun b H1=>if b=true then d σ H1 R else R false H1):tAnd c d σ H R:=h
theorem w_or {R:Bool→Hp→Prop} (h:c σ H fun b H1=>if b=true then R true H1 else d σ H1 R):tOr c d σ H R:=h
theorem w_notV (h:ta σ H fun x H1=>∃c,x=.bl c∧Q (.bl (!c)) H1):tNotV ta σ H Q:=h
theorem w_andV (h:ta σ H fun x H1=>∃c,x=.bl c∧if c=true then tb σ H1 Q else Q (.bl false) H1):tAndV ta tb σ H Q:=h
theorem w_ifE (h:c σ H fun b H1=>if b=true then ta σ H1 Q else tb σ H1 Q):tIf c ta tb σ H Q:=h
theorem w_chain {r r':R2} (h:ta σ H fun x H1=>tb σ H1 fun y H2=>r x y H2 fun z H3=>∃k,z=.bl k∧if k=true then tc σ H3 fun w H4=>r' y w H4 Q else Q (.bl false) H3):tChain r r' ta tb tc σ H Q:=h
theorem w_rt {nx bk ct:St→Hp→Prop} {rt:VK} (h:rt v H):(Ends.mk nx rt bk ct).rt v H:=h
theorem w_call {sp:Sp} {E:XK} (h:tr σ H fun vs H1=>sp vs H1 Q E):tCall sp [] E tr σ H Q:=by
 have e:(fun vs H1=>sp (vs++[]) H1 Q E)=fun vs H1=>sp vs H1 Q E:=by
  funext vs H1
  rw [List.append_nil]
 show tr σ H fun vs H1=>sp (vs++[]) H1 Q E
 rw [e]
 exact h
theorem w_bm {T:String} {r:V→List V→Hp→VK→Prop} {to:TE} (h:to σ H fun x H1=>tyV K T x H1∧tr σ H1 fun xs H2=>r x xs H2 Q):tBM K T r to tr σ H Q:=h
theorem w_sub {to ti:TE} {ts:TSet} {R:St→Hp→Prop} (h:to σ H fun o H1=>ti σ H1 fun i H2=>ts o i v H2 fun H3=>R σ H3):gSub to ti ts v σ H R:=h
theorem w_slice {r:V→Option Int→Option Int→Hp→VK→Prop} {tl th:TO} (h:t σ H fun x H1=>tl σ H1 fun l H2=>th σ H2 fun u H3=>r x l u H3 Q):tSl r t tl th σ H Q:=h
theorem w_noPart {R:Option Int→Hp→Prop} (h:R none H):tNoPart σ H R:=h
theorem w_part {R:Option Int→Hp→Prop} (h:t σ H fun x H1=>∃i,x=.int i∧R (some i) H1):tPart t σ H R:=h
theorem w_int {R:Int→Prop} (h:R i):∃k,V.int i=.int k∧R k:=⟨i,rfl,h⟩
theorem w_ixL {p:Addr} {xs:List V} (h:SqL K H p xs) (e:atI xs i=some v) (k:Q v H):rIxL K (.ref p) (.int i) H Q:=⟨p,xs,i,v,rfl,rfl,h,e,k⟩
theorem w_ixT {p:Addr} {xs:List V} (h:SqT K H p xs) (e:atI xs i=some v) (k:Q v H):rIxT K (.ref p) (.int i) H Q:=⟨p,xs,i,v,rfl,rfl,h,e,k⟩
def rLen (K:W.Frag):List V→Hp→VK→Prop:=fun xs H Q=>∃x n,xs=[x]∧LenV K x H n∧Q (.int n) H
theorem w_lenL {p:Addr} {xs:List V} (h:SqL K H p xs) (k:Q (.int xs.length) H):rLen K [.ref p] H Q:=⟨_,xs.length,rfl,.inl ⟨xs,h,rfl⟩,k⟩
theorem w_lenT {p:Addr} {xs:List V} (h:SqT K H p xs) (k:Q (.int xs.length) H):rLen K [.ref p] H Q:=⟨_,xs.length,rfl,.inr ⟨xs,h,rfl⟩,k⟩
theorem w_lenS {z:Str} (h:z.length≤sizeLine) (k:Q (.int z.length) H):rLen K [.str z] H Q:=⟨_,z.length,rfl,⟨h,rfl⟩,k⟩
def rMax2:List V→Hp→VK→Prop:=fun xs H Q=>∃i j,xs=[.int i,.int j]∧Q (.int (if j > i then j else i)) H
def rMin2:List V→Hp→VK→Prop:=fun xs H Q=>∃i j,xs=[.int i,.int j]∧Q (.int (if j < i then j else i)) H
theorem w_max (h:Q (.int (max i j)) H):rMax2 [.int i,.int j] H Q:=⟨i,j,rfl,by
 rw [show (if j > i then j else i)=max i j by rw [Int.max_def];split <;> split <;> lia]
 exact h⟩
theorem w_min (h:Q (.int (min i j)) H):rMin2 [.int i,.int j] H Q:=⟨i,j,rfl,by
 rw [show (if j < i then j else i)=min i j by rw [Int.min_def];split <;> split <;> lia]
 exact h⟩
def rInt1:List V→Hp→VK→Prop:=fun xs H Q=>(∃i,xs=[.int i]∧Q (.int i) H)∨∃k,xs=[.bl k]∧Q (.int (if k then 1 else 0)) H
theorem w_intB {k:Bool} (h:Q (.int (if k then 1 else 0)) H):rInt1 [.bl k] H Q:=.inr ⟨k,rfl,h⟩
theorem w_is {x d:V} {tv:Value} {b:Bool} (ty:TyOf K H x tv) (e:clsIs K tv d=some b) (h:Q (.bl b) H):rIsT K [x,d] H Q:=⟨x,d,tv,b,rfl,ty,e,h⟩
def rIsN:R2:=fun x y H Q=>y=.non∧Q (.bl (decide (x=.non))) H
end
section
variable {X:Cx}
theorem call_lenN:CallR X (.builtin "len") (rLen X.K):=call_len
theorem call_maxN (hc:X.calm=true):CallR X (.builtin "max") rMax2:=call_max2 hc
theorem call_minN (hc:X.calm=true):CallR X (.builtin "min") rMin2:=call_min2 hc
theorem call_intN:CallR X (.type "int") rInt1:=call_int1
theorem op_isNN:OpR X (compareOp .Is) rIsN:=op_isN
end
section
variable {A B p:Prop} [Decidable p] {b:Bool}
theorem i_dec (h1:p→A) (h2:¬ p→B):if decide p=true then A else B:=by
 by_cases h:p
 ·rw [if_pos (decide_eq_true h)];exact h1 h
 ·rw [if_neg (by simpa using h)];exact h2 h
theorem i_b (h1:b=true→A) (h2:b=false→B):if b=true then A else B:=by
 cases b with
 | true=>exact iteT (h1 rfl)
 | false=>exact iteF (h2 rfl)
theorem i_T (h:b=true) (k:A):if b=true then A else B:=by rw [if_pos h];exact k
theorem i_F (h:b=false) (k:B):if b=true then A else B:=by rw [if_neg (by rw [h];exact Bool.false_ne_true)];exact k
theorem i_pos (h:p) (k:A):if decide p=true then A else B:=by rw [if_pos (decide_eq_true h)];exact k
theorem i_neg (h:¬ p) (k:B):if decide p=true then A else B:=by rw [if_neg (by simpa using h)];exact k
theorem i_npos (h:p) (k:B):if (!decide p)=true then A else B:=by rw [if_neg (by simpa using h)];exact k
theorem i_nneg (h:¬ p) (k:A):if (!decide p)=true then A else B:=by rw [if_pos (by simpa using h)];exact k
end
section
variable {H H0 H1 H2 H':Hp} {p q a:Addr} {o u:HO} {xs ys:List V}
theorem New.trans (n1:New H H1 p o) (n2:New H1 H2 q u):New H H2 q u:=⟨n1.s.trans n2.s,n2.e,fun a v e=>n2.n a v (n1.s a v e)⟩
def TupsAt (H:Hp) (ys:List V) (rows:List (List V)):Prop:=ys.length=rows.length∧∀(j:Nat) (r:List V),rows[j]?=some r→∃q,ys[j]?=some (.ref q)∧H q=some (.tup r)
theorem TupsAt.same {rows:List (List V)} (s:Same H H') (h:TupsAt H ys rows):TupsAt H' ys rows:=⟨h.1,fun j r e=>let ⟨q,a,b⟩:=h.2 j r e;⟨q,a,s _ _ b⟩⟩
theorem TupsAt.nil:TupsAt H [] []:=⟨rfl,fun j r e=>by simp at e⟩
end
section
variable {σ:St} {H:Hp} {Q:VK} {K:W.Frag} {tr:TA} {D:Ends} {i j:Int} {g:TG} {tb:TS} {a b:V} {p:Addr}
theorem w_tup2 {i0 i1:Nat} {R:St→Hp→Prop} (hp:SqT K H p [a,b]) (h:gName i0 a σ H fun σ1 H1=>gName i1 b σ1 H1 R):gTup K 2 (gCons (gName i0) (gCons (gName i1) gNil)) (.ref p) σ H R :=
 ⟨p,_,rfl,hp,rfl,_,_,rfl,_,_,rfl,rfl,h⟩
end
theorem map_set {α:Type} {N j:Nat} {F:Nat→α} {v:α} (hj:j < N):((List.range N).map F).set j v=(List.range N).map (fun k=>if k=j then v else F k):=by
 apply List.ext_getElem?
 intro k
 rw [List.getElem?_set]
 by_cases hk:k < N
 ·by_cases e:j=k
  ·subst e
   simp [hj]
  ·have e':¬ k=j:=fun z=>e z.symm
   simp [hk,e,e']
 ·have e:¬ j=k:=by lia
  have h1:((List.range N).map F)[k]?=none:=by simp;lia
  have h2:((List.range N).map (fun k=>if k=j then v else F k))[k]?=none:=by simp;lia
  rw [if_neg e,h1,h2]
end L2
namespace L2
open PySem PySem.Spec PyProof.Rows PySem.SeqAt
section
variable {X:Cx} {a:Expr} {ta:TE} {pos:Pos}
def idV:V→Bool
 | .non=>true
 | .bl _=>true
 | .int _=>true
 | .str _=>true
 | .ref _=>true
 | _=>false
theorem same_eqAt {A:Around} {s:Shared} {x:V} {u v:Value} (f:idV x=true) (ru:RelV x u) (rv:RelV x v):EqAt A s u v true:=by
 cases x with
 | non=>cases ru;cases rv;exact EqAt.same _
 | bl b=>cases ru;cases rv;exact EqAt.same _
 | ref b=>cases ru;cases rv;exact EqAt.same _
 | int i =>
  obtain ⟨t,rfl⟩:=ru
  obtain ⟨t',rfl⟩:=rv
  have:=EqAt.int_int (A:=A) (s:=s) i t i t'
  rwa [beq_self_eq_true] at this
 | str z =>
  obtain ⟨t,rfl⟩:=ru
  obtain ⟨t',rfl⟩:=rv
  have:=EqAt.str_str (A:=A) (s:=s) z t z t'
  rwa [beq_self_eq_true] at this
 | _=>exact absurd (show false=true from f) Bool.false_ne_true
end
section
variable {σ:St} {H:Hp} {Q:VK} {D:Ends} {td ty tv:TE} {p:Addr} {kvs:List (Key×V)} {i:Int} {v:V}
theorem w_dnew (h:∀p H',New H H' p (.dK [])→Q (.ref p) H'):tDNewK σ H Q:=fun p hp=>h p _ (.mk' hp)
end
def Kp (b:Addr) (H H':Hp):Prop:=∀x u,x≠b→H x=some u→H' x=some u
section
variable {b p:Addr} {H H1 H2:Hp} {o:HO}
theorem Kp.trans (a:Kp b H H1) (c:Kp b H1 H2):Kp b H H2:=fun x u n h=>c x u n (a x u n h)
theorem Same.kp (s:Same H H1):Kp b H H1:=fun x u _ h=>s x u h
theorem Off.kp (f:Off b H H1):Kp b H H1:=fun x u n h=>by rw [f x n];exact h
theorem Kp.same {H0:Hp} (s:Same H0 H) (k:Kp b H H1) (n:∀x u,H0 x=some u→x≠b):Same H0 H1:=fun x u e=>k x u (n x u e) (s x u e)
end
def rTOfA (K:W.Frag):List V→Hp→VK→Prop:=fun xs H Q=>∃p ys,xs=[.ref p]∧((SqL K H p ys∧∀l H',New H H' l (.tup ys)→Q (.ref l) H')∨(SqT K H p ys∧Q (.ref p) H))
theorem call_tuple_ofA {X:Cx}:CallR X (.type "tuple") (rTOfA X.K):=by
 intro pins s σ H xs us Q I r h
 obtain ⟨p,ys,e,h⟩:=h
 refine call_tuple_of pins s σ H xs us Q I r ⟨p,ys,e,?_⟩
 rcases h with ⟨hq,q⟩ | h
 ·exact .inl ⟨hq,fun l hl=>q l _ (.mk' hl)⟩
 ·exact .inr h
section
variable {X:Cx} {K:W.Frag}
theorem ix_tupK (h:X.K=K):IxR X (rIxT K):=h▸ix_tup
end
def ForL (K:PySem.W.Frag) (a:Addr) (g:TG) (tb:TS) (D:Ends) (σ:St) (H:Hp):Prop:=∃W:Nat→Nat→St→Hp→Prop,(∃m,W 0 m σ H)∧∀i m σ H,W i m σ H →
 ((Itl K a).stop i H∧D.nx σ H)∨((Itl K a).go i H∧∃N:St→Hp→Prop,(∀σ' H',N σ' H'→∃m',m' < m∧W (i + 1) m' σ' H')∧∀x H',(Itl K a).yld i H x H'→g x σ H' fun σ2 H2=>tb { D with nx:=N,ct:=N,bk:=D.nx } σ2 H2)
theorem w_forL {K:W.Frag} {te:TE} {g:TG} {tb:TS} {D:Ends} {σ:St} {H:Hp} (h:te σ H fun x H1=>∃a,x=.ref a∧(∃xs,SqL K H1 a xs)∧ForL K a g tb D σ H1):tFor (iList K te) g tb D σ H:=h
theorem forL_by {K:W.Frag} {a:Addr} {xs:List V} {g:TG} {tb:TS} {D:Ends} {σ:St} {H:Hp} (Pv:Nat→St→Hp→Prop) (h0:Pv 0 σ H) (hl:∀i σ H,i≤xs.length→Pv i σ H→SqL K H a xs)
  (hs:∀i x σ H,xs[i]?=some x→Pv i σ H→g x σ H fun σ2 H2=>tb { D with nx:=Pv (i + 1),ct:=Pv (i + 1),bk:=D.nx } σ2 H2) (hd:∀σ H,Pv xs.length σ H→D.nx σ H):ForL K a g tb D σ H:=for_list Pv h0 hl hs hd
def CompAll (J:It) (nt:Nat) (fr:List Nat) (g:TG) (c:TT) (te:TE) (σ:St) (H1:Hp) (Q:VK):Prop:=∀acc,H1 acc=none→CompGoal J nt fr g c te σ H1 Q acc
theorem w_compL {K:W.Frag} {t0 te:TE} {nt:Nat} {fr:List Nat} {g:TG} {c:TT} {σ:St} {H:Hp} {Q:VK} (h:t0 σ H fun x H1=>∃a,x=.ref a∧(∃xs,SqL K H1 a xs)∧CompAll (Itl K a) nt fr g c te σ H1 Q):tComp (iList K t0) nt fr g c te σ H Q:=h
theorem comp_map {J:It} {xs:List V} {Lk:Hp→Prop} {te:TE} {σ:St} {H:Hp} {Q:VK} {fr:List Nat} {fvs:St} {P:Nat→V→Prop} (it:L2.ItemsOf J xs Lk) (hz:xs.length≤1000000) (hf:(fr.map fun i=>(σ[i]?).getD none)=fvs) (hL:∀H',Same H H'→Lk H')
  (turn:∀(i:Nat) (v:V) (H':Hp) (R:VK),xs[i]?=some v→Same H H'→(∀y H2,Same H' H2→P i y→R y H2)→te (some v::fvs) H' R)
  (k:∀l H' ys,New H H' l (.lst ys)→ys.length=xs.length→(∀(i:Nat) (y:V),ys[i]?=some y→P i y)→Q (.ref l) H'):CompAll J 1 fr (gName 0) tTrue te σ H Q:=by
 intro acc hacc
 subst hf
 have nacc:∀b u,H b=some u→b≠acc:=fun b u e=>ne_of_none e hacc
 refine comp_by it (fun i ys H'=>H' acc=some (.lst ys)∧Same H H'∧ys.length=i∧∀(j:Nat) (y:V),ys[j]?=some y→P j y) ⟨upd_same,Same.new hacc,rfl,fun j y e=>by simp at e⟩ (fun i ys H' _ h=>⟨hL H' h.2.1,h.1⟩) ?_ ?_
 ·rintro i x tv ys H' hx hi ⟨ha,hs,hl,hp⟩ htv
  obtain ⟨tv0,rfl⟩:∃a,tv=[a]:=List.length_eq_one_iff.mp htv
  unfold gName tTrue
  dsimp only
  rw [if_pos rfl]
  refine turn i x H' _ hx hs fun y H2 s2 py=>⟨?_,s2 _ _ ha,CompW.next (tv:=[some x]) hi ⟨upd_same,fun b u e=>?_,by rw [List.length_append,hl];rfl,fun j z e=>?_⟩ rfl⟩
  ·rw [hl]
   exact Nat.lt_of_lt_of_le hi (small_line hz)
  ·rw [upd_ne (nacc b u e)]
   exact s2 _ _ (hs _ _ e)
  ·by_cases hj:j < ys.length
   ·rw [List.getElem?_append_left hj] at e
    exact hp j z e
   ·rw [List.getElem?_append_right (by lia)] at e
    have hj2:j - ys.length=0:=by
     by_cases h0:j - ys.length=0
     ·exact h0
     ·rw [List.getElem?_eq_none (by simp;lia)] at e
      cases e
    rw [hj2] at e
    cases e
    have:j=i:=by lia
    rw [this]
    exact py
 ·rintro ys H' ⟨ha,hs,hl,hp⟩
  exact k acc H' ys ⟨hs,ha,nacc⟩ hl hp
section
variable {X:Cx} {pins:List (Addr×Obj)} {EX:St→XK} {k m:Nat} {x:Str} {ps:List Str} {sp:Sp} {p pos apos:Pos} {e o:Expr} {es:List Expr} {t:TA} {ta:TE} {f C:Addr} {fd:FuncData} {nm:Str}
structure CMeth (K:W.Frag) (C:Addr) (m:Str) (f:Addr):Prop where
 ga:W.specialIn K (.ref C) "__getattribute__" = some (some (.builtin "type.__getattribute__"))
 rd:W.readsIn K C (.type "type")=true
 at_:W.findCls K (.ref C) (.type "type") m=some (.val (.ref f))
 hi:W.handedIn (.ref f)=true
 kp:W.keepIn K (.ref f)=true
end
section
variable {P:Program} {w:World} {K:W.Frag} {mg:Str→Option Value} {base:Heap} {CX:CXT} {k:Nat} {x nm qual:Str} {ps:List Str} {sp:Sp} {C:Addr}
structure Met (P:Program) (w:World) (K:W.Frag) (mg:Str→Option Value) (base:Heap) (CX:CXT) (k:Nat) (C:Addr) (nm:Str) (ps:List Str) (sp:Sp):Prop where
 ex:∃(f:Addr) (fd:FuncData),FnOk P w K mg base CX k f fd ps sp∧Meth K C nm f∧Binds K fd ps []
structure Mak (P:Program) (w:World) (K:W.Frag) (mg:Str→Option Value) (base:Heap) (CX:CXT) (k:Nat) (x:Str) (C:Addr) (ps:List Str) (sp:Sp):Prop where
 ex:∃(f:Addr) (fd:FuncData),FnOk P w K mg base CX k f fd ps sp∧Mk K C f∧mg x=some (.ref C)∧Binds K fd ps []
def FnAt (K:W.Frag) (nm qual:Str) (st:Stmt) (f:Addr):Prop:=∃fd:FuncData,Fun K nm qual st f fd
structure FnTells (P:Program) (w:World) (K:W.Frag) (mg:Str→Option Value) (base:Heap) (CX:CXT) (k:Nat) (f:Addr) (ps:List Str) (sp:Sp):Prop where
 ex:∃fd:FuncData,FnOk P w K mg base CX k f fd ps sp∧Binds K fd ps []
theorem FnTells.met {f:Addr} (t:FnTells P w K mg base CX k f ps sp) (m:Meth K C nm f):Met P w K mg base CX k C nm ps sp:=let ⟨fd,F,b⟩:=t.ex;⟨f,fd,F,m,b⟩
theorem FnTells.mak {f:Addr} (t:FnTells P w K mg base CX k f ps sp) (m:Mk K C f) (g:mg x=some (.ref C)):Mak P w K mg base CX k x C ps sp:=let ⟨fd,F,b⟩:=t.ex;⟨f,fd,F,m,g,b⟩
variable {st:Stmt} {N:List Str} {f:Addr}
theorem fn_tells (h:FnAt K nm qual st f) (S:FnScope N ps (defScope st)) (len:∀vs H Q E,sp vs H Q E→vs.length=ps.length)
  (hb:∀(kV doc pm:Value) (an:Option Addr) (cdv ct:Value) (us:List Value),us.length=ps.length→bindArgs (W.fnOf nm qual (defArgs st) (defBody st) (defScope st) .none kV doc pm an cdv ct) ⟨us,[]⟩=pure (ps.zip us))
  (hbody:∀(f:Addr) (cdv:Value) (A:Around) (outer:List Env) (s:Shared) (H:Hp) (vs:List V) (Q:VK) (E:XK),Room k (A.deeper (envOfC qual (defScope st) s.heap.objs.size f cdv))→sp vs H Q E →
   ∃t,PSs (cxOf CX P w K mg base N qual (defScope st) f cdv A outer s H E).nox (defBody st) t∧t { nx:=fun _ H'=>Q .non H',rt:=Q } (start N vs) H):FnTells P w K mg base CX (k + 1) f ps sp:=by
 obtain ⟨fd,F⟩:=h
 refine ⟨fd,?_,F.binds hb⟩
 obtain ⟨oc,od,kV,doc,pm,an,cdv,ct,osl,rfl,lk,hcd⟩:=F.ex
 refine fn_of lk hcd S len fun A outer s H vs Q E hr hsp=>?_
 obtain ⟨t,h,q⟩:=hbody f cdv A outer s H vs Q E hr hsp
 exact ⟨t,h.nox,q⟩
end
section
variable {X:Cx} {CX:CXT} {k m:Nat} {x nm:Str} {ps:List Str} {sp:Sp} {E:XK} {p pos apos:Pos} {e o:Expr} {es:List Expr} {t:TA} {ta:TE} {C:Addr} {pins:List (Addr×Obj)} {EX:St→XK}
theorem pe_met0 {pl:Sem Bool} (he:PE X o ta) (c:Cls X.K C) (D:Met X.prog X.w X.K X.mg X.base CX k C nm ps sp) (hr:Room m X.A) (hk:k≤m:=by decide) (hx:Passes CX X E:=by exact pass0)
  (ht:eval (.Call (.Attribute o nm apos) [] [] pos) X.env=(do
   let ov ← eval o X.env
   standAt apos.atName
   let (f,first) ← holding [ov] (getMethod ov nm pl)
   callWith pos f first (backTo pos (starEach [] X.env)) (backToKw pos (keywordEach [] X.env))):=by rfl) :
  PE X (.Call (.Attribute o nm apos) [] [] pos) (tMeth C nm sp [] E ta tNil):=by
 obtain ⟨f,fd,F,mt,b⟩:=D.ex
 exact pe_meth0 (pl:=pl) he c mt F (hr.mono hk) b .nil hx ht
end
end L2
namespace L2
open PySem PySem.Spec PyProof.Rows
def Bd (k:Nat) (x:Int):Prop:=0≤x∧x < 2 ^ k
theorem p2_pos (k:Nat):(0:Int) < 2 ^ k:=by
 have:(0:Nat) < 2 ^ k:=Nat.pow_pos (by decide)
 exact_mod_cast this
theorem Bd.mul {a b:Nat} {x y:Int} (hx:Bd a x) (hy:Bd b y):Bd (a + b) (x * y):=by
 refine ⟨Int.mul_nonneg hx.1 hy.1,?_⟩
 rw [Int.pow_add]
 exact Int.lt_of_le_of_lt (Int.mul_le_mul_of_nonneg_left (Int.le_of_lt hy.2) hx.1) (Int.mul_lt_mul_of_pos_right hx.2 (p2_pos b))
theorem Bd.le {k:Nat} {x y:Int} (h:Bd k x) (h0:0≤y) (hy:y≤x):Bd k y:=⟨h0,Int.lt_of_le_of_lt hy h.2⟩
theorem go_compR {σ:St} {H:Hp} {te:TE} {tr:TA} {Q:VK} {fr:List Nat} {fvs:St} {n:Nat} (Iv:Addr→Nat→List V→Hp→Prop) (hr:TelA tr σ H [.int (n:Int)]) (hz:n≤1000000) (hf:(fr.map fun i=>(σ[i]?).getD none)=fvs)
  (h0:∀acc H',New H H' acc (.lst [])→Iv acc 0 [] H') (ha:∀acc i ys H',Iv acc i ys H'→H' acc=some (.lst ys)∧ys.length=i)
  (turn:∀acc i ys H' (R:VK),i < n→Iv acc i ys H'→(∀y H2,H2 acc=some (.lst ys)→(∀H3,Off acc H2 H3→H3 acc=some (.lst (ys++[y]))→Iv acc (i + 1) (ys++[y]) H3)→R y H2)→te (some (.int i)::fvs) H' R)
  (k:∀acc ys H',Iv acc n ys H'→Q (.ref acc) H'):tComp (iRng1 tr) 1 fr (gName 0) tTrue te σ H Q:=by
 refine hr _ ⟨n,rfl,by lia,by lia,fun acc hacc=>?_⟩
 subst hf
 rw [Int.toNat_natCast]
 refine comp_by items_range (fun i ys H'=>Iv acc i ys H') (h0 acc _ (.mk' hacc)) (fun i ys H' _ h=>⟨trivial,(ha acc i ys H' h).1⟩) ?_ ?_
 ·rintro i x tv ys H' hx hi h htv
  obtain ⟨tv0,rfl⟩:∃a,tv=[a]:=List.length_eq_one_iff.mp htv
  have hi':i < n:=by simpa [rangeV] using hi
  obtain rfl:=rangeV_get hx hi'
  unfold gName tTrue
  dsimp only
  rw [if_pos rfl]
  refine turn acc i ys H' _ hi' h fun y H2 h1 h2=>⟨?_,h1,CompW.next (tv:=[some (V.int i)]) hi (h2 _ Off.upd upd_same) rfl⟩
  rw [(ha acc i ys H' h).2]
  exact Nat.lt_of_lt_of_le hi' (small_line hz)
 ·rintro ys H' h
  rw [show (rangeV 0 n).length=n by simp [rangeV]] at h
  exact k acc ys H' h
def rAddS:R2:=fun x y H Q=>∃i j,x=.str i∧y=.str j∧i.length + j.length≤sizeLine∧Q (.str (i++j)) H
def rJoin (K:W.Frag):V→List V→Hp→VK→Prop:=fun x xs H Q=>∃sep p ts,x=.str sep∧xs=[.ref p]∧SqL K H p (ts.map V.str)∧sep.length≤16∧(ts.map (fun t=>t.length)).sum + ts.length≤1048576∧Q (.str (sep.join ts)) H
theorem strsAre_of:∀{ts:List Str} {us:List Value},Vals (ts.map V.str) us→StrsAre us ts
 | [],_,.nil=>.nil
 | t::ts,_,.cons r h=>by
  obtain ⟨k,rfl⟩:=r
  exact .cons t k (strsAre_of h)
section
variable {X:Cx} {pos:Pos}
theorem op_addS:OpR X (binaryOp .Add) rAddS:=op_add_str
theorem mt_join:MtR X "str.join" (rJoin X.K):=by
 intro pins s σ H x xs v us Q I rx rs h
 obtain ⟨sep,p,ts,rfl,rfl,hq,h1,h2,q⟩:=h
 obtain ⟨t,rfl⟩:=rx
 obtain ⟨u,rfl,r1⟩:=vals1 rs
 cases r1
 obtain ⟨its,r,pl,hz⟩:=I.list hq
 refine join_listW (items:=its.toArray) (ys:=ts) pl.isList (strsAre_of r) h1 h2 fun t' k=>⟨.str (sep.join ts),H,I.tok _,⟨t',?_⟩,q⟩
 show Value.str (Builtin.Str.glued sep ts) t'=_
 rw [StrLaws.glued_eq_join]
theorem pe_join {o e:Expr} {to te:TE} {apos cpos:Pos} (ho:PE X o to) (he:PE X e te) (hbase:attributeBase o "join" X.env (eval o X.env)=eval o X.env:=by rfl)
  (hfew:((backTo cpos (starEach [e] X.env)).all (fun x=>!x.1) && (backToKw cpos (keywordEach [] X.env)).all (fun x=>x.1.isSome)
   && decide (([e]:List Expr).length + ([]:List Keyword).length + (if ([]:List Keyword).isEmpty then 0 else 1) < 30))=true:=by rfl)
  (hline:(apos.endLine == cpos.line)=true:=by rfl) (hs:starEach [e] X.env=(false,eval e X.env)::starEach [] X.env:=by rfl) :
  PE X (.Call (.Attribute o "join" apos) [e] [] cpos) (tBM X.K "str" (rJoin X.K) to (tCons te tNil)) :=
 pe_bm PySem.F.plainAttrs_str PySem.F.slot_str_join PySem.F.type_str_join mt_join ho (pa_cons he pa_nil hs) hbase hfew hline hs (by rfl)
end
def flatDt:V→Dt
 | .int i=>.int i
 | .str x=>.str x
 | .bl b=>.bl b
 | _=>.non
def isFlat:V→Bool
 | .int _=>true
 | .str _=>true
 | .bl _=>true
 | .non=>true
 | _=>false
section
variable {K:W.Frag} {σ:St} {H:Hp} {Q:VK} {ta tv:TE} {t:TA} {f m:Str} {C:Addr} {sp:Sp} {dvs:List V} {E:XK} {D:Ends}
theorem go_fld (h:ta σ H fun x H1=>∃a C dx fs v,x=.ref a∧H1 a=some (.ins C dx fs)∧Cls K C∧NoAttr K C f∧fs.lookup f=some v∧Q v H1):tFld K ta f σ H Q:=h
theorem w_fld {a dx:Addr} {fs:List (Str×V)} {v:V} {R:V→Prop} (ho:H a=some (.ins C dx fs)) (c:Cls K C) (n:NoAttr K C f) (l:fs.lookup f=some v) (k:R v) :
  ∃a' C' dx' fs' v',V.ref a=.ref a'∧H a'=some (.ins C' dx' fs')∧Cls K C'∧NoAttr K C' f∧fs'.lookup f=some v'∧R v':=⟨a,C,dx,fs,v,rfl,ho,c,n,l,k⟩
end
theorem made_same {H:Hp} {x dx C:Addr} (hx:H x=none) (hd:H dx=none):Same H (upd (upd H dx (.own x)) x (.ins C dx [])):=fun b u e=>by
 rw [upd_ne (ne_of_none e hx),upd_ne (ne_of_none e hd)]
 exact e
def rExtA:V→List V→Hp→VK→Prop:=fun x vs H Q=>∃l b xs zs,x=.ref l∧vs=[.ref b]∧H l=some (.lst xs)∧H b=some (.lst zs)∧xs.length + zs.length≤sizeLine∧∀H',Off l H H'→H' l=some (.lst (xs++zs))→Q .non H'
section
variable {X:Cx}
theorem mt_extA:MtM X "list.extend" rExtA:=by
 intro pins s σ H x vs v us Q I rx rv h
 obtain ⟨l,b,xs,zs,e1,e2,hH,hB,hz,q⟩:=h
 exact mt_extend pins s σ H x vs v us Q I rx rv ⟨l,b,xs,zs,e1,e2,hH,hB,hz,q _ Off.upd upd_same⟩
theorem pe_extA {o e:Expr} {to te:TE} {apos cpos:Pos} (ho:PE X o to) (he:PE X e te) (hbase:attributeBase o "extend" X.env (eval o X.env)=eval o X.env:=by rfl)
  (hfew:((backTo cpos (starEach [e] X.env)).all (fun x=>!x.1) && (backToKw cpos (keywordEach [] X.env)).all (fun x=>x.1.isSome)
   && decide (([e]:List Expr).length + ([]:List Keyword).length + (if ([]:List Keyword).isEmpty then 0 else 1) < 30))=true:=by rfl)
  (hline:(apos.endLine == cpos.line)=true:=by rfl) (hs:starEach [e] X.env=(false,eval e X.env)::starEach [] X.env:=by rfl) :
  PE X (.Call (.Attribute o "extend" apos) [e] [] cpos) (tBM X.K "list" rExtA to (tCons te tNil)) :=
 pe_bm PySem.F.plainAttrs_list PySem.F.slot_list_extend PySem.F.type_list_extend mt_extA ho (pa_cons he pa_nil hs) hbase hfew hline hs (by rfl)
end
end L2
namespace L2
open PySem PySem.Spec PyProof.Rows PySem.SeqAt
section
variable {H H':Hp} {p a l:Addr} {o u:HO}
theorem New.at (n:New H H' p o) (h:H a=some u):H' a=some u:=n.s a u h
theorem Same.at (s:Same H H') (h:H a=some u):H' a=some u:=s a u h
theorem Off.at (f:Off l H H') (ne:a≠l) (h:H a=some u):H' a=some u:=by rw [f a ne];exact h
theorem Kp.at (k:Kp l H H') (ne:a≠l) (h:H a=some u):H' a=some u:=k a u ne h
def RowsAt (H:Hp) (p:Addr) (rows:List (List V)):Prop:=∃ys,H p=some (.lst ys)∧TupsAt H ys rows
theorem RowsAt.same {rows:List (List V)} (s:Same H H') (h:RowsAt H p rows):RowsAt H' p rows:=let ⟨ys,a,b⟩:=h;⟨ys,s _ _ a,b.same s⟩
end
section
variable {X:Cx} {id:String} {x nm:Str} {e v:Expr} {es:List Expr} {t:TA} {tv:TE} {p kp pos:Pos}
def CallK (X:Cx) (id:String) (nm:Str) (r:List V→V→Hp→VK→Prop):Prop:=∀(pins:List (Addr×Obj)) (s:Shared) (σ:St) (H:Hp) (xs:List V) (us:List Value) (y:V) (u:Value) (Q:VK),Inv X pins σ H s→Vals xs us→RelV y u→r xs y H Q →
 wpAny (model X.prog X.w) X.A (call (.builtin id) us [(nm,u)]) (EP X pins σ Q) X.xe s
def tCK (r:List V→V→Hp→VK→Prop) (t:TA) (tv:TE):TE:=fun σ H Q=>t σ H fun xs H1=>tv σ H1 fun y H2=>r xs y H2 Q
theorem go_ck {r:List V→V→Hp→VK→Prop} {σ:St} {H:Hp} {Q:VK} (h:t σ H fun xs H1=>tv σ H1 fun y H2=>r xs y H2 Q):tCK r t tv σ H Q:=h
theorem pe_ckw {r:List V→V→Hp→VK→Prop} (hc:CallK X id nm r) (hg:Gl X x) (hm:X.mg x=none) (hv:bootBuiltins x=some (.builtin id)) (ha:PA X (e::es) t) (hw:PE X v tv) (hn:x ≠ "__name__" := by decide) (hdb:(x == ("__debug__" : Str))=false:=by decide)
  (he:backTo pos (starEach (e::es) X.env)=(false,eval e X.env)::backTo pos (starEach es X.env):=by rfl) (hpl:(backTo pos (starEach (e::es) X.env)).any (·.1)=false:=by rfl):PE X (.Call (.Name x p) (e::es) [⟨some nm,v,kp⟩] pos) (tCK r t tv):=by
 intro pins s σ H Q I h
 refine wpAny_Call_Name_kw (ld_blt I hg hm hv ?_ hn hdb)
 refine callWith_kw (thn (ha pos pins s σ H _ I h) fun us s1 ⟨vs,H1,I1,r1,q1⟩=>?_) he hpl
 refine kws_cons (thn (hw pins s1 σ H1 _ I1 q1) fun z s2 ⟨y,H2,I2,r2,q2⟩=>kws_nil ?_)
 have hv2:Vals vs us:=r1
 exact hc pins s2 σ H2 vs us y z Q I2 hv2 r2 q2
end
theorem valsInts:∀{ns:List Int} {us:List Value},Vals (ns.map V.int) us→IntsAre us ns
 | [],_,.nil=>.nil
 | n::ns,_,.cons r t=>by
  obtain ⟨k,rfl⟩:=r
  exact .cons n k (valsInts t)
theorem intsAre_get:∀{us:List Value} {ns:List Int} {i:Nat} {v:Value},IntsAre us ns→us[i]?=some v→∃t,v=.int (ns.getD i 0) t
 | _,_,_,_,.nil,e=>by simp at e
 | _,_,0,_,.cons n t h,e=>by
  simp at e
  exact ⟨t,e.symm⟩
 | _,_,i + 1,_,.cons n t h,e=>by
  obtain ⟨t',e'⟩:=intsAre_get (i:=i) h (by simpa using e)
  exact ⟨t',by rw [e'];simp⟩
theorem preSum_take (ns:List Int):∀n,n≤ns.length→preSum (fun i=>ns.getD i 0) n=(ns.take n).sum
 | 0,_=>by simp [preSum]
 | n + 1,h=>by
  rw [preSum,preSum_take ns n (by lia),List.take_succ,List.sum_append]
  have:ns[n]?=some ns[n]:=by simp
  rw [List.getD_eq_getElem?_getD,this]
  simp
theorem sum_bounds {ns:List Int} (h:∀n∈ns,0≤n∧n≤1000000):0≤ns.sum∧ns.sum≤1000000 * (ns.length:Int):=by
 induction ns with
 | nil=>simp
 | cons a t ih =>
  have h1:=h a List.mem_cons_self
  have h2:=ih fun n hn=>h n (List.mem_cons_of_mem _ hn)
  rw [List.sum_cons,List.length_cons]
  lia
section
variable {X:Cx}
def rSumL (K:W.Frag):List V→Hp→VK→Prop:=fun xs H Q=>∃(p:Addr) (ns:List Int),xs=[.ref p]∧SqL K H p (ns.map V.int)∧(∀n∈ns,0≤n∧n≤1000000)∧ns.length≤1000000∧Q (.int ns.sum) H
theorem call_sumL (hc:X.calm=true):CallR X (.builtin "sum") (rSumL X.K):=by
 intro pins s σ H xs us Q I r h
 obtain ⟨p,ns,rfl,hq,hb,hz,q⟩:=h
 obtain ⟨u,rfl,rx⟩:=vals1 r
 cases rx
 obtain ⟨its,rv,pl,_⟩:=I.list hq
 have hi:=valsInts rv
 have hn:its.length=ns.length:=by have:=rv.length;simpa using this.symm
 have hl:=pl.isList
 have hlt:p < s.heap.objs.size:=let ⟨_,e,_⟩:=hl;Heap.lt_size e
 have part:∀j,j≤ns.length→0≤(ns.take j).sum∧(ns.take j).sum≤1000000 * 1000000:=fun j hj=>by
  have b:=sum_bounds (ns:=ns.take j) fun n hn=>hb n (List.mem_of_mem_take hn)
  have:(ns.take j).length≤1000000:=by rw [List.length_take];lia
  lia
 refine call_sum_walk (wpAny_pyIter_list hl ?_)
 refine ⟨s.heap.objs.size,[s.heap.objs.size,p],[s.heap.objs.size],its.toArray.size,_,_,fun i=>ns.getD i 0,rfl,Walks.list (A:=X.A.in1) (I.ok.hd hc) _ p (Nat.ne_of_lt hlt) its.toArray,
  ⟨⟨_,Heap.get?_push_size _ rfl,rfl,rfl⟩,hl.push _⟩,fun b hb'=>?_,fun i v hP=>intsAre_get hi (by simpa using hP),fun j hj=>?_,fun h' tk t' hk=>?_⟩
 ·rcases List.mem_cons.mp hb' with rfl | hb'
  ·show _ < (s.heap.push _).objs.size
   rw [size_push']
   exact Nat.lt_succ_self _
  ·rw [List.mem_singleton.mp hb']
   show _ < (s.heap.push _).objs.size
   rw [size_push']
   exact Nat.lt_succ_of_lt hlt
 ·have hj':j < ns.length:=by rw [← hn];simpa using hj
  rw [preSum_take ns (j + 1) hj']
  have b1:=part (j + 1) hj'
  have b2:=hb (ns.getD j 0) (by rw [List.getD_eq_getElem?_getD,List.getElem?_eq_getElem hj'];exact List.getElem_mem hj')
  exact ⟨⟨by show _≤ns.getD j 0;lia,by show ns.getD j 0 < _;lia⟩,by lia,by lia⟩
 ·rw [List.size_toArray,hn,preSum_take ns _ (Nat.le_refl _),List.take_length]
  exact ⟨.int _,H,I.kept (LSm.kept_iter hk),⟨_,rfl⟩,q⟩
section
variable {P:Program} {w:World} {A:Around} {R:Result→Shared→Prop} {it:Addr} {fp wr:List Addr} {ns:List Int} {V0:Nat→Value→Prop} {St0:Nat→Heap→Prop} {kw:List (Str×Value)}
abbrev bestObj (vs:Array Value) (c:Nat):Obj:={ cls:=.type "list", dict:=none,data:=.seq vs c,slots:=#[] }
end
theorem call_kw_tree {P:Program} {w:World} {A:Around} {E:Value→Shared→Prop} {s:Shared} {id:String} {b:Builtin} {args:List Value} {kw:List (Str×Value)} {Q:Value→Shared→Prop} (hk:builtinKind id=none) (hp:plainId id=true)
  (hb:entryFor table id=some b) (ha:argsOk id ⟨args,kw⟩)
  (hc:wpAny (model P w) A.in1 (b ⟨args,kw⟩) (fun fin s1=>match fin with
   | .done f=>(match (Except.ok f:Result) with | .ok (.ret v)=>Q v s1 | .ok _=>False | .error e=>E e s1)
   | .again c=>c.quiet=true∧codeAny (model P w) A c (fun r s2=>match r with | .ok (.ret v)=>Q v s2 | .ok _=>False | .error e=>E e s2) s1) E s):wpAny (model P w) A (call (.builtin id) args kw) Q E s:=by
 refine wpAny_call (codeAny_call_builtin hp hb ?_)
 simp only [checkBuiltinCall,hk]
 unfold argsOk at ha
 cases hg:Manifest.signature? id with
 | none=>exact wpAny_pure hc
 | some sg =>
  rw [hg] at ha
  have ha2:Bind.checkArgs id sg ⟨args,kw⟩=pure ():=ha
  simp only [ha2]
  exact wpAny_pure hc
end
theorem cx_K {CX:CXT} {P:Program} {w:World} {K:W.Frag} {mg:Str→Option Value} {base:Heap} {N:List Str} {q:Str} {sc:Scope} {f:Addr} {cdv:Value} {A:Around} {outer:List Env} {s:Shared} {H:Hp} {E:XK}:(cxOf CX P w K mg base N q sc f cdv A outer s H E).nox.K=K:=rfl
theorem cx_K2 {CX:CXT} {P:Program} {w:World} {K:W.Frag} {mg:Str→Option Value} {base:Heap} {N:List Str} {q:Str} {sc:Scope} {f:Addr} {cdv:Value} {A:Around} {outer:List Env} {s:Shared} {H:Hp} {E:XK}:(cxOf CX P w K mg base N q sc f cdv A outer s H E).K=K:=rfl
def Hs (H:Hp) (a:Addr):Prop:=∃u,H a=some u
section
variable {H H':Hp} {a p l:Addr} {o u:HO}
theorem Hs.of (h:H a=some u):Hs H a:=⟨u,h⟩
theorem New.hs (n:New H H' p o):Hs H' p:=⟨o,n.e⟩
end
section
variable {H:Hp} {Q:VK} {K:W.Frag} {l b:Addr} {xs ys:List V} {y:V} {σ:St} {D:Ends}
theorem made_ok {o:HO} {n:Nat} {Z:Addr→Hp→Prop} (z:n≤sizeLine) (k:∀p H',New H H' p o→Z p H'):n≤sizeLine∧∀p H',New H H' p o→Z p H':=⟨z,k⟩
theorem w_tyL {R:Prop} (h:SqL K H l xs) (k:R):tyV K "list" (.ref l) H∧R:=⟨.inl ⟨rfl,_,h⟩,k⟩
theorem w_app (h:H l=some (.lst xs)) (z:xs.length < sizeLine) (k:∀H',Off l H H'→H' l=some (.lst (xs++[y]))→Q .non H'):rAppA (.ref l) [y] H Q:=⟨l,xs,y,rfl,rfl,h,z,k⟩
theorem w_ext (h:H l=some (.lst xs)) (e:H b=some (.lst ys)) (z:xs.length + ys.length≤sizeLine) (k:∀H',Off l H H'→H' l=some (.lst (xs++ys))→Q .non H'):rExtA (.ref l) [.ref b] H Q:=⟨l,b,xs,ys,rfl,rfl,h,e,z,k⟩
theorem w_setA {i:Int} {j:Nat} {v:V} {R:Hp→Prop} (h:H l=some (.lst xs)) (e:ixN xs.length i=some j) (k:∀H',Off l H H'→H' l=some (.lst (xs.set j v))→R H'):rSetA (.ref l) (.int i) v H R:=⟨l,xs,i,j,rfl,rfl,h,e,k⟩
theorem w_slA {lo hi:Option Int} (h:SqL K H l xs) (k:∀p H',New H H' p (.lst (cutV xs lo hi))→Q (.ref p) H'):rSlA K (.ref l) lo hi H Q:=⟨l,xs,rfl,h,k⟩
theorem w_catA (h:H l=some (.lst xs)) (e:H b=some (.lst ys)) (z:xs.length + ys.length≤sizeLine) (k:∀p H',New H H' p (.lst (xs++ys))→Q (.ref p) H'):rCatA (.ref l) (.ref b) H Q:=⟨l,b,xs,ys,rfl,rfl,h,e,z,k⟩
theorem w_rep1 {n:Nat} (h:H l=some (.lst [y])) (z:n≤1000000) (k:∀p H',New H H' p (.lst (List.replicate n y))→Q (.ref p) H'):rRepA (.ref l) (.int (n:Int)) H Q :=
 ⟨l,n,[y],rfl,rfl,h,by lia,by lia,by simp only [List.length_singleton,Int.toNat_natCast,Nat.one_mul];exact small_line z,fun p H' q=>k p H' (by
  have e:(List.replicate ((n:Int).toNat) [y]).flatten=List.replicate n y:=by
   rw [Int.toNat_natCast]
   clear z q k h
   induction n with
   | zero=>rfl
   | succ n ih=>rw [List.replicate_succ,List.flatten_cons,ih];rfl
  rw [← e];exact q)⟩
theorem w_lofL (h:SqL K H l xs) (k:∀p H',New H H' p (.lst xs)→Q (.ref p) H'):rLOfA K [.ref l] H Q:=⟨l,xs,rfl,.inl h,k⟩
theorem w_sumL {ns:List Int} (h:SqL K H l (ns.map V.int)) (hb:∀n∈ns,0≤n∧n≤1000000) (hz:ns.length≤1000000) (k:Q (.int ns.sum) H):rSumL K [.ref l] H Q:=⟨l,ns,rfl,h,hb,hz,k⟩
theorem w_meth {C dx:Addr} {fs:List (Str×V)} {m:Str} {R:Prop} (h:H l=some (.ins C dx fs)) (e:fs.lookup m=none) (k:R):∃a' dx' fs',V.ref l=.ref a'∧H a'=some (.ins C dx' fs')∧fs'.lookup m=none∧R:=⟨l,dx,fs,rfl,h,e,k⟩
theorem i_idx {n:Nat} {i:Int} (h0:0≤i) (h1:i < n):ixN n i=some i.toNat:=by unfold ixN;rw [if_pos h0,if_pos h1]
theorem atL1 {x y:V} {r:List V}:atI (x::y::r) 1=some y:=atI_nat (j:=1) rfl
theorem atL2 {x y z:V} {r:List V}:atI (x::y::z::r) 2=some z:=atI_nat (j:=2) rfl
theorem atL3 {x y z w:V} {r:List V}:atI (x::y::z::w::r) 3=some w:=atI_nat (j:=3) rfl
theorem i_tt {A B:Prop} (k:A):if (true:Bool)=true then A else B:=by rw [if_pos rfl];exact k
theorem i_ff {A B:Prop} (k:B):if (false:Bool)=true then A else B:=by rw [if_neg (by decide)];exact k
theorem i_ntt {A B:Prop} (k:B):if (!true:Bool)=true then A else B:=by rw [if_neg (by decide)];exact k
theorem i_nff {A B:Prop} (k:A):if (!false:Bool)=true then A else B:=by rw [if_pos (by decide)];exact k
theorem w_isTT (h:H l=some (.tup xs)) (k:Q (.bl true) H):rIsT K [.ref l,.ty "tuple"] H Q:=w_is (.tup h) (bt_tuple (.tup h)) k
theorem w_isLL (h:H l=some (.lst xs)) (k:Q (.bl true) H):rIsT K [.ref l,.ty "list"] H Q:=w_is (.lst h) (bt_list (.lst h)) k
theorem small_lt {n:Nat} (h:n < 1000000):n < sizeLine:=Nat.lt_of_lt_of_le h (small_line (Nat.le_refl _))
theorem w_tupB {n i0 i1:Nat} {a b:V} {R:St→Hp→Prop} (hn:n=2) (hp:SqT K H l [a,b]) (h:gName i0 a σ H fun σ1 H1=>gName i1 b σ1 H1 R):gTup K n (gCons (gName i0) (gCons (gName i1) gNil)) (.ref l) σ H R:=by
 subst hn
 exact w_tup2 hp h
theorem w_ixM {i:Int} (h:SqL K H l xs) (h0:0≤i) (h1:i < xs.length) (k:∀v∈xs,Q v H):rIxL K (.ref l) (.int i) H Q:=let ⟨v,e,m⟩:=atI_lt h0 h1;w_ixL h e (k v m)
theorem tups_at {rows:List (List V)} {i:Nat} {v:V} (h:TupsAt H xs rows) (e:xs[i]?=some v):∃r q,rows[i]?=some r∧v=.ref q∧H q=some (.tup r):=by
 have hi:i < rows.length:=by rw [← h.1];exact (List.getElem?_eq_some_iff.mp e).1
 obtain ⟨q,e1,e2⟩:=h.2 i rows[i] (by simp)
 rw [e] at e1
 exact ⟨rows[i],q,by simp,Option.some.inj e1,e2⟩
theorem comp_rows {te:TE} {fr:List Nat} {fvs:St} {rows:List (List V)} {F:List V→V} (hq:H l=some (.lst xs)) (tp:TupsAt H xs rows) (hz:xs.length≤1000000) (hf:(fr.map fun i=>(σ[i]?).getD none)=fvs)
  (turn:∀(q:Addr) (r:List V) (H':Hp) (R:VK),r∈rows→Same H H'→H' q=some (.tup r)→(∀H2,Same H' H2→R (F r) H2)→te (some (.ref q)::fvs) H' R)
  (k:∀p H',New H H' p (.lst (rows.map F))→Q (.ref p) H'):CompAll (Itl K l) 1 fr (gName 0) tTrue te σ H Q:=by
 refine comp_map (P:=fun i y=>∃r,rows[i]?=some r∧y=F r) (items_list (xs:=xs)) hz hf (fun H' s=>s.seq (SqL.of hq)) (fun i v H' R hv s kk=>?_) fun p H' ys n hl hP=>k p H' ?_
 ·obtain ⟨r,q,e1,rfl,e2⟩:=tups_at tp hv
  exact turn q r H' R (List.mem_of_getElem? e1) s (s _ _ e2) fun H2 s2=>kk _ _ s2 ⟨r,e1,rfl⟩
 ·have e:ys=rows.map F:=by
   apply List.ext_getElem?
   intro i
   rw [List.getElem?_map]
   by_cases hi:i < ys.length
   ·obtain ⟨r,e1,e2⟩:=hP i ys[i] (by simp)
    rw [e1,List.getElem?_eq_getElem hi,e2]
    rfl
   ·have:¬ i < rows.length:=by rw [← tp.1];lia
    rw [List.getElem?_eq_none (by lia),List.getElem?_eq_none (by lia)]
    rfl
  rw [e] at n
  exact n
end
section
variable {K:W.Frag} {g:TG} {tb:TS} {D:Ends} {σ:St} {H:Hp} {tr:TA}
def ForR (lo:Int) (n:Nat) (g:TG) (tb:TS) (D:Ends) (σ:St) (H:Hp):Prop:=∃W:Nat→Nat→St→Hp→Prop,(∃m,W 0 m σ H)∧∀i m σ H,W i m σ H →
 ((Itr lo n).stop i H∧D.nx σ H)∨((Itr lo n).go i H∧∃N:St→Hp→Prop,(∀σ' H',N σ' H'→∃m',m' < m∧W (i + 1) m' σ' H')∧∀x H',(Itr lo n).yld i H x H'→g x σ H' fun σ2 H2=>tb { D with nx:=N,ct:=N,bk:=D.nx } σ2 H2)
theorem forR_by {lo:Int} {n:Nat} (Pv:Nat→St→Hp→Prop) (h0:Pv 0 σ H) (hs:∀i σ H,i < n→Pv i σ H→g (.int (lo + i)) σ H fun σ2 H2=>tb { D with nx:=Pv (i + 1),ct:=Pv (i + 1),bk:=D.nx } σ2 H2) (hd:∀σ H,Pv n σ H→D.nx σ H):ForR lo n g tb D σ H:=for_range Pv h0 hs hd
theorem w_forR1 (h:tr σ H fun vs H1=>∃j:Int,vs=[.int j]∧-(2 ^ 62)≤j∧j < 2 ^ 62∧ForR 0 j.toNat g tb D σ H1):tFor (iRng1 tr) g tb D σ H:=h
theorem w_forR2 (h:tr σ H fun vs H1=>∃i j:Int,vs=[.int i,.int j]∧(-(2 ^ 62)≤i∧i < 2 ^ 62∧-(2 ^ 62)≤j∧j < 2 ^ 62)∧ForR i (j - i).toNat g tb D σ H1):tFor (iRng2 tr) g tb D σ H:=h
theorem l_by {a:Addr} {xs:List V} (h:SqL K H a xs) (k:ForL K a g tb D σ H):∃a',V.ref a=.ref a'∧(∃xs,SqL K H a' xs)∧ForL K a' g tb D σ H:=⟨a,rfl,⟨xs,h⟩,k⟩
theorem c_by {a:Addr} {xs:List V} {nt:Nat} {fr:List Nat} {c:TT} {te:TE} {Q:VK} (h:SqL K H a xs) (k:CompAll (Itl K a) nt fr g c te σ H Q):∃a',V.ref a=.ref a'∧(∃xs,SqL K H a' xs)∧CompAll (Itl K a') nt fr g c te σ H Q:=⟨a,rfl,⟨xs,h⟩,k⟩
end
section
variable {K:W.Frag} {σ:St} {H:Hp} {Q:VK} {ta tv:TE} {t:TA} {f m:Str} {C:Addr} {sp:Sp} {E:XK} {D:Ends}
def SetF (K:W.Frag) (f:Str) (y x:V) (H:Hp) (R:Hp→Prop):Prop:=∃a C dx fs,x=.ref a∧H a=some (.ins C dx fs)∧Cls K C∧NoAttr K C f∧fs.length < 1000∧R (upd H a (.ins C dx (putF f y fs)))
theorem go_sfldB (h:tv σ H fun y H1=>ta σ H1 fun x H2=>SetF K f y x H2 fun H3=>D.nx σ H3):sFld K ta tv f D σ H:=h
theorem w_setF {l dx:Addr} {fs:List (Str×V)} {y:V} {R:Hp→Prop} (ho:H l=some (.ins C dx fs)) (c:Cls K C) (n:NoAttr K C f) (z:fs.length < 1000) (k:∀H',Off l H H'→H' l=some (.ins C dx (putF f y fs))→R H'):SetF K f y (.ref l) H R :=
 ⟨l,C,dx,fs,rfl,ho,c,n,z,k _ Off.upd upd_same⟩
def tMakeB (C:Addr) (sp:Sp) (E:XK) (t:TA):TE:=fun σ H Q=>t σ H fun vs H1=>∀x dx H2,New H1 H2 x (.ins C dx [])→sp (.ref x::vs) H2 (fun v H3=>v=.non∧Q (.ref x) H3) E
theorem go_makeB (h:t σ H fun vs H1=>∀x dx H2,New H1 H2 x (.ins C dx [])→sp (.ref x::vs) H2 (fun v H3=>v=.non∧Q (.ref x) H3) E):tMakeB C sp E t σ H Q:=h
theorem go_methB (h:ta σ H fun x H1=>∃a dx fs,x=.ref a∧H1 a=some (.ins C dx fs)∧fs.lookup m=none∧t σ H1 fun vs H2=>sp (x::vs) H2 Q E):tMeth C m sp [] E ta t σ H Q:=by
 have e:(fun (x:V) (H1:Hp)=>∃a dx fs,x=.ref a∧H1 a=some (.ins C dx fs)∧fs.lookup m=none∧t σ H1 fun vs H2=>sp (x::(vs++[])) H2 Q E)=fun x H1=>∃a dx fs,x=.ref a∧H1 a=some (.ins C dx fs)∧fs.lookup m=none∧t σ H1 fun vs H2=>sp (x::vs) H2 Q E:=by
  simp only [List.append_nil]
 show ta σ H fun x H1=>∃a dx fs,x=.ref a∧H1 a=some (.ins C dx fs)∧fs.lookup m=none∧t σ H1 fun vs H2=>sp (x::(vs++[])) H2 Q E
 rw [e]
 exact h
end
section
variable {X:Cx} {CX:CXT} {k m:Nat} {x:Str} {ps:List Str} {sp:Sp} {E:XK} {p pos:Pos} {e:Expr} {es:List Expr} {t:TA} {C:Addr}
theorem pe_makB (D:Mak X.prog X.w X.K X.mg X.base CX k x C ps sp) (hr:Room m X.A) (ha:PA X (e::es) t) (hk:k + 1≤m:=by decide) (hx:Passes CX X E:=by exact pass0) (hg:Gl X x:=by rfl)
  (hdb:(x == ("__debug__" : Str))=false:=by decide) (he:starEach (e::es) X.env=(false,eval e X.env)::starEach es X.env:=by rfl) (hpl:(backTo pos (starEach es X.env)).any (·.1)=false:=by rfl) :
  PE X (.Call (.Name x p) (e::es) [] pos) (tMakeB C sp E t):=by
 obtain ⟨f,fd,F,M,g,b⟩:=D.ex
 intro pins s σ H Q I h
 refine wpAny_Call_Name_kw (ld_glob I hg g ?_ hdb)
 refine W.callWith_K (h₀:=X.base) I.ok.mod.kin M.kp (thn (ha pos pins s σ H _ I h) fun us s1 ⟨vs,H1,I1,r,q⟩=>⟨I1.kIn,?_⟩) he hpl
 refine run_make M F (hr.mono hk) b .nil hx I1 r fun y dy h1 h2 h3=>?_
 rw [List.append_nil]
 exact q y dy _ ⟨made_same h1 h2,upd_same,fun a u z=>ne_of_none z h1⟩
end
def isFr:V→Int→Bool
 | .int i,lo=>decide (lo≤i)
 | _,_=>false
def inB:V→Int→Int→Bool
 | .int i,lo,hi=>decide (lo≤i) && decide (i≤hi)
 | _,_,_=>false
section
variable {K:W.Frag} {H:Hp} {Q:VK} {E:XK} {x:V} {n:String} {p q:Addr} {a b c lo hi:Int}
def sp_whole (K:W.Frag):Sp:=fun vs H Q _=>∃x n,vs=[x]∧TyOf K H x (.type n)∧Q (.bl (isW x)) H
theorem u_whole (ty:TyOf K H x (.type n)) (k:Q (.bl (isW x)) H):sp_whole K [x] H Q E:=⟨x,n,rfl,ty,k⟩
def sp_is_from (K:W.Frag):Sp:=fun vs H Q _=>∃x n lo,vs=[x,.int lo]∧TyOf K H x (.type n)∧Q (.bl (isFr x lo)) H
theorem u_fromI (k:Q (.bl (decide (lo≤a))) H):sp_is_from K [.int a,.int lo] H Q E:=⟨_,_,lo,rfl,.int _,k⟩
def sp_is_within (K:W.Frag):Sp:=fun vs H Q _=>∃x n lo hi,vs=[x,.int lo,.int hi]∧TyOf K H x (.type n)∧Q (.bl (inB x lo hi)) H
theorem u_within (ty:TyOf K H x (.type n)) (k:Q (.bl (inB x lo hi)) H):sp_is_within K [x,.int lo,.int hi] H Q E:=⟨x,n,lo,hi,rfl,ty,k⟩
def sp_is_many (K:W.Frag):Sp:=fun vs H Q _=>∃x n,vs=[x]∧TyOf K H x (.type n)∧Q (.bl (inB x 16 240)) H
def sp_end_of:Sp:=fun vs H Q _=>∃(q:Addr) (a b:Int),vs=[.ref q]∧H q=some (.tup [.int a,.int b])∧Q (.int (a + b)) H
theorem u_end (h:H q=some (.tup [.int a,.int b])) (k:Q (.int (a + b)) H):sp_end_of [.ref q] H Q E:=⟨q,a,b,rfl,h,k⟩
def rowsN (ws:List (Nat×Nat)):List (List V):=ws.map fun w=>[V.int (w.1:Nat),V.int (w.2:Nat)]
theorem rowsN_len (ws:List (Nat×Nat)):(rowsN ws).length=ws.length:=List.length_map ..
def sp_cellA (K:W.Frag):Sp:=fun vs H Q _=>∃(a:Addr) (ns:List Int) (k:Int),vs=[.ref a,.int k]∧SqL K H a (ns.map V.int)∧0≤k∧∀c:Int,Q (.int c) H
theorem u_cellA {ns:List Int} {m:Int} (h:SqL K H p (ns.map V.int)) (h0:0≤m) (k:∀c:Int,Q (.int c) H):sp_cellA K [.ref p,.int m] H Q E:=⟨p,ns,m,rfl,h,h0,k⟩
def sp_boxA:Sp:=fun vs H Q _=>∃c:Int,vs=[.int c]∧∀(p:Addr) (a b:Int) (H':Hp),New H H' p (.lst [.int a,.int b,.int 0])→Q (.ref p) H'
theorem u_boxA (k:∀(p:Addr) (x y:Int) (H':Hp),New H H' p (.lst [.int x,.int y,.int 0])→Q (.ref p) H'):sp_boxA [.int a] H Q E:=⟨a,rfl,k⟩
def sp_takeA:Sp:=fun vs H Q _=>∃(p:Addr) (a b c m:Int),vs=[.ref p,.int m]∧H p=some (.lst [.int a,.int b,.int c])∧0 < m∧m < 1073741824∧∀(r a' b' c':Int) (H':Hp),0≤r→r < m→Off p H H'→H' p=some (.lst [.int a',.int b',.int c'])→Q (.int r) H'
theorem u_takeA {m:Int} (h:H p=some (.lst [.int a,.int b,.int c])) (m0:0 < m) (m1:m < 1073741824) (k:∀(r a' b' c':Int) (H':Hp),0≤r→r < m→Off p H H'→H' p=some (.lst [.int a',.int b',.int c'])→Q (.int r) H'):sp_takeA [.ref p,.int m] H Q E :=
 ⟨p,a,b,c,m,rfl,h,m0,m1,k⟩
end
section
variable {K:W.Frag} {g:TG} {tb:TS} {D:Ends} {σ:St} {H H':Hp} {Q:VK} {l p q:Addr} {xs ys:List V} {rows:List (List V)}
theorem forR0_by {n:Nat} (Pv:Nat→St→Hp→Prop) (h0:Pv 0 σ H) (hs:∀i σ H,i < n→Pv i σ H→g (.int i) σ H fun σ2 H2=>tb { D with nx:=Pv (i + 1),ct:=Pv (i + 1),bk:=D.nx } σ2 H2) (hd:∀σ H,Pv n σ H→D.nx σ H):ForR 0 n g tb D σ H :=
 for_range Pv h0 (fun i σ H hi h=>by rw [Int.zero_add];exact hs i σ H hi h) hd
theorem TupsAt.snoc {r:List V} (h:TupsAt H ys rows) (hq:H q=some (.tup r)):TupsAt H (ys++[.ref q]) (rows++[r]):=by
 refine ⟨by rw [List.length_append,List.length_append,h.1];rfl,fun j s z=>?_⟩
 by_cases hj:j < rows.length
 ·rw [List.getElem?_append_left hj] at z
  obtain ⟨x,e1,e2⟩:=h.2 j s z
  exact ⟨x,by rw [List.getElem?_append_left (by rw [h.1];exact hj)];exact e1,e2⟩
 ·have hj2:j=rows.length:=by
   have:=(List.getElem?_eq_some_iff.mp z).1
   rw [List.length_append,List.length_singleton] at this
   lia
  subst hj2
  rw [List.getElem?_append_right (Nat.le_refl _),Nat.sub_self] at z
  cases z
  exact ⟨q,by rw [← h.1,List.getElem?_append_right (Nat.le_refl _),Nat.sub_self];rfl,hq⟩
def IsPair (H:Hp) (v:V):Option (Nat×Nat)→Prop
 | none=>v=.non
 | some w=>∃q,v=.ref q∧H q=some (.tup [.int (w.1:Nat),.int (w.2:Nat)])
theorem IsPair.same {v:V} {o:Option (Nat×Nat)} (s:Same H H') (h:IsPair H v o):IsPair H' v o:=by
 cases o with
 | none=>exact h
 | some w=>obtain ⟨q,e1,e2⟩:=h;exact ⟨q,e1,s _ _ e2⟩
end
def isTup:HO→Bool
 | .tup _=>true
 | .frz _ _=>true
 | _=>false
def Tst (H H':Hp):Prop:=∀q u,isTup u=true→H q=some u→H' q=some u
inductive Im where
 | tup (q:Addr) (r:List V)
 | tps (ys:List V) (rs:List (List V))
 | fct (φ:Hp→Prop) (st:∀H H',Tst H H'→φ H→φ H')
def Im.holds (H:Hp):Im→Prop
 | .tup q r=>H q=some (.tup r)
 | .tps ys rs=>TupsAt H ys rs
 | .fct φ _=>φ H
theorem Im.stay {H H':Hp} (t:Tst H H'):∀{f:Im},f.holds H→f.holds H'
 | .tup q r,h=>t q _ rfl h
 | .tps ys rs,h=>⟨h.1,fun j r e=>let ⟨q,a,b⟩:=h.2 j r e;⟨q,a,t q _ rfl b⟩⟩
 | .fct φ st,h=>st H H' t h
class SH (H0:outParam Hp) (M:outParam (List Addr)) (H:Hp) (L:outParam (List (Addr×HO))) (I:outParam (List Im)):Prop where
 fr:∀b u,b ∉ M→H0 b=some u→H b=some u
 im:∀f∈I,f.holds H
 at':∀c∈L,H c.1=some c.2
 nd:(L.map (·.1)).Nodup
 mu:∀c∈L,isTup c.2=false
 ch:∀c∈L,c.1∈M∨∀b u,H0 b=some u→b≠c.1
inductive Up (l:Addr) (o':HO):List (Addr×HO)→List (Addr×HO)→Prop
 | head {o:HO} {L:List (Addr×HO)}:Up l o' ((l,o)::L) ((l,o')::L)
 | tail {c:Addr×HO} {L L':List (Addr×HO)} (h:Up l o' L L'):Up l o' (c::L) (c::L')
theorem Up.keys {l:Addr} {o':HO} {L L':List (Addr×HO)} (h:Up l o' L L'):L'.map (·.1)=L.map (·.1):=by
 induction h with
 | head=>rfl
 | tail h ih=>rw [List.map_cons,List.map_cons,ih]
theorem Up.mem {l:Addr} {o':HO} {L L':List (Addr×HO)} (h:Up l o' L L'):l∈L.map (·.1):=by
 induction h with
 | head=>exact List.mem_cons_self
 | tail h ih=>exact List.mem_cons_of_mem _ ih
theorem Up.each {l:Addr} {o':HO} {L L':List (Addr×HO)} (h:Up l o' L L') (nd:(L.map (·.1)).Nodup):∀c∈L',c=(l,o')∨(c∈L∧c.1≠l):=by
 induction h with
 | @head o L =>
  intro c hc
  rcases List.mem_cons.mp hc with rfl | hc
  ·exact .inl rfl
  ·refine .inr ⟨List.mem_cons_of_mem _ hc,fun z=>?_⟩
   rw [List.map_cons] at nd
   exact (List.nodup_cons.mp nd).1 (by show l∈_;rw [← z];exact List.mem_map_of_mem (f:=(·.1)) hc)
 | @tail d L L' h ih =>
  intro c hc
  rw [List.map_cons] at nd
  have nd':=List.nodup_cons.mp nd
  rcases List.mem_cons.mp hc with rfl | hc
  ·exact .inr ⟨List.mem_cons_self,fun z=>nd'.1 (z▸h.mem)⟩
  ·rcases ih nd'.2 c hc with e | ⟨e1,e2⟩
   ·exact .inl e
   ·exact .inr ⟨List.mem_cons_of_mem _ e1,e2⟩
theorem Up.src {l:Addr} {o':HO} {L L':List (Addr×HO)} (h:Up l o' L L'):∃o,(l,o)∈L:=by
 induction h with
 | head=>exact ⟨_,List.mem_cons_self⟩
 | tail h ih=>obtain ⟨o,ho⟩:=ih;exact ⟨o,List.mem_cons_of_mem _ ho⟩
inductive Pk (c:Addr×HO):List (Addr×HO)→List (Addr×HO)→Prop
 | head {L:List (Addr×HO)}:Pk c (c::L) L
 | tail {d:Addr×HO} {L R:List (Addr×HO)} (h:Pk c L R):Pk c (d::L) (d::R)
inductive Sb:List (Addr×HO)→List (Addr×HO)→Prop
 | nil {L:List (Addr×HO)}:Sb [] L
 | cons {c:Addr×HO} {L' L R:List (Addr×HO)} (h:Pk c L R) (t:Sb L' R):Sb (c::L') L
theorem Pk.mem {c:Addr×HO} {L R:List (Addr×HO)} (h:Pk c L R):c∈L∧∀d∈R,d∈L:=by
 induction h with
 | head=>exact ⟨List.mem_cons_self,fun d hd=>List.mem_cons_of_mem _ hd⟩
 | tail h ih =>
  refine ⟨List.mem_cons_of_mem _ ih.1,fun d hd=>?_⟩
  rcases List.mem_cons.mp hd with rfl | hd
  ·exact List.mem_cons_self
  ·exact List.mem_cons_of_mem _ (ih.2 d hd)
theorem Pk.nd {c:Addr×HO} {L R:List (Addr×HO)} (h:Pk c L R) (nd:(L.map (·.1)).Nodup):(R.map (·.1)).Nodup∧∀d∈R,d.1≠c.1:=by
 induction h with
 | head =>
  rw [List.map_cons] at nd
  have:=List.nodup_cons.mp nd
  exact ⟨this.2,fun d hd z=>this.1 (z▸List.mem_map_of_mem hd)⟩
 | @tail d L R h ih =>
  rw [List.map_cons] at nd
  have nd':=List.nodup_cons.mp nd
  obtain ⟨i1,i2⟩:=ih nd'.2
  refine ⟨by
   rw [List.map_cons,List.nodup_cons]
   refine ⟨fun z=>?_,i1⟩
   obtain ⟨x,hx,ex⟩:=List.mem_map.mp z
   exact nd'.1 (ex▸List.mem_map_of_mem (h.mem.2 x hx)),fun x hx=>?_⟩
  rcases List.mem_cons.mp hx with rfl | hx
  ·exact fun z=>nd'.1 (z▸List.mem_map_of_mem h.mem.1)
  ·exact i2 x hx
theorem Sb.mem {L' L:List (Addr×HO)} (h:Sb L' L):∀c∈L',c∈L:=by
 induction h with
 | nil=>intro c hc;cases hc
 | cons h t ih =>
  intro c hc
  rcases List.mem_cons.mp hc with rfl | hc
  ·exact h.mem.1
  ·exact h.mem.2 c (ih c hc)
theorem Sb.nd {L' L:List (Addr×HO)} (h:Sb L' L):(L.map (·.1)).Nodup→(L'.map (·.1)).Nodup:=by
 induction h with
 | nil=>intro _;exact List.nodup_nil
 | cons h t ih =>
  intro nd
  obtain ⟨n1,n2⟩:=h.nd nd
  rw [List.map_cons,List.nodup_cons]
  refine ⟨fun z=>?_,ih n1⟩
  obtain ⟨x,hx,ex⟩:=List.mem_map.mp z
  exact n2 x (t.mem x hx) ex
section
variable {H0 H H':Hp} {M:List Addr} {L L':List (Addr×HO)} {I I':List Im} {p q l a:Addr} {o o' u:HO} {xs ys r:List V} {rs:List (List V)} {K:W.Frag}
theorem SH.nil:SH H M H [] []:=⟨fun _ _ _ h=>h,(fun _ h=>by cases h),(fun _ h=>by cases h),List.nodup_nil,(fun _ h=>by cases h),(fun _ h=>by cases h)⟩
theorem SH.addM (F:SH H0 M H0 L I) (hm:p∈M) (h:H0 p=some o) (ht:isTup o=false) (ne:∀c∈L,c.1≠p):SH H0 M H0 ((p,o)::L) I:=by
 refine ⟨F.fr,F.im,?_,?_,?_,?_⟩
 ·intro c hc
  rcases List.mem_cons.mp hc with rfl | hc
  ·exact h
  ·exact F.at' c hc
 ·rw [List.map_cons,List.nodup_cons]
  refine ⟨fun z=>?_,F.nd⟩
  obtain ⟨x,hx,ex⟩:=List.mem_map.mp z
  exact ne x hx ex
 ·intro c hc
  rcases List.mem_cons.mp hc with rfl | hc
  ·exact ht
  ·exact F.mu c hc
 ·intro c hc
  rcases List.mem_cons.mp hc with rfl | hc
  ·exact .inl hm
  ·exact F.ch c hc
theorem SH.addT (F:SH H0 M H L I) (h:H q=some (.tup r)):SH H0 M H L (.tup q r::I):=⟨F.fr,fun f hf=>by
 rcases List.mem_cons.mp hf with rfl | hf
 ·exact h
 ·exact F.im f hf,F.at',F.nd,F.mu,F.ch⟩
theorem SH.addP (F:SH H0 M H L I) (h:TupsAt H ys rs):SH H0 M H L (.tps ys rs::I):=⟨F.fr,fun f hf=>by
 rcases List.mem_cons.mp hf with rfl | hf
 ·exact h
 ·exact F.im f hf,F.at',F.nd,F.mu,F.ch⟩
theorem SH.addF {φ:Hp→Prop} {st:∀H H',Tst H H'→φ H→φ H'} (F:SH H0 M H L I) (h:φ H):SH H0 M H L (.fct φ st::I):=⟨F.fr,fun f hf=>by
 rcases List.mem_cons.mp hf with rfl | hf
 ·exact h
 ·exact F.im f hf,F.at',F.nd,F.mu,F.ch⟩
theorem SH.same (F:SH H0 M H L I) (s:Same H H'):SH H0 M H' L I:=⟨fun b u n e=>s b u (F.fr b u n e),fun f hf=>Im.stay (fun q u _ e=>s q u e) (F.im f hf),fun c hc=>s _ _ (F.at' c hc),F.nd,F.mu,F.ch⟩
theorem SH.newT (F:SH H0 M H L I) (n:New H H' q (.tup r)):SH H0 M H' L (.tup q r::I):=(F.same n.s).addT n.e
theorem SH.newO (F:SH H0 M H L I) (n:New H H' p o) (ht:isTup o=false):SH H0 M H' ((p,o)::L) I:=by
 have F':=F.same n.s
 refine ⟨F'.fr,F'.im,?_,?_,?_,?_⟩
 ·intro c hc
  rcases List.mem_cons.mp hc with rfl | hc
  ·exact n.e
  ·exact F'.at' c hc
 ·rw [List.map_cons,List.nodup_cons]
  refine ⟨fun z=>?_,F.nd⟩
  obtain ⟨x,hx,ex⟩:=List.mem_map.mp z
  exact n.n _ _ (F.at' x hx) ex
 ·intro c hc
  rcases List.mem_cons.mp hc with rfl | hc
  ·exact ht
  ·exact F.mu c hc
 ·intro c hc
  rcases List.mem_cons.mp hc with rfl | hc
  ·by_cases hm:p∈M
   ·exact .inl hm
   ·exact .inr fun b u e z=>by
     by_cases hb:b∈M
     ·exact hm (by have z':b=p:=z;rw [← z'];exact hb)
     ·exact n.n b u (F.fr b u hb e) z
  ·exact F.ch c hc
theorem SH.newL (F:SH H0 M H L I) (n:New H H' p (.lst xs)):SH H0 M H' ((p,.lst xs)::L) I:=F.newO n rfl
theorem SH.newI {C dx:Addr} {fs:List (Str×V)} (F:SH H0 M H L I) (n:New H H' p (.ins C dx fs)):SH H0 M H' ((p,.ins C dx fs)::L) I:=F.newO n rfl
theorem SH.newR (F:SH H0 M H L I) (n:New H H' p (.lst ys)) (t:TupsAt H' ys rs):SH H0 M H' ((p,.lst ys)::L) (.tps ys rs::I):=(F.newL n).addP t
theorem SH.kp (F:SH H0 M H L I) (k:Kp l H H') (e:H' l=some o') (u:Up l o' L L') (ht:isTup o'=false:=by rfl):SH H0 M H' L' I:=by
 obtain ⟨o,ho⟩:=u.src
 have hl:=F.at' _ ho
 have hu:=F.mu _ ho
 refine ⟨fun b w nb e0=>k b w (fun z=>?_) (F.fr b w nb e0),fun f hf=>Im.stay (fun q v hv e1=>k q _ (fun z=>?_) e1) (F.im f hf),fun c hc=>?_,by rw [u.keys];exact F.nd,fun c hc=>?_,fun c hc=>?_⟩
 ·rcases F.ch _ ho with h | h
  ·exact nb (by rw [z];exact h)
  ·exact h b w e0 z
 ·rw [z,hl] at e1
  cases e1
  rw [hu] at hv
  cases hv
 ·rcases u.each F.nd c hc with rfl | ⟨h1,h2⟩
  ·exact e
  ·exact k _ _ h2 (F.at' c h1)
 ·rcases u.each F.nd c hc with rfl | ⟨h1,h2⟩
  ·exact ht
  ·exact F.mu c h1
 ·rcases u.each F.nd c hc with rfl | ⟨h1,h2⟩
  ·exact F.ch (l,o) ho
  ·exact F.ch c h1
theorem SH.off (F:SH H0 M H L I) (f:Off l H H') (e:H' l=some o') (u:Up l o' L L') (ht:isTup o'=false:=by rfl):SH H0 M H' L' I:=F.kp f.kp e u ht
theorem SH.offL (F:SH H0 M H L I) (f:Off l H H') (e:H' l=some (.lst xs)) (u:Up l (.lst xs) L L'):SH H0 M H' L' I:=F.kp f.kp e u rfl
theorem SH.kpL (F:SH H0 M H L I) (f:Kp l H H') (e:H' l=some (.lst xs)) (u:Up l (.lst xs) L L'):SH H0 M H' L' I:=F.kp f e u rfl
theorem SH.offI {C dx:Addr} {fs:List (Str×V)} (F:SH H0 M H L I) (f:Off l H H') (e:H' l=some (.ins C dx fs)) (u:Up l (.ins C dx fs) L L'):SH H0 M H' L' I:=F.kp f.kp e u rfl
theorem SH.raw (F:SH H0 M H L I) (m:(a,o)∈L):H a=some o:=F.at' _ m
theorem SH.tup (F:SH H0 M H L I) (m:.tup q r∈I):H q=some (.tup r):=F.im _ m
theorem SH.tps (F:SH H0 M H L I) (m:.tps ys rs∈I):TupsAt H ys rs:=F.im _ m
theorem SH.old (F:SH H0 M H L I) (h:H0 a=some u) (n:a ∉ M):H a=some u:=F.fr a u n h
theorem SH.sq (F:SH H0 M H L I) (h:SqL K H0 a xs) (n:a ∉ M):SqL K H a xs:=by
 rcases h with (h | ⟨o,h⟩) | h
 ·exact .inl (.inl (F.fr a _ n h))
 ·exact .inl (.inr ⟨o,F.fr a _ n h⟩)
 ·exact .inr h
theorem SH.sub (F:SH H0 M H L I) (s:Sb L' L) (t:∀f∈I',f∈I):SH H0 M H L' I':=⟨F.fr,fun f hf=>F.im f (t f hf),fun c hc=>F.at' c (s.mem c hc),s.nd F.nd,fun c hc=>F.mu c (s.mem c hc),fun c hc=>F.ch c (s.mem c hc)⟩
theorem SH.sm (F:SH H0 [] H L I):Same H0 H:=fun b u e=>F.fr b u List.not_mem_nil e
theorem SH.kpo (F:SH H0 [p] H L I):Kp p H0 H:=fun b u n e=>F.fr b u (fun z=>n (List.mem_singleton.mp z)) e
theorem SH.nw (F:SH H0 [] H L I) (m:(q,o)∈L):New H0 H q o:=⟨F.sm,F.at' _ m,fun b u e=>by
 rcases F.ch _ m with h | h
 ·exact absurd h List.not_mem_nil
 ·exact h b u e⟩
theorem SH.fresh (F:SH H0 M H L I) (m:(q,o)∈L) (n:q ∉ M):∀b u,H0 b=some u→b≠q:=fun b u e=>by
 rcases F.ch _ m with h | h
 ·exact absurd h n
 ·exact h b u e
theorem nm0:a ∉ ([]:List Addr):=List.not_mem_nil
theorem nm1 (h:a≠p):a ∉ [p]:=fun z=>h (List.mem_singleton.mp z)
theorem SH.app (F:SH H0 M H L I) (m:.tps ys rs∈I) (m':.tup q r∈I):SH H0 M H L (.tps (ys++[.ref q]) (rs++[r])::I):=F.addP ((F.tps m).snoc (F.tup m'))
end
class Go (G:Prop) (G':outParam Prop):Prop where
 go:G'→G
theorem go1 {G G':Prop} [h:Go G G'] (k:G'):G:=h.go k
class LkL (L:List (Addr×HO)) (a:Addr) (o:outParam HO):Prop where
 m:(a,o)∈L
class LkI (I:List Im) (a:Addr) (r:outParam (List V)):Prop where
 m:.tup a r∈I
class LkP (I:List Im) (ys:List V) (rs:outParam (List (List V))):Prop where
 m:.tps ys rs∈I
class LkU (L:List (Addr×HO)) (l:Addr) (o:HO) (L':outParam (List (Addr×HO))):Prop where
 u:Up l o L L'
class Old (H0:Hp) (M:List Addr) (a:Addr) (o:outParam HO):Prop where
 e:H0 a=some o
 n:a ∉ M
class OldQ (K:W.Frag) (H0:Hp) (M:List Addr) (a:Addr) (xs:outParam (List V)):Prop where
 e:SqL K H0 a xs
 n:a ∉ M
class OldP (H0:Hp) (ys:List V) (rs:outParam (List (List V))):Prop where
 e:TupsAt H0 ys rs
class Hat (H:Hp) (a:Addr) (o:outParam HO):Prop where
 e:H a=some o
class SqA (K:W.Frag) (H:Hp) (a:Addr) (xs:outParam (List V)):Prop where
 e:SqL K H a xs
class SqB (K:W.Frag) (H:Hp) (a:Addr) (xs:outParam (List V)):Prop where
 e:SqT K H a xs
class TpA (H:Hp) (ys:List V) (rs:outParam (List (List V))):Prop where
 e:TupsAt H ys rs
class AtI (xs:List V) (i:Int) (v:outParam V):Prop where
 e:atI xs i=some v
section
variable {H0 H H':Hp} {M:List Addr} {L L':List (Addr×HO)} {I:List Im} {a p l:Addr} {o o':HO} {c:Addr×HO} {f:Im} {r xs ys:List V} {rs:List (List V)} {K:W.Frag} {v v0 v1 v2 v3:V}
instance lkL1 [h:LkL L a o]:LkL (c::L) a o:=⟨List.mem_cons_of_mem _ h.m⟩
instance lkL0:LkL ((a,o)::L) a o:=⟨List.mem_cons_self⟩
instance lkI1 [h:LkI I a r]:LkI (f::I) a r:=⟨List.mem_cons_of_mem _ h.m⟩
instance lkI0:LkI (.tup a r::I) a r:=⟨List.mem_cons_self⟩
instance lkP1 [h:LkP I ys rs]:LkP (f::I) ys rs:=⟨List.mem_cons_of_mem _ h.m⟩
instance lkP0:LkP (.tps ys rs::I) ys rs:=⟨List.mem_cons_self⟩
instance lkU1 [h:LkU L l o L']:LkU (c::L) l o (c::L'):=⟨.tail h.u⟩
instance lkU0:LkU ((l,o')::L) l o ((l,o)::L):=⟨.head⟩
instance hat_old [F:SH H0 M H L I] [h:Old H0 M a o]:Hat H a o:=⟨F.fr a o h.n h.e⟩
instance hat_tup [F:SH H0 M H L I] [h:LkI I a r]:Hat H a (.tup r):=⟨F.tup h.m⟩
instance hat_lst [F:SH H0 M H L I] [h:LkL L a o]:Hat H a o:=⟨F.raw h.m⟩
instance sqA_old [F:SH H0 M H L I] [h:OldQ K H0 M a xs]:SqA K H a xs:=⟨F.sq h.e h.n⟩
instance sqA_hat [h:Hat H a (.lst xs)]:SqA K H a xs:=⟨.of h.e⟩
instance sqB_hat [h:Hat H a (.tup xs)]:SqB K H a xs:=⟨.of h.e⟩
instance tpA_old {H0:Hp} {L:List (Addr×HO)} {I:List Im} [F:SH H0 [] H L I] [h:OldP H0 ys rs]:TpA H ys rs:=⟨h.e.same F.sm⟩
instance tpA_tps [F:SH H0 M H L I] [h:LkP I ys rs]:TpA H ys rs:=⟨F.tps h.m⟩
instance at0:AtI (v::r) 0 v:=⟨atI_0⟩
instance at1:AtI (v0::v::r) 1 v:=⟨atL1⟩
instance at2:AtI (v0::v1::v::r) 2 v:=⟨atL2⟩
instance at3:AtI (v0::v1::v2::v::r) 3 v:=⟨atL3⟩
variable {Z:Addr→Hp→Prop} {R:Hp→Prop} {C dx:Addr} {fs:List (Str×V)}
instance nx_tup [F:SH H0 M H L I]:Go (∀p H',New H H' p (.tup xs)→Z p H') (∀H' p,SH H0 M H' L (.tup p xs::I)→Z p H'):=⟨fun k p H' n=>k H' p (F.newT n)⟩
instance nx_lst [F:SH H0 M H L I]:Go (∀p H',New H H' p (.lst xs)→Z p H') (∀H' p,SH H0 M H' ((p,.lst xs)::L) I→Z p H'):=⟨fun k p H' n=>k H' p (F.newL n)⟩
instance nx_off [F:SH H0 M H L I] [u:LkU L l (.lst xs) L']:Go (∀H',Off l H H'→H' l=some (.lst xs)→R H') (∀H',SH H0 M H' L' I→R H'):=⟨fun k H' f e=>k H' (F.offL f e u.u)⟩
instance nx_offI [F:SH H0 M H L I] [u:LkU L l (.ins C dx fs) L']:Go (∀H',Off l H H'→H' l=some (.ins C dx fs)→R H') (∀H',SH H0 M H' L' I→R H'):=⟨fun k H' f e=>k H' (F.offI f e u.u)⟩
instance nx_kp [F:SH H0 M H L I] [u:LkU L l (.lst xs) L']:Go (∀H',Kp l H H'→H' l=some (.lst xs)→R H') (∀H',SH H0 M H' L' I→R H'):=⟨fun k H' f e=>k H' (F.kpL f e u.u)⟩
instance nx_same [F:SH H0 M H L I]:Go (∀H',Same H H'→R H') (∀H',SH H0 M H' L I→R H'):=⟨fun k H' s=>k H' (F.same s)⟩
def Sd (A B:Prop):Prop:=A∧B
theorem sd {A B:Prop} (a:A) (b:B):Sd A B:=⟨a,b⟩
class FldOk (K:W.Frag) (C:Addr) (f:Str):Prop where
 c:Cls K C
 n:NoAttr K C f
class FLk (fs:List (Str×V)) (f:Str) (v:outParam V):Prop where
 e:fs.lookup f=some v
class FNo (fs:List (Str×V)) (f:Str):Prop where
 e:fs.lookup f=none
theorem SH.nwC {H0:Hp} {L:List (Addr×HO)} {I:List Im} [F:SH H0 [] H L I] [h:LkL L p o]:New H0 H p o:=F.nw h.m
theorem hatC [h:Hat H a o]:H a=some o:=h.e
variable {Q:VK} {E:XK} {R':Prop} {σ:St} {i j:Int} {f m:Str} {y:V} {b:Addr} {lo hi:Option Int}
instance nx_ins [F:SH H0 M H L I] {Z:Addr→Addr→Hp→Prop}:Go (∀x dx H',New H H' x (.ins C dx [])→Z x dx H') (∀H' x dx,SH H0 M H' ((x,.ins C dx [])::L) I→Z x dx H'):=⟨fun k p dx H' n=>k H' p dx (F.newI n)⟩
instance go_made {n:Nat}:Go (n≤sizeLine∧∀p H',New H H' p o→Z p H') (Sd (n≤sizeLine) (∀p H',New H H' p o→Z p H')):=⟨id⟩
instance go_isTT [h:Hat H l (.tup xs)]:Go (rIsT K [.ref l,.ty "tuple"] H Q) (Q (.bl true) H):=⟨w_isTT h.e⟩
instance go_isLL [h:Hat H l (.lst xs)]:Go (rIsT K [.ref l,.ty "list"] H Q) (Q (.bl true) H):=⟨w_isLL h.e⟩
instance go_lenT [h:SqB K H l xs]:Go (rLen K [.ref l] H Q) (Q (.int xs.length) H):=⟨w_lenT h.e⟩
instance go_lenL [h:SqA K H l xs]:Go (rLen K [.ref l] H Q) (Q (.int xs.length) H):=⟨w_lenL h.e⟩
instance go_ixL [h:SqA K H l xs] [e:AtI xs i v]:Go (rIxL K (.ref l) (.int i) H Q) (Q v H):=⟨w_ixL h.e e.e⟩
instance go_ixT [h:SqB K H l xs] [e:AtI xs i v]:Go (rIxT K (.ref l) (.int i) H Q) (Q v H):=⟨w_ixT h.e e.e⟩
instance go_tyL [h:SqA K H l xs]:Go (tyV K "list" (.ref l) H∧R') R':=⟨w_tyL h.e⟩
instance go_app [h:Hat H l (.lst xs)]:Go (rAppA (.ref l) [y] H Q) (Sd (xs.length < sizeLine) (∀H',Off l H H'→H' l=some (.lst (xs++[y]))→Q .non H')):=⟨fun s=>w_app h.e s.1 s.2⟩
instance go_ext [h:Hat H l (.lst xs)] [h2:Hat H b (.lst ys)]:Go (rExtA (.ref l) [.ref b] H Q) (Sd (xs.length + ys.length≤sizeLine) (∀H',Off l H H'→H' l=some (.lst (xs++ys))→Q .non H')):=⟨fun s=>w_ext h.e h2.e s.1 s.2⟩
instance go_slA [h:SqA K H l xs]:Go (rSlA K (.ref l) lo hi H Q) (∀p H',New H H' p (.lst (cutV xs lo hi))→Q (.ref p) H'):=⟨w_slA h.e⟩
instance go_catA [h:Hat H l (.lst xs)] [h2:Hat H b (.lst ys)]:Go (rCatA (.ref l) (.ref b) H Q) (Sd (xs.length + ys.length≤sizeLine) (∀p H',New H H' p (.lst (xs++ys))→Q (.ref p) H')):=⟨fun s=>w_catA h.e h2.e s.1 s.2⟩
instance go_lofL [h:SqA K H l xs]:Go (rLOfA K [.ref l] H Q) (∀p H',New H H' p (.lst xs)→Q (.ref p) H'):=⟨w_lofL h.e⟩
instance go_rep1 {n:Nat} [h:Hat H l (.lst [y])]:Go (rRepA (.ref l) (.int (n:Int)) H Q) (Sd (n≤1000000) (∀p H',New H H' p (.lst (List.replicate n y))→Q (.ref p) H')):=⟨fun s=>w_rep1 h.e s.1 s.2⟩
instance go_tup2 {n i0 i1:Nat} {a b:V} {R:St→Hp→Prop} [h:SqB K H l [a,b]]:Go (gTup K n (gCons (gName i0) (gCons (gName i1) gNil)) (.ref l) σ H R) (Sd (n=2) (gName i0 a σ H fun σ1 H1=>gName i1 b σ1 H1 R)):=⟨fun s=>w_tupB s.1 h.e s.2⟩
instance go_mod {f:Int→Int→V}:Go (rI (fun _ j=>0 < j) f (.int i) (.int j) H Q) (Sd (0 < j) (Q (f i j) H)):=⟨fun s=>w_mod s.1 s.2⟩
instance go_div {f:Int→Int→V}:Go (rI CDiv f (.int i) (.int j) H Q) (Sd (0 < j∧j < 1073741824) (Q (f i j) H)):=⟨fun s=>w_div s.1.1 s.1.2 s.2⟩
instance go_mul {f:Int→Int→V}:Go (rI CMul f (.int i) (.int j) H Q) (Sd ((-(2 ^ 64) < i∧i < 2 ^ 64)∨(-(2 ^ 64) < j∧j < 2 ^ 64)) (Q (f i j) H)):=⟨fun s=>s.1.elim (fun h=>w_mulL h.1 h.2 s.2) (fun h=>w_mulR h.1 h.2 s.2)⟩
instance go_w_fld [h:Hat H a (.ins C dx fs)] [k:FldOk K C f] [e:FLk fs f v] {R:V→Prop}:Go (∃a' C' dx' fs' v',V.ref a=.ref a'∧H a'=some (.ins C' dx' fs')∧Cls K C'∧NoAttr K C' f∧fs'.lookup f=some v'∧R v') (R v):=⟨w_fld h.e k.c k.n e.e⟩
instance go_w_meth [h:Hat H l (.ins C dx fs)] [e:FNo fs m]:Go (∃a' dx' fs',V.ref l=.ref a'∧H a'=some (.ins C dx' fs')∧fs'.lookup m=none∧R') R':=⟨w_meth h.e e.e⟩
instance go_setF [h:Hat H l (.ins C dx fs)] [k:FldOk K C f]:Go (SetF K f y (.ref l) H R) (Sd (fs.length < 1000) (∀H',Off l H H'→H' l=some (.ins C dx (putF f y fs))→R H')):=⟨fun s=>w_setF h.e k.c k.n s.1 s.2⟩
end
instance go_go_seq {σ:L2.St} {H:Hp} {D:Ends} {s u:TS}:Go (tSeq s u D σ H) (s (Ends.mk (u D) (Ends.rt D) (Ends.bk D) (Ends.ct D)) σ H):=⟨go_seq⟩
instance go_go_asg {σ:L2.St} {H:Hp} {t:TE} {D:Ends} {tg:TG}:Go (tAsg t tg D σ H) ((t σ H fun (x:V) (H1:Hp) ↦ tg x σ H1 (Ends.nx D))):=⟨go_asg⟩
instance go_go_ret {σ:L2.St} {H:Hp} {t:TE} {D:Ends}:Go (tRet t D σ H) (t σ H (Ends.rt D)):=⟨go_ret⟩
instance go_go_if {σ:L2.St} {H:Hp} {D:Ends} {s u:TS} {c:TT}:Go (tIfS c s u D σ H) ((c σ H fun (b:Bool) (H1:Hp) ↦ if b=true then s D σ H1 else u D σ H1)):=⟨go_if⟩
instance go_go_drop {σ:L2.St} {H:Hp} {t:TE} {D:Ends}:Go (tDrop t D σ H) ((t σ H fun (x:V) (H1:Hp) ↦ Ends.nx D σ H1)):=⟨go_drop⟩
instance go_go_next {σ:L2.St} {H:Hp} {D:Ends}:Go (tNext D σ H) (Ends.nx D σ H):=⟨go_next⟩
instance go_go_nx {σ:L2.St} {H:Hp} {nx bk ct:L2.St→Hp→Prop} {rt:VK}:Go (Ends.nx (Ends.mk nx rt bk ct) σ H) (nx σ H):=⟨go_nx⟩
instance go_w_rt {H:Hp} {v:V} {nx bk ct:L2.St→Hp→Prop} {rt:VK}:Go (Ends.rt (Ends.mk nx rt bk ct) v H) (rt v H):=⟨w_rt⟩
instance go_go_test {σ:L2.St} {H:Hp} {t:TE} {Q:Bool→Hp→Prop}:Go (tTest t σ H Q) ((t σ H fun (x:V) (H':Hp) ↦ ∃(k:Bool),x=V.bl k∧Q k H')):=⟨go_test⟩
instance go_go_b {σ:L2.St} {H:Hp} {t:TE} {Q:Bool→Hp→Prop}:Go (tB t σ H Q) ((t σ H fun (x:V) (H':Hp) ↦ ∃(k:Bool),x=V.bl k∧Q k H')):=⟨go_b⟩
instance go_go_op {σ:L2.St} {H:Hp} {ta tb:TE} {Q:VK} {r:R2}:Go (tOp r ta tb σ H Q) ((ta σ H fun (x:V) (H1:Hp) ↦ tb σ H1 fun (y:V) (H2:Hp) ↦ r x y H2 Q)):=⟨go_op⟩
instance go_go_cb {σ:L2.St} {H:Hp} {tr:TA} {Q:VK} {r:List V→Hp→VK→Prop}:Go (tCB r tr σ H Q) ((tr σ H fun (vs:List V) (H1:Hp) ↦ r vs H1 Q)):=⟨go_cb⟩
instance go_go_cons {σ:L2.St} {H:Hp} {t:TE} {tr:TA} {Q:List V→Hp→Prop}:Go (tCons t tr σ H Q) ((t σ H fun (x:V) (H1:Hp) ↦ tr σ H1 fun (xs:List V) (H2:Hp) ↦ Q (x::xs) H2)):=⟨go_cons⟩
instance go_go_nil {σ:L2.St} {H:Hp} {Q:List V→Hp→Prop}:Go (tNil σ H Q) (Q [] H):=⟨go_nil⟩
instance go_w_call {σ:L2.St} {H:Hp} {Q:VK} {tr:TA} {sp:Sp} {E:XK}:Go (tCall sp [] E tr σ H Q) ((tr σ H fun (vs:List V) (H1:Hp) ↦ sp vs H1 Q E)):=⟨w_call⟩
instance go_w_c {σ:L2.St} {H:Hp} {Q:VK} {v:V}:Go (tC v σ H Q) (Q v H):=⟨w_c⟩
instance go_wv0 {H:Hp} {Q:VK} {v:V} {r:L2.St}:Go (tVar 0 (some v::r) H Q) (Q v H):=⟨wv0⟩
instance go_wv1 {H:Hp} {Q:VK} {v:V} {o0:Option V} {r:L2.St}:Go (tVar 1 (o0::some v::r) H Q) (Q v H):=⟨wv1⟩
instance go_wv2 {H:Hp} {Q:VK} {v:V} {o0 o1:Option V} {r:L2.St}:Go (tVar 2 (o0::o1::some v::r) H Q) (Q v H):=⟨wv2⟩
instance go_wv3 {H:Hp} {Q:VK} {v:V} {o0 o1 o2:Option V} {r:L2.St}:Go (tVar 3 (o0::o1::o2::some v::r) H Q) (Q v H):=⟨wv3⟩
instance go_wv4 {H:Hp} {Q:VK} {v:V} {o0 o1 o2 o3:Option V} {r:L2.St}:Go (tVar 4 (o0::o1::o2::o3::some v::r) H Q) (Q v H):=⟨wv4⟩
instance go_wv5 {H:Hp} {Q:VK} {v:V} {o0 o1 o2 o3 o4:Option V} {r:L2.St}:Go (tVar 5 (o0::o1::o2::o3::o4::some v::r) H Q) (Q v H):=⟨wv5⟩
instance go_wv6 {H:Hp} {Q:VK} {v:V} {o0 o1 o2 o3 o4 o5:Option V} {r:L2.St}:Go (tVar 6 (o0::o1::o2::o3::o4::o5::some v::r) H Q) (Q v H):=⟨wv6⟩
instance go_wv7 {H:Hp} {Q:VK} {v:V} {o0 o1 o2 o3 o4 o5 o6:Option V} {r:L2.St}:Go (tVar 7 (o0::o1::o2::o3::o4::o5::o6::some v::r) H Q) (Q v H):=⟨wv7⟩
instance go_wv8 {H:Hp} {Q:VK} {v:V} {o0 o1 o2 o3 o4 o5 o6 o7:Option V} {r:L2.St}:Go (tVar 8 (o0::o1::o2::o3::o4::o5::o6::o7::some v::r) H Q) (Q v H):=⟨wv8⟩
instance go_wv9 {H:Hp} {Q:VK} {v:V} {o0 o1 o2 o3 o4 o5 o6 o7 o8:Option V} {r:L2.St}:Go (tVar 9 (o0::o1::o2::o3::o4::o5::o6::o7::o8::some v::r) H Q) (Q v H):=⟨wv9⟩
instance go_wv10 {H:Hp} {Q:VK} {v:V} {o0 o1 o2 o3 o4 o5 o6 o7 o8 o9:Option V} {r:L2.St}:Go (tVar 10 (o0::o1::o2::o3::o4::o5::o6::o7::o8::o9::some v::r) H Q) (Q v H):=⟨wv10⟩
instance go_wv11 {H:Hp} {Q:VK} {v:V} {o0 o1 o2 o3 o4 o5 o6 o7 o8 o9 o10:Option V} {r:L2.St}:Go (tVar 11 (o0::o1::o2::o3::o4::o5::o6::o7::o8::o9::o10::some v::r) H Q) (Q v H):=⟨wv11⟩
instance go_wv12 {H:Hp} {Q:VK} {v:V} {o0 o1 o2 o3 o4 o5 o6 o7 o8 o9 o10 o11:Option V} {r:L2.St}:Go (tVar 12 (o0::o1::o2::o3::o4::o5::o6::o7::o8::o9::o10::o11::some v::r) H Q) (Q v H):=⟨wv12⟩
instance go_wv13 {H:Hp} {Q:VK} {v:V} {o0 o1 o2 o3 o4 o5 o6 o7 o8 o9 o10 o11 o12:Option V} {r:L2.St}:Go (tVar 13 (o0::o1::o2::o3::o4::o5::o6::o7::o8::o9::o10::o11::o12::some v::r) H Q) (Q v H):=⟨wv13⟩
instance go_wn1 {H:Hp} {v:V} {o0 o:Option V} {r:L2.St} {R:L2.St→Hp→Prop}:Go (gName 1 v (o0::o::r) H R) (R (o0::some v::r) H):=⟨wn1⟩
instance go_wn2 {H:Hp} {v:V} {o0 o1 o:Option V} {r:L2.St} {R:L2.St→Hp→Prop}:Go (gName 2 v (o0::o1::o::r) H R) (R (o0::o1::some v::r) H):=⟨wn2⟩
instance go_wn3 {H:Hp} {v:V} {o0 o1 o2 o:Option V} {r:L2.St} {R:L2.St→Hp→Prop}:Go (gName 3 v (o0::o1::o2::o::r) H R) (R (o0::o1::o2::some v::r) H):=⟨wn3⟩
instance go_wn4 {H:Hp} {v:V} {o0 o1 o2 o3 o:Option V} {r:L2.St} {R:L2.St→Hp→Prop}:Go (gName 4 v (o0::o1::o2::o3::o::r) H R) (R (o0::o1::o2::o3::some v::r) H):=⟨wn4⟩
instance go_wn5 {H:Hp} {v:V} {o0 o1 o2 o3 o4 o:Option V} {r:L2.St} {R:L2.St→Hp→Prop}:Go (gName 5 v (o0::o1::o2::o3::o4::o::r) H R) (R (o0::o1::o2::o3::o4::some v::r) H):=⟨wn5⟩
instance go_wn6 {H:Hp} {v:V} {o0 o1 o2 o3 o4 o5 o:Option V} {r:L2.St} {R:L2.St→Hp→Prop}:Go (gName 6 v (o0::o1::o2::o3::o4::o5::o::r) H R) (R (o0::o1::o2::o3::o4::o5::some v::r) H):=⟨wn6⟩
instance go_wn7 {H:Hp} {v:V} {o0 o1 o2 o3 o4 o5 o6 o:Option V} {r:L2.St} {R:L2.St→Hp→Prop}:Go (gName 7 v (o0::o1::o2::o3::o4::o5::o6::o::r) H R) (R (o0::o1::o2::o3::o4::o5::o6::some v::r) H):=⟨wn7⟩
instance go_wn8 {H:Hp} {v:V} {o0 o1 o2 o3 o4 o5 o6 o7 o:Option V} {r:L2.St} {R:L2.St→Hp→Prop}:Go (gName 8 v (o0::o1::o2::o3::o4::o5::o6::o7::o::r) H R) (R (o0::o1::o2::o3::o4::o5::o6::o7::some v::r) H):=⟨wn8⟩
instance go_wn9 {H:Hp} {v:V} {o0 o1 o2 o3 o4 o5 o6 o7 o8 o:Option V} {r:L2.St} {R:L2.St→Hp→Prop}:Go (gName 9 v (o0::o1::o2::o3::o4::o5::o6::o7::o8::o::r) H R) (R (o0::o1::o2::o3::o4::o5::o6::o7::o8::some v::r) H):=⟨wn9⟩
instance go_wn10 {H:Hp} {v:V} {o0 o1 o2 o3 o4 o5 o6 o7 o8 o9 o:Option V} {r:L2.St} {R:L2.St→Hp→Prop}:Go (gName 10 v (o0::o1::o2::o3::o4::o5::o6::o7::o8::o9::o::r) H R) (R (o0::o1::o2::o3::o4::o5::o6::o7::o8::o9::some v::r) H):=⟨wn10⟩
instance go_wn11 {H:Hp} {v:V} {o0 o1 o2 o3 o4 o5 o6 o7 o8 o9 o10 o:Option V} {r:L2.St} {R:L2.St→Hp→Prop}:Go (gName 11 v (o0::o1::o2::o3::o4::o5::o6::o7::o8::o9::o10::o::r) H R) (R (o0::o1::o2::o3::o4::o5::o6::o7::o8::o9::o10::some v::r) H):=⟨wn11⟩
instance go_wn12 {H:Hp} {v:V} {o0 o1 o2 o3 o4 o5 o6 o7 o8 o9 o10 o11 o:Option V} {r:L2.St} {R:L2.St→Hp→Prop}:Go (gName 12 v (o0::o1::o2::o3::o4::o5::o6::o7::o8::o9::o10::o11::o::r) H R) (R (o0::o1::o2::o3::o4::o5::o6::o7::o8::o9::o10::o11::some v::r) H):=⟨wn12⟩
instance go_wn13 {H:Hp} {v:V} {o0 o1 o2 o3 o4 o5 o6 o7 o8 o9 o10 o11 o12 o:Option V} {r:L2.St} {R:L2.St→Hp→Prop}:Go (gName 13 v (o0::o1::o2::o3::o4::o5::o6::o7::o8::o9::o10::o11::o12::o::r) H R) (R (o0::o1::o2::o3::o4::o5::o6::o7::o8::o9::o10::o11::o12::some v::r) H):=⟨wn13⟩
instance go_w_i0 {H:Hp} {Q:VK} {i j:Int} {f:Int→Int→V}:Go (rI0 f (V.int i) (V.int j) H Q) (Q (f i j) H):=⟨w_i0⟩
instance go_w_eqi {H:Hp} {Q:VK} {i j:Int}:Go (rEq (V.int i) (V.int j) H Q) (Q (V.bl (decide (i=j))) H):=⟨w_eqi⟩
instance go_w_nei {H:Hp} {Q:VK} {i j:Int}:Go (rNe (V.int i) (V.int j) H Q) (Q (V.bl !decide (i=j)) H):=⟨w_nei⟩
instance go_w_eqs {H:Hp} {Q:VK} {a b:Str}:Go (rEq (V.str a) (V.str b) H Q) (Q (V.bl (decide (a=b))) H):=⟨w_eqs⟩
instance go_w_bl {k:Bool} {R:Bool→Prop}:Go (∃(c:Bool),V.bl k=V.bl c∧R c) (R k):=⟨w_bl⟩
instance go_w_not {σ:L2.St} {H:Hp} {c:TT} {R:Bool→Hp→Prop}:Go (tNot c σ H R) ((c σ H fun (b:Bool) (H1:Hp) ↦ R (!b) H1)):=⟨w_not⟩
instance go_w_and {σ:L2.St} {H:Hp} {c d:TT} {R:Bool→Hp→Prop}:Go (tAnd c d σ H R) ((c σ H fun (b:Bool) (H1:Hp) ↦ if b=true then d σ H1 R else R false H1)):=⟨w_and⟩
instance go_w_or {σ:L2.St} {H:Hp} {c d:TT} {R:Bool→Hp→Prop}:Go (tOr c d σ H R) ((c σ H fun (b:Bool) (H1:Hp) ↦ if b=true then R true H1 else d σ H1 R)):=⟨w_or⟩
instance go_w_notV {σ:L2.St} {H:Hp} {Q:VK} {ta:TE}:Go (tNotV ta σ H Q) ((ta σ H fun (x:V) (H1:Hp) ↦ ∃(c:Bool),x=V.bl c∧Q (V.bl !c) H1)):=⟨w_notV⟩
instance go_w_andV {σ:L2.St} {H:Hp} {Q:VK} {ta tb:TE}:Go (tAndV ta tb σ H Q) ((ta σ H fun (x:V) (H1:Hp) ↦ ∃(c:Bool),x=V.bl c∧if c=true then tb σ H1 Q else Q (V.bl false) H1)):=⟨w_andV⟩
instance go_w_ifE {σ:L2.St} {H:Hp} {Q:VK} {ta tb:TE} {c:TT}:Go (tIf c ta tb σ H Q) ((c σ H fun (b:Bool) (H1:Hp) ↦ if b=true then ta σ H1 Q else tb σ H1 Q)):=⟨w_ifE⟩
instance go_w_chain {σ:L2.St} {H:Hp} {Q:VK} {ta tb tc:TE} {r r':R2}:Go (tChain r r' ta tb tc σ H Q) ((ta σ H fun (x:V) (H1:Hp) ↦ tb σ H1 fun (y:V) (H2:Hp) ↦ r x y H2 fun (z:V) (H3:Hp) ↦ ∃(k:Bool),z=V.bl k∧if k=true then tc σ H3 fun (w:V) (H4:Hp) ↦ r' y w H4 Q else Q (V.bl false) H3)):=⟨w_chain⟩
instance go_w_bm {σ:L2.St} {H:Hp} {Q:VK} {K:W.Frag} {tr:TA} {T:String} {r:V→List V→Hp→VK→Prop} {to:TE}:Go (tBM K T r to tr σ H Q) ((to σ H fun (x:V) (H1:Hp) ↦ tyV K T x H1∧tr σ H1 fun (xs:List V) (H2:Hp) ↦ r x xs H2 Q)):=⟨w_bm⟩
instance go_w_sub {σ:L2.St} {H:Hp} {v:V} {to ti:TE} {ts:TSet} {R:L2.St→Hp→Prop}:Go (gSub to ti ts v σ H R) ((to σ H fun (o:V) (H1:Hp) ↦ ti σ H1 fun (i:V) (H2:Hp) ↦ ts o i v H2 fun (H3:Hp) ↦ R σ H3)):=⟨w_sub⟩
instance go_w_slice {σ:L2.St} {H:Hp} {Q:VK} {t:TE} {r:V→Option Int→Option Int→Hp→VK→Prop} {tl th:TO}:Go (tSl r t tl th σ H Q) ((t σ H fun (x:V) (H1:Hp) ↦ tl σ H1 fun (l:Option Int) (H2:Hp) ↦ th σ H2 fun (u:Option Int) (H3:Hp) ↦ r x l u H3 Q)):=⟨w_slice⟩
instance go_w_noPart {σ:L2.St} {H:Hp} {R:Option Int→Hp→Prop}:Go (tNoPart σ H R) (R none H):=⟨w_noPart⟩
instance go_w_part {σ:L2.St} {H:Hp} {t:TE} {R:Option Int→Hp→Prop}:Go (tPart t σ H R) ((t σ H fun (x:V) (H1:Hp) ↦ ∃(i:Int),x=V.int i∧R (some i) H1)):=⟨w_part⟩
instance go_w_int {i:Int} {R:Int→Prop}:Go (∃(k:Int),V.int i=V.int k∧R k) (R i):=⟨w_int⟩
instance go_w_max {H:Hp} {Q:VK} {i j:Int}:Go (rMax2 [V.int i,V.int j] H Q) (Q (V.int (max i j)) H):=⟨w_max⟩
instance go_w_min {H:Hp} {Q:VK} {i j:Int}:Go (rMin2 [V.int i,V.int j] H Q) (Q (V.int (min i j)) H):=⟨w_min⟩
instance go_w_intB {H:Hp} {Q:VK} {k:Bool}:Go (rInt1 [V.bl k] H Q) (Q (V.int (if k=true then 1 else 0)) H):=⟨w_intB⟩
instance go_go_tupA {σ:L2.St} {H:Hp} {tr:TA} {Q:VK}:Go (tTupA tr σ H Q) ((tr σ H fun (xs:List V) (H1:Hp) ↦ List.length xs≤sizeLine∧∀(p:Addr) (H':Hp),New H1 H' p (HO.tup xs)→Q (V.ref p) H')):=⟨go_tupA⟩
instance go_go_lstA {σ:L2.St} {H:Hp} {tr:TA} {Q:VK}:Go (tLstA tr σ H Q) ((tr σ H fun (xs:List V) (H1:Hp) ↦ List.length xs≤sizeLine∧∀(p:Addr) (H':Hp),New H1 H' p (HO.lst xs)→Q (V.ref p) H')):=⟨go_lstA⟩
instance go_go_fld {K:W.Frag} {σ:L2.St} {H:Hp} {Q:VK} {ta:TE} {f:Str}:Go (tFld K ta f σ H Q) ((ta σ H fun (x:V) (H1:Hp) ↦ ∃(a:Addr),∃(C:Addr),∃(dx:Addr),∃(fs:List (Str×V)),∃(v:V),x=V.ref a∧H1 a=some (HO.ins C dx fs)∧Cls K C∧NoAttr K C f∧List.lookup f fs=some v∧Q v H1)):=⟨go_fld⟩
instance go_go_methB {σ:L2.St} {H:Hp} {Q:VK} {ta:TE} {t:TA} {m:Str} {C:Addr} {sp:Sp} {E:XK}:Go (tMeth C m sp [] E ta t σ H Q) ((ta σ H fun (x:V) (H1:Hp) ↦ ∃(a:Addr),∃(dx:Addr),∃(fs:List (Str×V)),x=V.ref a∧H1 a=some (HO.ins C dx fs)∧List.lookup m fs=none∧t σ H1 fun (vs:List V) (H2:Hp) ↦ sp (x::vs) H2 Q E)):=⟨go_methB⟩
instance go_go_makeB {σ:L2.St} {H:Hp} {Q:VK} {t:TA} {C:Addr} {sp:Sp} {E:XK}:Go (tMakeB C sp E t σ H Q) ((t σ H fun (vs:List V) (H1:Hp) ↦ ∀(x dx:Addr) (H2:Hp),New H1 H2 x (HO.ins C dx [])→sp (V.ref x::vs) H2 (fun (v:V) (H3:Hp) ↦ v=V.non∧Q (V.ref x) H3) E)):=⟨go_makeB⟩
instance go_go_sfldB {K:W.Frag} {σ:L2.St} {H:Hp} {ta tv:TE} {f:Str} {D:Ends}:Go (sFld K ta tv f D σ H) ((tv σ H fun (y:V) (H1:Hp) ↦ ta σ H1 fun (x:V) (H2:Hp) ↦ SetF K f y x H2 fun (H3:Hp) ↦ Ends.nx D σ H3)):=⟨go_sfldB⟩
instance go_i_tt {A B:Prop}:Go (if true=true then A else B) (A):=⟨i_tt⟩
instance go_i_ff {A B:Prop}:Go (if false=true then A else B) (B):=⟨i_ff⟩
instance go_i_ntt {A B:Prop}:Go (if (!true)=true then A else B) (B):=⟨i_ntt⟩
instance go_i_nff {A B:Prop}:Go (if (!false)=true then A else B) (A):=⟨i_nff⟩
instance go_go_ck {t:TA} {tv:TE} {r:List V→V→Hp→VK→Prop} {σ:L2.St} {H:Hp} {Q:VK}:Go (tCK r t tv σ H Q) ((t σ H fun (xs:List V) (H1:Hp) ↦ tv σ H1 fun (y:V) (H2:Hp) ↦ r xs y H2 Q)):=⟨go_ck⟩
instance go_w_forR1 {g:TG} {tb:TS} {D:Ends} {σ:L2.St} {H:Hp} {tr:TA}:Go (tFor (iRng1 tr) g tb D σ H) ((tr σ H fun (vs:List V) (H1:Hp) ↦ ∃(j:Int),vs=[V.int j]∧-2 ^ 62≤j∧j < 2 ^ 62∧ForR 0 (Int.toNat j) g tb D σ H1)):=⟨w_forR1⟩
instance go_w_forR2 {g:TG} {tb:TS} {D:Ends} {σ:L2.St} {H:Hp} {tr:TA}:Go (tFor (iRng2 tr) g tb D σ H) ((tr σ H fun (vs:List V) (H1:Hp) ↦ ∃(i:Int),∃(j:Int),vs=[V.int i,V.int j]∧(-2 ^ 62≤i∧i < 2 ^ 62∧-2 ^ 62≤j∧j < 2 ^ 62)∧ForR i (Int.toNat (j - i)) g tb D σ H1)):=⟨w_forR2⟩
instance go_w_forL {K:W.Frag} {te:TE} {g:TG} {tb:TS} {D:Ends} {σ:L2.St} {H:Hp}:Go (tFor (iList K te) g tb D σ H) ((te σ H fun (x:V) (H1:Hp) ↦ ∃(a:Addr),x=V.ref a∧(∃(xs:List V),SqL K H1 a xs)∧ForL K a g tb D σ H1)):=⟨w_forL⟩
instance go_w_compL {K:W.Frag} {t0 te:TE} {nt:Nat} {fr:List Nat} {g:TG} {c:TT} {σ:L2.St} {H:Hp} {Q:VK}:Go (tComp (iList K t0) nt fr g c te σ H Q) ((t0 σ H fun (x:V) (H1:Hp) ↦ ∃(a:Addr),x=V.ref a∧(∃(xs:List V),SqL K H1 a xs)∧CompAll (Itl K a) nt fr g c te σ H1 Q)):=⟨w_compL⟩
section
variable {K:W.Frag} {H:Hp} {Q:VK} {E:XK} {x:V} {n:String} {p q:Addr} {a b c lo hi:Int} {ns:List Int} {m:Int}
instance go_fromI:Go (sp_is_from K [.int a,.int lo] H Q E) (Q (.bl (decide (lo≤a))) H):=⟨u_fromI⟩
instance go_manyI:Go (sp_is_many K [.int a] H Q E) (Q (.bl (decide (16≤a) && decide (a≤240))) H):=⟨fun k=>⟨_,_,rfl,.int _,k⟩⟩
instance go_endof [h:Hat H q (.tup [.int a,.int b])]:Go (sp_end_of [.ref q] H Q E) (Q (.int (a + b)) H):=⟨u_end h.e⟩
instance go_cellA [h:SqA K H p (ns.map V.int)]:Go (sp_cellA K [.ref p,.int m] H Q E) (Sd (0≤m) (∀c:Int,Q (.int c) H)):=⟨fun s=>u_cellA h.e s.1 s.2⟩
instance go_boxA:Go (sp_boxA [.int a] H Q E) (∀x y:Int,∀(p:Addr) (H':Hp),New H H' p (.lst [.int x,.int y,.int 0])→Q (.ref p) H'):=⟨fun k=>u_boxA fun p x y H' n=>k x y p H' n⟩
instance go_takeA [h:Hat H p (.lst [.int a,.int b,.int c])]:Go (sp_takeA [.ref p,.int m] H Q E) (Sd (0 < m∧m < 1073741824) (∀r a' b' c':Int,0≤r→r < m→∀H',Off p H H'→H' p=some (.lst [.int a',.int b',.int c'])→Q (.int r) H')):=⟨fun s=>u_takeA h.e s.1.1 s.1.2 fun r a' b' c' H' h0 h1 f e=>s.2 r a' b' c' h0 h1 H' f e⟩
end
end L2
namespace L2
open PySem PySem.Spec PyProof.Rows
section
variable {tr:TA} {g:TG} {tb:TS} {D:Ends} {σ:St} {H:Hp}
variable {K:W.Frag} {a:Addr} {xs:List V} {nt:Nat} {fr:List Nat} {c:TT} {te:TE} {Q:VK} {n m:Int}
instance go_cby [h:SqA K H a xs]:Go (∃a',V.ref a=.ref a'∧(∃xs,SqL K H a' xs)∧CompAll (Itl K a') nt fr g c te σ H Q) (CompAll (Itl K a) nt fr g c te σ H Q):=⟨c_by h.e⟩
instance go_lby [h:SqA K H a xs]:Go (∃a',V.ref a=.ref a'∧(∃xs,SqL K H a' xs)∧ForL K a' g tb D σ H) (ForL K a g tb D σ H):=⟨l_by h.e⟩
end
class LkNe (L:List (Addr×HO)) (a b:Addr):Prop where
 ne:(L.map (·.1)).Nodup→a≠b
section
variable {L R L':List (Addr×HO)} {a b:Addr} {o:HO} {c:Addr×HO} {H0 H:Hp} {M:List Addr} {I:List Im}
instance lkNe2 [h:LkNe L a b]:LkNe (c::L) a b:=⟨fun nd=>h.ne (by rw [List.map_cons] at nd;exact (List.nodup_cons.mp nd).2)⟩
instance lkNe1 {o':HO} [h:LkL L a o]:LkNe ((b,o')::L) a b:=⟨fun nd z=>by
 rw [List.map_cons] at nd
 exact (List.nodup_cons.mp nd).1 (by show b∈_;rw [← z];exact List.mem_map_of_mem (f:=(·.1)) h.m)⟩
instance lkNe0 {o':HO} [h:LkL L b o]:LkNe ((a,o')::L) a b:=⟨fun nd z=>by
 rw [List.map_cons] at nd
 exact (List.nodup_cons.mp nd).1 (by show a∈_;rw [z];exact List.mem_map_of_mem (f:=(·.1)) h.m)⟩
theorem SH.neC [F:SH H0 M H L I] [h:LkNe L a b]:a≠b:=h.ne F.nd
class PkC (c:Addr×HO) (L:List (Addr×HO)) (R:outParam (List (Addr×HO))):Prop where
 p:Pk c L R
class SbC (L' L:List (Addr×HO)):Prop where
 s:Sb L' L
instance pkC1 {d:Addr×HO} [h:PkC c L R]:PkC c (d::L) (d::R):=⟨.tail h.p⟩
instance pkC0:PkC c (c::L) L:=⟨.head⟩
instance sbC0:SbC [] L:=⟨.nil⟩
instance sbC1 [h:PkC c L R] [t:SbC L' R]:SbC (c::L') L:=⟨.cons h.p t.s⟩
theorem SH.subC (F:SH H0 M H L I) [h:SbC L' L]:SH H0 M H L' []:=F.sub h.s (fun _ h=>by cases h)
end
instance go_wv14 {H:Hp} {Q:VK} {v:V} {o0 o1 o2 o3 o4 o5 o6 o7 o8 o9 o10 o11 o12 o13:Option V} {r:St}:Go (tVar 14 (o0::o1::o2::o3::o4::o5::o6::o7::o8::o9::o10::o11::o12::o13::some v::r) H Q) (Q v H):=⟨fun h=>⟨v,rfl,h⟩⟩
instance go_wn14 {H:Hp} {v:V} {o0 o1 o2 o3 o4 o5 o6 o7 o8 o9 o10 o11 o12 o13 o:Option V} {r:St} {R:St→Hp→Prop}:Go (gName 14 v (o0::o1::o2::o3::o4::o5::o6::o7::o8::o9::o10::o11::o12::o13::o::r) H R) (R (o0::o1::o2::o3::o4::o5::o6::o7::o8::o9::o10::o11::o12::o13::some v::r) H):=⟨fun h=>h⟩
end L2
namespace L2
open PySem PySem.Spec PyProof.Rows PySem.SeqAt
section
variable {K:W.Frag} {H0 H:Hp} {M:List Addr} {L L':List (Addr×HO)} {I:List Im} {l b a p:Addr} {xs ys r:List V} {v v0 v1 y:V} {Q:VK} {R:Hp→Prop} {R':Prop} {te:TE} {fvs σ:St} {fr:List Nat} {i j:Int} {Z:Addr→Hp→Prop}
instance go_nonAnd:Go (V.non=V.non∧R') R':=⟨fun k=>⟨rfl,k⟩⟩
instance go_setA [h:Hat H l (.lst xs)]:Go (rSetA (.ref l) (.int i) v H R) (Sd (0≤i∧i < xs.length) (∀H',Off l H H'→H' l=some (.lst (xs.set i.toNat v))→R H')):=⟨fun s=>w_setA h.e (i_idx s.1.1 s.1.2) s.2⟩
instance go_forR1 {g:TG} {tb:TS} {D:Ends}:Go (∃j:Int,[V.int i]=[.int j]∧-(2 ^ 62)≤j∧j < 2 ^ 62∧ForR 0 j.toNat g tb D σ H) (Sd (-(2 ^ 62)≤i∧i < 2 ^ 62) (ForR 0 i.toNat g tb D σ H)):=⟨fun s=>⟨i,rfl,s.1.1,s.1.2,s.2⟩⟩
instance go_forR2 {g:TG} {tb:TS} {D:Ends}:Go (∃i' j':Int,[V.int i,V.int j]=[.int i',.int j']∧(-(2 ^ 62)≤i'∧i' < 2 ^ 62∧-(2 ^ 62)≤j'∧j' < 2 ^ 62)∧ForR i' (j' - i').toNat g tb D σ H) (Sd (-(2 ^ 62)≤i∧i < 2 ^ 62∧-(2 ^ 62)≤j∧j < 2 ^ 62) (ForR i (j - i).toNat g tb D σ H)):=⟨fun s=>⟨i,j,rfl,s.1,s.2⟩⟩
end
end L2
namespace L2
open PySem PySem.Spec PyProof.Rows
abbrev ixBody (x:Str) (p1 p2 p3:Pos) (j:Nat):Expr:=.Subscript (.Name x p1) (.Constant (.int 1) j p2) p3
structure LamScope (x:Str) (scope:Scope):Prop where
 kind:scope.kind=.function
 co:scope.isCoroutine=false
 gen:scope.isGenerator=false
 loc:scope.names.lookup x=some .local
 nocell:∀y∈scope.names,y.2≠.cell
 nodeb:(x == ("__debug__" : Str))=false
theorem lam_ix {prog:Program} {w:World} {A:Around} {s:Shared} {f q c':Addr} {x qual:Str} {params:Arguments} {scope:Scope} {pm ctv u:Value} {p1 p2 p3:Pos} {j:Nat} {its:List Value} {Q:Value→Shared→Prop} {E:Value→Shared→Prop}
  (hroom:A.depth < recursionLimit) (ho:s.heap.get? f=some (W.kla_obj "<lambda>" qual params (ixBody x p1 p2 p3 j) scope [] pm c' ctv)) (hcd:s.heap.CodeRec (.ref c') qual) (hlim:s.heap.NoLimit) (S:LamScope x scope)
  (hbind:bindArgs (W.kla_fn "<lambda>" qual params (ixBody x p1 p2 p3 j) scope [] pm (.ref c') ctv) ⟨[.ref q],[]⟩=pure [(x,.ref q)])
  (ht:IsTup s.heap q its.toArray) (hi:its[1]?=some u) (h:∀h' tk,(∀b o,s.heap.get? b=some o→h'.get? b=some o)→Q u { s with heap:=h',toks:=tk }):wpAny (model prog w) A (call (.ref f) [.ref q]) Q E s:=by
 refine wpAny_call ?_
 refine W.kla_callFunE hroom ho rfl S.co S.gen rfl hcd ?_
 rw [hbind]
 refine wpAny_pure ?_
 refine wpAny_newFunctionEnv S.nocell (fun y hy=>?_) (fun h1 hns hsb=>?_) S.kind
 ·rw [List.mem_singleton.mp hy]
  exact S.loc
 ·have hk1:∀b o,s.heap.get? b=some o→h1.get? b=some o:=fun b o e=>hsb.extBut b o (Nat.ne_of_lt (Heap.lt_size e)) (Heap.get?_push_of_some _ e)
  refine ⟨hlim.keeps hk1,W.kla_codeExpr ?_⟩
  refine Subscript_ (wpAny_Name (wpAny_loadName_local S.kind S.loc hns (v:=.ref q) (by simp) ?_) S.nodeb)
  refine wpAny_Constant_int ?_
  have ht1:IsTup h1 q its.toArray:=by
   obtain ⟨o,e,r⟩:=ht
   exact ⟨o,hk1 _ _ e,r⟩
  have hlen:1 < its.length:=(List.getElem?_eq_some_iff.mp hi).1
  refine subscriptTail_builtinR (x:=u) (IsTup.typeIs ht1) slot_tuple_getitem.lookup (getItem_tuple (j:=1) ht1 (by decide) (by decide) ?_ (by simpa using hi) ⟨rfl,?_⟩) ?_
  ·rw [List.size_toArray]
   unfold seqIndex?
   simp
   lia
  ·exact h h1 _ hk1
  ·rfl
theorem ObjOk.is {P:Program} {w:World} {H:Hp} {h:Heap} {a:Addr} {o:HO} (x:ObjOk P w H h a o):∃ob,h.get? a=some ob:=by
 cases o with
 | lst xs=>obtain ⟨_,_,_,_,e⟩:=x;exact ⟨_,e⟩
 | tup xs=>obtain ⟨_,_,_,ob,e,_⟩:=x;exact ⟨_,e⟩
 | dK kvs=>obtain ⟨_,_,_,_,ob,_,_,e,_⟩:=x;exact ⟨_,e⟩
 | dT kvs=>obtain ⟨_,_,_,_,ob,_,_,e,_⟩:=x;exact ⟨_,e⟩
 | set S n=>obtain ⟨ob,_,_,_,e,_⟩:=x;exact ⟨_,e⟩
 | ins C dx fs=>obtain ⟨_,_,_,e,_⟩:=x;exact ⟨_,e⟩
 | own y=>exact x
 | xd fs=>obtain ⟨_,⟨ob,_,_,e,_⟩,_⟩:=x;exact ⟨_,e⟩
 | rng lo hi=>obtain ⟨_,_,_,e⟩:=x;exact ⟨_,e⟩
 | frz ob u=>exact ⟨_,x.1⟩
 | tbl ps=>exact ⟨_,x⟩
 | met f y=>exact ⟨_,x⟩
 | ext φ=>exact x.2.1
def allBut (h:Heap) (L:Addr):List (Addr×Obj):=(List.range h.objs.size).filterMap fun b=>if b=L then none else (h.get? b).map fun o=>(b,o)
theorem allBut_mem {h:Heap} {L b:Addr} {o:Obj} (e:h.get? b=some o) (n:b≠L):(b,o)∈allBut h L:=by
 unfold allBut
 refine List.mem_filterMap.mpr ⟨b,List.mem_range.mpr (Heap.lt_size e),?_⟩
 rw [if_neg n,e]
 rfl
theorem of_allBut {h:Heap} {L:Addr} {p:Addr×Obj} (m:p∈allBut h L):h.get? p.1=some p.2∧p.1≠L:=by
 unfold allBut at m
 obtain ⟨b,_,e⟩:=List.mem_filterMap.mp m
 split at e
 ·cases e
 ·rename_i n
  cases q:h.get? b with
  | none=>rw [q] at e;cases e
  | some o =>
   rw [q] at e
   cases e
   exact ⟨q,n⟩
theorem ns_one {h:Heap} {a:Addr} {m m':Str→Option Value} (x:h.Ns a m) (y:h.Ns a m'):m=m':=by
 obtain ⟨o,es,ep,e,d,_,f⟩:=x
 obtain ⟨o',es',ep',e',d',_,f'⟩:=y
 rw [e] at e'
 cases e'
 rw [d] at d'
 cases d'
 funext k
 rw [← f k,← f' k]
theorem Inv.newIn {X:Cx} {pins:List (Addr×Obj)} {σ:St} {H:Hp} {s:Shared} {h':Heap} {t':Nat} {D:Addr} {o:HO} {m:Str→Option Value} (I:Inv X pins σ H s) (k:∀b u,b≠X.env.locals→s.heap.get? b=some u→h'.get? b=some u)
  (hm:s.heap.Ns X.env.locals m) (hm':h'.Ns X.env.locals m) (hn:s.heap.get? D=none) (new:ObjOk X.prog X.w (upd H D o) h' D o):Inv X pins σ (upd H D o) { s with heap:=h',toks:=t' }:=by
 have hD:H D=none:=by
  cases q:H D with
  | none=>rfl
  | some u =>
   obtain ⟨ob,e⟩:=(I.hok D u q).is
   rw [hn] at e
   cases e
 have nL:∀b u,H b=some u→b≠X.env.locals:=fun b u e z=>by rw [z,I.free] at e;cases e
 have nD:∀{b:Addr} {u:HO},H b=some u→upd H D o b=some u:=fun {b u} e=>by rw [upd_ne (fun z=>by rw [z,hD] at e;cases e)];exact e
 refine I.step (g':=s.gens) (d':=s.drawn) (ch:=[]) (fun _ z=>nomatch z) (fun b u n _ _ e _=>k b u n e) (fun b u n _ _ e _=>⟨u.slots,k b u n e⟩) (fun b u _ e q=>?_) (fun b u _ e=>?_) (fun b xs e=>nD e) (fun b u v e=>nD e) (fun b ps e=>⟨#[],by rw [nD e];simp⟩) (fun m2 hm2=>?_) (fun b u e=>?_) I.bare
 ·rw [upd_ne (fun z=>by rw [z,hn] at e;cases e)]
  exact q
 ·by_cases n:b=X.env.locals
  ·obtain ⟨ob,_,_,e2,_⟩:=hm'
   exact ⟨ob,by rw [n];exact e2⟩
  ·exact ⟨u,k b u n e⟩
 ·rw [ns_one hm2 hm]
  exact hm'
 ·by_cases hb:b=D
  ·rw [hb,upd_same] at e
   cases e
   rw [hb]
   exact new
  ·rw [upd_ne hb] at e
   refine (I.hok b u e).stay (fun c v hc q=>k c v ?_ q) (fun c q=>nD q) fun c xs q=>nD q
   rcases hc with z | z
   ·rw [z]
    exact nL b u e
   ·exact nL c _ z
def IsLam (H:Hp) (f:Addr):Prop:=∃(qual x:Str) (params:Arguments) (p1 p2 p3:Pos) (j:Nat) (scope:Scope) (pm ctv:Value) (c':Addr) (oc:Obj) (vs:Array Value) (t:Tok),
 H f=some (.frz (W.kla_obj "<lambda>" qual params (ixBody x p1 p2 p3 j) scope [] pm c' ctv) (.own f))∧H c'=some (.frz oc (.own c'))∧oc.data=.fields vs∧vs[1]?=some (.str qual t)∧LamScope x scope ∧
 ∀q:Addr,bindArgs (W.kla_fn "<lambda>" qual params (ixBody x p1 p2 p3 j) scope [] pm (.ref c') ctv) ⟨[.ref q],[]⟩=pure [(x,.ref q)]
def SortedBy (ks:List Int) (xs ys:List V):Prop:=∃ps:List (Int×V),ps.Perm (ks.zip xs)∧ys=ps.map Prod.snd∧ps.Pairwise fun a b=>a.1≤b.1
def rSortK (K:W.Frag):List V→V→Hp→VK→Prop:=fun vs y H Q=>∃(l f:Addr) (xs:List V) (ks:List Int),vs=[.ref l]∧y=.ref f∧IsLam H f∧SqL K H l xs∧ks.length=xs.length∧xs.length < 64 ∧
 (∀(i:Nat) v k,xs[i]?=some v→ks[i]?=some k→∃q r,v=.ref q∧H q=some (.tup r)∧r[1]?=some (.int k))∧∀D ys H',New H H' D (.lst ys)→SortedBy ks xs ys→Q (.ref D) H'
def backV:Value→V
 | .ref a=>.ref a
 | _=>.non
theorem vals_refs:∀{xs:List V} {us:List Value},Vals xs us→(∀v∈xs,∃q,v=.ref q)→xs=us.map backV∧∀u∈us,∃q,u=.ref q
 | _,_,.nil,_=>⟨rfl,fun _ h=>by cases h⟩
 | _,_,.cons r t,h=>by
  obtain ⟨e1,e2⟩:=vals_refs t fun v hv=>h v (List.mem_cons_of_mem _ hv)
  obtain ⟨q,rfl⟩:=h _ List.mem_cons_self
  cases r
  refine ⟨by rw [List.map_cons,← e1];rfl,fun u hu=>?_⟩
  rcases List.mem_cons.mp hu with rfl | hu
  ·exact ⟨q,rfl⟩
  ·exact e2 u hu
theorem vals_back:∀{us:List Value},(∀u∈us,∃q,u=.ref q)→Vals (us.map backV) us
 | [],_=>.nil
 | u::us,h=>by
  obtain ⟨q,rfl⟩:=h u List.mem_cons_self
  exact .cons rfl (vals_back fun v hv=>h v (List.mem_cons_of_mem _ hv))
theorem call_sortK {X:Cx} {K:W.Frag} {k:Nat} (hK:X.K=K) (hr:Room k X.A):CallK X "sorted" "key" (rSortK K):=by
 intro pins s σ H vs us y u Q I rv ry h
 subst hK
 obtain ⟨l,f,xs,ks,rfl,rfl,lam,hq,hl,h64,hk,q⟩:=h
 cases ry
 rcases rv with _ | ⟨r,_ | _⟩
 cases r
 obtain ⟨its,rv,p,hz⟩:=I.list hq
 obtain ⟨m,hm,_⟩:=id I.loc
 obtain ⟨qual,x,params,p1,p2,p3,j,scope,pm,ctv,c',oc,cv,t,ef,ec,ed,e1,S,hb⟩:=lam
 have hlen:its.length=xs.length:=rv.length.symm
 have nL:∀{b:Addr} {u:HO},H b=some u→b≠X.env.locals:=fun {b u} e z=>by rw [z,I.free] at e;cases e
 have refs:∀v∈xs,∃q,v=V.ref q:=fun v hv=>by
  obtain ⟨i,hi,e⟩:=List.getElem_of_mem hv
  obtain ⟨q,r,e2,_⟩:=hk i v (ks[i]'(by lia)) (by rw [← e];simp) (by simp)
  exact ⟨q,e2⟩
 obtain ⟨xb,ub⟩:=vals_refs rv refs
 have keep:∀{h:Heap} {own:List (Addr×Obj)},News { objs:=#[] } X.env.locals h (allBut s.heap X.env.locals++own)→∀b o,b≠X.env.locals→s.heap.get? b=some o→h.get? b=some o:=fun N b o n e=>(N (b,o) (List.mem_append_left _ (allBut_mem e n))).1
 refine ksk_sorted (h₀:={ objs:=#[] }) (L:=X.env.locals) (m:=m) (news:=allBut s.heap X.env.locals) (b:=false) (vs:=its) (kz:=ks) (f:=.ref f) ⟨hm,fun b o e=>?_,Nat.zero_le _⟩ (fun p hp=>⟨(of_allBut hp).1,(of_allBut hp).2,rfl⟩) p.isList (by lia) (by lia) (ksk_s1 _ _) (fun x=>ksk_l1 _ _) (fun x=>ksk_t1 f x) ?_ ?_
 ·have e:Heap.get? { objs:=#[] } b=some o:=e
  simp [Heap.get?] at e
 ·intro i v k hv hki h tk own F N
  have kp:=keep N
  have hx:xs[i]?=some (backV v):=by rw [xb,List.getElem?_map,hv];rfl
  obtain ⟨q,r,e2,e3,e4⟩:=hk i _ k hx hki
  obtain ⟨q',rfl⟩:=ub v (List.mem_of_getElem? hv)
  cases e2
  obtain ⟨_,its2,rv2,ob,et,ec2⟩:=I.hok q _ e3
  obtain ⟨u2,eu,ru⟩:=rv2.get e4
  obtain ⟨t2,rfl⟩:=ru
  have lim:h.NoLimit:=I.ok.mod.nolimit.keeps fun b o e=>kp b o (Nat.ne_of_lt (Nat.lt_of_lt_of_le (Heap.lt_size e) (Nat.le_trans I.ok.bsz I.ok.above))) (I.bk b o e)
  refine lam_ix (A:=X.A.in1.in1) (s:={ s with heap:=h,toks:=tk }) (show X.A.depth < _ from hr.depth) (kp _ _ (nL ef) (I.hok f _ ef).1) ⟨c',oc,cv,t,rfl,kp _ _ (nL ec) (I.hok c' _ ec).1,ed,e1⟩ lim S (hb q) (its:=its2) ⟨ob,kp _ _ (nL e3) et,ec2⟩ eu fun h' tk' k2=>?_
  exact KskEnd.intro (s₁:={ s with heap:=h,toks:=tk }) (news':=allBut s.heap X.env.locals++own) ⟨F.ns.keeps k2,fun b o e=>k2 b o (F.keep b o e),F.above⟩ (fun p hp=>⟨k2 _ _ (N p hp).1,(N p hp).2⟩) fun p hp=>hp
 ·intro D h' tk out c F N hD out'
  obtain ⟨ps,pp,eo,pw⟩:=out'
  have hn:s.heap.get? D=none:=by
   cases e:s.heap.get? D with
   | none=>rfl
   | some o =>
    have:=hD (D,o) (allBut_mem e (N (D,seqObj "list" out c) List.mem_cons_self).2.1)
    exact absurd this (Nat.lt_irrefl _)
  have hin:∀u∈out.toList,∃q,u=Value.ref q:=fun u hu=>by
   rw [eo] at hu
   obtain ⟨pr,h1,rfl⟩:=List.mem_map.mp hu
   have:=pp.mem_iff.mp h1
   exact ub _ (List.of_mem_zip (show (pr.1,pr.2)∈ks.zip its from this)).2
  have lo:out.toList.length=xs.length:=by
   rw [eo,List.length_map,pp.length_eq,List.length_zip]
   lia
  refine ⟨.ref D,upd H D (.lst (out.toList.map backV)),I.newIn (t':=tk) (fun b u n e=>(N (b,u) (List.mem_cons_of_mem _ (allBut_mem e n))).1) hm F.ns hn ?_,rfl,q D _ _ (New.mk' ?_) ⟨ps.map fun pr=>(pr.1,backV pr.2),?_,?_,?_⟩⟩
  ·refine ⟨by rw [List.length_map,lo];exact hz,out.toList,c,vals_back hin,?_⟩
   exact (N (D,seqObj "list" out c) List.mem_cons_self).1
  ·cases e:H D with
   | none=>rfl
   | some u =>
    obtain ⟨ob,e2⟩:=(I.hok D u e).is
    rw [hn] at e2
    cases e2
  ·have:=pp.map fun pr:Int×Value=>(pr.1,backV pr.2)
   rw [xb]
   have e3:(ks.zip its).map (fun pr:Int×Value=>(pr.1,backV pr.2))=ks.zip (its.map backV):=by
    rw [List.zip_map_right]
    rfl
   rw [← e3]
   exact this
  ·rw [eo,List.map_map,List.map_map]
   rfl
  ·exact List.pairwise_map.mpr (pw.imp fun h=>by simpa using h)
theorem Inv.grow {X:Cx} {pins:List (Addr×Obj)} {σ:St} {H H':Hp} {s:Shared} {h':Heap} {t':Nat} (I:Inv X pins σ H s) (k:∀b u,H b=none→s.heap.get? b=some u→h'.get? b=some u∧H' b=none)
  (kt:∀b u,H b=some u→(H' b=some u∧∀o,s.heap.get? b=some o→h'.get? b=some o)∨∃ps more,u=.tbl ps∧H' b=some (.tbl (ps++more))∧h'.get? b=some { cls:=.none,data:=.fields (ps++more) })
  (new:∀b u,H b=none→H' b=some u→ObjOk X.prog X.w H' h' b u):Inv X pins σ H' { s with heap:=h',toks:=t' }:=by
 have same:∀{b:Addr} {u:HO},H b=some u→(∀ps,u≠.tbl ps)→H' b=some u∧∀o,s.heap.get? b=some o→h'.get? b=some o:=fun {b u} e n=>by
  rcases kt b u e with z | ⟨ps,_,z,_⟩
  ·exact z
  ·exact absurd z (n ps)
 obtain ⟨m0,⟨oL,esL,epL,eL,rL⟩,_⟩:=id I.loc
 have kL:=(k _ _ I.free eL).1
 refine I.step (g':=s.gens) (d':=s.drawn) (ch:=[]) (fun _ z=>nomatch z) (fun b u n _ _ e q=>(k b u q e).1) (fun b u n _ _ e q=>⟨u.slots,(k b u q e).1⟩) (fun b u _ e q=>(k b u q e).2) (fun b u _ e=>?_) (fun b xs e=>(same e (by intro _ z;cases z)).1) (fun b u v e=>(same e (by intro _ z;cases z)).1) (fun b ps e=>?_) (fun m2 hm2=>?_) (fun b u e=>?_) I.bare
 ·cases q:H b with
  | none=>exact ⟨u,(k b u q e).1⟩
  | some v =>
   rcases kt b v q with z | ⟨ps,more,_,_,z⟩
   ·exact ⟨u,z.2 u e⟩
   ·exact ⟨_,z⟩
 ·rcases kt b _ e with z | ⟨ps',more,z,z2,_⟩
  ·exact ⟨#[],by rw [z.1];simp⟩
  ·cases z
   exact ⟨more,z2⟩
 ·obtain ⟨o,es,ep,e,r⟩:=hm2
  rw [eL] at e
  cases e
  exact ⟨_,es,ep,kL,r⟩
 ·cases q:H b with
  | none=>exact new b u q e
  | some v =>
   rcases kt b v q with z | ⟨ps,more,rfl,z2,z3⟩
   ·rw [z.1] at e
    cases e
    refine (I.hok b _ q).stay (fun c o hc e2=>?_) (fun c e2=>(same e2 (by intro _ z;cases z)).1) fun c xs e2=>(same e2 (by intro _ z;cases z)).1
    rcases hc with rfl | hc
    ·exact z.2 o e2
    ·exact (same hc (by intro _ z;cases z)).2 o e2
   ·rw [z2] at e
    cases e
    exact z3
def TabOk (pos:Pos) (qual:Str) (ps:Array Value) (H:Hp):Prop:=ps=#[]∨∃(c':Addr) (oc:Obj) (vs:Array Value) (t:Tok),ps=#[rawInt pos.line,rawInt pos.col,.ref c']∧H c'=some (.frz oc (.own c'))∧oc.data=.fields vs∧vs[1]?=some (.str qual t)
def Bm (mg:Str→Option Value) (base:Heap):Prop:=∃bm ob,mg "__builtins__" = some (.ref bm)∧bm≠builtinsNs∧base.get? bm=some ob∧ob.cls=.type "module" ∧ ob.dict=some builtinsNs∧ob.data=.plain
def tLam (P:Addr) (pos:Pos) (qual:Str):TE:=fun _ H Q=>∃ps,H P=some (.tbl ps)∧TabOk pos qual ps H∧∀f ps' H',Kp P H H'→H' P=some (.tbl ps')→TabOk pos qual ps' H'→IsLam H' f→Q (.ref f) H'
theorem pe_lam {X:Cx} {c P:Addr} {qual x:Str} {params:Arguments} {scope:Scope} {p1 p2 p3 pos:Pos} {j:Nat} (B:Bm X.mg X.base) (hc:X.env.code=.ref c) (hK:W.codeHdIn X.K c P=true) (hq:X.env.qual++("<lambda>" : Str)=qual) (S:LamScope x scope)
  (hdef:defaultsOf params X.env=([],[]):=by rfl) (hcl:closureFor scope X.env=pure []:=by rfl)
  (hb:∀(pm ctv:Value) (c' q:Addr),bindArgs (W.kla_fn "<lambda>" qual params (ixBody x p1 p2 p3 j) scope [] pm (.ref c') ctv) ⟨[.ref q],[]⟩=pure [(x,.ref q)]:=by intros;rfl) :
  PE X (.Lambda params (ixBody x p1 p2 p3 j) scope pos) (tLam P pos qual):=by
 intro pins s σ H Q I h
 obtain ⟨ps,eP,tk,q⟩:=h
 have hP:s.heap.get? P=some (W.tabObj ps):=I.hok P _ eP
 obtain ⟨bm,ob,b1,b2,b3,b4,b5,b6⟩:=B
 have hg:s.heap.Ns mainGlobals X.mg:=I.ok.mod.glob.keeps I.bk
 have nob:∀{b:Addr} {o:Obj},X.base.get? b=some o→b≠P:=fun {b o} e z=>by
  have:=(I.bs b o e).2
  rw [z,eP] at this
  cases this
 have nG:mainGlobals≠P:=by
  obtain ⟨o,_,_,e,_⟩:=I.ok.mod.glob
  exact nob e
 have nbG:bm≠mainGlobals:=fun z=>by
  obtain ⟨o,es,ep,e,hd,_⟩:=I.ok.mod.glob
  rw [z,e] at b3
  cases b3
  rw [hd] at b6
  cases b6
 have BA:s.heap.BuiltinsAt X.mg P:=⟨bm,ob,b1,b2,nbG,nob b3,I.bk _ _ b3,b4,b5,b6⟩
 have CH:=W.codeHd_of_K I.kIn hK
 refine W.kla_eval hdef ?_
 rw [hq]
 have nP:∀{b:Addr},H b=none→b≠P:=fun {b} e z=>by rw [z,eP] at e;cases e
 rcases tk with rfl | ⟨c',oc,vs,t,rfl,e1,e2,e3⟩
 ·refine W.kla_makeFunction hcl I.ok.glob hg hc CH hP trivial rfl nG BA fun c' ctv h' tk' hx hge hlt hrec hP'=>?_
  obtain ⟨c2,oc,vs,t,z,hoc,hd,hv⟩:=hrec
  cases z
  have fc:H c'=none:=I.hok.fresh hge
  have hsz:s.heap.objs.size≤h'.objs.size:=Nat.le_trans hge (Nat.le_of_lt hlt)
  have ff:H h'.objs.size=none:=I.hok.fresh hsz
  have ncf:c'≠h'.objs.size:=Nat.ne_of_lt hlt
  have ncP:c'≠P:=nP fc
  have nfP:h'.objs.size≠P:=nP ff
  generalize hf:h'.objs.size=f at *
  generalize hob:W.kla_obj "<lambda>" qual params (ixBody x p1 p2 p3 j) scope [] ((X.mg "__name__").getD .none) c' ctv=fo
  let H':Hp:=upd (upd (upd H P (.tbl (#[]++#[rawInt pos.line,rawInt pos.col,.ref c']))) c' (.frz oc (.own c'))) f (.frz fo (.own f))
  have hP2:H' P=some (.tbl #[rawInt pos.line,rawInt pos.col,.ref c']):=by
   show upd _ _ _ _=_
   rw [upd_ne (Ne.symm nfP),upd_ne (Ne.symm ncP),upd_same]
   simp
  have hc2:H' c'=some (.frz oc (.own c')):=by
   show upd _ _ _ _=_
   rw [upd_ne ncf,upd_same]
  have hf2:H' f=some (.frz fo (.own f)):=upd_same
  have old:∀{b:Addr},b≠P→b≠c'→b≠f→H' b=H b:=fun {b} n1 n2 n3=>by
   show upd _ _ _ _=_
   rw [upd_ne n3,upd_ne n2,upd_ne n1]
  have push:∀{b:Addr} {o:Obj},h'.get? b=some o→(h'.push fo).get? b=some o:=fun e=>Heap.get?_push_of_some _ e
  have I':Inv X pins σ H' { s with heap:=h'.push fo,toks:=tk' }:=by
   refine I.grow (fun b u n e=>?_) (fun b u e=>?_) fun b u n e=>?_
   ·have lt:=Heap.lt_size e
    have n2:b≠c':=Nat.ne_of_lt (Nat.lt_of_lt_of_le lt hge)
    have n3:b≠f:=Nat.ne_of_lt (Nat.lt_of_lt_of_le lt hsz)
    exact ⟨push (hx b u (nP n) e),by rw [old (nP n) n2 n3];exact n⟩
   ·by_cases hbP:b=P
    ·right
     rw [hbP,eP] at e
     cases e
     exact ⟨#[],#[rawInt pos.line,rawInt pos.col,.ref c'],rfl,by rw [hbP,hP2];simp,by rw [hbP];exact push hP'⟩
    ·left
     have n2:b≠c':=fun z=>by rw [z,fc] at e;cases e
     have n3:b≠f:=fun z=>by rw [z,ff] at e;cases e
     exact ⟨by rw [old hbP n2 n3];exact e,fun o e4=>push (hx b o hbP e4)⟩
   ·by_cases hbf:b=f
    ·rw [hbf,hf2] at e
     cases e
     have e5:(h'.push fo).get? f=some fo:=by
      rw [← hf]
      exact Heap.get?_push_size _ (by rw [← hob];rfl)
     rw [hbf]
     exact ⟨e5,_,e5⟩
    ·by_cases hbc:b=c'
     ·rw [hbc,hc2] at e
      cases e
      rw [hbc]
      exact ⟨push hoc,_,push hoc⟩
     ·have hbP:b≠P:=nP n
      rw [old hbP hbc hbf,n] at e
      cases e
  refine ⟨.ref f,H',I',rfl,q f _ H' (fun b u n e=>?_) hP2 (.inr ⟨c',oc,vs,t,rfl,hc2,hd,hv⟩) ⟨qual,x,params,p1,p2,p3,j,scope,_,ctv,c',oc,vs,t,by rw [hf2,← hob],hc2,hd,hv,S,hb _ _ _⟩⟩
  have n2:b≠c':=fun z=>by rw [z,fc] at e;cases e
  have n3:b≠f:=fun z=>by rw [z,ff] at e;cases e
  rw [old n n2 n3]
  exact e
 ·have hcode:codeAmong pos (#[rawInt pos.line,rawInt pos.col,Value.ref c']).toList=some (.ref c'):=by
   show (if ((pos.line:Int) == (pos.line:Int) && (pos.col:Int) == (pos.col:Int))=true then some (Value.ref c') else _)=_
   simp
  refine W.kla_makeFunctionHit hcl I.ok.glob hg hc CH hP trivial hcode BA fun ctv h' tk' hx hsz=>?_
  have ff:H h'.objs.size=none:=I.hok.fresh hsz
  generalize hob:({ cls:=Value.type "function", data:=Data.func (W.kla_fn "<lambda>" qual params (ixBody x p1 p2 p3 j) scope [] ((X.mg "__name__").getD .none) (.ref c') ctv) }:Obj)=fo
  have e5:(h'.push fo).get? h'.objs.size=some fo:=Heap.get?_push_size _ (by rw [← hob];rfl)
  have k2:∀{b:Addr} {u:HO},H b=some u→upd H h'.objs.size (.frz fo (.own h'.objs.size)) b=some u:=fun {b u} e=>by
   rw [upd_ne (fun z=>by rw [z,ff] at e;cases e)]
   exact e
  refine ⟨.ref h'.objs.size,upd H h'.objs.size (.frz fo (.own h'.objs.size)),I.laid (t':=tk') (fun b u e=>Heap.get?_push_of_some _ (hx b u e)) hsz ⟨e5,_,e5⟩,rfl,q _ _ _ (fun b u n e=>k2 e) (k2 eP) (.inr ⟨c',oc,vs,t,rfl,k2 e1,e2,e3⟩) ⟨qual,x,params,p1,p2,p3,j,scope,_,ctv,c',oc,vs,t,by rw [upd_same,← hob],k2 e1,e2,e3,S,hb _ _ _⟩⟩
section
variable {P:Program} {w:World} {K:W.Frag} {mg:Str→Option Value} {base:Heap} {CX:CXT} {k:Nat} {nm qual:Str} {st:Stmt} {f c:Addr} {N ps:List Str} {sp:Sp}
theorem fn_tellsC (h:∃fd,Fun K nm qual st f fd∧fd.code=.ref c) (S:FnScope N ps (defScope st)) (len:∀vs H Q E,sp vs H Q E→vs.length=ps.length)
  (hb:∀(kV doc pm:Value) (an:Option Addr) (cdv ct:Value) (us:List Value),us.length=ps.length→bindArgs (W.fnOf nm qual (defArgs st) (defBody st) (defScope st) .none kV doc pm an cdv ct) ⟨us,[]⟩=pure (ps.zip us))
  (hbody:∀(f:Addr) (A:Around) (outer:List Env) (s:Shared) (H:Hp) (vs:List V) (Q:VK) (E:XK),Room k (A.deeper (envOfC qual (defScope st) s.heap.objs.size f (.ref c)))→sp vs H Q E →
   ∃t,PSs (cxOf CX P w K mg base N qual (defScope st) f (.ref c) A outer s H E).nox (defBody st) t∧t { nx:=fun _ H'=>Q .non H',rt:=Q } (start N vs) H):FnTells P w K mg base CX (k + 1) f ps sp:=by
 obtain ⟨fd,F,hc⟩:=h
 refine ⟨fd,?_,F.binds hb⟩
 obtain ⟨oc,od,kV,doc,pm,an,cdv,ct,osl,rfl,lk,hcd⟩:=F.ex
 obtain rfl:cdv=.ref c:=hc
 refine fn_of lk hcd S len fun A outer s H vs Q E hr hsp=>?_
 obtain ⟨t,h,q⟩:=hbody f A outer s H vs Q E hr hsp
 exact ⟨t,h.nox,q⟩
end
def OnlyT (ts:List Addr) (H:Hp):Prop:=(∀p∈ts,H p=some (.tbl #[]))∧∀b,b ∉ ts→H b=none∨∃o xs,H b=some (.frz o (.lst xs))
theorem law_callT {P:Program} {w:World} {K:W.Frag} {mg mb:Str→Option Value} {CX:CXT} {k:Nat} {fa a:Addr} {fd:FuncData} {x:Str} {sp:Sp} {s₁:Shared} {vs:List Value} {ns:List Int} {ts:List Addr}
  (KX:K.In s₁.heap) (hns:s₁.heap.Ns mainGlobals mg) (hb:s₁.heap.Ns builtinsNs mb) (hbb:∀x:Str,x ≠ "__name__" → mb x=bootBuiltins x) (hlim:s₁.heap.NoLimit) (hg:s₁.gens=#[]) (hB:Bm mg s₁.heap)
  (hts:∀p∈ts,s₁.heap.get? p=some (W.tabObj #[])) (hct:∀p∈ts,isCodeTable s₁.heap p) (hKt:∀p∈ts,K.lookup p=none)
  (ha:s₁.heap.get? a=some { cls:=.type "list", data:=.seq vs.toArray }) (hi:IntsAre vs ns) (hl:ns.length≤sizeLine) (hr:Room k callerA)
  (F:∀base:Heap,K.In base→base.Ns mainGlobals mg→Bm mg base→FnOk P w K mg base CX k fa fd [x] sp) (hbind:∀(s:Shared) (u:Value),BindsTo s fd ⟨[u],[]⟩ [(x,u)])
  (hsp:∀H:Hp,OnlyT ts H→a ∉ ts→SqL K H a (ns.map V.int)→sp [.ref a] H (fun v _=>v=.bl true) fun _ _ _=>False)
  (hCX:∀H e s',CX [] H s₁ (fun _ _ _=>False) e s'→False) :
  codeAny (model P w) callerA (.call (.ref fa) ⟨[.ref a],[]⟩) (fun r s'=>r=.ok (.ret (.bool true))∧OldK s₁.heap s'.heap∧s'.os=s₁.os∧AllBare s'.gens) s₁:=by
 have rv:=vals_ints hi
 have lenV:=hi.length
 have nat:a ∉ ts:=fun z=>by
  have:=hts a z
  rw [ha] at this
  cases this
 have core:∀H:Hp,OnlyT ts H→SqL K H a (ns.map V.int)→HOk P w H s₁.heap→(∀b,b ∉ ts→H b≠none→b=a)→(H a≠none→K.lookup a=none) →
   codeAny (model P w) callerA (.call (.ref fa) ⟨[.ref a],[]⟩) (fun r s'=>r=.ok (.ret (.bool true))∧OldK s₁.heap s'.heap∧s'.os=s₁.os∧AllBare s'.gens) s₁:=by
  intro H hO hS hok hA hK
  have kindOf:∀{b:Addr} {o:Obj},s₁.heap.get? b=some o→H b≠none→o=W.tabObj #[]∨o={ cls:=.type "list", data:=.seq vs.toArray }:=fun {b o} e n=>by
   by_cases hb:b∈ts
   ·left
    have:=hts b hb
    rw [e] at this
    exact Option.some.inj this
   ·right
    have:=hA b hb n
    rw [this,ha] at e
    exact (Option.some.inj e).symm
  have keep:∀{b:Addr} {o:Obj},s₁.heap.get? b=some o→o≠W.tabObj #[]→o≠{ cls:=.type "list", data:=.seq vs.toArray }→(hidT s₁.heap H).get? b=some o:=fun {b o} e n1 n2=>hidT_get e (by
   cases q:H b with
   | none=>rfl
   | some u =>
    rcases kindOf e (by rw [q];simp) with z | z
    ·exact absurd z n1
    ·exact absurd z n2)
  have nsK:∀{b:Addr} {m:Str→Option Value},s₁.heap.Ns b m→(hidT s₁.heap H).Ns b m:=fun {b m} ⟨o,es,ep,e,d,r⟩=>⟨o,es,ep,keep e (fun z=>by rw [z] at d;cases d) (fun z=>by rw [z] at d;cases d),d,r⟩
  have hKb:K.In (hidT s₁.heap H):=fun b o e=>hidT_get (KX b o e) (by
   cases q:H b with
   | none=>rfl
   | some u =>
    by_cases hb:b∈ts
    ·rw [hKt b hb] at e
     cases e
    ·have z:=hA b hb (by rw [q];simp)
     rw [z] at e q
     rw [hK (by rw [q];simp)] at e
     cases e)
  have hBb:Bm mg (hidT s₁.heap H):=by
   obtain ⟨bm,ob,b1,b2,b3,b4,b5,b6⟩:=hB
   exact ⟨bm,ob,b1,b2,keep b3 (fun z=>by rw [z] at b4;cases b4) (fun z=>by rw [z] at b6;cases b6),b4,b5,b6⟩
  have hM:Mod K mg (hidT s₁.heap H):=⟨hKb,nsK hns,⟨mb,nsK hb,hbb⟩,let ⟨mc,h1,h2⟩:=hlim;⟨mc,nsK h1,h2⟩⟩
  have e0:Env0 P w K mg (hidT s₁.heap H) callerA [] s₁ H:=⟨rfl,hM,fun b o e=>of_hidT e,Nat.le_of_eq (hidT_size _ _),trivial,fun b hb=>absurd (show b∈([]:List Addr) from hb) (by simp),hok,.of_eq hg⟩
  refine codeAny_mono ((F _ hKb (nsK hns) hBb).run callerA [] s₁ H ⟨[.ref a],[]⟩ [.ref a] [.ref a] _ _ hr e0 (hbind s₁ (.ref a)) (.cons rfl .nil) (hsp H hO nat hS)) fun r s' h=>?_
  rcases r with e | fl
  ·exact (hCX H e s' h).elim
  ·rcases fl with _ | _ | _ | u
   ·exact False.elim h
   ·exact False.elim h
   ·exact False.elim h
   ·obtain ⟨v,H',os,bare,un,hok',r',q⟩:=h
    obtain rfl:v=.bl true:=q
    obtain rfl:u=Value.bool true:=r'
    refine ⟨rfl,?_,os,bare⟩
    have each:∀b o,s₁.heap.get? b=some o→s'.heap.get? b=some o∨(b∈ts∧o=W.tabObj #[]∧∃more,s'.heap.get? b=some (W.tabObj (#[]++more))):=fun b o e=>by
     cases q:H b with
     | none=>exact .inl (un.keep b o e q (fun z=>absurd (show b∈([]:List Addr) from z) (by simp)) (by simp))
     | some u =>
      by_cases hb:b∈ts
      ·right
       have e1:=hts b hb
       rw [e] at e1
       obtain ⟨more,e2⟩:=un.tbls b #[] (hO.1 b hb)
       exact ⟨hb,Option.some.inj e1,more,hok' b _ e2⟩
      ·left
       rcases hO.2 b hb with z | ⟨ob,xs,z⟩
       ·rw [q] at z
        cases z
       ·have e1:=(hok b _ z).1
        rw [e] at e1
        cases e1
        exact (hok' b _ (un.frzs b _ _ z)).1
    refine ⟨fun b o e=>?_,fun b o e=>?_⟩
    ·rcases each b o e with z | ⟨hb,rfl,more,z⟩
     ·exact .inl z
     ·exact .inr (.inl ⟨hct b hb,rfl,#[],more,rfl,z⟩)
    ·rcases each b o e with z | ⟨_,_,more,z⟩
     ·exact ⟨_,z⟩
     ·exact ⟨_,z⟩
 cases hk:K.lookup a with
 | some o =>
  have e:=KX a o hk
  rw [ha] at e
  cases e
  refine core (fun b=>if b∈ts then some (.tbl #[]) else none) ⟨fun p hp=>if_pos hp,fun b hb=>.inl (if_neg hb)⟩ (.inr ⟨_,vs.toArray,_,hk,rfl,rfl,rfl,by rw [List.size_toArray,lenV];exact hl,by simpa using rv⟩) (fun b u z=>?_) (fun b hb z=>absurd (if_neg hb) z) fun z=>absurd (if_neg nat) z
  by_cases hb:b∈ts
  ·have z':=(if_pos hb).symm.trans z
   cases z'
   exact hts b hb
  ·have z':=(if_neg hb).symm.trans z
   cases z'
 | none =>
  refine core (fun b=>if b∈ts then some (.tbl #[]) else if b=a then some (.frz { cls:=.type "list", data:=.seq vs.toArray } (.lst (ns.map V.int))) else none) ⟨fun p hp=>if_pos hp,fun b hb=>?_⟩ (.inl (.inr ⟨{ cls:=.type "list", data:=.seq vs.toArray },?_⟩)) (fun b u z=>?_) (fun b hb z=>?_) fun _=>hk
  ·by_cases h:b=a
   ·exact .inr ⟨_,_,(if_neg hb).trans (if_pos h)⟩
   ·exact .inl ((if_neg hb).trans (if_neg h))
  ·exact (if_neg nat).trans (if_pos rfl)
  ·by_cases hb:b∈ts
   ·have z':=(if_pos hb).symm.trans z
    cases z'
    exact hts b hb
   ·by_cases h:b=a
    ·have z':=((if_neg hb).trans (if_pos h)).symm.trans z
     cases z'
     rw [h]
     exact ⟨ha,by rw [List.length_map];exact hl,vs,_,rv,ha⟩
    ·have z':=((if_neg hb).trans (if_neg h)).symm.trans z
     cases z'
  ·by_cases h:b=a
   ·exact h
   ·exact absurd ((if_neg hb).trans (if_neg h)) z
theorem walk_ofT {l:W.OpenLaw} {n k:Nat} {q:Program} {loose:List Str} {XP:(Str→Option Value)→Heap→Prop} {YP:World→Heap→Prop} {d:DefRec} {K:Params→W.Frag} {CX:World→CXT} {sp:World→Sp} {x:Str} {ts:List Addr}
  (hn:l.most=some n) (hn2:n≤sizeLine) (hdf:d.params.defaults=[]) (hr:Room k callerA)
  (hY:∀(w:World) (h:Heap),YP w h→(K w.params).In h∧∀p∈ts,h.get? p=some (W.tabObj #[]))
  (F:∀(w:World) (mg:Str→Option Value) (fa:Addr) (h:Heap),(K w.params).In h→h.Ns mainGlobals mg→mg d.name=some (.ref fa)→(∀p∈ts,(K w.params).lookup p=none∧∃c,W.codeHdIn (K w.params) c p=true) ∧
   ∃fd:FuncData,(∀(s:Shared) (u:Value),BindsTo s fd ⟨[u],[]⟩ [(x,u)]) ∧
    ∀base:Heap,(K w.params).In base→base.Ns mainGlobals mg→Bm mg base→FnOk l.prog w (K w.params) mg base (CX w) k fa fd [x] (sp w))
  (hsp:∀(w:World) (H:Hp) (a:Addr) (ns:List Int),ns.length≤n→OnlyT ts H→a ∉ ts→SqL (K w.params) H a (ns.map V.int)→sp w [.ref a] H (fun v _=>v=.bl true) fun _ _ _=>False)
  (hCX:∀(w:World) (H:Hp) (s:Shared) (e:Value) (s':Shared),CX w [] H s (fun _ _ _=>False) e s'→False) :
  W.WalkO q loose XP YP l.row.toRowW d [] (fun f vs=>PySem.call f vs):=by
 refine Att.attach_call hn hdf fun w s₀ s₁ mg mb fa o pm cd doc a vs ns G Y ho hd hcd hmg hobj hints hlen hg=>?_
 obtain ⟨KX,hts⟩:=hY w _ Y
 obtain ⟨hT,fd,hb,hF⟩:=F w mg fa _ KX G.T.g hmg
 refine law_callT KX G.T.g G.T.b G.T.builtins G.T.nolimit hg G.T.bmain hts (fun p hp=>?_) (fun p hp=>(hT p hp).1) hobj hints (Nat.le_trans hlen hn2) hr hF hb (fun H hO hn hS=>hsp w H a ns hlen hO hn hS) fun H e s'=>hCX w H s₁ e s'
 obtain ⟨c,hc⟩:=(hT p hp).2
 obtain ⟨o,vs,_,_,_,_,_,_,_,e1,e2,e3,e4,_⟩:=W.codeHd_of_K KX hc
 exact ⟨c,o,vs,e1,e2,e3,e4⟩
end L2
namespace L2
open PySem PySem.Spec PyProof.Rows PySem.SeqAt
def tx (cs:List Nat):Str:=⟨cs.toArray⟩
theorem tx_len (cs:List Nat):(tx cs).length=cs.length:=by simp [tx,Str.length]
theorem tx_cps (cs:List Nat):(tx cs).cps.toList=cs:=by simp [tx]
theorem tx_inj {a b:List Nat} (h:tx a=tx b):a=b:=by
 have:=congrArg (fun z:Str=>z.cps.toList) h
 simpa [tx] using this
def rSlS:R2:=fun x y H Q=>∃z j,x=.str z∧y=.int j∧z.length≤sizeLine∧Q (.str (Txt.slice z none (some j))) H
def tSlS (te th:TE):TE:=fun σ H Q=>te σ H fun x H1=>th σ H1 fun y H2=>rSlS x y H2 Q
section
variable {X:Cx} {e hi:Expr} {te th:TE} {p2 pos:Pos}
theorem pe_slS (he:PE X e te) (hu:PE X hi th):PE X (.Subscript e (.Slice none (some hi) none p2) pos) (tSlS te th):=by
 intro pins s σ H Q I h
 refine Subscript_ (thn (he pins s σ H _ I h) fun v s1 ⟨x,H1,I1,r1,q1⟩=>?_)
 refine wpAny_Slice (wpAny_evalPart_none (wpAny_evalPart_some (thn (hu pins s1 σ H1 _ I1 q1) fun vu s3 ⟨y,H3,I3,pu,z,j,e1,e2,hz,q3⟩=>wpAny_evalPart_none ?_)))
 subst e1
 subst e2
 obtain ⟨t,rfl⟩:=r1
 obtain ⟨t2,rfl⟩:=pu
 obtain ⟨Tn,id,h1,h2,h3⟩:=SBH.sliceItem_ns (prog:=X.prog) (w:=X.w) (A:=X.A) (E:=X.xe) (s:=s3) (P:=fun h=>∀b o,s3.heap.get? b=some o→h.get? b=some o) (Q:=EP X pins σ Q) (x:=z) (t:=t) (j:=j) (uj:=t2) (fun h ob k b o e4=>Heap.get?_push_of_some _ (k b o e4)) (fun _ _ e4=>e4) (fun h' t' k kp=>⟨.str _,H3,I3.kept kp,⟨t',rfl⟩,q3⟩) hz
 exact tail_any (ops:=[.ref s3.heap.objs.size,.str z t]) h2 h1 h3 (by with_unfolding_all rfl)
def rMulS:R2:=fun x y H Q=>∃z n,x=.str z∧y=.int n∧MulOk z n∧Q (.str (Txt.mul z n)) H
theorem op_mulS:OpR X (binaryOp .Mult) rMulS:=op_mul_str
end
theorem slice_tx (cs:List Nat) (j:Nat):Txt.slice (tx cs) none (some (j:Int))=tx (cs.take j):=by
 have hn:¬ ((j:Int) < 0):=by lia
 have hix:Builtin.Str.strSliceIndices none (some (j:Int)) 1 (tx cs).length=List.range (min j cs.length):=by
  unfold Builtin.Str.strSliceIndices sliceRange
  dsimp only
  rw [tx_len]
  simp only [show (1:Int) > 0 from by decide,if_true,hn,if_false]
  have e1:max (0:Int) (min (j:Int) (cs.length:Int))=((min j cs.length:Nat):Int):=by lia
  rw [e1]
  by_cases h:(0:Int) < ((min j cs.length:Nat):Int)
  ·rw [if_pos h]
   have e2:((((min j cs.length:Nat):Int) - 0 + 1 - 1) / 1).toNat=min j cs.length:=by
    rw [Int.ediv_one]
    lia
   rw [e2]
   have e3:(fun k:Nat=>((0:Int) + 1 * (k:Int)).toNat)=id:=by
    funext k
    show ((0:Int) + 1 * (k:Int)).toNat=k
    lia
   rw [e3,List.map_id]
  ·rw [if_neg h]
   have:min j cs.length=0:=by lia
   rw [this]
   rfl
 unfold Txt.slice
 rw [hix,List.length_range,tx_len]
 by_cases h:min j cs.length=cs.length
 ·rw [if_pos (by rw [h];simp)]
  rw [List.take_of_length_le (by lia)]
 ·rw [if_neg (by simp [h])]
  unfold tx
  congr 2
  have hfm:∀(n:Nat),n≤cs.length→(List.range n).filterMap (fun i=>cs.toArray[i]?)=cs.take n:=by
   intro n
   induction n with
   | zero=>intro _;rfl
   | succ n ih =>
    intro hn
    rw [List.range_succ,List.filterMap_append,ih (by lia),List.take_succ,List.filterMap_cons,List.filterMap_nil]
    have:cs.toArray[n]?=cs[n]?:=by simp
    rw [this]
    cases cs[n]? <;> rfl
  have:=hfm (min j cs.length) (by lia)
  rw [this]
  by_cases hj:j≤cs.length
  ·rw [show min j cs.length=j by lia]
  ·exact absurd (by lia) h
theorem mul_tx (c:Nat) (n:Int):Txt.mul (tx [c]) n=tx (List.replicate n.toNat c):=by
 have h:=mul_one_list c n
 have e:(tx [c])=⟨#[c]⟩:=rfl
 rw [e]
 have:∀z:Str,z=tx z.cps.toList:=fun z=>by cases z;simp [tx]
 rw [this (Txt.mul ⟨#[c]⟩ n),h]
theorem append_tx (a b:List Nat):tx a++tx b=tx (a++b):=by
 show Str.append _ _=_
 unfold Str.append tx
 simp
section
variable {K:W.Frag} {H0 H:Hp} {M:List Addr} {L L':List (Addr×HO)} {I:List Im} {l P f:Addr} {xs ys:List V} {v y:V} {Q:VK} {R:Hp→Prop} {te th:TE} {σ:St} {i:Int} {cs ds:List Nat} {j c:Nat} {pos:Pos} {qual:Str} {ps:Array Value}
instance go_slS:Go (tSlS te th σ H Q) (te σ H fun x H1=>th σ H1 fun y H2=>rSlS x y H2 Q):=⟨id⟩
instance go_rslS:Go (rSlS (.str (tx cs)) (.int i) H Q) (Sd (0≤i∧cs.length≤1000) (Q (.str (tx (cs.take i.toNat))) H)):=⟨fun s=>⟨_,i,rfl,rfl,by rw [tx_len];exact small_line (by have:=s.1.2;lia),by
 have:=slice_tx cs i.toNat
 rw [show ((i.toNat:Nat):Int)=i by have:=s.1.1;lia] at this
 rw [this]
 exact s.2⟩⟩
instance go_rixS:Go (rIxS (.str (tx cs)) (.int i) H Q) (Sd (0≤i∧i < cs.length∧cs.length≤1000) (∀c:Nat,cs[i.toNat]?=some c→Q (.str (tx [c])) H)):=⟨fun s=>by
 obtain ⟨⟨h0,h1,h2⟩,k⟩:=s
 have hl:i.toNat < cs.length:=by lia
 refine ⟨tx cs,i,cs[i.toNat],rfl,rfl,by rw [tx_len];exact small_line (by lia),?_,k _ (by simp)⟩
 rw [tx_cps]
 obtain ⟨n,rfl⟩:∃n:Nat,i=(n:Int):=⟨i.toNat,by lia⟩
 exact atI_nat (by simp)⟩
instance go_raddS:Go (rAddS (.str (tx cs)) (.str (tx ds)) H Q) (Sd (cs.length + ds.length≤1000) (Q (.str (tx (cs++ds))) H)):=⟨fun s=>⟨_,_,rfl,rfl,by rw [tx_len,tx_len];exact small_line (by have:=s.1;lia),by rw [append_tx];exact s.2⟩⟩
instance go_rmulS:Go (rMulS (.str (tx [c])) (.int i) H Q) (Sd (0≤i∧i≤1000) (Q (.str (tx (List.replicate i.toNat c))) H)):=⟨fun s=>by
 obtain ⟨⟨h0,h1⟩,k⟩:=s
 refine ⟨_,i,rfl,rfl,⟨?_,fun a b=>?_,fun a b=>?_⟩,by rw [mul_tx];exact k⟩
 ·rw [decide_eq_false (by lia),decide_eq_false (by lia)]
  rfl
 ·rw [tx_len]
  have:(1:Int)≤(2 ^ 63 - 1) / i:=by
   rw [Int.le_ediv_iff_mul_le (by lia)]
   lia
  simp only [List.length_cons,List.length_nil]
  lia
 ·unfold Builtin.Str.tooLong
  rw [tx_len]
  refine decide_eq_false ?_
  have:=small_line (n:=1 * i.toNat) (by lia)
  simp only [List.length_cons,List.length_nil]
  lia⟩
theorem w_tupD {n i0 i1 i2 i3:Nat} {a b c d:V} {R:St→Hp→Prop} (hn:n=4) (hp:SqT K H l [a,b,c,d]) (h:gName i0 a σ H fun σ1 H1=>gName i1 b σ1 H1 fun σ2 H2=>gName i2 c σ2 H2 fun σ3 H3=>gName i3 d σ3 H3 R):gTup K n (gCons (gName i0) (gCons (gName i1) (gCons (gName i2) (gCons (gName i3) gNil)))) (.ref l) σ H R:=by
 subst hn
 exact ⟨l,_,rfl,hp,rfl,_,_,rfl,_,_,rfl,_,_,rfl,_,_,rfl,rfl,h⟩
instance go_tup4 {n i0 i1 i2 i3:Nat} {a b c d:V} {R:St→Hp→Prop} [h:SqB K H l [a,b,c,d]]:Go (gTup K n (gCons (gName i0) (gCons (gName i1) (gCons (gName i2) (gCons (gName i3) gNil)))) (.ref l) σ H R) (Sd (n=4) (gName i0 a σ H fun σ1 H1=>gName i1 b σ1 H1 fun σ2 H2=>gName i2 c σ2 H2 fun σ3 H3=>gName i3 d σ3 H3 R)):=⟨fun s=>w_tupD s.1 h.e s.2⟩
theorem TabOk.st:∀H H',Tst H H'→TabOk pos qual ps H→TabOk pos qual ps H':=fun H H' t h=>by
 rcases h with h | ⟨c',oc,vs,t',e,e1,e2⟩
 ·exact .inl h
 ·exact .inr ⟨c',oc,vs,t',e,t _ _ rfl e1,e2⟩
theorem IsLam.st:∀H H',Tst H H'→IsLam H f→IsLam H' f:=fun H H' t h=>by
 obtain ⟨a1,a2,a3,a4,a5,a6,a7,a8,a9,a10,a11,a12,a13,a14,e1,e2,r⟩:=h
 exact ⟨a1,a2,a3,a4,a5,a6,a7,a8,a9,a10,a11,a12,a13,a14,t _ _ rfl e1,t _ _ rfl e2,r⟩
abbrev TabI (pos:Pos) (qual:Str) (ps:Array Value):Im:=.fct (TabOk pos qual ps) TabOk.st
abbrev LamI (f:Addr):Im:=.fct (fun H=>IsLam H f) IsLam.st
class TabA (I:List Im) (pos:Pos) (qual:Str) (ps:Array Value):Prop where
 m:TabI pos qual ps∈I
class LamA (I:List Im) (f:Addr):Prop where
 m:LamI f∈I
instance tabA1 {g:Im} [h:TabA I pos qual ps]:TabA (g::I) pos qual ps:=⟨List.mem_cons_of_mem _ h.m⟩
instance tabA0:TabA (TabI pos qual ps::I) pos qual ps:=⟨List.mem_cons_self⟩
instance lamA0:LamA (LamI f::I) f:=⟨List.mem_cons_self⟩
theorem SH.tab [F:SH H0 M H L I] [h:TabA I pos qual ps]:TabOk pos qual ps H:=F.im _ h.m
instance go_lam [F:SH H0 M H L I] [e:LkL L P (.tbl ps)] [t:TabA I pos qual ps]:Go (tLam P pos qual σ H Q) (∀(f:Addr) (ps':Array Value) (H':Hp),Kp P H H'→H' P=some (.tbl ps')→TabOk pos qual ps' H'→IsLam H' f→Q (.ref f) H'):=⟨fun k=>⟨ps,F.raw e.m,F.im _ t.m,k⟩⟩
instance nx_tab [F:SH H0 M H L I] [u:LkU L P (.tbl ps) L']:Go (∀H',Kp P H H'→H' P=some (.tbl ps)→TabOk pos qual ps H'→R H') (∀H',SH H0 M H' L' (TabI pos qual ps::I)→R H'):=⟨fun k H' f e t=>k H' ((F.kp f e u.u rfl).addF t)⟩
instance nx_lam [F:SH H0 M H L I] [u:LkU L P (.tbl ps) L']:Go (∀H',Kp P H H'→H' P=some (.tbl ps)→TabOk pos qual ps H'→IsLam H' f→R H') (∀H',SH H0 M H' L' (LamI f::TabI pos qual ps::I)→R H'):=⟨fun k H' f e t g=>k H' (((F.kp f e u.u rfl).addF t).addF g)⟩
end
def isLow (c:Nat):Bool:=decide (97≤c) && decide (c≤122)
def isFig (c:Nat):Bool:=decide (48≤c) && decide (c≤57)
def LET:Str := "abcdefghijklmnopqrstuvwxyz"
def SGN:Str := "abcdefghijklmnopqrstuvwxyz0123456789"
theorem let_low (c:Nat):decide (c∈LET.cps.toList)=isLow c:=by
 rw [show LET.cps.toList=List.range' 97 26 by decide +kernel]
 unfold isLow
 rw [Bool.eq_iff_iff]
 simp only [decide_eq_true_eq,List.mem_range'_1,Bool.and_eq_true]
 lia
theorem sgn_low (c:Nat):decide (c∈SGN.cps.toList)=(isLow c || isFig c):=by
 rw [show SGN.cps.toList=List.range' 97 26++List.range' 48 10 by decide +kernel]
 unfold isLow isFig
 rw [Bool.eq_iff_iff]
 simp only [decide_eq_true_eq,List.mem_append,List.mem_range'_1,Bool.and_eq_true,Bool.or_eq_true]
 lia
structure NameOk (cs:List Nat):Prop where
 lo:1≤cs.length
 hi:cs.length≤8
 hd:∀c,cs[0]?=some c→isLow c=true
 all:∀c∈cs,(isLow c || isFig c)=true
structure Rw where
 nm:List Nat
 st:Nat
 sz:Nat
 pn:Nat
abbrev rowV (r:Rw):List V:=[.str (tx r.nm),.int (r.st:Nat),.int (r.sz:Nat),.int (r.pn:Nat)]
def rowsV (rs:List Rw):List (List V):=rs.map rowV
theorem rowsV_len (rs:List Rw):(rowsV rs).length=rs.length:=List.length_map ..
structure GoodR (n:Nat) (r:Rw):Prop where
 nm:NameOk r.nm
 sz:1≤r.sz
 le:r.st + r.sz≤n
def Apart (r s:Rw):Prop:=r.nm≠s.nm∧(r.st + r.sz≤s.st∨s.st + s.sz≤r.st)
theorem Apart.symm {r s:Rw} (h:Apart r s):Apart s r:=⟨fun z=>h.1 z.symm,h.2.elim .inr .inl⟩
structure Lay (n:Nat) (rs:List Rw):Prop where
 good:∀r∈rs,GoodR n r
 ap:rs.Pairwise Apart
 few:rs.length≤40
def Asc (rs:List Rw):Prop:=rs.Pairwise fun r s=>r.st + r.sz≤s.st
theorem Lay.perm {n:Nat} {rs qs:List Rw} (h:Lay n rs) (p:rs.Perm qs):Lay n qs:=⟨fun r hr=>h.good r (p.mem_iff.mpr hr),(p.pairwise_iff (fun {a b}=>Apart.symm)).mp h.ap,by rw [← p.length_eq];exact h.few⟩
theorem rowsV_at {H:Hp} {rs:List Rw} {ys:List V} {i:Nat} {v:V} (h:TupsAt H ys (rowsV rs)) (e:ys[i]?=some v):∃r q,rs[i]?=some r∧v=.ref q∧H q=some (.tup (rowV r)):=by
 obtain ⟨r,q,e1,e2,e3⟩:=tups_at h e
 unfold rowsV at e1
 rw [List.getElem?_map] at e1
 cases e4:rs[i]? with
 | none=>rw [e4] at e1;cases e1
 | some w=>rw [e4] at e1;cases e1;exact ⟨w,q,rfl,e2,e3⟩
theorem perm_of_map {α β:Type} {f:α→β} {l:List β} {m:List α} (p:l.Perm (m.map f)):∃k:List α,k.Perm m∧l=k.map f:=by
 generalize hm:m.map f=m' at p
 induction p generalizing m with
 | nil=>exact ⟨[],by rw [List.map_eq_nil_iff.mp hm],rfl⟩
 | cons x p ih =>
  cases m with
  | nil=>cases hm
  | cons a t =>
   rw [List.map_cons] at hm
   injection hm with h1 h2
   obtain ⟨k,pk,ek⟩:=ih h2
   exact ⟨a::k,pk.cons a,by rw [List.map_cons,h1,ek]⟩
 | swap x y l =>
  cases m with
  | nil=>cases hm
  | cons a t =>
   cases t with
   | nil=>rw [List.map_cons] at hm;injection hm with h1 h2;cases h2
   | cons b u =>
    rw [List.map_cons,List.map_cons] at hm
    injection hm with h1 h2
    injection h2 with h2 h3
    exact ⟨b::a::u,List.Perm.swap a b u,by rw [List.map_cons,List.map_cons,h1,h2,h3]⟩
 | trans p1 p2 ih1 ih2 =>
  obtain ⟨k,pk,ek⟩:=ih2 hm
  obtain ⟨k2,pk2,ek2⟩:=ih1 ek.symm
  exact ⟨k2,pk2.trans pk,ek2⟩
theorem rise_one:∀{as bs:List Rw},as.Perm bs→as.Pairwise (fun r s=>r.st≤s.st)→bs.Pairwise (fun r s=>r.st < s.st)→as=bs:=by
 intro as
 induction as with
 | nil=>intro bs p _ _;exact (List.nil_perm.mp p).symm
 | cons a t ih =>
  intro bs p ha hb
  cases bs with
  | nil=>exact absurd p.length_eq (by simp)
  | cons b u =>
   have e:a=b:=by
    rcases List.mem_cons.mp (p.mem_iff.mp List.mem_cons_self) with h | h
    ·exact h
    ·have h1:=(List.pairwise_cons.mp hb).1 a h
     rcases List.mem_cons.mp (p.mem_iff.mpr (List.mem_cons_self (a:=b) (l:=u))) with h2 | h2
     ·exact h2.symm
     ·have h3:=(List.pairwise_cons.mp ha).1 b h2
      lia
   subst e
   rw [ih (List.perm_cons a |>.mp p) (List.pairwise_cons.mp ha).2 (List.pairwise_cons.mp hb).2]
theorem zip_map1 {rs:List Rw} {ys:List V}:(rs.map fun r=>((r.st:Nat):Int)).zip ys=(rs.zip ys).map fun p=>(((p.1.st:Nat):Int),p.2):=by
 rw [List.zip_map_left]
 rfl
theorem sort_rows {H:Hp} {rs as:List Rw} {ys zs:List V} (t:TupsAt H ys (rowsV rs)) (p:rs.Perm as) (ha:as.Pairwise fun r s=>r.st < s.st) (s:SortedBy (rs.map fun r=>((r.st:Nat):Int)) ys zs):TupsAt H zs (rowsV as):=by
 obtain ⟨ps,pp,rfl,pw⟩:=s
 rw [zip_map1] at pp
 obtain ⟨qs,pq,rfl⟩:=perm_of_map pp
 have hl:ys.length=rs.length:=by rw [t.1,rowsV_len]
 have e1:(rs.zip ys).map Prod.fst=rs:=List.map_fst_zip (by lia)
 have pf:(qs.map Prod.fst).Perm rs:=by
  have:=pq.map Prod.fst
  rw [e1] at this
  exact this
 have hq:qs.map Prod.fst=as:=by
  refine rise_one (pf.trans p) ?_ ha
  rw [List.pairwise_map] at pw ⊢
  exact pw.imp fun h=>by lia
 have each:∀x∈qs,∃q,x.2=.ref q∧H q=some (.tup (rowV x.1)):=fun x hx=>by
  have hx:=pq.mem_iff.mp hx
  obtain ⟨i,hi,e⟩:=List.getElem_of_mem hx
  rw [List.length_zip] at hi
  rw [List.getElem_zip] at e
  obtain ⟨r,q,e2,e3,e4⟩:=rowsV_at t (v:=ys[i]'(by lia)) (i:=i) (by simp)
  rw [List.getElem?_eq_getElem (by lia)] at e2
  refine ⟨q,by rw [← e];exact e3,?_⟩
  rw [← e]
  show H q=some (.tup (rowV rs[i]))
  rw [Option.some.inj e2]
  exact e4
 refine ⟨by rw [rowsV_len,← hq,List.length_map,List.length_map,List.length_map],fun j r e=>?_⟩
 unfold rowsV at e
 rw [← hq,List.map_map,List.getElem?_map] at e
 cases e5:qs[j]? with
 | none=>rw [e5] at e;cases e
 | some x =>
  rw [e5] at e
  cases e
  obtain ⟨q,e6,e7⟩:=each x (List.mem_of_getElem? e5)
  exact ⟨q,by rw [List.map_map,List.getElem?_map,e5];show some x.2=_;rw [e6],e7⟩
theorem Asc.lt {n:Nat} {rs:List Rw} (h:Asc rs) (g:∀r∈rs,GoodR n r):rs.Pairwise fun r s=>r.st < s.st:=by
 refine List.Pairwise.imp_of_mem ?_ h
 intro a b ha hb hab
 have:=(g a ha).sz
 lia
def rInS:R2:=fun x y H Q=>∃c j,x=.str ⟨#[c]⟩∧y=.str j∧Q (.bl (decide (c∈j.cps.toList))) H
section
variable {X:Cx} {K:W.Frag} {H:Hp} {Q:VK} {z:Str} {cs:List Nat} {c:Nat} {t0 te:TE} {nt:Nat} {fr:List Nat} {g:TG} {cc:TT} {σ fvs:St} {p f l:Addr} {bs:List Bool} {ys:List V} {rs:List Rw}
theorem op_inS:OpR X (compareOp .In) rInS:=op_in_str1
instance go_inS:Go (rInS (.str (tx [c])) (.str z) H Q) (Q (.bl (decide (c∈z.cps.toList))) H):=⟨fun k=>⟨c,z,rfl,rfl,k⟩⟩
instance go_isSS:Go (rIsT K [.str z,.ty "str"] H Q) (Q (.bl true) H):=⟨fun k=>w_is (TyOf.str (K:=K) (H:=H) z) (bt_str (TyOf.str (K:=K) (H:=H) z)) k⟩
instance go_lenS:Go (rLen K [.str (tx cs)] H Q) (Sd (cs.length≤1000) (Q (.int cs.length) H)):=⟨fun s=>w_lenS (by rw [tx_len];exact small_line (by have:=s.1;lia)) (by rw [tx_len];exact s.2)⟩
instance go_compS:Go (tComp (iStr t0) nt fr g cc te σ H Q) (t0 σ H fun x H1=>∃z,x=.str z∧CompAll (Its z) nt fr g cc te σ H1 Q):=⟨id⟩
instance go_compS1:Go (∃z',V.str z=.str z'∧CompAll (Its z') nt fr g cc te σ H Q) (CompAll (Its z) nt fr g cc te σ H Q):=⟨fun k=>⟨z,rfl,k⟩⟩
theorem comp_S {F:Nat→V} (hz:cs.length≤1000) (hf:(fr.map fun i=>(σ[i]?).getD none)=fvs) (turn:∀(c:Nat) (H':Hp) (R:VK),c∈cs→Same H H'→(∀H2,Same H' H2→R (F c) H2)→te (some (.str (tx [c]))::fvs) H' R)
  (k:∀p H',New H H' p (.lst (cs.map F))→Q (.ref p) H'):CompAll (Its (tx cs)) 1 fr (gName 0) tTrue te σ H Q:=by
 have e0:signsV (tx cs)=cs.map fun c=>V.str (tx [c]):=by
  unfold signsV
  rw [tx_cps]
  rfl
 refine comp_map (P:=fun i y=>∃c,cs[i]?=some c∧y=F c) (items_str (z:=tx cs)) (by rw [e0,List.length_map];lia) hf (fun _ _=>trivial) (fun i v H' R hv s kk=>?_) fun p H' ys n hl hP=>k p H' ?_
 ·rw [e0,List.getElem?_map] at hv
  cases e:cs[i]? with
  | none=>rw [e] at hv;cases hv
  | some c =>
   rw [e] at hv
   cases hv
   exact turn c H' R (List.mem_of_getElem? e) s fun H2 s2=>kk _ _ s2 ⟨c,e,rfl⟩
 ·have e:ys=cs.map F:=by
   rw [e0,List.length_map] at hl
   apply List.ext_getElem?
   intro i
   rw [List.getElem?_map]
   by_cases hi:i < ys.length
   ·obtain ⟨c,e1,e2⟩:=hP i ys[i] (by simp)
    rw [e1,List.getElem?_eq_getElem hi,e2]
    rfl
   ·rw [List.getElem?_eq_none (by lia),List.getElem?_eq_none (by lia)]
    rfl
  rw [e] at n
  exact n
instance go_all [h:SqA K H p (bs.map V.bl)]:Go (∃(p':Addr) (bs':List Bool),[V.ref p]=[.ref p']∧SqL K H p' (bs'.map V.bl)∧Q (.bl (bs'.all id)) H) (Q (.bl (bs.all id)) H):=⟨fun k=>⟨p,bs,rfl,h.e,k⟩⟩
instance go_sortK {H0:Hp} {M:List Addr} {L:List (Addr×HO)} {I:List Im} [F:SH H0 M H L I] [h:SqA K H l ys] [t:TpA H ys (rowsV rs)] [m:LamA I f]:Go (rSortK K [.ref l] (.ref f) H Q) (Sd (rs.length < 64) (∀D zs H',New H H' D (.lst zs)→SortedBy (rs.map fun r=>((r.st:Nat):Int)) ys zs→Q (.ref D) H')):=⟨fun s=>by
 have hl:ys.length=rs.length:=by rw [t.e.1,rowsV_len]
 refine ⟨l,f,ys,rs.map fun r=>((r.st:Nat):Int),rfl,rfl,F.im _ m.m,h.e,by rw [List.length_map,hl],by rw [hl];exact s.1,fun i v k hv hk=>?_,s.2⟩
 obtain ⟨r,q,e1,e2,e3⟩:=rowsV_at t.e hv
 rw [List.getElem?_map,e1] at hk
 cases hk
 exact ⟨q,_,e2,e3,rfl⟩⟩
instance nx_rowsV {H0:Hp} {M:List Addr} {L:List (Addr×HO)} {I:List Im} {Z:Addr→Hp→Prop} [F:SH H0 M H L I]:Go (∀p ys H',New H H' p (.lst ys)→TupsAt H' ys (rowsV rs)→Z p H') (∀H' p ys,ys.length=rs.length→SH H0 M H' ((p,.lst ys)::L) (.tps ys (rowsV rs)::I)→Z p H'):=⟨fun k p ys H' n t=>k H' p ys (by rw [t.1,rowsV_len]) (F.newR n t)⟩
end
end L2
namespace L2
open PySem PySem.Spec PyProof.Rows
def Itv (K:W.Frag) (a:Addr) (xs:List V):It :=
 ⟨fun i H=>SqL K H a xs∧i < xs.length,fun i H x H'=>H'=H∧xs[xs.length - 1 - i]?=some x,fun i H=>SqL K H a xs∧xs.length≤i⟩
theorem turn_rev {P:Program} {w:World} {K:W.Frag} {tg:Expr} (a it:Addr) (xs:List V):Turn P w K tg (Itv K a xs) [it] it (fun i h=>i≤xs.length∧h.IsRevIter it a ((xs.length:Int) - 1 - (i:Nat))) where
 mem:=by simp
 obj:=fun i h st b hb=>by
  have e:b=it:=by simpa using hb
  subst e
  obtain ⟨_,o,e,c,d⟩:=st
  exact ⟨o,e,fun v z=>by rw [d] at z;cases z⟩
 keep:=fun i h h' st k=>⟨st.1,st.2.at fun o e=>k it (by simp) o e⟩
 item:=by
  intro X hP hw hK hc i pins s σ H E I hf st hg
  subst hP hw hK
  obtain ⟨hq,hlt⟩:=hg
  obtain ⟨its,rv,p,hz⟩:=I.list hq
  have hx:xs[xs.length - 1 - i]?=some (xs[xs.length - 1 - i]'(by lia)):=by simp
  generalize xs[xs.length - 1 - i]'(by lia)=x at hx
  obtain ⟨u,hu,ru⟩:=rv.get hx
  obtain ⟨f0,f1,f2,f3,f4,f5⟩:=hf it (by simp)
  have hit:=st.2
  rw [show (xs.length:Int) - 1 - (i:Nat)=((xs.length - 1 - i:Nat):Int) by lia] at hit
  refine wpAny_pyNext_rev_item hit p.isList (x:=u) (by simpa using hu) fun h' st' sb=>?_
  rw [show ((xs.length - 1 - i:Nat):Int) - 1=(xs.length:Int) - 1 - ((i + 1:Nat):Int) by lia] at st'
  have I1:Inv X pins σ H { s with heap:=h' }:=I.turned (t':=s.toks) (fun b o hb e=>(sb.2 b hb).trans e) f0 f1 f3 f4 f5
  obtain ⟨o,e,c,d⟩:=id st'
  exact ⟨u,rfl,go_of (s:={ s with heap:=h' }) e c d (by decide) ⟨x,H,I1,ru,⟨rfl,hx⟩,⟨hlt,st'⟩,fun b hb=>(hf b hb).1⟩⟩
 done:=by
  intro X hP hw hK hc i pins s σ H E I hf st hg
  subst hP hw hK
  obtain ⟨f0,f1,f2,f3,f4,f5⟩:=hf it (by simp)
  have hit:=st.2
  have hle:xs.length≤i:=hg.2
  rw [show (xs.length:Int) - 1 - (i:Nat)=-1 by have:=st.1;lia] at hit
  exact wpAny_pyNext_rev_end (I.ok.hd hc) hit fun h' eb=>⟨rfl,I.turned (t':=s.toks) (fun b o hb e=>eb b o hb e) f0 f1 f3 f4 f5⟩
 self:=fun _ _ _ _ _ st h=>wpAny_pyIter_revIter st.2 h
def iRev (K:W.Frag) (ta:TA):TI:=fun σ H R=>ta σ H fun vs H1=>∃a xs,vs=[.ref a]∧SqL K H1 a xs∧R (Itv K a xs) H1
theorem pi_rev {X:Cx} {tg a:Expr} {ta:TA} {p pos:Pos} (hg:Gl X "reversed") (hm:X.mg "reversed" = none) (ha:PA X [a] ta) (hs:starEach [a] X.env=[(false,eval a X.env)]:=by rfl) :
  PI X tg (.Call (.Name "reversed" p) [a] [] pos) (iRev X.K ta):=by
 intro pins s σ H R I h
 refine Call_ (ld_blt I hg hm boot_reversed (PyProof.Rows.callWith_type1 (thn (ha pos pins s σ H _ I h) fun us s1 ⟨vs,H1,I1,r1,q1⟩=>?_) hs rfl))
 obtain ⟨l,xs,e,hq,q⟩:=q1
 subst e
 obtain ⟨u,rfl,r⟩:=vals1 r1
 cases r
 obtain ⟨its,rv,pl,hz⟩:=I1.list hq
 have hlen:its.toArray.size=xs.length:=by rw [List.size_toArray];exact rv.length.symm
 refine call_reversed_list pl.isList ?_
 have hit:(s1.heap.push (revObj l ((its.toArray.size:Int) - 1))).IsRevIter s1.heap.objs.size l ((xs.length:Int) - 1 - ((0:Nat):Int)):=⟨_,Heap.get?_push_size _ rfl,rfl,by rw [hlen,show (xs.length:Int) - 1 - ((0:Nat):Int)=(xs.length:Int) - 1 by lia];rfl⟩
 refine wpAny_pyIter_revIter hit ?_
 refine ⟨s1.heap.objs.size,[s1.heap.objs.size],_,Itv X.K l xs,H1,rfl,I1.kept (t':=s1.toks) fun b o e=>Heap.get?_push_of_some _ e,turn_rev l _ xs,⟨Nat.zero_le _,hit⟩,fun b hb=>?_,q⟩
 have e:b=s1.heap.objs.size:=by simpa using hb
 subst e
 exact I1.fpOk (Nat.le_refl _) (I1.hok.fresh (Nat.le_refl _))
section
variable {K:W.Frag} {g:TG} {tb:TS} {D:Ends} {σ:St} {H:Hp} {tr:TA} {a:Addr} {xs:List V}
def ForV (K:PySem.W.Frag) (a:Addr) (xs:List V) (g:TG) (tb:TS) (D:Ends) (σ:St) (H:Hp):Prop:=∃W:Nat→Nat→St→Hp→Prop,(∃m,W 0 m σ H)∧∀i m σ H,W i m σ H →
      ((Itv K a xs).stop i H∧D.nx σ H)∨((Itv K a xs).go i H∧∃N:St→Hp→Prop,(∀σ' H',N σ' H'→∃m',m' < m∧W (i + 1) m' σ' H')∧∀x H',(Itv K a xs).yld i H x H'→g x σ H' fun σ2 H2=>tb { D with nx:=N,ct:=N,bk:=D.nx } σ2 H2)
theorem forV_by (Pv:Nat→St→Hp→Prop) (h0:Pv 0 σ H) (hl:∀i σ H,i≤xs.length→Pv i σ H→SqL K H a xs)
  (hs:∀i x σ H,i < xs.length→xs[xs.length - 1 - i]?=some x→Pv i σ H→g x σ H fun σ2 H2=>tb { D with nx:=Pv (i + 1),ct:=Pv (i + 1),bk:=D.nx } σ2 H2) (hd:∀σ H,Pv xs.length σ H→D.nx σ H):ForV K a xs g tb D σ H:=by
 refine ⟨fun i m σ H=>m=xs.length - i∧i≤xs.length∧Pv i σ H,⟨xs.length,by simp,Nat.zero_le _,h0⟩,?_⟩
 rintro i m σ H ⟨rfl,hi,p⟩
 have q:=hl i σ H hi p
 by_cases hlt:i < xs.length
 ·refine .inr ⟨⟨q,hlt⟩,Pv (i + 1),fun σ' H' p'=>⟨xs.length - (i + 1),by lia,rfl,hlt,p'⟩,fun x H' y=>?_⟩
  obtain ⟨rfl,hv⟩:=y
  exact hs i x σ H' hlt hv p
 ·have e:i=xs.length:=by lia
  subst e
  exact .inl ⟨⟨q,Nat.le_refl _⟩,hd σ H p⟩
instance go_forV:Go (tFor (iRev K tr) g tb D σ H) (tr σ H fun vs H1=>∃a xs,vs=[.ref a]∧SqL K H1 a xs∧ForV K a xs g tb D σ H1):=⟨id⟩
instance go_vby [h:SqA K H a xs]:Go (∃a' xs',[V.ref a]=[.ref a']∧SqL K H a' xs'∧ForV K a' xs' g tb D σ H) (ForV K a xs g tb D σ H):=⟨fun k=>⟨a,xs,rfl,h.e,k⟩⟩
end
end L2
namespace L2
open PySem PySem.W PySem.Spec PyProof.Rows
section
variable {n:Nat} {rk:Nat→Int} {α β:Type}
def Pp (n:Nat) (p:Array Nat):Prop:=p.Perm (List.range n).toArray
theorem Pp.size {p:Array Nat} (h:Pp n p):p.size=n:=by
 have:=h.size_eq
 simpa using this
theorem Pp.lt {p:Array Nat} (h:Pp n p) {k:Nat} (hk:k < n):p.getD k 0 < n:=by
 have hs:=h.size
 have e:p.getD k 0=p[k]'(by lia):=by rw [Array.getD_eq_getD_getElem?,Array.getElem?_eq_getElem (by lia)];rfl
 rw [e]
 have:=(Array.perm_iff_toList_perm.mp h).mem_iff.mp (show p[k]'(by lia)∈p.toList by simp)
 simpa using this
theorem Pp.ne {p:Array Nat} (h:Pp n p) {a b:Nat} (ha:a < n) (hb:b < n) (hab:a≠b):p.getD a 0≠p.getD b 0:=by
 have hs:=h.size
 have e:∀k (hk:k < n),p.getD k 0=p.toList[k]'(by simpa [hs] using hk):=fun k hk=>by
  rw [Array.getD_eq_getD_getElem?,Array.getElem?_eq_getElem (by lia)]
  rfl
 have nd:p.toList.Nodup:=(Array.perm_iff_toList_perm.mp h).nodup_iff.mpr (by simpa using List.nodup_range)
 rw [e a ha,e b hb]
 intro z
 exact hab ((List.getElem_inj nd).mp z)
end
end L2
namespace L2
open PySem PySem.W PySem.Calls PySem.Spec PyProof.Rows
section
variable {prog:Program} {w:World} {A:Around} {E:Value→Shared→Prop} {s:Shared} {h₀:Heap} {L:Addr} {m:Str→Option Value} {news:List (Addr×Obj)} {vs:List Value}
inductive F2 {α β:Type} (R:α→β→Prop):List α→List β→Prop
 | nil:F2 R [] []
 | cons {a b l m}:R a b→F2 R l m→F2 R (a::l) (b::m)
theorem F2.length_eq {α β:Type} {R:α→β→Prop}:∀{l:List α} {m:List β},F2 R l m→l.length=m.length
 | _,_,.nil=>rfl
 | _,_,.cons _ h=>congrArg (· + 1) h.length_eq
end
end L2
namespace L2
open PySem PySem.Spec PyProof.Rows PySem.SeqAt
section
variable {K:W.Frag} {H:Hp} {Q:VK} {l p q:Addr} {x:V} {r xs ys zs:List V} {rs:List Rw}
variable {σ:St} {nt:Nat} {fr:List Nat} {g:TG} {c:TT} {te t0:TE}
variable {R:St→Hp→Prop}
theorem w_tupC {n i0 i1 i2:Nat} {a b d:V} (hn:n=3) (hp:SqT K H l [a,b,d]) (h:gName i0 a σ H fun σ1 H1=>gName i1 b σ1 H1 fun σ2 H2=>gName i2 d σ2 H2 R):gTup K n (gCons (gName i0) (gCons (gName i1) (gCons (gName i2) gNil))) (.ref l) σ H R:=by
 subst hn
 exact ⟨l,_,rfl,hp,rfl,_,_,rfl,_,_,rfl,_,_,rfl,rfl,h⟩
instance go_tup3 {n i0 i1 i2:Nat} {a b d:V} [h:SqB K H l [a,b,d]]:Go (gTup K n (gCons (gName i0) (gCons (gName i1) (gCons (gName i2) gNil))) (.ref l) σ H R) (Sd (n=3) (gName i0 a σ H fun σ1 H1=>gName i1 b σ1 H1 fun σ2 H2=>gName i2 d σ2 H2 R)):=⟨fun s=>w_tupC s.1 h.e s.2⟩
end
end L2
namespace L2
open PySem PySem.W PySem.Spec PyProof.Rows
section
variable {CX:CXT} {P:Program} {w:World} {K:W.Frag} {mg:Str→Option Value} {base:Heap} {k m:Nat} {x:Str} {ps:List Str} {sp:Sp} {ds:List Value} {dvs:List V}
def HasDefD (K:W.Frag) (mg:Str→Option Value) (x:Str) (st:Stmt) (ds:List Value):Prop :=
 ∃(f d:Addr) (oc:Value) (od:Option Addr) (kV doc pm:Value) (an:Option Addr) (cdv ct:Value) (osl:Array (Option Value)) (o:Obj) (n:Nat),
  K.lookup f=some ⟨oc,od,.func (W.fnOf x x (defArgs st) (defBody st) (defScope st) (.ref d) kV doc pm an cdv ct),osl⟩∧W.codeIn K cdv x=true∧W.keepIn K (.ref f)=true∧mg x=some (.ref f)∧K.lookup d=some o∧o.data=.seq ds.toArray n
structure DefD (P:Program) (w:World) (K:W.Frag) (mg:Str→Option Value) (base:Heap) (CX:CXT) (k:Nat) (x:Str) (ps:List Str) (sp:Sp) (ds:List Value):Prop where
 ex:∃(f:Addr) (fd:FuncData),FnOk P w K mg base CX k f fd ps sp∧mg x=some (.ref f)∧W.keepIn K (.ref f)=true∧Binds K fd ps []∧Binds K fd ps ds
theorem DefD.all (D:DefD P w K mg base CX k x ps sp ds):Def P w K mg base CX k x ps sp :=
 let ⟨f,fd,F,a,b,c,_⟩:=D.ex
 ⟨f,fd,F,a,b,c⟩
theorem def_ofD {st:Stmt} {N:List Str} (h:HasDefD K mg x st ds) (S:FnScope N ps (defScope st)) (len:∀vs H Q E,sp vs H Q E→vs.length=ps.length)
  (hb:∀(d:Addr) (kV doc pm:Value) (an:Option Addr) (cdv ct:Value) (us:List Value),us.length=ps.length→∃c:Option (Array Value)→Sem (List (Str×Value)),bindArgs (W.fnOf x x (defArgs st) (defBody st) (defScope st) (.ref d) kV doc pm an cdv ct) ⟨us,[]⟩=seqItems? (.ref d) >>= c∧c (some ds.toArray)=pure (ps.zip us))
  (hd:∀(d:Addr) (kV doc pm:Value) (an:Option Addr) (cdv ct:Value) (us:List Value),(us++ds).length=ps.length→∃c:Option (Array Value)→Sem (List (Str×Value)),bindArgs (W.fnOf x x (defArgs st) (defBody st) (defScope st) (.ref d) kV doc pm an cdv ct) ⟨us,[]⟩=seqItems? (.ref d) >>= c∧c (some ds.toArray)=pure (ps.zip (us++ds)))
  (hbody:∀(f:Addr) (cdv:Value) (A:Around) (outer:List Env) (s:Shared) (H:Hp) (vs:List V) (Q:VK) (E:XK),Room k (A.deeper (envOfC x (defScope st) s.heap.objs.size f cdv))→sp vs H Q E →
   ∃t,PSs (cxOf CX P w K mg base N x (defScope st) f cdv A outer s H E).nox (defBody st) t∧t { nx:=fun _ H'=>Q .non H',rt:=Q } (start N vs) H):DefD P w K mg base CX (k + 1) x ps sp ds:=by
 obtain ⟨f,d,oc,od,kV,doc,pm,an,cdv,ct,osl,o,n,lk,hcd,kp,hm,ld,hdt⟩:=h
 refine ⟨f,W.fnOf x x (defArgs st) (defBody st) (defScope st) (.ref d) kV doc pm an cdv ct,?_,hm,kp,fun s us kin hl=>?_,fun s us kin hl=>?_⟩
 ·refine fn_of lk hcd S len fun A outer s H vs Q E hr hsp=>?_
  obtain ⟨t,h,q⟩:=hbody f cdv A outer s H vs Q E hr hsp
  exact ⟨t,h.nox,q⟩
 ·rw [List.append_nil] at hl ⊢
  obtain ⟨c,h1,h2⟩:=hb d kV doc pm an cdv ct us hl
  exact BindsTo.of_defaults rfl (kin _ _ ld) hdt h1 h2
 ·obtain ⟨c,h1,h2⟩:=hd d kV doc pm an cdv ct us hl
  exact BindsTo.of_defaults rfl (kin _ _ ld) hdt h1 h2
end
def cval:Expr→Option V
 | .Constant (.str x) _ _=>some (.str x)
 | .Constant (.int i) _ _=>some (.int i)
 | .Constant (.bool b) _ _=>some (.bl b)
 | .Constant .none _ _=>some .non
 | _=>none
def cvals:List Expr→Option (List V)
 | []=>some []
 | e::es=>match cval e,cvals es with
  | some v,some vs=>some (v::vs)
  | _,_=>none
def tVals (vs:List V):TA:=fun _ H R=>R vs H
section
variable {X:Cx}
theorem pe_strT {x:Str} {cs:List Nat} {j pos} (h:x=tx cs):PE X (.Constant (.str x) j pos) (tC (.str (tx cs))):=by
 subst h
 exact pe_str
theorem pa_vals:∀{es:List Expr} {vs:List V},cvals es=some vs→PA X es (tVals vs)
 | [],vs,h=>by
  cases h
  exact pa_nil
 | e::es,vs,h=>by
  unfold cvals at h
  split at h
  ·rename_i v vs' e1 e2
   cases h
   have ih:=pa_vals e2
   unfold cval at e1
   split at e1
   ·cases e1
    exact pa_cons (te:=tC _) pe_str ih
   ·cases e1
    exact pa_cons (te:=tC _) pe_int ih
   ·cases e1
    exact pa_cons (te:=tC _) pe_bl ih
   ·cases e1
    exact pa_cons (te:=tC _) pe_non ih
   ·cases e1
  ·cases h
end
instance go_vals {σ:St} {H:Hp} {vs:List V} {R:List V→Hp→Prop}:Go (tVals vs σ H R) (R vs H):=⟨fun h=>h⟩
end L2
namespace L2
open PySem PySem.Spec PyProof.Rows PySem.SeqAt
class CutA (xs:List V) (lo hi:Option Int) (ys:outParam (List V)):Prop where
 e:cutV xs lo hi=ys
section
variable {K:W.Frag} {H:Hp} {Q:VK} {σ:St} {t:TE} {ts:List TE} {a b cs:List Nat} {c n:Nat} {ps:List (List Nat)} {p l q:Addr} {xs ys r:List V} {lo hi:Option Int} {R:Str→Prop} {S:Int→Prop} {v v0 v1 v2 v3 v4 v5:V} {i:Int} {z:Str} {bb:Bool}
instance go_slC [h:SqA K H l xs] [e:CutA xs lo hi ys]:Go (rSlA K (.ref l) lo hi H Q) (∀p H',New H H' p (.lst ys)→Q (.ref p) H'):=⟨fun k=>w_slA h.e (by rw [e.e];exact k)⟩
instance go_isNr:Go (rIsN (.ref p) .non H Q) (Q (.bl false) H):=⟨fun k=>⟨rfl,k⟩⟩
end
end L2
namespace L2
open PySem PySem.W PySem.Calls PySem.Spec PyProof.Rows
end L2
namespace L2
open PySem PySem.Spec PyProof.Rows PySem.SeqAt
end L2
namespace L2
open PySem PySem.W PySem.Spec PyProof.Rows
end L2
namespace L2
open PySem PySem.Spec PyProof.Rows
def minI (d:Int) (ns:List Int):Int:=ns.foldl min d
section
variable {X:Cx}
theorem lt_ints {P:Program} {w:World} {A:Around} {E:Value→Shared→Prop} {s:Shared} {i j:Int} {t u:Tok} {Q:Value→Shared→Prop} (h:Q (.bool (decide (i < j))) s):wpAny (model P w) A (richCompare .Lt (.int i t) (.int j u)) Q E s:=lt_int h
section
variable {P:Program} {w:World} {A:Around} {R:Result→Shared→Prop} {it:Addr} {fp wr:List Addr} {ns:List Int} {V0:Nat→Value→Prop} {St0:Nat→Heap→Prop} {kw:List (Str×Value)}
theorem min_goes (W:Walks P w A.in1 it fp wr ns.length V0 St0) (hv:∀i v,V0 i v→∃t,v=.int (ns.getD i 0) t) (B:Addr) (hB:B ∉ fp) (left:Nat) :
  ∀(j:Nat) (s:Shared) (m:Int) (t:Tok) (c:Nat),j + left=ns.length→St0 j s.heap→m=minI (ns.getD 0 0) (ns.take j)→s.heap.get? B=some (bestObj #[.int m t,.int m t] c) →
  (∀h' tk t',(∀b ob,b ∉ wr→b≠B→s.heap.get? b=some ob→h'.get? b=some ob)→R (.ok (.ret (.int (minI (ns.getD 0 0) ns) t'))) { s with heap:=h',toks:=tk }) →
  codeAny (model P w) A (.builtin "min.loop" ⟨[.ref it,.none,.ref B],kw⟩) R s:=by
 have hBw:B ∉ wr:=fun z=>hB (W.sub _ z)
 induction left with
 | zero =>
  intro j s m t c hj st hm hb k
  have ej:j=ns.length:=by lia
  subst ej
  refine codeAny_builtin F.entry_min_loop ?_
  rw [Around.under_plainId F.plain_min_loop _]
  show wpAny _ _ (seqItems? (Value.ref B) >>= _) _ _ _
  refine wpAny_bind (wpAny_seqItems hb rfl ?_)
  show wpAny _ _ (tryCatch (pyNext (Value.ref it)) _ >>= _) _ _ _
  refine wpAny_bind (wpAny_tryCatch (W.done s _ _ st fun h1 tk1 k1=>?_))
  have hb1:=k1 B _ hBw hb
  show wpAny _ _ (updateSeq B _ >>= _) _ _ _
  refine wpAny_bind (wpAny_updateSeq hb1 rfl (wpAny_bind (wpAny_letGo (wpAny_pure ?_))))
  rw [List.take_length] at hm
  rw [hm]
  exact k _ _ t fun b ob n1 n2 q=>(Heap.get?_update_other _ _ (fun z=>n2 z.symm)).trans (k1 b ob n1 q)
 | succ left ih =>
  intro j s m t c hj st hm hb k
  have hlt:j < ns.length:=by lia
  refine codeAny_builtin F.entry_min_loop ?_
  rw [Around.under_plainId F.plain_min_loop _]
  show wpAny _ _ (seqItems? (Value.ref B) >>= _) _ _ _
  refine wpAny_bind (wpAny_seqItems hb rfl ?_)
  show wpAny _ _ (tryCatch (pyNext (Value.ref it)) _ >>= _) _ _ _
  refine wpAny_bind (wpAny_tryCatch (W.item j s _ _ hlt st fun v h1 tk1 pv st1 k1=>?_))
  obtain ⟨t1,rfl⟩:=hv j v pv
  have hb1:=k1 B _ hBw hb
  have nx:minI (ns.getD 0 0) (ns.take (j + 1))=min m (ns.getD j 0):=by
   have e:ns[j]?=some ns[j]:=by simp
   rw [List.take_succ,e,hm,List.getD_eq_getElem?_getD (i:=j),e]
   show List.foldl min _ _=_
   rw [List.foldl_append]
   rfl
  show wpAny _ _ (tryCatch (holding _ (richCompare .Lt _ _ >>= _)) _ >>= _) _ _ _
  refine wpAny_bind (wpAny_tryCatch (wpAny_holding (wpAny_bind (lt_ints ?_))))
  refine wpAny_bind (wpAny_holding (wpAny_truthy_bool ?_))
  refine wpAny_bind (wpAny_letGo (wpAny_pure ?_))
  have hs:(toString "min" ++ toString ".loop" : String) = "min.loop" := by decide
  by_cases hg:ns.getD j 0 < m
  ·rw [decide_eq_true hg]
   simp only [if_true]
   refine wpAny_bind (wpAny_updateSeq hb1 rfl (wpAny_bind (wpAny_letGo ?_)))
   rw [hs]
   refine wpAny_pure ⟨plainId_quiet F.plain_min_loop _,ih (j + 1) _ (ns.getD j 0) t1 _ (by lia) (W.frame _ _ _ st1 fun b hbf ob q=>?_) (by rw [nx];lia) (Heap.get?_update_self _ hb1 rfl) fun h2 tk2 t2 k2=>?_⟩
   ·exact (Heap.get?_update_other _ _ (fun z=>hB (by rw [z];exact hbf))).trans q
   ·exact k h2 tk2 t2 fun b ob n1 n2 q=>k2 b ob n1 n2 ((Heap.get?_update_other _ _ (fun z=>n2 z.symm)).trans (k1 b ob n1 q))
  ·rw [decide_eq_false hg]
   simp only [Bool.false_eq_true,if_false]
   refine wpAny_bind (wpAny_letGo ?_)
   rw [hs]
   refine wpAny_pure ⟨plainId_quiet F.plain_min_loop _,ih (j + 1) _ m t c (by lia) st1 (by rw [nx];lia) hb1 fun h2 tk2 t2 k2=>k h2 tk2 t2 fun b ob n1 n2 q=>k2 b ob n1 n2 (k1 b ob n1 q)⟩
theorem min_all {d:Int} {td:Tok} (W:Walks P w A.in1 it fp wr ns.length V0 St0) (hv:∀i v,V0 i v→∃t,v=.int (ns.getD i 0) t) (B:Addr) (hB:B ∉ fp) {s:Shared} {c:Nat} (st:St0 0 s.heap)
  (hkw:ns=[]→kw=[(("default" : Str),Value.int d td)]) (hb:s.heap.get? B=some (bestObj #[] c))
  (k:∀h' tk t',(∀b ob,b ∉ wr→b≠B→s.heap.get? b=some ob→h'.get? b=some ob)→R (.ok (.ret (.int (if ns=[] then d else minI (ns.getD 0 0) ns) t'))) { s with heap:=h',toks:=tk }) :
  codeAny (model P w) A (.builtin "min.loop" ⟨[.ref it,.none,.ref B],kw⟩) R s:=by
 have hBw:B ∉ wr:=fun z=>hB (W.sub _ z)
 have hs:(toString "min" ++ toString ".loop" : String) = "min.loop" := by decide
 refine codeAny_builtin F.entry_min_loop ?_
 rw [Around.under_plainId F.plain_min_loop _]
 show wpAny _ _ (seqItems? (Value.ref B) >>= _) _ _ _
 refine wpAny_bind (wpAny_seqItems hb rfl ?_)
 show wpAny _ _ (tryCatch (pyNext (Value.ref it)) _ >>= _) _ _ _
 by_cases hn:ns=[]
 ·subst hn
  rw [hkw rfl]
  refine wpAny_bind (wpAny_tryCatch (W.done s _ _ st fun h1 tk1 k1=>?_))
  refine wpAny_bind (wpAny_rule ?_)
  exact wpAny_pure (k h1 tk1 td fun b ob n1 _ q=>k1 b ob n1 q)
 ·have hlt:0 < ns.length:=List.length_pos_iff.mpr hn
  refine wpAny_bind (wpAny_tryCatch (W.item 0 s _ _ hlt st fun v h1 tk1 pv st1 k1=>?_))
  obtain ⟨t1,rfl⟩:=hv 0 v pv
  have hb1:=k1 B _ hBw hb
  show wpAny _ _ (updateSeq B _ >>= _) _ _ _
  refine wpAny_bind (wpAny_updateSeq hb1 rfl ?_)
  rw [hs]
  rw [if_neg hn] at k
  refine wpAny_pure ⟨plainId_quiet F.plain_min_loop _,min_goes W hv B hB (ns.length - 1) 1 _ (ns.getD 0 0) t1 _ (by lia) (W.frame _ _ _ st1 fun b hbf ob q=>?_) ?_ (Heap.get?_update_self _ hb1 rfl) fun h2 tk2 t2 k2=>?_⟩
  ·exact (Heap.get?_update_other _ _ (fun z=>hB (by rw [z];exact hbf))).trans q
  ·have e:ns[0]?=some ns[0]:=by simp
   rw [List.take_succ,e,List.getD_eq_getElem?_getD,e]
   simp [minI]
  ·exact k h2 tk2 t2 fun b ob n1 n2 q=>k2 b ob n1 n2 ((Heap.get?_update_other _ _ (fun z=>n2 z.symm)).trans (k1 b ob n1 q))
end
end
end L2
namespace L2
open PySem PySem.W PySem.Calls PySem.Spec PyProof.Rows
end L2
namespace L2
open PySem PySem.Spec PyProof.Rows PySem.SeqAt
theorem TyOf.kept {K:W.Frag} {H H':Hp} {v:V} {t:Value} (h:TyOf K H v t) (k:∀a u,v=.ref a→H a=some u→H' a=some u):TyOf K H' v t:=by
 cases h with
 | non=>exact .non
 | bl b=>exact .bl b
 | int i=>exact .int i
 | str x=>exact .str x
 | flt x=>exact .flt x
 | lst e=>exact .lst (k _ _ rfl e)
 | frz e=>exact .frz (k _ _ rfl e)
 | tup e=>exact .tup (k _ _ rfl e)
 | dK e=>exact .dK (k _ _ rfl e)
 | dT e=>exact .dT (k _ _ rfl e)
 | ins e a b c d f=>exact .ins (k _ _ rfl e) a b c d f
def EqVV (x y:V) (b:Bool):Prop:=(x=y∧idV x=true∧b=true)∨∃s t,x=.str s∧y=.str t∧b=(s == t)
theorem EqVV.at {A:Around} {s:Shared} {x y:V} {u v:Value} {b:Bool} (h:EqVV x y b) (ru:RelV x u) (rv:RelV y v):EqAt A s u v b:=by
 rcases h with ⟨rfl,hi,rfl⟩ | ⟨p,q,rfl,rfl,rfl⟩
 ·exact same_eqAt hi ru rv
 ·obtain ⟨t,rfl⟩:=ru
  obtain ⟨t',rfl⟩:=rv
  exact EqAt.str_str (A:=A) (s:=s) p t q t'
end L2
namespace L2
open PySem PySem.W PySem.Spec PyProof.Rows PySem.SeqAt
section
variable {K:W.Frag} {H:Hp} {Q:VK} {σ:St} {p q:Addr} {xs ys:List V} {te th:TE} {cs ds:List Nat} {j i:Int} {nms:List (List Nat)} {b:Bool} {a c:Nat}
theorem inV_str (a:List Nat) (nms:List (List Nat)):inV (.str (tx a)) (nms.map fun cs=>V.str (tx cs))=decide (a∈nms):=by
 unfold inV
 induction nms with
 | nil=>simp
 | cons b t ih =>
  rw [List.map_cons,List.any_cons,ih]
  have e:eqV (.str (tx b)) (.str (tx a))=decide (a=b):=by
   by_cases h:a=b
   ·subst h
    simp [eqV]
   ·rw [decide_eq_false h]
    have:tx b≠tx a:=fun z=>h (tx_inj z).symm
    simp [eqV,this]
  rw [e]
  by_cases h:a=b <;> simp [h]
instance go_inStr [h:SqA K H p (nms.map fun cs=>V.str (tx cs))]:Go (rIn K false (.str (tx cs)) (.ref p) H Q) (Q (.bl (decide (cs∈nms))) H):=⟨fun k=>⟨_,_,rfl,.inl h.e,rfl,List.all_eq_true.mpr (fun z hz=>by obtain ⟨b,_,rfl⟩:=List.mem_map.mp hz;rfl),by rw [if_neg (by decide),inV_str];exact k⟩⟩
end
theorem Sb.refl:∀X:List (Addr×HO),Sb X X
 | []=>.nil
 | c::X=>.cons .head (Sb.refl X)
theorem Sb.skip {L' L:List (Addr×HO)} {c:Addr×HO} (h:Sb L' L):Sb L' (c::L):=by
 induction h with
 | nil=>exact .nil
 | cons p t ih=>exact .cons (.tail p) ih
instance (priority:=low) sbX0 {X:List (Addr×HO)}:SbC X X:=⟨Sb.refl X⟩
instance (priority:=low) sbX1 {X L:List (Addr×HO)} {c:Addr×HO} [h:SbC X L]:SbC X (c::L):=⟨h.s.skip⟩
theorem SH.perm {H0 H:Hp} {M:List Addr} {L L':List (Addr×HO)} {I:List Im} (F:SH H0 M H L I) (p:L'.Perm L):SH H0 M H L' I:=⟨F.fr,F.im,fun c hc=>F.at' c (p.mem_iff.mp hc),(p.map _).nodup_iff.mpr F.nd,fun c hc=>F.mu c (p.mem_iff.mp hc),fun c hc=>F.ch c (p.mem_iff.mp hc)⟩
theorem SH.over {H0 H H':Hp} {M M2:List Addr} {A R L2:List (Addr×HO)} {I I2:List Im} (F:SH H0 M H (A++R) I) (G:SH H M2 H' L2 I2) (e:A.map (·.1)=M2):SH H0 M H' (L2++R) (I2++I):=by
 have nd:=F.nd
 rw [List.map_append,e] at nd
 obtain ⟨nd1,nd2,nd3⟩:=List.nodup_append.mp nd
 have inA:∀{b},b∈M2→∃c∈A,c.1=b:=fun h=>by rw [← e] at h;exact List.mem_map.mp h
 have st:Tst H H':=fun q u tu hq=>by
  refine G.fr q u (fun hm=>?_) hq
  obtain ⟨c,hc,rfl⟩:=inA hm
  have h1:=F.at' c (List.mem_append_left _ hc)
  have h2:=F.mu c (List.mem_append_left _ hc)
  rw [hq] at h1
  cases h1
  rw [h2] at tu
  cases tu
 have rn:∀{c},c∈R→c.1 ∉ M2:=fun hc hm=>nd3 _ hm _ (List.mem_map.mpr ⟨_,hc,rfl⟩) rfl
 refine ⟨fun b u nb e0=>?_,fun f hf=>?_,fun c hc=>?_,?_,fun c hc=>?_,fun c hc=>?_⟩
 ·refine G.fr b u (fun hm=>?_) (F.fr b u nb e0)
  obtain ⟨c,hc,rfl⟩:=inA hm
  rcases F.ch c (List.mem_append_left _ hc) with h | h
  ·exact nb h
  ·exact h _ u e0 rfl
 ·rcases List.mem_append.mp hf with hf | hf
  ·exact G.im f hf
  ·exact Im.stay st (F.im f hf)
 ·rcases List.mem_append.mp hc with hc | hc
  ·exact G.at' c hc
  ·exact G.fr _ _ (rn hc) (F.at' c (List.mem_append_right _ hc))
 ·rw [List.map_append]
  refine List.nodup_append.mpr ⟨G.nd,nd2,fun a ha b hb=>?_⟩
  obtain ⟨c,hc,rfl⟩:=List.mem_map.mp ha
  obtain ⟨d,hd,rfl⟩:=List.mem_map.mp hb
  rcases G.ch c hc with h | h
  ·exact fun z=>rn hd (z▸h)
  ·exact fun z=>h d.1 _ (F.at' d (List.mem_append_right _ hd)) z.symm
 ·rcases List.mem_append.mp hc with hc | hc
  ·exact G.mu c hc
  ·exact F.mu c (List.mem_append_right _ hc)
 ·rcases List.mem_append.mp hc with hc | hc
  ·rcases G.ch c hc with h | h
   ·obtain ⟨d,hd,ed⟩:=inA h
    rw [← ed]
    exact F.ch d (List.mem_append_left _ hd)
   ·by_cases hm:c.1∈M
    ·exact .inl hm
    ·exact .inr fun b u e0 z=>h b u (F.fr b u (by rw [z];exact hm) e0) z
  ·exact F.ch c (List.mem_append_right _ hc)
theorem SH.cut {H0 H:Hp} {M M2:List Addr} {A R:List (Addr×HO)} {I:List Im} (F:SH H0 M H (A++R) I) (e:A.map (·.1)=M2):SH H M2 H A []:=by
 have nd:=F.nd
 rw [List.map_append] at nd
 exact ⟨fun _ _ _ h=>h,(fun f hf=>by cases hf),fun c hc=>F.at' c (List.mem_append_left _ hc),(List.nodup_append.mp nd).1,fun c hc=>F.mu c (List.mem_append_left _ hc),fun c hc=>.inl (by rw [← e];exact List.mem_map.mpr ⟨c,hc,rfl⟩)⟩
section
variable {H:Hp} {Q:VK}
instance go_dnew {σ:L2.St}:Go (tDNewK σ H Q) (∀p H',New H H' p (.dK [])→Q (.ref p) H'):=⟨w_dnew⟩
instance nx_dnew {H0:Hp} {M:List Addr} {L:List (Addr×HO)} {I:List Im} {Z:Addr→Hp→Prop} [F:SH H0 M H L I]:Go (∀p H',New H H' p (.dK [])→Z p H') (∀H' p,SH H0 M H' ((p,.dK [])::L) I→Z p H'):=⟨fun k p H' n=>k H' p (F.newO n rfl)⟩
end
inductive AnyK (H:Hp):V→Prop
 | flt {v:V} (h:v=.non∨(∃b,v=.bl b)∨(∃i,v=.int i)∨∃z,v=.str z):AnyK H v
 | lst {q:Addr} {xs:List V} (e:H q=some (.lst xs)):AnyK H (.ref q)
 | tup {q:Addr} {xs:List V} (e:H q=some (.tup xs)):AnyK H (.ref q)
theorem AnyK.kept {H H':Hp} {v:V} (h:AnyK H v) (k:∀a u,v=.ref a→H a=some u→H' a=some u):AnyK H' v:=by
 cases h with
 | flt h=>exact .flt h
 | lst e=>exact .lst (k _ _ rfl e)
 | tup e=>exact .tup (k _ _ rfl e)
theorem AnyK.same {H H':Hp} {v:V} (h:AnyK H v) (s:Same H H'):AnyK H' v:=h.kept fun a u _ e=>s a u e
theorem AnyK.ty {H:Hp} {v:V} (h:AnyK H v) (K:W.Frag):∃n,TyOf K H v (.type n):=by
 cases h with
 | flt h =>
  rcases h with rfl | ⟨b,rfl⟩ | ⟨i,rfl⟩ | ⟨z,rfl⟩
  ·exact ⟨_,.non⟩
  ·exact ⟨_,.bl b⟩
  ·exact ⟨_,.int i⟩
  ·exact ⟨_,.str z⟩
 | lst e=>exact ⟨_,.lst e⟩
 | tup e=>exact ⟨_,.tup e⟩
theorem AnyK.id {H:Hp} {v:V} (h:AnyK H v):idV v=true:=by
 cases h with
 | flt h=>rcases h with rfl | ⟨b,rfl⟩ | ⟨i,rfl⟩ | ⟨z,rfl⟩ <;> rfl
 | lst e=>rfl
 | tup e=>rfl
end L2
namespace L2
open PySem PySem.W PySem.Calls PySem.Spec PyProof.Rows
abbrev swBody (x:Str) (p1 p2 p3 p4 p5 p6 p7:Pos) (j j2 j3:Nat):Expr:=.Tuple [.Subscript (.Name x p1) (.Constant (.int 1) j p2) p3,.Subscript (.Name x p4) (.Constant (.int 0) j2 p5) p6] j3 p7
def IsLam2 (H:Hp) (f:Addr):Prop:=∃(qual x:Str) (params:Arguments) (p1 p2 p3 p4 p5 p6 p7:Pos) (j j2 j3:Nat) (scope:Scope) (pm ctv:Value) (c':Addr) (oc:Obj) (vs:Array Value) (t:Tok),
 H f=some (.frz (W.kla_obj "<lambda>" qual params (swBody x p1 p2 p3 p4 p5 p6 p7 j j2 j3) scope [] pm c' ctv) (.own f))∧H c'=some (.frz oc (.own c'))∧oc.data=.fields vs∧vs[1]?=some (.str qual t)∧LamScope x scope ∧
 ∀q:Addr,bindArgs (W.kla_fn "<lambda>" qual params (swBody x p1 p2 p3 p4 p5 p6 p7 j j2 j3) scope [] pm (.ref c') ctv) ⟨[.ref q],[]⟩=pure [(x,.ref q)]
section
variable {K:W.Frag} {H0 H:Hp} {M:List Addr} {L L':List (Addr×HO)} {I:List Im} {Q:VK} {l f P:Addr} {ys:List V} {ws:List (Nat×Nat)} {pos:Pos} {qual:Str} {ps:Array Value} {σ:St} {R:Hp→Prop}
theorem IsLam2.st:∀H H',Tst H H'→IsLam2 H f→IsLam2 H' f:=fun H H' t h=>by
 obtain ⟨a1,a2,a3,a4,a5,a6,a7,a8,a9,a10,a11,a12,a13,a14,a15,a16,a17,a18,a19,a20,e1,e2,r⟩:=h
 exact ⟨a1,a2,a3,a4,a5,a6,a7,a8,a9,a10,a11,a12,a13,a14,a15,a16,a17,a18,a19,a20,t _ _ rfl e1,t _ _ rfl e2,r⟩
end
section
variable {P:Program} {w:World} {K:W.Frag} {mg:Str→Option Value} {base:Heap} {CX:CXT} {k:Nat} {x:Str} {st:Stmt} {c:Addr} {N ps:List Str} {sp:Sp}
def HasDefC (K:W.Frag) (mg:Str→Option Value) (x:Str) (st:Stmt) (c:Addr):Prop:=∃(f:Addr) (fd:FuncData),Fun K x x st f fd∧fd.code=.ref c∧mg x=some (.ref f)
theorem def_ofC (h:HasDefC K mg x st c) (S:FnScope N ps (defScope st)) (len:∀vs H Q E,sp vs H Q E→vs.length=ps.length)
  (hb:∀(kV doc pm:Value) (an:Option Addr) (cdv ct:Value) (us:List Value),us.length=ps.length→bindArgs (W.fnOf x x (defArgs st) (defBody st) (defScope st) .none kV doc pm an cdv ct) ⟨us,[]⟩=pure (ps.zip us))
  (hbody:∀(f:Addr) (A:Around) (outer:List Env) (s:Shared) (H:Hp) (vs:List V) (Q:VK) (E:XK),Room k (A.deeper (envOfC x (defScope st) s.heap.objs.size f (.ref c)))→sp vs H Q E →
   ∃t,PSs (cxOf CX P w K mg base N x (defScope st) f (.ref c) A outer s H E).nox (defBody st) t∧t { nx:=fun _ H'=>Q .non H',rt:=Q } (start N vs) H):Def P w K mg base CX (k + 1) x ps sp:=by
 obtain ⟨f,fd,F,hc,m⟩:=h
 refine ⟨f,fd,?_,m,F.kp,F.binds hb⟩
 obtain ⟨oc,od,kV,doc,pm,an,cdv,ct,osl,rfl,lk,hcd⟩:=F.ex
 obtain rfl:cdv=.ref c:=hc
 refine fn_of lk hcd S len fun A outer s H vs Q E hr hsp=>?_
 obtain ⟨t,h,q⟩:=hbody f A outer s H vs Q E hr hsp
 exact ⟨t,h.nox,q⟩
end
end L2
namespace L2
open PySem PySem.W PySem.Spec PyProof.Rows
end L2
namespace L2
open PySem PySem.Spec PyProof.Rows PySem.SeqAt
abbrev flD (v:V):PyData:=pyD (flatDt v)
inductive ThD (H:Hp):V→PyData→Prop
 | flat {v:V} (h:isFlat v=true) (z:Shm 500 1 (flD v)):ThD H v (flD v)
 | lst {p:Addr} {vs:List V} (e:H p=some (.lst vs)) (h:∀v∈vs,isFlat v=true) (z:Shm 500 1 (.list (vs.map flD))):ThD H (.ref p) (.list (vs.map flD))
 | tup {p:Addr} {vs:List V} (e:H p=some (.tup vs)) (h:∀v∈vs,isFlat v=true) (z:Shm 500 1 (.tuple (vs.map flD))):ThD H (.ref p) (.tuple (vs.map flD))
 | dct {p:Addr} (e:H p=some (.dK [])):ThD H (.ref p) (.dict [])
section
variable {H H':Hp} {v:V} {d:PyData} {K:W.Frag}
theorem ThD.kept (h:ThD H v d) (k:∀a u,v=.ref a→H a=some u→H' a=some u):ThD H' v d:=by
 cases h with
 | flat h z=>exact .flat h z
 | lst e h z=>exact .lst (k _ _ rfl e) h z
 | tup e h z=>exact .tup (k _ _ rfl e) h z
 | dct e=>exact .dct (k _ _ rfl e)
theorem ThD.ty (h:ThD H v d):∃n,TyOf K H v (.type n):=by
 cases h with
 | flat h z =>
  cases v with
  | non=>exact ⟨_,.non⟩
  | bl b=>exact ⟨_,.bl b⟩
  | int i=>exact ⟨_,.int i⟩
  | str x=>exact ⟨_,.str x⟩
  | _=>simp [isFlat] at h
 | lst e h z=>exact ⟨_,.lst e⟩
 | tup e h z=>exact ⟨_,.tup e⟩
 | dct e=>exact ⟨_,.dK e⟩
end
section
variable {H H0:Hp} {M:List Addr} {L:List (Addr×HO)} {I:List Im} {v:V} {d:PyData} {xs:List V} {ds:List PyData} {x:Str} {i:Int} {b:Bool} {K:W.Frag} {p:Addr} {Q:VK}
instance (priority:=high) go_eqsame:Go (rEq (.str x) (.str x) H Q) (Q (.bl true) H):=⟨fun k=>⟨rfl,by simpa using k⟩⟩
end
theorem boot_zip:bootBuiltins "zip" = some (.type "zip"):=by decide +kernel
end L2
set_option maxHeartbeats 400000
namespace L2
open PySem PySem.Spec PyProof.Rows PySem.SeqAt
end L2
set_option maxHeartbeats 1000000
namespace L2
open PySem PySem.Spec PyProof.Rows PySem.SeqAt
mutual
def TrH (H:Hp):Dt→V→Prop
 | .non,v=>v=.non
 | .bl b,v=>v=.bl b
 | .int i,v=>v=.int i
 | .str x,v=>v=.str x
 | .lst ds,v=>∃p xs,v=.ref p∧H p=some (.lst xs)∧TrsH H ds xs
 | .tup ds,v=>∃p xs,v=.ref p∧H p=some (.tup xs)∧TrsH H ds xs
def TrsH (H:Hp):List Dt→List V→Prop
 | [],xs=>xs=[]
 | d::ds,xs=>∃x r,xs=x::r∧TrH H d x∧TrsH H ds r
end
mutual
theorem TrH.same {H H':Hp} (s:Same H H'):∀{d:Dt} {v:V},TrH H d v→TrH H' d v
 | .non,v,h=>h
 | .bl _,v,h=>h
 | .int _,v,h=>h
 | .str _,v,h=>h
 | .lst ds,v,h=>by
  simp only [TrH] at h ⊢
  obtain ⟨p,xs,e,hp,hs⟩:=h
  exact ⟨p,xs,e,s _ _ hp,TrsH.same s hs⟩
 | .tup ds,v,h=>by
  simp only [TrH] at h ⊢
  obtain ⟨p,xs,e,hp,hs⟩:=h
  exact ⟨p,xs,e,s _ _ hp,TrsH.same s hs⟩
theorem TrsH.same {H H':Hp} (s:Same H H'):∀{ds:List Dt} {xs:List V},TrsH H ds xs→TrsH H' ds xs
 | [],xs,h=>h
 | d::ds,xs,h=>by
  simp only [TrsH] at h ⊢
  obtain ⟨x,r,e,h1,h2⟩:=h
  exact ⟨x,r,e,TrH.same s h1,TrsH.same s h2⟩
end
theorem TrsH.len {H:Hp}:∀{ds:List Dt} {xs:List V},TrsH H ds xs→xs.length=ds.length
 | [],xs,h=>by simp only [TrsH] at h;rw [h];rfl
 | d::ds,xs,h=>by
  simp only [TrsH] at h
  obtain ⟨x,r,rfl,h1,h2⟩:=h
  rw [List.length_cons,List.length_cons,h2.len]
theorem TrsH.at {H:Hp}:∀{ds:List Dt} {xs:List V},TrsH H ds xs→∀{i:Nat} {v:V},xs[i]?=some v→∃d,ds[i]?=some d∧TrH H d v
 | [],xs,h,i,v,e=>by simp only [TrsH] at h;rw [h] at e;cases e
 | d::ds,xs,h,i,v,e=>by
  simp only [TrsH] at h
  obtain ⟨x,r,rfl,h1,h2⟩:=h
  cases i with
  | zero=>cases e;exact ⟨d,rfl,h1⟩
  | succ i=>exact h2.at (i:=i) e
theorem TrsH.of {H:Hp}:∀{ds:List Dt} {xs:List V},xs.length=ds.length→(∀(i:Nat) (v:V),xs[i]?=some v→∃d,ds[i]?=some d∧TrH H d v)→TrsH H ds xs
 | [],xs,hl,_=>by simp only [TrsH];exact List.eq_nil_of_length_eq_zero hl
 | d::ds,[],hl,_=>by cases hl
 | d::ds,x::r,hl,h=>by
  simp only [TrsH]
  refine ⟨x,r,rfl,?_,TrsH.of (by simpa using hl) fun i v e=>h (i + 1) v e⟩
  obtain ⟨d',e,t⟩:=h 0 x rfl
  cases e
  exact t
mutual
def widD:Dt→Prop
 | .lst ds=>ds.length≤1000∧widDs ds
 | .tup ds=>ds.length≤1000∧widDs ds
 | _=>True
def widDs:List Dt→Prop
 | []=>True
 | d::ds=>widD d∧widDs ds
end
def Al (H:Hp) (B:List Addr):Prop:=∀b∈B,∃xs,H b=some (.lst xs)
theorem Al.same {H H':Hp} {B:List Addr} (h:Al H B) (s:Same H H'):Al H' B:=fun b hb=>(h b hb).imp fun u e=>s _ _ e
section
variable {H:Hp} {ds es:List Dt} {xs ys:List V}
theorem TrsH.append:∀{ds:List Dt} {xs:List V},TrsH H ds xs→TrsH H es ys→TrsH H (ds++es) (xs++ys)
 | [],xs,h,h2=>by simp only [TrsH] at h;rw [h];exact h2
 | d::ds,xs,h,h2=>by
  simp only [TrsH] at h
  obtain ⟨x,r,rfl,a,b⟩:=h
  simp only [List.cons_append,TrsH]
  exact ⟨x,r++ys,rfl,a,b.append h2⟩
theorem TrsH.take (h:TrsH H ds xs) (n:Nat):TrsH H (ds.take n) (xs.take n):=TrsH.of (by rw [List.length_take,List.length_take,h.len]) fun i v e=>by
 rw [List.getElem?_take] at e ⊢
 by_cases hi:i < n
 ·rw [if_pos hi] at e ⊢
  exact h.at e
 ·rw [if_neg hi] at e
  cases e
theorem TrsH.drop (h:TrsH H ds xs) (n:Nat):TrsH H (ds.drop n) (xs.drop n):=TrsH.of (by rw [List.length_drop,List.length_drop,h.len]) fun i v e=>by
 rw [List.getElem?_drop] at e ⊢
 exact h.at e
theorem TrsH.one {d:Dt} {v:V} (h:TrH H d v):TrsH H [d] [v]:=by
 simp only [TrsH]
 exact ⟨v,[],rfl,h,rfl⟩
theorem TrH.flat {v:V} (h:isFlat v=true):TrH H (flatDt v) v:=by
 cases v <;> simp [isFlat] at h <;> simp [flatDt,TrH]
theorem TrH.lst {p:Addr} (h:H p=some (.lst xs)) (t:TrsH H ds xs):TrH H (.lst ds) (.ref p):=by
 simp only [TrH]
 exact ⟨p,xs,rfl,h,t⟩
theorem TrH.tup {p:Addr} (h:H p=some (.tup xs)) (t:TrsH H ds xs):TrH H (.tup ds) (.ref p):=by
 simp only [TrH]
 exact ⟨p,xs,rfl,h,t⟩
end
def Sm (n:Nat) (ds:List Dt):Prop:=∀d∈ds,depD d≤n∧widD d
theorem Sm.append {n:Nat} {ds es:List Dt} (h:Sm n ds) (h2:Sm n es):Sm n (ds++es):=fun d hd=>(List.mem_append.mp hd).elim (h d) (h2 d)
theorem Sm.take {n:Nat} {ds:List Dt} (h:Sm n ds) (k:Nat):Sm n (ds.take k):=fun d hd=>h d (List.mem_of_mem_take hd)
theorem Sm.drop {n:Nat} {ds:List Dt} (h:Sm n ds) (k:Nat):Sm n (ds.drop k):=fun d hd=>h d (List.mem_of_mem_drop hd)
theorem Sm.one {n:Nat} {d:Dt} (h:depD d≤n) (w:widD d):Sm n [d]:=fun e he=>by rw [List.mem_singleton.mp he];exact ⟨h,w⟩
end L2
set_option maxHeartbeats 4000000
namespace L2
open PySem PySem.Spec PyProof.Rows PySem.SeqAt
end L2
namespace L2
open PySem PySem.W PySem.Spec PyProof.Rows
def stepsV (lo st:Int) (n:Nat):List V:=(List.range n).map fun i=>V.int (lo + (i:Nat) * st)
end L2
namespace L2
open PySem PySem.Spec PyProof.Rows PySem.SeqAt
section
variable {X:Cx} {K:W.Frag} {H:Hp} {Q:VK} {p l:Addr} {nms:List (List Nat)} {cs:List Nat}
theorem vals_at:∀{xs:List V} {us:List Value} (r:Vals xs us) {i:Nat} (hi:i < us.length) (hj:i < xs.length),RelV xs[i] us[i]
 | _,_,.nil,_,hi,_=>by simp at hi
 | _::_,_::_,.cons r _,0,_,_=>r
 | _::_,_::_,.cons _ t,i + 1,hi,hj=>by
  simp only [List.getElem_cons_succ]
  exact vals_at t (by simpa using hi) (by simpa using hj)
def rIdx:V→List V→Hp→VK→Prop:=fun x vs H Q=>∃(l:Addr) (xs:List V) (v:V) (j:Nat),x=.ref l∧vs=[v]∧H l=some (.lst xs)∧flatV v=true∧xs.all flatV=true∧(∃y,xs[j]?=some y∧eqV y v=true)∧(∀i y,i < j→xs[i]?=some y→eqV y v=false)∧Q (.int (j:Nat)) H
theorem mt_idx:MtM X "list.index" rIdx:=by
 intro pins s σ H x vs v us Q I rx rv h
 obtain ⟨l,xs,y,j,rfl,rfl,hH,fy,fs,⟨w,hw,ew⟩,hno,q⟩:=h
 cases rx
 obtain ⟨u,rfl,ry⟩:=vals1 rv
 obtain ⟨z,its,n,r,hl,e⟩:=I.lstM hH
 have hlen:=r.length
 obtain ⟨hj,e2⟩:=List.getElem?_eq_some_iff.mp hw
 rw [sizeLine_eq] at z
 have one:∀i (hi:i < its.length) (hx:i < xs.length),eqU y its[i]=eqV xs[i] y:=fun i hi hx=>eqU_of (vals_at r hi hx) (List.all_eq_true.mp fs _ (List.getElem_mem hx))
 refine call_meets PySem.F.slot_list_index ⟨_,e,rfl⟩ PySem.F.entry_list_index (PySem.F.args_list_index_2 _ _) (list_indexAt l its.toArray n _ _ u (eqU y) j (by rw [List.size_toArray];lia) (by lia) ?_ ?_) ⟨e,fun a ha=>mem_eqAt ry fy r fs a (by simpa using ha),?_⟩
 ·show eqU y its[j]=true
  rw [one j (by lia) hj,e2]
  exact ew
 ·intro m hm hlt
  show eqU y its[m]=false
  rw [List.size_toArray] at hm
  rw [one m hm (by lia)]
  exact hno m _ hlt (List.getElem?_eq_getElem (by lia))
 ·exact ⟨.int (j:Nat),H,I.tok _,⟨_,rfl⟩,q⟩
theorem pe_idx {o e1:Expr} {to te1:TE} {apos cpos:Pos} (ho:PE X o to) (h1:PE X e1 te1) (hbase:attributeBase o "index" X.env (eval o X.env)=eval o X.env:=by rfl)
  (hfew:((backTo cpos (starEach [e1] X.env)).all (fun x=>!x.1) && (backToKw cpos (keywordEach [] X.env)).all (fun x=>x.1.isSome)
   && decide (([e1]:List Expr).length + ([]:List Keyword).length + (if ([]:List Keyword).isEmpty then 0 else 1) < 30))=true:=by rfl)
  (hline:(apos.endLine == cpos.line)=true:=by rfl) (hs:starEach [e1] X.env=(false,eval e1 X.env)::starEach [] X.env:=by rfl) (hp:(backTo cpos (starEach [] X.env)).any (·.1)=false:=by rfl) :
  PE X (.Call (.Attribute o "index" apos) [e1] [] cpos) (tBM X.K "list" rIdx to (tCons te1 tNil)) :=
 pe_bm PySem.F.plainAttrs_list PySem.F.slot_list_index PySem.F.type_list_index mt_idx ho (pa_cons h1 pa_nil hs) hbase hfew hline hs hp
instance go_ninStr [h:SqA K H p (nms.map fun cs=>V.str (tx cs))]:Go (rIn K true (.str (tx cs)) (.ref p) H Q) (Q (.bl (!decide (cs∈nms))) H):=⟨fun k=>⟨_,_,rfl,.inl h.e,rfl,List.all_eq_true.mpr (fun z hz=>by obtain ⟨b,_,rfl⟩:=List.mem_map.mp hz;rfl),by rw [if_pos rfl,inV_str];exact k⟩⟩
theorem eqV_tx {a b:List Nat}:eqV (.str (tx b)) (.str (tx a))=decide (a=b):=by
 by_cases h:a=b
 ·subst h
  simp [eqV]
 ·rw [decide_eq_false h]
  have:tx b≠tx a:=fun z=>h (tx_inj z).symm
  simp [eqV,this]
class IdxA (nms:List (List Nat)) (cs:List Nat) (j:outParam Nat):Prop where
 a:nms[j]?=some cs
 n:nms.Nodup
instance go_idxS {j:Nat} [h:Hat H l (.lst (nms.map fun cs=>V.str (tx cs)))] [a:IdxA nms cs j]:Go (rIdx (.ref l) [.str (tx cs)] H Q) (Q (.int (j:Nat)) H):=⟨fun k=>⟨l,_,_,j,rfl,rfl,h.e,rfl,List.all_eq_true.mpr (fun z hz=>by obtain ⟨b,_,rfl⟩:=List.mem_map.mp hz;rfl),⟨.str (tx cs),by rw [List.getElem?_map,a.a];rfl,by simp [eqV]⟩,fun i y hi hy=>by
 rw [List.getElem?_map] at hy
 cases e:nms[i]? with
 | none=>rw [e] at hy;cases hy
 | some b =>
  rw [e] at hy
  cases hy
  show eqV (.str (tx b)) (.str (tx cs))=false
  rw [eqV_tx,decide_eq_false]
  intro z
  subst z
  obtain ⟨h1,e1⟩:=List.getElem?_eq_some_iff.mp a.a
  obtain ⟨h2,e2⟩:=List.getElem?_eq_some_iff.mp e
  exact List.pairwise_iff_getElem.mp a.n i j h2 h1 hi (e2.trans e1.symm),k⟩⟩
theorem call_list_ofK {X:Cx} {K:W.Frag} (hK:X.K=K):CallR X (.type "list") (rLOfA K):=by
 subst hK
 exact call_list_ofA
theorem call_tuple_ofK {X:Cx} {K:W.Frag} (hK:X.K=K):CallR X (.type "tuple") (rTOfA K):=by
 subst hK
 exact call_tuple_ofA
instance go_listT {xs:List V} [h:Hat H p (.tup xs)]:Go (rLOfA K [.ref p] H Q) (∀l H',New H H' l (.lst xs)→Q (.ref l) H'):=⟨fun k=>⟨p,xs,rfl,.inr (.of h.e),k⟩⟩
instance go_tupL {xs:List V} [h:Hat H p (.lst xs)]:Go (rTOfA K [.ref p] H Q) (∀l H',New H H' l (.tup xs)→Q (.ref l) H'):=⟨fun k=>⟨p,xs,rfl,.inl ⟨.of h.e,k⟩⟩⟩
end
def hsR (qs:List Addr) (T:List (List V)):List (Addr×HO):=(qs.zip T).map fun x=>(x.1,HO.lst x.2)
theorem hsR_snoc {qs:List Addr} {T:List (List V)} (h:qs.length=T.length) (q:Addr) (r:List V):hsR (qs++[q]) (T++[r])=hsR qs T++[(q,.lst r)]:=by
 unfold hsR
 rw [List.zip_append h,List.map_append]
 rfl
theorem hsR_at {qs:List Addr} {T:List (List V)} {i:Nat} {q:Addr} {r:List V} (h1:qs[i]?=some q) (h2:T[i]?=some r):(q,HO.lst r)∈hsR qs T:=by
 refine List.mem_map.mpr ⟨(q,r),?_,rfl⟩
 refine List.mem_of_getElem? (i:=i) ?_
 rw [List.getElem?_zip_eq_some]
 exact ⟨h1,h2⟩
theorem hsR_set {qs:List Addr} {T:List (List V)} {i:Nat} {q:Addr} {r:List V} (o:List V) (h1:qs[i]?=some q) (h2:T[i]?=some r):∀{B:List (Addr×HO)},Up q (.lst o) (hsR qs T++B) (hsR qs (T.set i o)++B):=by
 induction qs generalizing T i with
 | nil=>simp at h1
 | cons a qs ih =>
  intro B
  cases T with
  | nil=>simp at h2
  | cons b T =>
   cases i with
   | zero =>
    simp at h1 h2
    subst h1 h2
    exact .head
   | succ i=>exact .tail (ih (by simpa using h1) (by simpa using h2))
theorem comp_lists {K:W.Frag} {H0:Hp} {M:List Addr} {L:List (Addr×HO)} {I:List Im} {l:Addr} {xs:List V} {rows:List (List V)} {σ fvs:L2.St} {fr:List Nat} {te:TE} {H:Hp} {Q:VK} (F:SH H0 M H L I) (hq:H l=some (.lst xs)) (tp:TupsAt H xs rows) (hz:xs.length≤1000000) (hf:(fr.map fun i=>(σ[i]?).getD none)=fvs)
  (turn:∀(q:Addr) r (H':Hp) (R:VK),r∈rows→H' q=some (.tup r)→(∀z H2,New H' H2 z (.lst r)→R (.ref z) H2)→te (some (.ref q)::fvs) H' R)
  (k:∀p qs H',qs.length=rows.length→SH H0 M H' ((p,.lst (qs.map V.ref))::(hsR qs rows++L)) I→Q (.ref p) H'):CompAll (Itl K l) 1 fr (gName 0) tTrue te σ H Q:=by
 intro acc hacc
 subst hf
 have n0:New H (upd H acc (.lst [])) acc (.lst []):=.mk' hacc
 have xl:xs.length=rows.length:=tp.1
 refine comp_by (items_list (xs:=xs)) (fun i ys H'=>∃qs:List Addr,qs.length=i∧ys=qs.map V.ref∧Same H H'∧SH H0 M H' ((acc,.lst ys)::(hsR qs (rows.take i)++L)) I) ⟨[],rfl,rfl,n0.s,F.newL n0⟩ (fun i ys H' _ ⟨qs,ql,e,s,G⟩=>⟨s.seq (SqL.of hq),G.at' _ List.mem_cons_self⟩) ?_ ?_
 ·rintro i x tv ys H' hx hi ⟨qs,ql,rfl,hs,G⟩ htv
  obtain ⟨t0,rfl⟩:∃a,tv=[a]:=List.length_eq_one_iff.mp htv
  obtain ⟨r,q,e1,rfl,e2⟩:=tups_at tp hx
  refine wn0 ?_
  unfold tTrue
  dsimp only
  rw [if_pos rfl]
  refine turn q r H' _ (List.mem_of_getElem? e1) (hs _ _ e2) fun z H2 nz=>⟨?_,?_,CompW.next (tv:=[some (.ref q)]) hi ⟨qs++[z],by simp [ql],by simp,fun b u e=>?_,?_⟩ rfl⟩
  ·rw [List.length_map,ql]
   exact Nat.lt_of_lt_of_le hi (small_line hz)
  ·exact nz.s _ _ (G.at' _ List.mem_cons_self)
  ·rw [upd_ne (fun z=>by rw [z] at e;rw [hacc] at e;cases e)]
   exact nz.s _ _ (hs _ _ e)
  ·have G1:=G.newL nz
   have G2:SH H0 M H2 ((acc,.lst (qs.map V.ref))::(hsR (qs++[z]) (rows.take (i + 1))++L)) I:=by
    refine SH.perm G1 ?_
    have e3:rows.take (i + 1)=rows.take i++[r]:=by rw [List.take_succ,e1];rfl
    rw [e3,hsR_snoc (by rw [List.length_take];lia),List.append_assoc]
    refine (List.Perm.cons _ (List.perm_append_comm_assoc ..)).trans ?_
    exact List.Perm.swap ..
   exact G2.offL (l:=acc) (xs:=qs.map V.ref++[.ref z]) Off.upd upd_same .head
 ·rintro ys H' ⟨qs,ql,rfl,hs,G⟩
  rw [List.take_of_length_le (by lia)] at G
  exact k acc qs H' (by lia) G
theorem comp_Wx {K:W.Frag} {l:Addr} {xs:List V} {σ fvs:L2.St} {fr:List Nat} {te:TE} {H:Hp} {Q:VK} (hq:H l=some (.lst xs)) (hz:xs.length≤1000000) (hf:(fr.map fun i=>(σ[i]?).getD none)=fvs)
  (G:Nat→List V→Hp→Prop) (st:∀i ys H1 H2,(∀q u,H1 q=some (.tup u)→H2 q=some (.tup u))→G i ys H1→G i ys H2) (g0:G 0 [] H)
  (turnE:∀(i:Nat) (x:V) ys (H':Hp) (R:VK),xs[i]?=some x→Same H H'→G i ys H'→(∀y H2,Same H' H2→G (i + 1) (ys++[y]) H2→R y H2)→te (some x::fvs) H' R)
  (k:∀p ys H',New H H' p (.lst ys)→G xs.length ys H'→Q (.ref p) H'):CompAll (Itl K l) 1 fr (gName 0) tTrue te σ H Q:=by
 intro acc hacc
 subst hf
 have nacc:∀b u,H b=some u→b≠acc:=fun b u e=>ne_of_none e hacc
 have n0:New H (upd H acc (.lst [])) acc (.lst []):=.mk' hacc
 refine comp_by (items_list (xs:=xs)) (fun i ys H'=>H' acc=some (.lst ys)∧Same H H'∧ys.length≤i∧G i ys H') ⟨n0.e,n0.s,Nat.le_refl _,st _ _ _ _ (fun q u e=>n0.s _ _ e) g0⟩ (fun i ys H' _ h=>⟨h.2.1.seq (SqL.of hq),h.1⟩) ?_ ?_
 ·rintro i x tv ys H' hx hi ⟨ha,hs,hl,hg⟩ htv
  obtain ⟨t0,rfl⟩:∃a,tv=[a]:=List.length_eq_one_iff.mp htv
  unfold tTrue
  show te (some x::_) H' _
  refine turnE i x ys H' _ hx hs hg fun y H3 s3 g3=>?_
  refine ⟨Nat.lt_of_le_of_lt hl (Nat.lt_of_lt_of_le hi (small_line hz)),s3 _ _ ha,CompW.next (tv:=[some x]) hi ⟨upd_same,fun b u e=>?_,by rw [List.length_append,List.length_singleton];lia,st _ _ _ _ (fun q' u e=>?_) g3⟩ rfl⟩
  ·rw [upd_ne (nacc b u e)]
   exact s3 _ _ (hs _ _ e)
  ·have e3:H3 acc=some (.lst ys):=s3 _ _ ha
   rw [upd_ne (fun z=>by rw [z,e3] at e;cases e)]
   exact e
 ·rintro ys H' ⟨ha,hs,_,hg⟩
  exact k acc ys H' ⟨hs,ha,nacc⟩ hg
end L2
namespace L2
open PySem PySem.Spec PyProof.Rows
section
variable {X:Cx} {pins:List (Addr×Obj)} {σ:St} {H:Hp} {s:Shared} {b:Addr}
theorem FpOk.to {H':Hp} (f:FpOk X pins H b) (h:H' b=none):FpOk X pins H' b:=⟨h,f.2⟩
theorem Inv.moved {h':Heap} {t':Nat} (I:Inv X pins σ H s) (f:FpOk X pins H b) (k:∀c o,c≠b→s.heap.get? c=some o→h'.get? c=some o):Inv X pins σ H { s with heap:=h',toks:=t' } :=
 I.turned (it:=b) k f.1 f.2.1 f.2.2.2.1 f.2.2.2.2.1 f.2.2.2.2.2
theorem run_in1 {k:Nat} {f:Addr} {fd:FuncData} {ps:List Str} {sp:Sp} {us:List Value} {vs:List V} {Q:VK} {E:Value→Shared→Prop} (F:FnOk X.prog X.w X.K X.mg X.base CX0 k f fd ps sp) (hr:Room (k + 1) X.A) (hb:Binds X.K fd ps []) (I:Inv X pins σ H s) (r:Vals vs us) (h:sp vs H Q E0) :
  wpAny (model X.prog X.w) X.A.in1 (call (.ref f) us) (EP X pins σ Q) E s:=by
 have hl:us.length=ps.length:=by rw [← r.length];exact F.len _ _ _ _ h
 have bd:=hb s us I.kIn (by simpa using hl)
 rw [List.append_nil] at bd
 refine wpAny_call (codeAny_mono (F.run X.A.in1 X.stack s H ⟨us,[]⟩ us vs Q E0 hr.in1 I.env0.in1 bd r h) fun r s' hq=>?_)
 cases r with
 | error e=>exact False.elim hq
 | ok fl =>
  cases fl with
  | ret u=>exact I.after hq
  | next=>exact False.elim hq
  | brk=>exact False.elim hq
  | cont=>exact False.elim hq
theorem minK_goes {f l it B:Addr} {xs:List V} {kf:Nat→Int} {Pv:Hp→Prop} {R:Result→Shared→Prop} (hh:X.A.handled=none) (nB:B≠it)
  (hP:∀H',Pv H'→SqL X.K H' l xs)
  (turn:∀(i:Nat) (v:V) (u:Value) (pins:List (Addr×Obj)) (s:Shared) (H':Hp) (E:Value→Shared→Prop),xs[i]?=some v→RelV v u→Inv X pins σ H' s→Pv H'→wpAny (model X.prog X.w) X.A.in1 (call (.ref f) [u]) (EP X pins σ fun z H2=>z=.int (kf i)∧Pv H2) E s)
  (hR:∀(i:Nat) (v:V) (u:Value) (H':Hp) (s':Shared),xs[i]?=some v→RelV v u→(∀j,j < xs.length→kf i≤kf j∧(j < i→kf i < kf j))→Inv X pins σ H' s'→Pv H'→R (.ok (.ret u)) s') (left:Nat) :
  ∀(j i:Nat) (s:Shared) (H:Hp) (vb:V) (ub:Value) (tb:Tok) (c:Nat),j + left=xs.length→Inv X pins σ H s→Pv H→FpOk X pins H it→FpOk X pins H B→s.heap.IsListIter it l j→s.heap.get? B=some (bestObj #[ub,.int (kf i) tb] c)→xs[i]?=some vb→RelV vb ub→i < j →
   (∀j',j' < j→kf i≤kf j'∧(j' < i→kf i < kf j'))→codeAny (model X.prog X.w) X.A (.builtin "min.loop" ⟨[.ref it,.ref f,.ref B],[]⟩) R s:=by
 have hs:(toString "min" ++ toString ".loop" : String) = "min.loop" := by decide
 induction left with
 | zero =>
  intro j i s H vb ub tb c hj I p fi fb st hb hv rv hij best
  obtain ⟨its,rr,pl,_⟩:=I.list (hP H p)
  have hl:=rr.length
  refine codeAny_builtin F.entry_min_loop ?_
  rw [Around.under_plainId F.plain_min_loop _]
  show wpAny _ _ (seqItems? (Value.ref B) >>= _) _ _ _
  refine wpAny_bind (wpAny_seqItems hb rfl ?_)
  show wpAny _ _ (tryCatch (pyNext (Value.ref it)) _ >>= _) _ _ _
  refine wpAny_bind (wpAny_tryCatch (wpAny_pyNext_list_end hh st pl.isList (by simp;lia) fun h1 eb=>?_))
  have I1:Inv X pins σ H { s with heap:=h1 }:=I.moved (t':=s.toks) fi fun c o n e=>eb c o n e
  have hb1:h1.get? B=_:=eb B _ nB hb
  show wpAny _ _ (updateSeq B _ >>= _) _ _ _
  refine wpAny_bind (wpAny_updateSeq hb1 rfl (wpAny_bind (wpAny_letGo (wpAny_pure ?_))))
  exact hR i vb ub H _ hv rv (fun j' h=>best j' (by lia)) (I1.moved (t':=s.toks) fb fun c o n e=>(Heap.get?_update_other _ _ (fun z=>n z.symm)).trans e) p
 | succ left ih =>
  intro j i s H vb ub tb c hj I p fi fb st hb hv rv hij best
  have hlt:j < xs.length:=by lia
  obtain ⟨its,rr,pl,_⟩:=I.list (hP H p)
  have hx:xs[j]?=some xs[j]:=List.getElem?_eq_getElem hlt
  obtain ⟨u,hu,ru⟩:=rr.get hx
  refine codeAny_builtin F.entry_min_loop ?_
  rw [Around.under_plainId F.plain_min_loop _]
  show wpAny _ _ (seqItems? (Value.ref B) >>= _) _ _ _
  refine wpAny_bind (wpAny_seqItems hb rfl ?_)
  show wpAny _ _ (tryCatch (pyNext (Value.ref it)) _ >>= _) _ _ _
  refine wpAny_bind (wpAny_tryCatch (wpAny_pyNext_list_item st pl.isList (x:=u) (by simpa using hu) fun h1 st1 sb=>?_))
  have I1:Inv X pins σ H { s with heap:=h1 }:=I.moved (t':=s.toks) fi fun c o n e=>(sb.2 c n).trans e
  have hb1:h1.get? B=some (bestObj #[ub,.int (kf i) tb] c):=(sb.2 B nB).trans hb
  obtain ⟨oI,e1,c1,d1⟩:=id st1
  have I2:Inv X (pins++[(it,oI),(B,bestObj #[ub,.int (kf i) tb] c)]) σ H { s with heap:=h1 }:=I1.pins_of fun q hq=>by
   rcases List.mem_append.mp hq with hq | hq
   ·exact I1.pin q (List.mem_append_right _ hq)
   ·rcases List.mem_cons.mp hq with rfl | hq
    ·exact ⟨e1,fi.1,fi.2.1,fi.2.2.1,fun v z=>by rw [d1] at z;cases z⟩
    ·rw [List.mem_singleton.mp hq]
     exact ⟨hb1,fb.1,fb.2.1,fb.2.2.1,fun v z=>by cases z⟩
  show wpAny _ _ (tryCatch (holding _ (call (Value.ref f) [u])) _ >>= _) _ _ _
  refine wpAny_bind (wpAny_tryCatch (wpAny_holding (wpAny_mono (turn j _ u _ _ H (fun _ _=>False) hx ru I2 p) (fun z s2 he=>?_) fun _ _ hF=>hF.elim)))
  obtain ⟨zv,H2,I3,rz,rfl,p2⟩:=he
  obtain ⟨t2,rfl⟩:=rz
  have q1:=I3.pin (it,oI) (by simp)
  have q2:=I3.pin (B,bestObj #[ub,.int (kf i) tb] c) (by simp)
  have I4:Inv X pins σ H2 s2:=I3.unpinned
  have fi2:=fi.to q1.2.1
  have fb2:=fb.to q2.2.1
  have st2:s2.heap.IsListIter it l (j + 1):=⟨oI,q1.1,c1,d1⟩
  have hb2:s2.heap.get? B=some (bestObj #[ub,.int (kf i) tb] c):=q2.1
  show wpAny _ _ (tryCatch (holding _ (richCompare .Lt _ _ >>= _)) _ >>= _) _ _ _
  refine wpAny_bind (wpAny_tryCatch (wpAny_holding (wpAny_bind (lt_ints ?_))))
  refine wpAny_bind (wpAny_holding (wpAny_truthy_bool ?_))
  refine wpAny_bind (wpAny_letGo (wpAny_pure ?_))
  by_cases hg:kf j < kf i
  ·rw [decide_eq_true hg]
   simp only [if_true]
   refine wpAny_bind (wpAny_updateSeq hb2 rfl (wpAny_bind (wpAny_letGo ?_)))
   rw [hs]
   have I5:Inv X pins σ H2 { s2 with heap:=s2.heap.update B (Obj.mapSeq fun _=>#[u,.int (kf j) t2]) }:=I4.moved (t':=s2.toks) fb2 fun c o n e=>(Heap.get?_update_other _ _ (fun z=>n z.symm)).trans e
   refine wpAny_pure ⟨plainId_quiet F.plain_min_loop _,ih (j + 1) j _ H2 _ u t2 _ (by lia) I5 p2 fi2 fb2 ⟨oI,(Heap.get?_update_other _ _ nB).trans q1.1,c1,d1⟩ (Heap.get?_update_self _ hb2 rfl) hx ru (by lia) fun j' h'=>?_⟩
   by_cases e:j'=j
   ·subst e
    exact ⟨Int.le_refl _,fun z=>absurd z (Nat.lt_irrefl _)⟩
   ·have:=best j' (by lia)
    exact ⟨by lia,fun _=>by lia⟩
  ·rw [decide_eq_false hg]
   simp only [Bool.false_eq_true,if_false]
   refine wpAny_bind (wpAny_letGo ?_)
   rw [hs]
   refine wpAny_pure ⟨plainId_quiet F.plain_min_loop _,ih (j + 1) i _ H2 vb ub tb c (by lia) I4 p2 fi2 fb2 st2 hb2 hv rv (by lia) fun j' h'=>?_⟩
   by_cases e:j'=j
   ·subst e
    exact ⟨by lia,fun z=>by lia⟩
   ·exact best j' (by lia)
theorem args_minK (a v:Value):argsOk "min" ⟨[a],[(("key" : Str),v)]⟩:=by unfold argsOk;kernel_rfl
def rMinK (K:W.Frag) (sp:Sp):List V→Hp→VK→Prop:=fun vs H Q=>∃(l:Addr) (xs:List V) (kf:Nat→Int) (Pv:Hp→Prop),vs=[.ref l]∧0 < xs.length∧Pv H∧(∀H',Pv H'→SqL K H' l xs) ∧
 (∀i v H',xs[i]?=some v→Pv H'→sp [v] H' (fun z H2=>z=.int (kf i)∧Pv H2) E0)∧∀i v H',xs[i]?=some v→(∀j,j < xs.length→kf i≤kf j∧(j < i→kf i < kf j))→Pv H'→Q v H'
def tMinK (K:W.Frag) (sp:Sp) (t:TA):TE:=fun σ H Q=>t σ H fun xs H1=>rMinK K sp xs H1 Q
theorem run_minK {k:Nat} {f:Addr} {fd:FuncData} {ps:List Str} {sp:Sp} {us:List Value} {vs:List V} {Q:VK} (Fn:FnOk X.prog X.w X.K X.mg X.base CX0 k f fd ps sp) (hr:Room (k + 1) X.A) (hb:Binds X.K fd ps []) (hc:X.calm=true) (I:Inv X pins σ H s) (r:Vals vs us) (h:rMinK X.K sp vs H Q) :
  wpAny (model X.prog X.w) X.A (call (.builtin "min") us [(("key" : Str),.ref f)]) (EP X pins σ Q) X.xe s:=by
 obtain ⟨l,xs,kf,Pv,rfl,h0,p0,hP,hsp,hQ⟩:=h
 obtain ⟨v,rfl,rx⟩:=vals1 r
 cases rx
 obtain ⟨its,rv,pl,_⟩:=I.list (hP H p0)
 have hl:=pl.isList
 have hlt:l < s.heap.objs.size:=let ⟨_,e,_⟩:=hl;Heap.lt_size e
 have hs:(toString "min" ++ toString ".loop" : String) = "min.loop" := by decide
 have turn:∀(i:Nat) (v:V) (u:Value) (pins:List (Addr×Obj)) (s:Shared) (H':Hp) (E:Value→Shared→Prop),xs[i]?=some v→RelV v u→Inv X pins σ H' s→Pv H'→wpAny (model X.prog X.w) X.A.in1 (call (.ref f) [u]) (EP X pins σ fun z H2=>z=.int (kf i)∧Pv H2) E s :=
  fun i v u pins s H' E hv ru I p=>run_in1 Fn hr hb I (.cons ru .nil) (hsp i v H' hv p)
 refine call_kw_tree F.kind_min F.plain_min F.entry_min (args_minK _ _) ?_
 show wpAny _ _ (Builtin.Builtins.bindParams "min" ["key", "default"] 0 ⟨[],[(("key" : Str),Value.ref f)]⟩ >>= _) _ _ s
 refine wpAny_bind (wpAny_of_eq (show Builtin.Builtins.bindParams "min" ["key", "default"] 0 ⟨[],[(("key" : Str),Value.ref f)]⟩=pure [some (.ref f),none] from rfl) ?_)
 refine wpAny_bind (wpAny_pure ?_)
 refine wpAny_bind (wpAny_pyIter_list hl ?_)
 refine wpAny_bind (wpAny_newObj_type ?_)
 rw [hs]
 refine wpAny_pure ⟨plainId_quiet F.plain_min_loop _,?_⟩
 have sz1:(s.heap.push { cls:=.type "list_iterator", data:=.fields #[.ref l,.int 0 0] }).objs.size=s.heap.objs.size + 1:=size_push' ..
 generalize hB:(s.heap.push { cls:=.type "list_iterator", data:=.fields #[.ref l,.int 0 0] }).objs.size=B at sz1 ⊢
 have gB:((s.heap.push { cls:=.type "list_iterator", data:=.fields #[.ref l,.int 0 0] }).push (bestObj #[] 0)).get? B=some (bestObj #[] 0):=by rw [← hB];exact Heap.get?_push_size _ rfl
 have gI:((s.heap.push { cls:=.type "list_iterator", data:=.fields #[.ref l,.int 0 0] }).push (bestObj #[] 0)).get? s.heap.objs.size=some { cls:=.type "list_iterator", data:=.fields #[.ref l,.int 0 0] }:=Heap.get?_push_of_some _ (Heap.get?_push_size _ rfl)
 have nB:B≠s.heap.objs.size:=by lia
 have fi:FpOk X pins H s.heap.objs.size:=I.fpOk (Nat.le_refl _) I.fresh
 have fb:FpOk X pins H B:=I.fpOk (by lia) (I.hok.fresh (by lia))
 have I0:Inv X pins σ H { s with heap:=(s.heap.push { cls:=.type "list_iterator", data:=.fields #[.ref l,.int 0 0] }).push (bestObj #[] 0) }:=I.kept (t':=s.toks) fun b o e=>Heap.get?_push_of_some _ (Heap.get?_push_of_some _ e)
 generalize (s.heap.push { cls:=.type "list_iterator", data:=.fields #[.ref l,.int 0 0] }).push (bestObj #[] 0)=h9 at gB gI I0 ⊢
 have st:h9.IsListIter s.heap.objs.size l 0:=⟨_,gI,rfl,rfl⟩
 generalize s.heap.objs.size=it at nB fi st
 obtain ⟨its,rr,pl,_⟩:=I0.list (hP H p0)
 have hx:xs[0]?=some xs[0]:=List.getElem?_eq_getElem h0
 obtain ⟨u,hu,ru⟩:=rr.get hx
 refine codeAny_builtin F.entry_min_loop ?_
 rw [Around.under_plainId F.plain_min_loop _]
 show wpAny _ _ (seqItems? (Value.ref B) >>= _) _ _ _
 refine wpAny_bind (wpAny_seqItems gB rfl ?_)
 show wpAny _ _ (tryCatch (pyNext (Value.ref it)) _ >>= _) _ _ _
 refine wpAny_bind (wpAny_tryCatch (wpAny_pyNext_list_item st pl.isList (x:=u) (by simpa using hu) fun h1 st1 sb=>?_))
 have I1:Inv X pins σ H { s with heap:=h1 }:=I0.moved (t':=s.toks) fi fun c o n e=>(sb.2 c n).trans e
 have hb1:h1.get? B=some (bestObj #[] 0):=(sb.2 B nB).trans gB
 obtain ⟨oI,e1,c1,d1⟩:=id st1
 have I2:Inv X (pins++[(it,oI),(B,bestObj #[] 0)]) σ H { s with heap:=h1 }:=I1.pins_of fun q hq=>by
  rcases List.mem_append.mp hq with hq | hq
  ·exact I1.pin q (List.mem_append_right _ hq)
  ·rcases List.mem_cons.mp hq with rfl | hq
   ·exact ⟨e1,fi.1,fi.2.1,fi.2.2.1,fun v z=>by rw [d1] at z;cases z⟩
   ·rw [List.mem_singleton.mp hq]
    exact ⟨hb1,fb.1,fb.2.1,fb.2.2.1,fun v z=>by cases z⟩
 show wpAny _ _ (tryCatch (holding _ (call (Value.ref f) [u])) _ >>= _) _ _ _
 refine wpAny_bind (wpAny_tryCatch (wpAny_holding (wpAny_mono (turn 0 _ u _ _ H (fun _ _=>False) hx ru I2 p0) (fun z s2 he=>?_) fun _ _ hF=>hF.elim)))
 obtain ⟨zv,H2,I3,rz,rfl,p2⟩:=he
 obtain ⟨t2,rfl⟩:=rz
 have q1:=I3.pin (it,oI) (by simp)
 have q2:=I3.pin (B,bestObj #[] 0) (by simp)
 have fi2:=fi.to q1.2.1
 have fb2:=fb.to q2.2.1
 have hb2:s2.heap.get? B=some (bestObj #[] 0):=q2.1
 have I5:Inv X pins σ H2 { s2 with heap:=s2.heap.update B (Obj.mapSeq fun _=>#[u,.int (kf 0) t2]) }:=I3.unpinned.moved (t':=s2.toks) fb2 fun c o n e=>(Heap.get?_update_other _ _ (fun z=>n z.symm)).trans e
 show wpAny _ _ (updateSeq B _ >>= _) _ _ _
 refine wpAny_bind (wpAny_updateSeq hb2 rfl ?_)
 rw [hs]
 refine wpAny_pure ⟨plainId_quiet F.plain_min_loop _,minK_goes (pins:=pins) (σ:=σ) (I.ok.hd hc) nB hP turn (fun i v u H' s' hv rv best I p=>⟨v,H',I,rv,hQ i v H' hv best p⟩) (xs.length - 1) 1 0 _ H2 xs[0] u t2 _ (by lia) I5 p2 fi2 fb2 ⟨oI,(Heap.get?_update_other _ _ nB).trans q1.1,c1,d1⟩ (Heap.get?_update_self _ hb2 rfl) hx ru (by lia) fun j' h'=>?_⟩
 have e:j'=0:=by lia
 subst e
 exact ⟨Int.le_refl _,fun z=>absurd z (Nat.lt_irrefl _)⟩
theorem pe_minK {k m:Nat} {x:Str} {ps:List Str} {sp:Sp} {p p2 pos kp:Pos} {e:Expr} {t:TA} (D:Def X.prog X.w X.K X.mg X.base CX0 k x ps sp) (hr:Room m X.A) (hc:X.calm=true) (hm:X.mg "min" = none) (ha:PA X [e] t) (hk:k + 1≤m:=by decide) (hg:Gl X "min" := by rfl) (hx:Gl X x:=by rfl)
  (hdb:(x == ("__debug__" : Str))=false:=by decide) (he:backTo pos (starEach [e] X.env)=(false,eval e X.env)::backTo pos (starEach [] X.env):=by rfl) (hpl:(backTo pos (starEach [e] X.env)).any (·.1)=false:=by rfl) :
  PE X (.Call (.Name "min" p) [e] [⟨some "key", .Name x p2,kp⟩] pos) (tMinK X.K sp t):=by
 obtain ⟨f,fd,Fn,hmx,kp,b⟩:=D.ex
 intro pins s σ H Q I h
 refine wpAny_Call_Name_kw (ld_blt I hg hm boot_min ?_ (by decide) (by decide))
 refine callWith_kw (thn (ha pos pins s σ H _ I h) fun us s1 ⟨vs,H1,I1,r1,q1⟩=>?_) he hpl
 have nm:PE X (.Name x p2) (tC (.ref f)):=pe_gl ⟨_,hmx,rfl⟩ hx hdb
 refine kws_cons (thn (nm pins s1 σ H1 (fun y H2=>y=.ref f∧H2=H1) I1 ⟨rfl,rfl⟩) fun z s2 ⟨y,H2,I2,r2,e1,e2⟩=>kws_nil ?_)
 subst e1 e2
 obtain rfl:z=Value.ref f:=r2
 exact run_minK Fn (hr.mono hk) b hc I2 r1 q1
end
theorem TupsAt.rev {H:Hp} {ys:List V} {rows:List (List V)} (h:TupsAt H ys rows):TupsAt H ys.reverse rows.reverse:=by
 refine ⟨by rw [List.length_reverse,List.length_reverse,h.1],fun j r e=>?_⟩
 have hj:j < rows.length:=by have:=(List.getElem?_eq_some_iff.mp e).1;rwa [List.length_reverse] at this
 rw [List.getElem?_reverse hj] at e
 obtain ⟨q,a,b⟩:=h.2 _ _ e
 exact ⟨q,by rw [List.getElem?_reverse (by rw [h.1];exact hj),h.1];exact a,b⟩
theorem TupsAt.app {H:Hp} {ys zs:List V} {r1 r2:List (List V)} (h:TupsAt H ys r1) (g:TupsAt H zs r2):TupsAt H (ys++zs) (r1++r2):=by
 refine ⟨by rw [List.length_append,List.length_append,h.1,g.1],fun j r e=>?_⟩
 by_cases hj:j < r1.length
 ·rw [List.getElem?_append_left hj] at e
  obtain ⟨q,a,b⟩:=h.2 _ _ e
  exact ⟨q,by rw [List.getElem?_append_left (by rw [h.1];exact hj)];exact a,b⟩
 ·rw [List.getElem?_append_right (by lia)] at e
  obtain ⟨q,a,b⟩:=g.2 _ _ e
  exact ⟨q,by rw [List.getElem?_append_right (by rw [h.1];lia),h.1];exact a,b⟩
def RowsI (YS:List (List V)) (RS:List (List (List V))):Im:=.fct (fun H=>YS.length=RS.length∧∀(j:Nat) ys rs,YS[j]?=some ys→RS[j]?=some rs→TupsAt H ys rs) fun H H' t h=>⟨h.1,fun j ys rs a b=>let z:=h.2 j ys rs a b;⟨z.1,fun i r e=>let ⟨q,c,d⟩:=z.2 i r e;⟨q,c,t q _ rfl d⟩⟩⟩
end L2
set_option maxHeartbeats 1000000
namespace L2
open PySem PyProof.Rows
namespace TS
structure Ord (prog:Program) (w:World) (A:Around) (κ:SortKind) (s:Shared) (M:Keyed→Prop) (lt:Keyed→Keyed→Bool):Prop where
 ir:∀x,M x→lt x x=false
 nt:∀x y z,M x→M y→M z→lt x z=true→lt x y=true∨lt y z=true
 as:∀x y,M x→M y→lt x y=true→lt y x=false
 as_:∀x y,M x→M y→wpAny (model prog w) A (keyLt' κ x.1 y.1) (fun b s'=>s'=s∧b=lt x y) (fun _ _=>False) s
end TS
end L2
namespace L2
open PySem PyProof.Rows
namespace TS
section
variable {lt:Keyed→Keyed→Bool}
def le (lt:Keyed→Keyed→Bool) (x y:Keyed):Prop:=lt y x=false
structure Or (M:Keyed→Prop) (lt:Keyed→Keyed→Bool):Prop where
 ir:∀x,M x→lt x x=false
 nt:∀x y z,M x→M y→M z→lt x z=true→lt x y=true∨lt y z=true
 as:∀x y,M x→M y→lt x y=true→lt y x=false
variable {M:Keyed→Prop}
theorem Or.of (O:Or M lt) {x y:Keyed} (hx:M x) (hy:M y) (h:lt x y=true):le lt x y:=O.as x y hx hy h
abbrev Up (lt:Keyed→Keyed→Bool) (l:List Keyed):Prop:=l.Pairwise (le lt)
structure MI (lt:Keyed→Keyed→Bool) (la lb out:List Keyed) (i j:Nat):Prop where
 il:i≤la.length
 jl:j≤lb.length
 pm:out.Perm (la.take i++lb.take j)
 so:Up lt out
 ab:∀x∈out,∀y,y∈la.drop i∨y∈lb.drop j→le lt x y
variable {la lb out:List Keyed} {i j k:Nat}
theorem MI.sw (m:MI lt la lb out i j):MI lt lb la out j i:=⟨m.jl,m.il,m.pm.trans List.perm_append_comm,m.so,fun x hx y hy=>m.ab x hx y hy.symm⟩
theorem up_drop {l:List Keyed} (h:Up lt l) (i:Nat):Up lt (l.drop i):=h.sublist (List.drop_sublist i l)
theorem up_take {l:List Keyed} (h:Up lt l) (i:Nat):Up lt (l.take i):=h.sublist (List.take_sublist i l)
theorem up_cut {l:List Keyed} (h:Up lt l) (i:Nat):∀x∈l.take i,∀y∈l.drop i,le lt x y:=by
 rw [← List.take_append_drop i l] at h
 exact (List.pairwise_append.mp h).2.2
theorem MI.A (m:MI lt la lb out i j) (sa:Up lt la) (hk:i + k≤la.length) (h:∀x∈(la.drop i).take k,∀y∈lb.drop j,le lt x y):MI lt la lb (out++(la.drop i).take k) (i + k) j:=by
 refine ⟨hk,m.jl,?_,?_,?_⟩
 ·rw [List.take_add]
  refine (m.pm.append_right _).trans ?_
  rw [List.append_assoc,List.append_assoc]
  exact List.Perm.append_left _ List.perm_append_comm
 ·refine List.pairwise_append.mpr ⟨m.so,up_take (up_drop sa i) k,fun x hx y hy=>m.ab x hx y (.inl (List.mem_of_mem_take hy))⟩
 ·intro x hx y hy
  have e:la.drop (i + k)=(la.drop i).drop k:=by rw [List.drop_drop]
  rcases List.mem_append.mp hx with hx | hx
  ·rcases hy with hy | hy
   ·rw [e] at hy
    exact m.ab x hx y (.inl (List.mem_of_mem_drop hy))
   ·exact m.ab x hx y (.inr hy)
  ·rcases hy with hy | hy
   ·rw [e] at hy
    exact up_cut (up_drop sa i) k x hx y hy
   ·exact h x hx y hy
theorem MI.B (m:MI lt la lb out i j) (sb:Up lt lb) (hk:j + k≤lb.length) (h:∀y∈(lb.drop j).take k,∀x∈la.drop i,le lt y x):MI lt la lb (out++(lb.drop j).take k) i (j + k):=(m.sw.A sb hk h).sw
theorem take_one {l:List Keyed} {x:Keyed} (h:l[i]?=some x):(l.drop i).take 1=[x]∧i + 1≤l.length∧l.drop i=x::l.drop (i + 1):=by
 obtain ⟨h1,h2⟩:=List.getElem?_eq_some_iff.mp h
 have e:l.drop i=x::l.drop (i + 1):=by rw [List.drop_eq_getElem_cons h1,h2]
 exact ⟨by rw [e];rfl,h1,e⟩
theorem MI.a1 (m:MI lt la lb out i j) (sa:Up lt la) {x:Keyed} (hx:la[i]?=some x) (h:∀y∈lb.drop j,le lt x y):MI lt la lb (out++[x]) (i + 1) j:=by
 obtain ⟨e,hl,_⟩:=take_one hx
 have:=m.A (k:=1) sa hl (fun z hz y hy=>by rw [e] at hz;rw [List.mem_singleton.mp hz];exact h y hy)
 rw [e] at this
 exact this
theorem MI.b1 (m:MI lt la lb out i j) (sb:Up lt lb) {y:Keyed} (hy:lb[j]?=some y) (h:∀x∈la.drop i,le lt y x):MI lt la lb (out++[y]) i (j + 1):=(m.sw.a1 sb hy h).sw
end
end TS
end L2
namespace L2
open PySem PyProof.Rows
namespace TS
section
variable {prog:Program} {w:World} {A:Around} {E:Value→Shared→Prop} {s:Shared} {κ:SortKind} {M:Keyed→Prop} {lt:Keyed→Keyed→Bool}
theorem Ord.or (O:Ord prog w A κ s M lt):Or M lt:=⟨O.ir,O.nt,O.as⟩
structure SG (st st':SortSt):Prop where
 k:kindOf st'=kindOf st
 a:arrOf st'=arrOf st
 p:pendingOf st'=pendingOf st
 f:failedOf st'=failedOf st
theorem SG.set {st st':SortSt} (h:SG st st') (g:Nat):SG st (SortSt.mk' (kindOf st') (arrOf st') (pendingOf st') g (failedOf st')):=⟨h.k,h.a,h.p,h.f⟩
variable {a b out:Array Keyed} {i j:Nat}
end
end TS
end L2
namespace L2
open PySem PyProof.Rows
namespace TS
section
variable {lt:Keyed→Keyed→Bool} {M:Keyed→Prop} {la lb rv:List Keyed} {i j t:Nat}
structure MH (lt:Keyed→Keyed→Bool) (la lb rv:List Keyed) (i j:Nat):Prop where
 il:i≤la.length
 jl:j≤lb.length
 pm:rv.Perm (la.drop i++lb.drop j)
 so:Up lt rv
 ab:∀x,x∈la.take i∨x∈lb.take j→∀y∈rv,le lt x y
theorem MH.sw (m:MH lt la lb rv i j):MH lt lb la rv j i:=⟨m.jl,m.il,m.pm.trans List.perm_append_comm,m.so,fun x hx y hy=>m.ab x hx.symm y hy⟩
theorem drop_two {l:List Keyed} (h1:t≤i) (h2:i≤l.length):(l.take i).drop t++l.drop i=l.drop t:=by
 have:l.drop t=(l.take i++l.drop i).drop t:=by rw [List.take_append_drop]
 rw [this,List.drop_append_of_le_length (by rw [List.length_take];lia)]
theorem take_two {l:List Keyed} (h1:t≤i):l.take t=(l.take i).take t:=by rw [List.take_take,Nat.min_eq_left h1]
theorem MH.A (m:MH lt la lb rv i j) (ua:Up lt la) (h1:t≤i) (h:∀y∈lb.take j,∀x∈(la.take i).drop t,le lt y x):MH lt la lb ((la.take i).drop t++rv) t j:=by
 refine ⟨Nat.le_trans h1 m.il,m.jl,?_,?_,?_⟩
 ·rw [← drop_two h1 m.il,List.append_assoc]
  exact List.Perm.append_left _ m.pm
 ·exact List.pairwise_append.mpr ⟨up_drop (up_take ua i) t,m.so,fun x hx y hy=>m.ab x (.inl (List.mem_of_mem_drop hx)) y hy⟩
 ·intro x hx y hy
  rcases List.mem_append.mp hy with hy | hy
  ·rcases hx with hx | hx
   ·rw [take_two h1] at hx
    exact up_cut (up_take ua i) t x hx y hy
   ·exact h x hx y hy
  ·rcases hx with hx | hx
   ·rw [take_two h1] at hx
    exact m.ab x (.inl (List.mem_of_mem_take hx)) y hy
   ·exact m.ab x (.inr hx) y hy
theorem MH.B (m:MH lt la lb rv i j) (ub:Up lt lb) (h1:t≤j) (h:∀x∈la.take i,∀y∈(lb.take j).drop t,le lt x y):MH lt la lb ((lb.take j).drop t++rv) i t:=(m.sw.A ub h1 h).sw
theorem last_one {l:List Keyed} {x:Keyed} (h0:1≤i) (h:l[i - 1]?=some x):(l.take i).drop (i - 1)=[x]:=by
 obtain ⟨h1,h2⟩:=List.getElem?_eq_some_iff.mp h
 rw [List.drop_eq_getElem_cons (by rw [List.length_take];lia),List.drop_of_length_le (by rw [List.length_take];lia),List.getElem_take,h2]
theorem MH.a1 (m:MH lt la lb rv i j) (ua:Up lt la) {x:Keyed} (h0:1≤i) (hx:la[i - 1]?=some x) (h:∀y∈lb.take j,le lt y x):MH lt la lb (x::rv) (i - 1) j:=by
 have e:=last_one h0 hx
 have:=m.A (t:=i - 1) ua (by lia) (fun y hy z hz=>by rw [e] at hz;rw [List.mem_singleton.mp hz];exact h y hy)
 rw [e] at this
 exact this
theorem MH.b1 (m:MH lt la lb rv i j) (ub:Up lt lb) {y:Keyed} (h0:1≤j) (hy:lb[j - 1]?=some y) (h:∀x∈la.take i,le lt x y):MH lt la lb (y::rv) i (j - 1):=(m.sw.a1 ub h0 hy h).sw
end
end TS
end L2
namespace L2
open PySem PyProof.Rows
namespace TS
section
variable {prog:Program} {w:World} {A:Around} {E:Value→Shared→Prop} {s:Shared} {κ:SortKind} {M:Keyed→Prop} {lt:Keyed→Keyed→Bool}
abbrev seg (l:List Keyed) (i n:Nat):List Keyed:=(l.drop i).take n
variable {l:List Keyed} {sa na nb k:Nat}
end
end TS
end L2
namespace L2
open PySem PyProof.Rows
namespace TS
def cnt:Nat→Nat→StateT SortSt Sem (Option Nat):=sortPriv% PySem.Builtin.countRun
def X (a:Array Keyed) (i:Nat):Keyed:=(a[i]?).getD (Value.none,Value.none)
theorem X_at {a:Array Keyed} {i:Nat} (h:i < a.size):a[i]?=some (X a i):=by
 unfold X
 rw [getElem?_pos a i h]
 rfl
section
variable {prog:Program} {w:World} {A:Around} {E:Value→Shared→Prop} {s:Shared} {κ:SortKind} {M:Keyed→Prop} {lt:Keyed→Keyed→Bool}
structure SK (a₀:Array Keyed) (κ:SortKind) (p:Array (Nat×Nat×Nat)) (f0:Nat→Option Keyed) (lo:Nat) (st:SortSt):Prop where
 perm:(arrOf st).Perm a₀
 kind:kindOf st=κ
 fail:failedOf st=none
 pend:pendingOf st=p
 fr:∀k,k < lo→(arrOf st)[k]?=f0 k
variable {a₀:Array Keyed} {p:Array (Nat×Nat×Nat)} {f0:Nat→Option Keyed} {lo:Nat}
theorem SK.size {st:SortSt} (h:SK a₀ κ p f0 lo st):(arrOf st).size=a₀.size:=h.perm.size_eq
theorem SK.m {st:SortSt} (h:SK a₀ κ p f0 lo st) (hM:∀x∈a₀.toList,M x) {i:Nat} (hi:i < a₀.size):M (X (arrOf st) i):=by
 have hi':i < (arrOf st).size:=by rw [h.size];exact hi
 have e:=X_at hi'
 refine hM _ ((Array.perm_iff_toList_perm.mp h.perm).mem_iff.mp ?_)
 rw [Array.mem_toList_iff]
 exact Array.mem_of_getElem? e
theorem SK.set {st:SortSt} (h:SK a₀ κ p f0 lo st) {xs:Array Keyed} (hp:xs.Perm (arrOf st)) (hf:∀k,k < lo→xs[k]?=(arrOf st)[k]?):SK a₀ κ p f0 lo (setArr st xs):=⟨hp.trans h.perm,h.kind,h.fail,h.pend,fun k hk=>(hf k hk).trans (h.fr k hk)⟩
end
end TS
end L2
namespace L2
open PySem PyProof.Rows
namespace TS
abbrev R3:=Nat×Nat×Nat
def RunL (lt:Keyed→Keyed→Bool) (l:List Keyed):List R3→Nat→Nat→Prop
 | [],s,e=>s=e
 | x::r,s,e=>x.1=s∧1≤x.2.1∧Up lt (seg l s x.2.1)∧RunL lt l r (s + x.2.1) e
section
variable {lt:Keyed→Keyed→Bool} {l l':List Keyed}
theorem RunL.le:∀{r:List R3} {s e:Nat},RunL lt l r s e→s + r.length≤e
 | [],s,e,h=>by have h:s=e:=h;simp;lia
 | x::r,s,e,h=>by
  obtain ⟨_,h1,_,h2⟩:=h
  have:=h2.le
  rw [List.length_cons]
  lia
end
section
variable {prog:Program} {w:World} {A:Around} {E:Value→Shared→Prop} {s:Shared} {κ:SortKind} {M:Keyed→Prop} {lt:Keyed→Keyed→Bool} {a₀:Array Keyed}
structure SI (lt:Keyed→Keyed→Bool) (a₀:Array Keyed) (κ:SortKind) (e:Nat) (st:SortSt):Prop where
 perm:(arrOf st).Perm a₀
 kind:kindOf st=κ
 fail:failedOf st=none
 runs:RunL lt (arrOf st).toList (pendingOf st).toList 0 e
theorem SI.size {e:Nat} {st:SortSt} (h:SI lt a₀ κ e st):(arrOf st).size=a₀.size:=h.perm.size_eq
end
end TS
end L2
namespace L2
open PySem PyProof.Rows
namespace TS
section
variable {lt:Keyed→Keyed→Bool} {l:List Keyed} {a₀:Array Keyed} {κ:SortKind}
theorem RunL.alike:∀{r r2:List R3} {s e:Nat},r2.map (fun x=>(x.1,x.2.1))=r.map (fun x=>(x.1,x.2.1))→RunL lt l r s e→RunL lt l r2 s e
 | [],[],_,_,_,h=>h
 | [],_::_,_,_,e,_=>by cases e
 | _::_,[],_,_,e,_=>by cases e
 | x::r,y::r2,s,e,he,h=>by
  obtain ⟨h1,h2,h3,h4⟩:=h
  rw [List.map_cons,List.map_cons] at he
  have e1:=List.cons.inj he
  have e2:=Prod.mk.inj e1.1
  refine ⟨e2.1.trans h1,by rw [e2.2];exact h2,by rw [e2.2];exact h3,?_⟩
  rw [e2.2]
  exact RunL.alike e1.2 h4
theorem SI.pw {e:Nat} {st:SortSt} (h:SI lt a₀ κ e st) (i:Nat) (f:R3→R3) (hf:∀x,((f x).1,(f x).2.1)=(x.1,x.2.1)):SI lt a₀ κ e (setPending st ((pendingOf st).modify i f)):=by
 refine ⟨h.perm,h.kind,h.fail,RunL.alike ?_ h.runs⟩
 show ((pendingOf st).modify i f).toList.map _=_
 rw [Array.toList_modify]
 apply List.ext_getElem?
 intro j
 rw [List.getElem?_map,List.getElem?_map,List.getElem?_modify]
 cases (pendingOf st).toList[j]? with
 | none=>rfl
 | some x =>
  show some _=some _
  congr 1
  dsimp only
  by_cases hj:i=j
  ·rw [if_pos hj]
   exact hf x
  ·rw [if_neg hj]
end
end TS
end L2
set_option maxHeartbeats 4000000
namespace L2
open PySem PySem.W PySem.Calls PySem.Spec PyProof.Rows
namespace TS
end TS
end L2
namespace L2
open PySem PySem.W PySem.Calls PySem.Spec PyProof.Rows
end L2
namespace L2
open PySem PySem.W PySem.Calls PySem.Spec PyProof.Rows PySem.SeqAt
end L2
set_option maxHeartbeats 1000000
namespace L2
open PySem PySem.Spec PyProof.Rows
section
variable {P:List Value→Prop}
theorem el1 (h:∀a,P [a]):∀us:List Value,us.length=1→P us
 | [a],_=>h a
theorem el2 (h:∀a b,P [a,b]):∀us:List Value,us.length=2→P us
 | [a,b],_=>h a b
theorem el3 (h:∀a b c,P [a,b,c]):∀us:List Value,us.length=3→P us
 | [a,b,c],_=>h a b c
end
class ImI (f:Im) (I:List Im):Prop where
 m:f∈I
class SbI (I' I:List Im):Prop where
 s:∀f∈I',f∈I
section
variable {f g:Im} {I I':List Im}
instance imI1 [h:ImI f I]:ImI f (g::I):=⟨List.mem_cons_of_mem _ h.m⟩
instance imI0:ImI f (f::I):=⟨List.mem_cons_self⟩
instance sbI0:SbI [] I:=⟨fun _ h=>absurd h List.not_mem_nil⟩
instance sbI1 [h:ImI f I] [t:SbI I' I]:SbI (f::I') I:=⟨fun g hg=>(List.mem_cons.mp hg).elim (fun e=>e▸h.m) (t.s g)⟩
end
end L2
set_option maxHeartbeats 4000000
namespace L2
open PySem PySem.W PySem.Calls PySem.Spec PyProof.Rows PySem.SeqAt
def HasSw (K:W.Frag) (mg:Str→Option Value) (y:Str):Prop:=∃(f:Addr) (fd:FuncData) (oc:Value) (od:Option Addr) (osl:Array (Option Value)) (x:Str) (p1 p2 p3 p4 p5 p6 p7 p8:Pos) (j j2 j3:Nat),mg y=some (.ref f)∧K.lookup f=some ⟨oc,od,.func fd,osl⟩∧W.codeIn K fd.code fd.qualname=true ∧
 fd.body=.stmts [.Return (some (swBody x p1 p2 p3 p4 p5 p6 p7 j j2 j3)) p8]∧LamScope x fd.scope∧∀q:Addr,bindArgs fd ⟨[.ref q],[]⟩=pure [(x,.ref q)]
theorem HasDef.sw {K:W.Frag} {mg:Str→Option Value} {y x:Str} {st:Stmt} {p1 p2 p3 p4 p5 p6 p7 p8:Pos} {j j2 j3:Nat} (h:HasDef K mg y st) (hb:defBody st=[.Return (some (swBody x p1 p2 p3 p4 p5 p6 p7 j j2 j3)) p8]) (S:LamScope x (defScope st))
  (bd:∀(kV doc pm:Value) (an:Option Addr) (cdv ct:Value) (us:List Value),us.length=1→bindArgs (W.fnOf y y (defArgs st) (defBody st) (defScope st) .none kV doc pm an cdv ct) ⟨us,[]⟩=pure ([x].zip us)):HasSw K mg y:=by
 obtain ⟨f,fd,F,m⟩:=h
 obtain ⟨oc,od,kV,doc,pm,an,cdv,ct,osl,rfl,lk,hcd⟩:=F.ex
 exact ⟨f,_,oc,od,osl,x,p1,p2,p3,p4,p5,p6,p7,p8,j,j2,j3,m,lk,hcd,congrArg _ hb,S,fun q=>bd kV doc pm an cdv ct [.ref q] rfl⟩
end L2
namespace L2
open PySem PySem.Spec PyProof.Rows PySem.SeqAt
open AutoSeq1 (wpAny_loadPart')
open MeetsSeq
end L2
namespace L2
open PySem PySem.Spec PyProof.Rows
end L2
namespace L2
open PySem PyProof PySem.Spec PyProof.Rows
section
variable {prog:Program} {w:World} {A:Around} {E:Value→Shared→Prop} {s:Shared}
def DBare (h:Heap) (d:Addr) (es:Array DictEntry) (ep:Nat):Prop:=∃o,h.get? d=some o∧o.data=.dict es ep
theorem bare_pair {it d:Addr} {i n ep:Nat} {ok ov key v:Value} {Q:Value→Shared→Prop} (hit:IsItemIter s.heap it d i n ep ok ov)
  (hQ:∀h',IsItemIterOut h' it d i n ep key v s.heap.objs.size→h'.get? s.heap.objs.size=some { cls:=.type "tuple", data:=.seq #[key,v] }→h'.objs.size=s.heap.objs.size + 1 →
   (∀b o,b≠it→s.heap.get? b=some o→h'.get? b=some o)→Q (.ref s.heap.objs.size) { s with heap:=h' }) :
  wpAny (model prog w) A (Builtin.Dict_items.pairFromOwner (.ref it) 6 key v) Q E s:=by
 have ne:s.heap.objs.size≠it:=Nat.ne_of_gt (Heap.lt_size hit)
 unfold Builtin.Dict_items.pairFromOwner
 refine wpAny_bind (wpAny_newTuple ?_)
 have h0:IsItemIter (s.heap.push { cls:=.type "tuple", data:=.seq #[key,v] }) it d i n ep ok ov:=Heap.get?_push_of_some _ hit
 have t0:(s.heap.push { cls:=.type "tuple", data:=.seq #[key,v] }).get? s.heap.objs.size=some { cls:=.type "tuple", data:=.seq #[key,v] }:=Heap.get?_push_size _ rfl
 have z0:(s.heap.push { cls:=.type "tuple", data:=.seq #[key,v] }).objs.size=s.heap.objs.size + 1:=Heap.size_push ..
 have k0:∀b o,b≠it→s.heap.get? b=some o→(s.heap.push { cls:=.type "tuple", data:=.seq #[key,v] }).get? b=some o:=fun b o _ e=>Heap.get?_push_of_some _ e
 show wpAny _ _ (Builtin.Dict_items.ownedTupleIsFree (.ref it) >>= _) _ _ { s with heap:=s.heap.push { cls:=.type "tuple", data:=.seq #[key,v] } }
 generalize s.heap.push { cls:=.type "tuple", data:=.seq #[key,v] }=hp at h0 t0 z0 k0
 unfold Builtin.Dict_items.ownedTupleIsFree
 refine wpAny_bind (wpAny_bind (wpAny_field h0 rfl (x:=.none) rfl (wpAny_pure ?_)))
 simp only [if_true]
 refine wpAny_bind (wpAny_field h0 rfl (x:=ok) rfl (wpAny_bind (wpAny_field h0 rfl (x:=ov) rfl ?_)))
 refine wpAny_bind (wpAny_setField_rec h0 (by simp) fun h1 e1 s1=>?_)
 refine wpAny_bind (wpAny_setField_rec e1 (by simp) fun h2 e2 s2=>?_)
 refine wpAny_bind (wpAny_setField_rec e2 (by simp) fun h3 e3 s3=>?_)
 refine wpAny_bind (wpAny_setField_rec e3 (by simp) fun h4 e4 s4=>?_)
 have far:∀b o,b≠it→hp.get? b=some o→h4.get? b=some o:=fun b o hb e=>s4.extBut b o hb (s3.extBut b o hb (s2.extBut b o hb (s1.extBut b o hb e)))
 refine wpAny_bind (wpAny_letGo (wpAny_pure (hQ h4 e4 (far _ _ ne t0) ?_ fun b o hb e=>far b o hb (k0 b o hb e))))
 exact s4.1.trans (s3.1.trans (s2.1.trans (s1.1.trans z0)))
theorem bare_next {it d:Addr} {i ep:Nat} {es:Array DictEntry} {en:DictEntry} {ok ov:Value} {Q:Option Value→Shared→Prop} (hit:IsItemIter s.heap it d i es.size ep ok ov) (hm:DBare s.heap d es ep) (hx:es[i]?=some en)
  (hQ:∀h',IsItemIterOut h' it d (i + 1) es.size ep en.key en.val s.heap.objs.size→h'.get? s.heap.objs.size=some { cls:=.type "tuple", data:=.seq #[en.key,en.val] }→h'.objs.size=s.heap.objs.size + 1 →
   (∀b o,b≠it→s.heap.get? b=some o→h'.get? b=some o)→Q (some (.ref s.heap.objs.size)) { s with heap:=h' }) :
  wpAny (model prog w) A (pyNext (.ref it)) Q E s:=by
 obtain ⟨od,hod,hdd⟩:=hm
 have T:s.TypeIs (.ref it) "dict_itemiterator" := ⟨_,hit,rfl⟩
 unfold pyNext
 refine wpAny_bind (wpAny_attempt (wpAny_callSpecial?_slot (name:=Str.ofString "__next__") T F.slot_dict_itemiterator_next
  (wpAny_call_entry F.slot_dict_itemiterator_next T F.entry_dict_itemiterator_next ?_ (F.args_dict_itemiterator_next_1 _))))
 refine wpAny_bind (wpAny_pure (wpAny_bind (wpAny_bind (wpAny_bind (wpAny_typeNameOfWhole_itemiter T (wpAny_pure (wpAny_bind (wpAny_fieldsOf hit rfl ?_))))))))
 simp only [show Builtin.Dict_items.ownsTuple "dict_itemiterator" = true from by decide,if_true]
 show wpAny _ _ (if (Value.ref d == Value.none)=true then _ else _) _ _ _
 rw [if_neg (show ¬ ((Value.ref d == Value.none)=true) from Bool.false_ne_true)]
 refine wpAny_bind (wpAny_pure (wpAny_bind (wpAny_dictEntries hod hdd ?_)))
 rw [if_neg (by simp)]
 refine wpAny_bind (wpAny_pure (wpAny_bind (wpAny_dictEpoch hod hdd ?_)))
 rw [if_neg (by simp)]
 refine wpAny_pure ?_
 simp only [show ¬ ((i:Int) < 0) from by lia,if_false,Int.toNat_natCast,hx]
 refine wpAny_bind (wpAny_bind (wpAny_typeNameOfWhole_itemiter T (wpAny_pure (wpAny_bind (wpAny_isOneOf_itemiter T ?_)))))
 show wpAny _ _ (setField (.ref it) 3 (rawInt ((i:Int) + 1)) >>= _) _ _ s
 refine wpAny_bind (wpAny_setField_rec hit (by simp) fun h1 e1 s1=>?_)
 have e1:IsItemIter h1 it d (i + 1) es.size ep ok ov:=by
  unfold IsItemIter
  rw [show ((i + 1:Nat):Int)=(i:Int) + 1 from by lia]
  simpa [rawInt] using e1
 have T1:Shared.TypeIs { s with heap:=h1 } (.ref it) "dict_itemiterator" := ⟨_,e1,rfl⟩
 refine wpAny_bind (wpAny_holding (wpAny_bind (wpAny_isOneOf_itemiter T1 (wpAny_bind (wpAny_isOneOf_itemiter T1 ?_)))))
 have z1:h1.objs.size=s.heap.objs.size:=s1.1
 refine bare_pair (s:={ s with heap:=h1 }) e1 fun h2 a1 a2 a3 a4=>?_
 have a1:IsItemIterOut h2 it d (i + 1) es.size ep en.key en.val h1.objs.size:=a1
 have a2:h2.get? h1.objs.size=some { cls:=.type "tuple", data:=.seq #[en.key,en.val] }:=a2
 have a3:h2.objs.size=h1.objs.size + 1:=a3
 show wpAny _ _ _ _ _ _
 rw [z1] at a1 a2 a3
 refine wpAny_pure ⟨_,rfl,wpAny_pure ?_⟩
 show Q (some (.ref h1.objs.size)) _
 rw [z1]
 exact hQ h2 a1 a2 a3 fun b o hb e=>a4 b o hb (s1.extBut b o hb e)
theorem bare_stop {it d:Addr} {i ep:Nat} {es:Array DictEntry} {ok ov:Value} {Q:Option Value→Shared→Prop} (hh:A.handled=none) (hit:IsItemIter s.heap it d i es.size ep ok ov) (hm:DBare s.heap d es ep) (hx:es.size≤i)
  (hQ:∀h',Heap.ExtBut it s.heap h'→Q none { s with heap:=h' }):wpAny (model prog w) A (pyNext (.ref it)) Q E s:=by
 obtain ⟨od,hod,hdd⟩:=hm
 have T:s.TypeIs (.ref it) "dict_itemiterator" := ⟨_,hit,rfl⟩
 unfold pyNext
 refine wpAny_bind (wpAny_attempt (wpAny_callSpecial?_slot (name:=Str.ofString "__next__") T F.slot_dict_itemiterator_next
  (wpAny_call_entry F.slot_dict_itemiterator_next T F.entry_dict_itemiterator_next ?_ (F.args_dict_itemiterator_next_1 _))))
 refine wpAny_bind (wpAny_pure (wpAny_bind (wpAny_bind (wpAny_bind (wpAny_typeNameOfWhole_itemiter T (wpAny_pure (wpAny_bind (wpAny_fieldsOf hit rfl ?_))))))))
 simp only [show Builtin.Dict_items.ownsTuple "dict_itemiterator" = true from by decide,if_true]
 show wpAny _ _ (if (Value.ref d == Value.none)=true then _ else _) _ _ _
 rw [if_neg (show ¬ ((Value.ref d == Value.none)=true) from Bool.false_ne_true)]
 refine wpAny_bind (wpAny_pure (wpAny_bind (wpAny_dictEntries hod hdd ?_)))
 rw [if_neg (by simp)]
 refine wpAny_bind (wpAny_pure (wpAny_bind (wpAny_dictEpoch hod hdd ?_)))
 rw [if_neg (by simp)]
 refine wpAny_pure ?_
 simp only [show ¬ ((i:Int) < 0) from by lia,if_false,Int.toNat_natCast,Array.getElem?_eq_none hx]
 refine wpAny_bind (wpAny_bind (wpAny_typeNameOfWhole_itemiter T (wpAny_pure ?_)))
 show wpAny _ _ (setField (.ref it) 2 .none >>= _) _ _ s
 refine wpAny_bind (wpAny_setField hit rfl (by simp) ?_)
 show wpAny _ _ (newExc (.type "StopIteration") [] >>= _) _ _ _
 refine wpAny_bind ?_
 simp only [newExc,newTuple]
 refine wpAny_bind (wpAny_newObj_type ?_ (by size_fits))
 refine wpAny_bind (m:=firstArgMember _ _) (wpAny_of_eq (a:=Value.none) (by first | rfl | (simp only [firstArgMember];rfl)) ?_)
 refine wpAny_newObj_type ?_ (by size_fits)
 simp only [raiseNew]
 refine wpAny_bind (wpAny_handled ?_)
 rw [show A.in1.handled=none from hh]
 refine wpAny_bind (wpAny_pure (wpAny_throw ?_))
 refine wpAny_bind (wpAny_isInstance (T := "StopIteration") (b:=true) ⟨_,Heap.get?_push_size _ rfl,rfl⟩ isSubtype_stop ?_)
 exact wpAny_pure (hQ _ (((Heap.SameBut.update ..).extBut.push _).push _))
end
theorem paired_at {α β:Type} {F:α→β→Prop}:∀{l₁:List α} {l₂:List β},Paired F l₁ l₂→∀{i:Nat} {a:α},l₁[i]?=some a→∃b,l₂[i]?=some b∧F a b
 | _,_,.cons h r,0,a,e=>by
  rw [List.getElem?_cons_zero] at e ⊢
  cases e
  exact ⟨_,rfl,h⟩
 | _,_,.cons h r,i + 1,a,e=>by
  rw [List.getElem?_cons_succ] at e ⊢
  exact paired_at r e
theorem Inv.frozen {X:Cx} {pins:List (Addr×Obj)} {σ:St} {H:Hp} {s:Shared} {a:Addr} {kvs:List (List Key×V)} (I:Inv X pins σ H s) (e:H a=some (.dT kvs)) :
  ∃o es ep,s.heap.get? a=some o∧o.data=.dict es ep∧es.size=kvs.length∧Inv X pins σ (upd H a (.frz o (.dT kvs))) s:=by
 obtain ⟨z,hd,xs,rel,o,es,ep,h1,h2,h3,h4,h5⟩:=(show ObjOk X.prog X.w H s.heap a (.dT kvs) from I.hok a _ e)
 refine ⟨o,es,ep,h1,h3,?_,I.write (t':=s.toks) (h':=s.heap) (by rw [e];exact True.intro) (.inl rfl) (fun b u _ q=>q) ⟨o,h1⟩ ⟨h1,z,hd,xs,?_,o,es,ep,h1,h2,h3,h4,h5⟩⟩
 ·rw [← Array.length_toList,h4,List.length_map,← Paired.length rel]
 ·refine Paired.mapP rel fun p q r=>⟨r.1,?_,r.2.2⟩
  rw [upd_ne (ne_of r.2.1 e (fun z=>nomatch z))]
  exact r.2.1
def Iti (a:Addr) (o:Obj) (kvs:List (List Key×V)):It :=
 ⟨fun i H=>H a=some (.frz o (.dT kvs))∧i < kvs.length,fun i H x H'=>∃T b k v,x=.ref T∧kvs[i]?=some (k,v)∧H b=some (.tup (k.map kV))∧New H H' T (.tup [.ref b,v]),fun i H=>H a=some (.frz o (.dT kvs))∧kvs.length≤i⟩
theorem entry_itemiter:entryFor table "dict_itemiterator.__iter__" = some Builtin.«dict_keyiterator.__iter__» :=
 entryFor_alias (id' := "dict_keyiterator.__iter__") (by kernel_rfl) (by first | rfl | decide +kernel | (unfold String.splitOn;simp +decide [String.splitOnAux])) (by decide +kernel) (by kernel_rfl)
theorem turn_items {P:Program} {w:World} {K:W.Frag} {elts:List Expr} {x1} {pos:Pos} (a it:Addr) {o:Obj} {kvs:List (List Key×V)} {es:Array DictEntry} {ep:Nat} (hd:o.data=.dict es ep) (hz:es.size=kvs.length) :
  Turn P w K (.Tuple elts x1 pos) (Iti a o kvs) [it] it (fun i h=>∃ok ov,IsItemIter h it a i es.size ep ok ov) where
 mem:=by simp
 obj:=fun i h st b hb=>by
  obtain ⟨ok,ov,he⟩:=st
  rw [List.mem_singleton.mp hb]
  exact ⟨_,he,fun v z=>by
   have z':Data.fields _=Data.cell v:=z
   cases z'⟩
 keep:=fun i h h' st k=>by
  obtain ⟨ok,ov,he⟩:=st
  exact ⟨ok,ov,k it (by simp) _ he⟩
 item:=by
  intro X hP hw hK hc i pins s σ H E I hf st hg
  subst hP hw hK
  obtain ⟨ok,ov,he⟩:=st
  obtain ⟨hq,hlt⟩:=hg
  obtain ⟨h0,z,hds,xs,rel,o',es',ep',h1,h2,h3,h4,h5⟩:=(show ObjOk X.prog X.w H s.heap a (.frz o (.dT kvs)) from I.hok a _ hq)
  rw [h0] at h1
  cases h1
  rw [hd] at h3
  cases h3
  have hx:kvs[i]?=some kvs[i]:=by simp [hlt]
  generalize kvs[i]=kv at hx
  obtain ⟨k,v⟩:=kv
  obtain ⟨⟨k',b,u⟩,hx2,r1,r2,r3⟩:=paired_at rel hx
  have r2:H b=some (.tup (k.map kV)):=r2
  have r3:RelV v u:=r3
  have hen:es[i]?=some (entryOfKey (tupleKind (mixKind X.prog X.w)) (k',b,u)):=by rw [entry_at h4,hx2];rfl
  refine bare_next he ⟨o,h0,hd⟩ hen fun h1 ho hT hsz hk=>?_
  refine ⟨_,rfl,wpAny_letOwnedTupleGo_items ho fun h2 he2 hs2=>?_⟩
  have neT:s.heap.objs.size≠it:=Nat.ne_of_gt (Heap.lt_size he)
  have hT2:=(hs2.2 _ neT).trans hT
  have k2:∀b o,b ∉ [it]→s.heap.get? b=some o→h2.get? b=some o:=fun b o hb q=>by
   have hb:b≠it:=fun z=>hb (by simp [z])
   exact (hs2.2 b hb).trans (hk b o hb q)
  have new:ObjOk X.prog X.w (upd H s.heap.objs.size (.tup [.ref b,v])) h2 s.heap.objs.size (.tup [.ref b,v]) :=
   ⟨by show 2≤sizeLine;decide,[.ref b,u],.cons rfl (.cons r3 .nil),⟨_,hT2,rfl,_,rfl⟩⟩
  refine ⟨.ref s.heap.objs.size,_,I.turnedLaid (t':=s.toks) hf k2 (Nat.le_refl _) new,rfl,⟨_,b,k,v,rfl,hx,r2,.mk' (I.hok.fresh (Nat.le_refl _))⟩,⟨_,_,he2⟩,fun c hb=>?_⟩
  have hbn:=(hf c hb).1
  rw [List.mem_singleton.mp hb] at hbn ⊢
  rw [upd_ne neT.symm]
  exact hbn
 done:=by
  intro X hP hw hK hc i pins s σ H E I hf st hg
  subst hP hw hK
  obtain ⟨ok,ov,he⟩:=st
  obtain ⟨hq,hle⟩:=hg
  have h0:=(show ObjOk X.prog X.w H s.heap a (.frz o (.dT kvs)) from I.hok a _ hq).1
  exact bare_stop (I.ok.hd hc) he ⟨o,h0,hd⟩ (by lia) fun h' eb=>⟨rfl,I.turnedN (t':=s.toks) (ch:=[it]) hf fun b o hb q=>eb b o (fun z=>hb (by simp [z])) q⟩
 self:=fun A i s Q E st h=>by
  obtain ⟨ok,ov,he⟩:=st
  have T:s.TypeIs (.ref it) "dict_itemiterator" := ⟨_,he,rfl⟩
  refine wpAny_pyIter_slot T F.slot_dict_itemiterator_iter (wpAny_call_entry F.slot_dict_itemiterator_iter T entry_itemiter ?_ (F.args_dict_itemiterator_iter_1 _))
  show wpAny _ _ (ret (.ref it)) _ _ s
  exact wpAny_pure ⟨_,rfl, "dict_itemiterator", _,T,F.slot_dict_itemiterator_next.lookup,h⟩
section
variable {prog:Program} {w:World} {A:Around} {E:Value→Shared→Prop} {s:Shared}
theorem bare_view (d:Addr) (hd:(d == sysModules)=false):MeetsIn prog w (Builtin.«dict.items» ⟨[.ref d],[]⟩) (fun _ R s=>s.TypeIs (.ref d) "dict" ∧ R (.ok (.ret (.ref s.heap.objs.size))) { s with heap:=s.heap.push { cls:=.type "dict_items", data:=.fields #[.ref d] } }) :=
 .of_wp fun A R s ⟨T,h⟩=>by
  unfold Builtin.«dict.items» Builtin.Dict.noArgs
  refine wpAny_bind (wpAny_bind (wpAny_notOrdered_dict T ?_))
  show wpAny _ _ (pure d) _ _ s
  refine wpAny_pure ?_
  show wpAny _ _ (Builtin.Dict.showsAll d >>= _) _ _ s
  unfold Builtin.Dict.showsAll
  rw [if_neg (by rw [hd];exact Bool.false_ne_true)]
  exact wpAny_bind (wpAny_pure (wpAny_bind (wpAny_newObj_type (wpAny_pure ⟨_,rfl,h⟩))))
theorem bare_iter {v d:Addr} {es:Array DictEntry} {ep:Nat} {Q:Value→Shared→Prop} (hv:s.heap.IsItemsView v d) (hm:DBare s.heap d es ep)
  (hQ:Q (.ref s.heap.objs.size) { s with heap:=s.heap.push { cls:=.type "dict_itemiterator", data:=.fields #[.none,.bool false,.ref d,.int 0 0,.int es.size 0,.int ep 0,.none,.none] } }) :
  wpAny (model prog w) A (pyIter (.ref v)) Q E s:=by
 obtain ⟨ov,hov,hcv,hdv⟩:=id hv
 obtain ⟨o,ho,hd⟩:=hm
 refine wpAny_pyIter_slot hv.typeIs F.slot_dict_items_iter (wpAny_call_entry F.slot_dict_items_iter hv.typeIs F.entry_dict_items_iter ?_ (F.args_dict_items_iter_1 _))
 unfold Builtin.«dict_items.__iter__» Builtin.Dict_items.dictOf
 refine wpAny_bind (wpAny_pure (wpAny_bind (wpAny_bind (wpAny_field hov hdv (x:=.ref d) rfl (wpAny_pure (wpAny_bind ?_))))))
 unfold Builtin.Dict_items.newIterator
 refine wpAny_bind (wpAny_dictEntries ho hd (wpAny_bind (wpAny_dictEpoch ho hd ?_)))
 simp only [show Builtin.Dict_items.ownsTuple "dict_itemiterator" = true from by decide,if_true]
 refine wpAny_newObj_type (wpAny_pure ⟨_,rfl, "dict_itemiterator", _,⟨_,Heap.get?_push_size _ rfl,rfl⟩,F.slot_dict_itemiterator_next.lookup,?_⟩)
  (by simp only [sizeOk,Builtin.Dict_items.ownedTupleFields,List.size_toArray,List.length_append,List.length_cons,List.length_nil,sizeLine_eq];lia)
 simpa [rawInt,Builtin.Dict_items.ownedTupleFields] using hQ
end
def iItems (td:TE):TI:=fun σ H R=>td σ H fun x H1=>∃a kvs,x=.ref a∧H1 a=some (.dT kvs)∧∀o,R (Iti a o kvs) (upd H1 a (.frz o (.dT kvs)))
theorem pi_items {X:Cx} {elts:List Expr} {x1} {tpos:Pos} {o:Expr} {td:TE} {apos cpos:Pos} (ho:PE X o td) (hbase:attributeBase o "items" X.env (eval o X.env)=eval o X.env:=by rfl) (hline:(apos.endLine == cpos.line)=true:=by rfl) :
  PI X (.Tuple elts x1 tpos) (.Call (.Attribute o "items" apos) [] [] cpos) (iItems td):=by
 intro pins s σ H R I h
 refine wpAny_Call_method0_late hbase hline (thn (ho pins s σ H _ I h) fun v s1 ⟨x,H1,I1,r1,a,kvs,ex,hd,q⟩=>?_)
 subst ex
 obtain rfl:v=Value.ref a:=r1
 obtain ⟨t1,t2,t3⟩:=isD_at I1 (.inr ⟨kvs,.inl hd⟩)
 obtain ⟨ob,es,ep,g1,g2,g3,I2⟩:=I1.frozen hd
 refine ⟨"dict", "dict.items", PySem.F.plainAttrs_dict,PySem.F.slot_dict_items,PySem.F.type_dict_items,t1,t2,Calls.callWith_builtin rfl (PySem.evalArgs_none ?_)⟩
 refine call_meetsIn PySem.F.slot_dict_items t1 PySem.F.entry_dict_items (PySem.F.args_dict_items_1 _) (bare_view a t3) ⟨t1,?_⟩
 have v1:(s1.heap.push { cls:=.type "dict_items", data:=.fields #[.ref a] }).IsItemsView s1.heap.objs.size a:=⟨_,Heap.get?_push_size _ rfl,rfl,rfl⟩
 refine bare_iter (s:={ s1 with heap:=s1.heap.push { cls:=.type "dict_items", data:=.fields #[.ref a] } }) v1 ⟨ob,Heap.get?_push_of_some _ g1,g2⟩ ?_
 have I3:Inv X pins σ (upd H1 a (.frz ob (.dT kvs))) { s1 with heap:=s1.heap.push { cls:=.type "dict_items", data:=.fields #[.ref a] } }:=I2.kept (t':=s1.toks) fun b u e=>Heap.get?_push_of_some _ e
 refine ⟨_,_,_,Iti a ob kvs,_,rfl,I3.kept (t':=s1.toks) fun b u e=>Heap.get?_push_of_some _ e,turn_items a _ g2 g3,⟨.none,.none,Heap.get?_push_size _ rfl⟩,fun b hb=>?_,q ob⟩
 rw [List.mem_singleton.mp hb]
 exact I3.fpOk (Nat.le_refl _) (I3.hok.fresh (Nat.le_refl _))
theorem for_itemsT {a:Addr} {o:Obj} {kvs:List (List Key×V)} {g:TG} {tb:TS} {D:Ends} {σ:St} {H:Hp} (Pv:Nat→St→Hp→Prop) (h0:Pv 0 σ H) (hl:∀i σ H,i≤kvs.length→Pv i σ H→H a=some (.frz o (.dT kvs)))
  (hs:∀i b k v T σ H H',kvs[i]?=some (k,v)→Pv i σ H→H b=some (.tup (k.map kV))→New H H' T (.tup [.ref b,v])→g (.ref T) σ H' fun σ2 H2=>tb { D with nx:=Pv (i + 1),ct:=Pv (i + 1),bk:=D.nx } σ2 H2) (hd:∀σ H,Pv kvs.length σ H→D.nx σ H) :
  ∃W:Nat→Nat→St→Hp→Prop,(∃m,W 0 m σ H)∧∀i m σ H,W i m σ H →
   ((Iti a o kvs).stop i H∧D.nx σ H)∨((Iti a o kvs).go i H∧∃N:St→Hp→Prop,(∀σ' H',N σ' H'→∃m',m' < m∧W (i + 1) m' σ' H')∧∀x H',(Iti a o kvs).yld i H x H'→g x σ H' fun σ2 H2=>tb { D with nx:=N,ct:=N,bk:=D.nx } σ2 H2):=by
 refine ⟨fun i m σ H=>m=kvs.length - i∧i≤kvs.length∧Pv i σ H,⟨kvs.length,by simp,Nat.zero_le _,h0⟩,?_⟩
 rintro i m σ H ⟨rfl,hi,p⟩
 by_cases c:i < kvs.length
 ·refine .inr ⟨⟨hl i σ H hi p,c⟩,Pv (i + 1),fun σ' H' q=>⟨kvs.length - (i + 1),by lia,rfl,by lia,q⟩,?_⟩
  rintro x H' ⟨T,b,k,v,rfl,e1,e2,e3⟩
  exact hs i b k v T σ H H' e1 p e2 e3
 ·have:i=kvs.length:=by lia
  subst this
  exact .inl ⟨⟨hl _ σ H hi p,Nat.le_refl _⟩,hd σ H p⟩
def ForDT (a:Addr) (o:Obj) (kvs:List (List Key×V)) (g:TG) (tb:TS) (D:Ends) (σ:St) (H:Hp):Prop:=∃W:Nat→Nat→St→Hp→Prop,(∃m,W 0 m σ H)∧∀i m σ H,W i m σ H →
      ((Iti a o kvs).stop i H∧D.nx σ H)∨((Iti a o kvs).go i H∧∃N:St→Hp→Prop,(∀σ' H',N σ' H'→∃m',m' < m∧W (i + 1) m' σ' H')∧∀x H',(Iti a o kvs).yld i H x H'→g x σ H' fun σ2 H2=>tb { D with nx:=N,ct:=N,bk:=D.nx } σ2 H2)
section
variable {σ:St} {H:Hp} {Q:VK} {D:Ends} {td ty tv:TE} {g:TG} {tb:TS} {a p b:Addr} {kvs:List (List Key×V)} {k:List Key} {v:V}
theorem w_forDT (h:td σ H fun x H1=>∃a kvs,x=.ref a∧H1 a=some (.dT kvs)∧∀o,ForDT a o kvs g tb D σ (upd H1 a (.frz o (.dT kvs)))):tFor (iItems td) g tb D σ H:=h
instance go_w_forDT:Go (tFor (iItems td) g tb D σ H) (td σ H fun (x:V) (H1:Hp) ↦ ∃(a:Addr),∃(kvs:List (List Key×V)),x=V.ref a∧H1 a=some (.dT kvs)∧∀(o:Obj),ForDT a o kvs g tb D σ (upd H1 a (.frz o (.dT kvs)))):=⟨w_forDT⟩
theorem itemsT_by (hd:H a=some (.dT kvs)) (h:∀o H',Off a H H'→H' a=some (.frz o (.dT kvs))→ForDT a o kvs g tb D σ H'):∃a' kvs',V.ref a=.ref a'∧H a'=some (.dT kvs')∧∀o,ForDT a' o kvs' g tb D σ (upd H a' (.frz o (.dT kvs'))):=⟨a,kvs,rfl,hd,fun o=>h o _ Off.upd upd_same⟩
theorem forDT_by {o:Obj} (Pv:Nat→St→Hp→Prop) (h0:Pv 0 σ H) (hl:∀i σ H,i≤kvs.length→Pv i σ H→H a=some (.frz o (.dT kvs)))
  (hs:∀i b k v T σ H H',kvs[i]?=some (k,v)→Pv i σ H→H b=some (.tup (k.map kV))→New H H' T (.tup [.ref b,v])→g (.ref T) σ H' fun σ2 H2=>tb { D with nx:=Pv (i + 1),ct:=Pv (i + 1),bk:=D.nx } σ2 H2) (hd:∀σ H,Pv kvs.length σ H→D.nx σ H):ForDT a o kvs g tb D σ H:=for_itemsT Pv h0 hl hs hd
theorem w_dnewT (h:∀p H',New H H' p (.dT [])→Q (.ref p) H'):tDNewT σ H Q:=fun p hp=>h p _ (.mk' hp)
end
def tDict1T (tk tv:TE):TE:=fun σ H Q=>∀p H0,New H H0 p (.dT [])→tk σ H0 fun y H1=>tv σ H1 fun v H2=>∃b k,y=.ref b∧H2 b=some (.tup (k.map kV))∧H2 p=some (.dT [])∧∀H',Off p H2 H'→H' p=some (.dT [(k,v)])→Q (.ref p) H'
theorem pe_dict1T {X:Cx} {ke ve:Expr} {tk tv:TE} {pos:Pos} (hu:X.A.units < cLine) (hk:PE X ke tk) (hv:PE X ve tv):PE X (.Dict [some ke] [ve] pos) (tDict1T tk tv):=by
 intro pins s σ H Q I h
 rw [arm_eval_Dict,zip_pairTrees [some ke] [ve] X.env pos rfl rfl,dictDisplay_pairs _ (by simp [pairTrees]) (by simp [pairTrees])]
 refine wpAny_bind (wpAny_standAt (wpAny_bind ?_))
 unfold subDict
 refine wpAny_bind (wpAny_alloc (wpAny_bind (wpAny_holding ?_)))
 rw [if_pos (by simp [pairTrees])]
 have I1:=I.laid (a:=s.heap.objs.size) (o:=.dT []) (t':=s.toks) (fun _ _ q=>Heap.get?_push_of_some _ q) (Nat.le_refl _) (dt_empty s.heap I.big)
 refine wpAny_bind (pairTrees_cons_walk (thn (hk pins _ σ _ _ I1 (h _ _ (.mk' (I.hok.fresh (Nat.le_refl _))))) fun kv s1 ⟨y,H1,I2,ry,q⟩=>thn (hv pins s1 σ H1 _ I2 q) fun vv s2 ⟨v,H2,I3,rv,b,k,e1,e2,e3,qq⟩=>pairTrees_nil_walk ?_))
 subst e1
 obtain rfl:kv=Value.ref b:=ry
 refine wpAny_holding ?_
 obtain ⟨z,hd,xs,rel,dd⟩:=dt_of I3.hok e3
 have hz:xs.length≤sizeLine:=by rw [← Paired.length rel];exact z
 have hl:(putK ([]:List (List Key×V)) k v).length≤sizeLine:=by show 1≤sizeLine;decide
 rw [List.forIn_cons]
 refine wpAny_bind (wpAny_bind (wpAny_bind (wpAny_dictSet_heap (hsz:=hz) hu (key_of I3.hok e2) dd fun h' dd' hs=>wpAny_pure ?_)))
 show wpAny (model X.prog X.w) X.A (forIn [] PUnit.unit _) _ _ _
 rw [List.forIn_nil]
 refine wpAny_pure (wpAny_pure (wpAny_pure (wpAny_pure ⟨.ref s.heap.objs.size,upd H2 s.heap.objs.size (.dT (putK [] k v)),?_,rfl,qq _ Off.upd upd_same⟩)))
 obtain ⟨q,es,ep,hq,h2,h3,h4,_,h5⟩:=dd'
 refine d_write I3 (by rw [e3];exact True.intro) hs ⟨q,hq⟩ ⟨hl,hd,_,(rel.put k e2 rv).keeps fun c ys ec=>?_,q,es,ep,hq,h2,h3,h4,h5⟩
 rw [upd_ne (ne_of ec e3 (fun z=>nomatch z))]
 exact ec
instance go_dict1T {σ:St} {H:Hp} {Q:VK} {tk tv:TE}:Go (tDict1T tk tv σ H Q) (∀(p:Addr) (H0:Hp),New H H0 p (.dT [])→tk σ H0 fun (y:V) (H1:Hp) ↦ tv σ H1 fun (v:V) (H2:Hp) ↦ ∃(b:Addr),∃(k:List Key),y=.ref b∧H2 b=some (.tup (k.map kV))∧H2 p=some (.dT [])∧∀(H':Hp),Off p H2 H'→H' p=some (.dT [(k,v)])→Q (.ref p) H'):=⟨fun h=>h⟩
def rMinDK:List V→Hp→VK→Prop:=fun xs H Q=>∃(p:Addr) (kvs:List (Key×V)) (ns:List Int),xs=[.ref p]∧H p=some (.dK kvs)∧kvs.map (·.1)=ns.map Sum.inl∧ns≠[]∧Q (.int (minI (ns.getD 0 0) ns)) H
theorem kv_keysD {κ:Type}:∀{kvs:List (κ×V)} {vs:List (κ×Value)},KV kvs vs→kvs.map (·.1)=vs.map (·.1)
 | _,_,.nil=>rfl
 | _,_,.cons h r=>by rw [List.map_cons,List.map_cons,h.1,kv_keysD r]
theorem call_minDK {X:Cx} (hc:X.calm=true):CallR X (.builtin "min") rMinDK:=by
 intro pins s σ H xs us Q I r h
 obtain ⟨p,kvs,ns,rfl,hq,hk,h0,q⟩:=h
 obtain ⟨v,rfl,rx⟩:=vals1 r
 cases rx
 obtain ⟨z,hd,vs,rel,dd⟩:=dk_of I.hok hq
 obtain ⟨ep,dd⟩:=dd.dictAt
 have hks:vs.map (·.1)=ns.map Sum.inl:=(kv_keysD rel).symm.trans hk
 have hn:vs.length=ns.length:=by have:=congrArg List.length hks;simpa using this
 have hlt:p < s.heap.objs.size:=dd.lt_size
 have hs:(toString "min" ++ toString ".loop" : String) = "min.loop" := by decide
 refine call_kw_tree F.kind_min F.plain_min F.entry_min (F.args_min1 _) ?_
 show wpAny _ _ (Builtin.Builtins.bindParams "min" ["key", "default"] 0 ⟨[],[]⟩ >>= _) _ _ s
 refine wpAny_bind (wpAny_of_eq (show Builtin.Builtins.bindParams "min" ["key", "default"] 0 ⟨[],[]⟩=pure [none,none] from rfl) ?_)
 refine wpAny_bind (wpAny_pure ?_)
 refine wpAny_bind (wpAny_pyIter_dict hd dd ?_)
 refine wpAny_bind (wpAny_newObj_type ?_)
 rw [hs]
 have W:=Walks.dictKeys (prog:=X.prog) (w:=X.w) (A:=X.A.in1) (knd:=mixKind X.prog X.w) (I.ok.hd hc) s.heap.objs.size p (Nat.ne_of_lt hlt) vs ep
 rw [hn] at W
 refine wpAny_pure ⟨plainId_quiet F.plain_min_loop _,min_all (d:=0) (td:=0) W (fun i v hP=>?_) _ (fun z=>?_) (W.frame _ _ _ ⟨⟨_,Heap.get?_push_size _ rfl,rfl,by rw [hn];rfl⟩,dd.keep fun b o e=>Heap.get?_push_of_some _ e⟩ fun b _ ob e=>Heap.get?_push_of_some _ e) (fun z=>absurd z h0) (Heap.get?_push_size _ rfl) fun h' tk t' hk=>?_⟩
 ·obtain ⟨k,x,e,hi⟩:=hP
  have e2:(vs.map (·.1))[i]?=some k:=by rw [List.getElem?_map,e];rfl
  rw [hks,List.getElem?_map] at e2
  cases e3:ns[i]? with
  | none=>rw [e3] at e2;exact nomatch e2
  | some m =>
   rw [e3] at e2
   cases e2
   rcases keyIs_shape (show keyIs (Sum.inl m) v=true from hi) with ⟨j,t,ej,ev⟩ | ⟨j,t,ej,ev⟩
   ·cases ej
    exact ⟨t,by rw [ev,List.getD_eq_getElem?_getD,e3];rfl⟩
   ·exact nomatch ej
 ·rcases List.mem_cons.mp z with z | z
  ·exact absurd z (by rw [size_push'];exact Nat.succ_ne_self _)
  ·exact absurd (List.mem_singleton.mp z) (by rw [size_push'];exact Nat.ne_of_gt (Nat.lt_succ_of_lt hlt))
 ·rw [if_neg h0]
  refine ⟨.int _,H,I.kept fun b ob q=>?_,⟨_,rfl⟩,by assumption⟩
  have hb:b < s.heap.objs.size:=Heap.lt_size q
  exact hk b ob (fun z=>absurd (List.mem_singleton.mp z) (Nat.ne_of_lt hb)) (by rw [size_push'];exact Nat.ne_of_lt (Nat.lt_succ_of_lt hb)) (Heap.get?_push_of_some _ (Heap.get?_push_of_some _ q))
end L2
namespace L2
open PySem PySem.Spec PyProof.Rows PySem.SeqAt
theorem vals3 {x y z:V} {us:List Value} (r:Vals [x,y,z] us):∃u v t,us=[u,v,t]∧RelV x u∧RelV y v∧RelV z t:=by
 cases r with
 | cons a r =>
  obtain ⟨v,t,rfl,b,c⟩:=vals2 r
  exact ⟨_,v,t,rfl,a,b,c⟩
abbrev Tri (h:Heap) (T:Addr) (a b c:Value):Prop:=h.get? T=some { cls:=.type "tuple", data:=.seq #[a,b,c] }
def Kps (ws:List Addr) (h h':Heap):Prop:=∀c o,c ∉ ws→h.get? c=some o→h'.get? c=some o
theorem Kps.tr {ws:List Addr} {a b c:Heap} (x:Kps ws a b) (y:Kps ws b c):Kps ws a c:=fun d o hd e=>y d o hd (x d o hd e)
theorem Kps.ob {ws:List Addr} {a:Addr} {h h':Heap} (x:Heap.SameBut a h h') (m:a∈ws):Kps ws h h':=fun c o hc e=>x.extBut c o (fun z=>hc (z▸m)) e
theorem Kps.li {ws:List Addr} {h h':Heap} {l:Addr} {us:Array Value} (x:Kps ws h h') (m:l ∉ ws) (p:h.IsList l us):h'.IsList l us:=p.at fun o e=>x l o m e
structure Z6 (z TI TO i1 i2 i3:Addr):Prop where
 nd:[z,TI,TO,i1,i2,i3].Nodup
section
variable {prog:Program} {w:World} {A:Around} {E:Value→Shared→Prop} {s:Shared} {z TI TO i1 i2 i3 l1 l2 l3:Addr} {k:Nat} {us vs ts:Array Value} {x y t a b c:Value}
theorem tri_put {T:Addr} {n:Nat} {e:Value} {Q:Unit→Shared→Prop} (g:Tri s.heap T a b c) (q:∀h',h'.get? T=some { cls:=.type "tuple", data:=.seq ((#[a,b,c]:Array Value).setIfInBounds n e) }→Heap.SameBut T s.heap h'→Q () { s with heap:=h' }) :
  wpAny (model prog w) A (updateSeq T (·.setIfInBounds n e)) Q E s :=
 wpAny_updateSeq g rfl (q _ (by rw [Heap.get?_update_self _ g rfl];simp [Obj.mapSeq]) (Heap.SameBut.update ..))
theorem zip3_item {Q:Value→Shared→Prop} (D:Z6 z TI TO i1 i2 i3) (far:∀l∈[l1,l2,l3],l ∉ [z,TO,i1,i2,i3]) (gz:IsZip s.heap z TI TO .none) (gI:Tri s.heap TI (.ref i1) (.ref i2) (.ref i3)) (gO:Tri s.heap TO a b c) (g1:s.heap.IsListIter i1 l1 k) (g2:s.heap.IsListIter i2 l2 k) (g3:s.heap.IsListIter i3 l3 k)
  (p1:s.heap.IsList l1 us) (p2:s.heap.IsList l2 vs) (p3:s.heap.IsList l3 ts) (hx:us[k]?=some x) (hy:vs[k]?=some y) (ht:ts[k]?=some t)
  (hQ:∀h',IsZip h' z TI TO (rawInt s.heap.objs.size)→Tri h' TO x y t→h'.IsListIter i1 l1 (k + 1)→h'.IsListIter i2 l2 (k + 1)→h'.IsListIter i3 l3 (k + 1)→Tri h' s.heap.objs.size x y t→Kps [z,TO,i1,i2,i3] s.heap h'→Q (.ref s.heap.objs.size) { s with heap:=h' }) :
  wpAny (model prog w) A (Builtin.«zip.__next__» ⟨[.ref z],[]⟩) (fun fin s'=>∃v,fin=.done (.ret v)∧Q v s') E s:=by
 have d:=D.nd
 simp only [List.nodup_cons,List.mem_cons,List.not_mem_nil,or_false,not_or,List.nodup_nil,not_false_eq_true,and_true] at d
 obtain ⟨⟨dzI,dzO,dz1,dz2,dz3⟩,⟨dIO,dI1,dI2,dI3⟩,⟨dO1,dO2,dO3⟩,⟨d12,d13⟩,d23⟩:=d
 have mz:z∈[z,TO,i1,i2,i3]:=by simp
 have mO:TO∈[z,TO,i1,i2,i3]:=by simp
 have m1:i1∈[z,TO,i1,i2,i3]:=by simp
 have m2:i2∈[z,TO,i1,i2,i3]:=by simp
 have m3:i3∈[z,TO,i1,i2,i3]:=by simp
 have f1:=far l1 (by simp);have f2:=far l2 (by simp);have f3:=far l3 (by simp)
 show wpAny _ _ (field (.ref z) 2 >>= _) _ _ _
 refine wpAny_bind (wpAny_field gz rfl (x:=.bool false) rfl ?_);show wpAny _ _ (field (.ref z) 3 >>= _) _ _ _
 refine wpAny_bind (wpAny_field gz rfl (x:=.ref TI) rfl (wpAny_bind (wpAny_seqItems gI rfl ?_)));show wpAny _ _ (Builtin.SmallTypes.ownedTupleIsFree (.ref z) >>= _) _ _ _
 refine wpAny_bind ?_;unfold Builtin.SmallTypes.ownedTupleIsFree
 refine wpAny_bind (wpAny_field gz rfl (x:=.none) rfl (wpAny_pure ?_));simp only [if_true]
 refine wpAny_bind (wpAny_rule (wpAny_bind (wpAny_field gz rfl (x:=.ref TO) rfl (wpAny_bind (wpAny_setField_rec gz (by simp) fun ha za sa=>?_)))))
 replace za:IsZip ha z TI TO .ellipsis:=za
 refine wpAny_bind ?_;simp only [List.zipIdx_cons,List.forIn_cons,List.zipIdx_nil,List.forIn_nil]
 have ka:Kps _ s.heap ha:=Kps.ob sa mz
 -- the first
 refine wpAny_bind (wpAny_bind (wpAny_onRaise ?_));show wpAny _ _ (Builtin.SmallTypes.nextOf (.ref i1) >>= _) _ _ _
 refine wpAny_bind (wpAny_nextOf_list_item (g1.extBut sa.extBut (Ne.symm dz1)) (ka.li f1 p1) hx fun hb b1 sb=>wpAny_pure ?_)
 have Ob:Tri hb TO a b c:=sb.extBut _ _ dO1 (sa.extBut _ _ (Ne.symm dzO) gO)
 refine wpAny_bind (wpAny_seqItems Ob rfl (wpAny_bind (tri_put Ob fun hc Oc sc=>?_)))
 replace Oc:Tri hc TO x b c:=Oc
 refine wpAny_bind (wpAny_letGo (wpAny_pure ?_))
 have kc:Kps _ s.heap hc:=(ka.tr (Kps.ob sb m1)).tr (Kps.ob sc mO)
 have c1:=b1.extBut sc.extBut (Ne.symm dO1)
 have c2:hc.IsListIter i2 l2 k:=((g2.extBut sa.extBut (Ne.symm dz2)).extBut sb.extBut (Ne.symm d12)).extBut sc.extBut (Ne.symm dO2)
 have c3:hc.IsListIter i3 l3 k:=((g3.extBut sa.extBut (Ne.symm dz3)).extBut sb.extBut (Ne.symm d13)).extBut sc.extBut (Ne.symm dO3)
 have zc:IsZip hc z TI TO .ellipsis:=sc.extBut _ _ dzO (sb.extBut _ _ dz1 za)
 have nc:hc.objs.size=s.heap.objs.size:=by rw [sc.1,sb.1,sa.1]
 -- the second
 refine wpAny_bind (wpAny_bind (wpAny_onRaise ?_));show wpAny _ _ (Builtin.SmallTypes.nextOf (.ref i2) >>= _) _ _ _
 refine wpAny_bind (wpAny_nextOf_list_item c2 (kc.li f2 p2) hy fun hd e2 sd=>wpAny_pure ?_)
 have Od:Tri hd TO x b c:=sd.extBut _ _ dO2 Oc
 refine wpAny_bind (wpAny_seqItems Od rfl (wpAny_bind (tri_put Od fun he Oe se=>?_)))
 replace Oe:Tri he TO x y c:=Oe
 refine wpAny_bind (wpAny_letGo (wpAny_pure ?_))
 have ke:Kps _ s.heap he:=(kc.tr (Kps.ob sd m2)).tr (Kps.ob se mO)
 have e1:=(c1.extBut sd.extBut d12).extBut se.extBut (Ne.symm dO1)
 have e2':=e2.extBut se.extBut (Ne.symm dO2)
 have e3:=(c3.extBut sd.extBut (Ne.symm d23)).extBut se.extBut (Ne.symm dO3)
 have ze:IsZip he z TI TO .ellipsis:=se.extBut _ _ dzO (sd.extBut _ _ dz2 zc)
 have ne:he.objs.size=s.heap.objs.size:=by rw [se.1,sd.1,nc]
 -- the third
 refine wpAny_bind (wpAny_bind (wpAny_onRaise ?_));show wpAny _ _ (Builtin.SmallTypes.nextOf (.ref i3) >>= _) _ _ _
 refine wpAny_bind (wpAny_nextOf_list_item e3 (ke.li f3 p3) ht fun hf q3 sf=>wpAny_pure ?_)
 have Of:Tri hf TO x y c:=sf.extBut _ _ dO3 Oe
 refine wpAny_bind (wpAny_seqItems Of rfl (wpAny_bind (tri_put Of fun hg Og sg=>?_)))
 replace Og:Tri hg TO x y t:=Og
 refine wpAny_bind (wpAny_letGo (wpAny_pure (wpAny_pure ?_)))
 have kg:Kps _ s.heap hg:=(ke.tr (Kps.ob sf m3)).tr (Kps.ob sg mO)
 have r1:=(e1.extBut sf.extBut d13).extBut sg.extBut (Ne.symm dO1)
 have r2:=(e2'.extBut sf.extBut d23).extBut sg.extBut (Ne.symm dO2)
 have r3:=q3.extBut sg.extBut (Ne.symm dO3)
 have zg:IsZip hg z TI TO .ellipsis:=sg.extBut _ _ dzO (sf.extBut _ _ dz3 ze)
 have ng:hg.objs.size=s.heap.objs.size:=by rw [sg.1,sf.1,ne]
 -- what is handed out
 refine wpAny_bind (wpAny_seqItems Og rfl (wpAny_bind (wpAny_newTuple ?_)))
 show wpAny _ _ (Builtin.SmallTypes.ownedTupleHandOut (.ref z) (.ref hg.objs.size) >>= _) _ _ _
 refine wpAny_bind ?_;unfold Builtin.SmallTypes.ownedTupleHandOut
 have zh:IsZip (hg.push { cls:=.type "tuple", data:=.seq #[x,y,t] }) z TI TO .ellipsis:=Heap.get?_push_of_some _ zg
 refine wpAny_bind (wpAny_setField_rec zh (by simp) fun hi zi si=>?_)
 replace zi:IsZip hi z TI TO (rawInt hg.objs.size):=zi
 refine wpAny_setField_rec zi (by simp) fun hj zj sj=>?_
 replace zj:IsZip hj z TI TO (rawInt hg.objs.size):=zj
 have lift:∀c o,c≠z→hg.get? c=some o→hj.get? c=some o:=fun c o hc e=>sj.extBut _ _ hc (si.extBut _ _ hc (Heap.get?_push_of_some _ e))
 have zlt:z < hg.objs.size:=Heap.lt_size zg
 have Tj:Tri hj hg.objs.size x y t:=sj.extBut _ _ (Nat.ne_of_gt zlt) (si.extBut _ _ (Nat.ne_of_gt zlt) (Heap.get?_push_size _ rfl))
 rw [ng] at zj Tj
 refine wpAny_pure ⟨_,rfl,?_⟩
 show Q (.ref hg.objs.size) _
 rw [ng]
 exact hQ hj zj (lift _ _ (Ne.symm dzO) Og) (r1.at fun o e=>lift _ o (Ne.symm dz1) e) (r2.at fun o e=>lift _ o (Ne.symm dz2) e) (r3.at fun o e=>lift _ o (Ne.symm dz3) e) Tj fun c o hc e=>lift c o (fun q=>hc (q▸mz)) (kg c o hc e)
theorem zip3_end {Q:Fin→Shared→Prop} (hh:A.handled=none) (D:Z6 z TI TO i1 i2 i3) (far:l1≠z) (gz:IsZip s.heap z TI TO .none) (gI:Tri s.heap TI (.ref i1) (.ref i2) (.ref i3)) (g1:s.heap.IsListIter i1 l1 k) (p1:s.heap.IsList l1 us) (hx:us[k]?=none)
  (hE:∀h' e,Kps [z,TO,i1,i2,i3] s.heap h'→(∃o,h'.get? e=some o∧o.cls=.type "StopIteration")→E (.ref e) { s with heap:=h' }) :
  wpAny (model prog w) A (Builtin.«zip.__next__» ⟨[.ref z],[]⟩) Q E s:=by
 have dz1:i1≠z:=by
  have d:=D.nd
  simp only [List.nodup_cons,List.mem_cons,not_or] at d
  exact Ne.symm d.1.2.2.1
 show wpAny _ _ (field (.ref z) 2 >>= _) _ _ _
 refine wpAny_bind (wpAny_field gz rfl (x:=.bool false) rfl ?_);show wpAny _ _ (field (.ref z) 3 >>= _) _ _ _
 refine wpAny_bind (wpAny_field gz rfl (x:=.ref TI) rfl (wpAny_bind (wpAny_seqItems gI rfl ?_)));show wpAny _ _ (Builtin.SmallTypes.ownedTupleIsFree (.ref z) >>= _) _ _ _
 refine wpAny_bind ?_;unfold Builtin.SmallTypes.ownedTupleIsFree
 refine wpAny_bind (wpAny_field gz rfl (x:=.none) rfl (wpAny_pure ?_));simp only [if_true]
 refine wpAny_bind (wpAny_rule (wpAny_bind (wpAny_field gz rfl (x:=.ref TO) rfl (wpAny_bind (wpAny_setField_rec gz (by simp) fun ha za sa=>?_)))))
 replace za:IsZip ha z TI TO .ellipsis:=za
 refine wpAny_bind ?_;simp only [List.zipIdx_cons,List.forIn_cons,List.zipIdx_nil,List.forIn_nil]
 refine wpAny_bind (wpAny_bind (wpAny_onRaise ?_));show wpAny _ _ (Builtin.SmallTypes.nextOf (.ref i1) >>= _) _ _ _
 refine wpAny_bind (wpAny_nextOf_list_end hh (g1.extBut sa.extBut dz1) (p1.extBut sa.extBut far) hx fun hb e sb he=>?_)
 obtain ⟨oe,hoe,hce⟩:=he
 have zb:IsZip hb z TI TO .ellipsis:=sb _ _ (Ne.symm dz1) za
 have ez:e≠z:=fun q=>by subst q;rw [zb] at hoe;cases hoe;simp at hce
 exact wpAny_setField_rec zb (by simp) fun hc _ sc=>hE hc e (fun c o hc' q=>by
  simp only [List.mem_cons,not_or] at hc'
  exact sc.extBut _ _ hc'.1 (sb _ _ hc'.2.2.1 (sa.extBut _ _ hc'.1 q))) ⟨oe,sc.extBut _ _ ez hoe,hce⟩
theorem next3_item {Q:Option Value→Shared→Prop} (D:Z6 z TI TO i1 i2 i3) (far:∀l∈[l1,l2,l3],l ∉ [z,TO,i1,i2,i3]) (gz:IsZip s.heap z TI TO .none) (gI:Tri s.heap TI (.ref i1) (.ref i2) (.ref i3)) (gO:Tri s.heap TO a b c) (g1:s.heap.IsListIter i1 l1 k) (g2:s.heap.IsListIter i2 l2 k) (g3:s.heap.IsListIter i3 l3 k)
  (p1:s.heap.IsList l1 us) (p2:s.heap.IsList l2 vs) (p3:s.heap.IsList l3 ts) (hx:us[k]?=some x) (hy:vs[k]?=some y) (ht:ts[k]?=some t)
  (hQ:∀h',IsZip h' z TI TO (rawInt s.heap.objs.size)→Tri h' TO x y t→h'.IsListIter i1 l1 (k + 1)→h'.IsListIter i2 l2 (k + 1)→h'.IsListIter i3 l3 (k + 1)→Tri h' s.heap.objs.size x y t→Kps [z,TO,i1,i2,i3] s.heap h'→Q (some (.ref s.heap.objs.size)) { s with heap:=h' }):wpAny (model prog w) A (pyNext (.ref z)) Q E s:=by
 have ty:s.TypeIs (.ref z) "zip" := ⟨_,gz,rfl⟩
 unfold pyNext
 exact wpAny_bind (wpAny_attempt (wpAny_callSpecial?_slot (name:=Str.ofString "__next__") ty F.slot_zip_next (wpAny_call_entry F.slot_zip_next ty F.entry_zip_next (zip3_item D far gz gI gO g1 g2 g3 p1 p2 p3 hx hy ht fun h' a1 a2 a3 a4 a5 a6 a7=>wpAny_pure (hQ h' a1 a2 a3 a4 a5 a6 a7)) (F.args_zip_next_1 _))))
theorem next3_end {Q:Option Value→Shared→Prop} (hh:A.handled=none) (D:Z6 z TI TO i1 i2 i3) (far:l1≠z) (gz:IsZip s.heap z TI TO .none) (gI:Tri s.heap TI (.ref i1) (.ref i2) (.ref i3)) (g1:s.heap.IsListIter i1 l1 k) (p1:s.heap.IsList l1 us) (hx:us[k]?=none)
  (hQ:∀h',Kps [z,TO,i1,i2,i3] s.heap h'→Q none { s with heap:=h' }):wpAny (model prog w) A (pyNext (.ref z)) Q E s:=by
 have ty:s.TypeIs (.ref z) "zip" := ⟨_,gz,rfl⟩
 unfold pyNext
 refine wpAny_bind (wpAny_attempt (wpAny_callSpecial?_slot (name:=Str.ofString "__next__") ty F.slot_zip_next (wpAny_call_entry F.slot_zip_next ty F.entry_zip_next (zip3_end hh D far gz gI g1 p1 hx fun h' e kk he=>?_) (F.args_zip_next_1 _))))
 obtain ⟨o,ho,hc⟩:=he
 exact wpAny_bind (wpAny_isInstance (T := "StopIteration") (b:=true) ⟨o,ho,hc⟩ isSubtype_stop (wpAny_pure (hQ _ kk)))
end
theorem tyCall_zip3 (a b c:Value):checkTypeCall "zip" ⟨[a,b,c],[]⟩=pure ():=by kernel_rfl
theorem nwCall_zip3 (a b c:Value):checkBuiltinCall "zip.__new__" ⟨[.type "zip", a,b,c],[]⟩=pure ():=by kernel_rfl
theorem args_init4 (a b c d:Value):argsOk "object.__init__" ⟨[a,b,c,d],[]⟩:=by
 unfold argsOk;rw [signature?_of (id := "object.__init__") (n:=['_','_','t','i','n','i','_','_']) (o:=['t','c','e','j','b','o']) (by kernel_rfl) F.owner_object];kernel_rfl
def itO (l:Addr):Obj:={ cls:=.type "list_iterator", data:=.fields #[.ref l,.int 0 0] }
def z3a (h:Heap) (l1 l2 l3:Addr):Heap:=((h.push (itO l1)).push (itO l2)).push (itO l3)
def z3b (h:Heap) (l1 l2 l3:Addr):Heap:=(z3a h l1 l2 l3).push { cls:=.type "tuple", data:=.seq #[.ref h.objs.size,.ref (h.push (itO l1)).objs.size,.ref ((h.push (itO l1)).push (itO l2)).objs.size] }
def z3c (h:Heap) (l1 l2 l3:Addr):Heap:=(z3b h l1 l2 l3).push { cls:=.type "tuple", data:=.seq #[.none,.none,.none] }
def z3d (h:Heap) (l1 l2 l3:Addr):Heap:=(z3c h l1 l2 l3).push { cls:=.type "zip", data:=.fields #[.none,.bool false,.bool false,.ref (z3a h l1 l2 l3).objs.size,.ref (z3b h l1 l2 l3).objs.size] }
theorem new_zip3 (l1 l2 l3:Addr) (xs ys zs:Array Value):Meets (Builtin.«zip.__new__» ⟨[.type "zip", .ref l1,.ref l2,.ref l3],[]⟩) (fun _ R s=>s.heap.IsList l1 xs∧s.heap.IsList l2 ys∧s.heap.IsList l3 zs∧R (.ok (.ret (.ref (z3c s.heap l1 l2 l3).objs.size))) { s with heap:=z3d s.heap l1 l2 l3 }) :=
 .of_wp fun prog w A R s h=>by
  obtain ⟨hp,g,d,tk,os⟩:=s;obtain ⟨q1,q2,q3,h⟩:=h
  have hsub:=sub_zip
  have L1:Heap.IsList (Shared.heap ⟨hp,g,d,tk,os⟩) l1 xs:=q1
  have L2:Heap.IsList (Shared.heap ⟨hp.push { cls:=.type "list_iterator", data:=.fields #[.ref l1,.int 0 0] },g,d,tk,os⟩) l2 ys:=q2.push _
  have L3:Heap.IsList (Shared.heap ⟨(hp.push { cls:=.type "list_iterator", data:=.fields #[.ref l1,.int 0 0] }).push { cls:=.type "list_iterator", data:=.fields #[.ref l2,.int 0 0] },g,d,tk,os⟩) l3 zs:=(q3.push _).push _
  wp_walk using wpAny_pyIter_list L1,wpAny_pyIter_list L2,wpAny_pyIter_list L3
  exact ⟨_,rfl,h⟩
section
variable {prog:Program} {w:World} {A:Around} {E:Value→Shared→Prop} {s:Shared}
theorem call_zip3 {l1 l2 l3:Addr} {xs ys zs:Array Value} {Q:Value→Shared→Prop} (q1:s.heap.IsList l1 xs) (q2:s.heap.IsList l2 ys) (q3:s.heap.IsList l3 zs)
  (h:∀h' n,n=s.heap.objs.size→IsZip h' (n + 5) (n + 3) (n + 4) .none→Tri h' (n + 3) (.ref n) (.ref (n + 1)) (.ref (n + 2))→Tri h' (n + 4) .none .none .none→h'.IsListIter n l1 0→h'.IsListIter (n + 1) l2 0→h'.IsListIter (n + 2) l3 0→(∀c o,s.heap.get? c=some o→h'.get? c=some o)→Q (.ref (n + 5)) { s with heap:=h' }) :
  wpAny (model prog w) A (call (.type "zip") [.ref l1,.ref l2,.ref l3]) Q E s:=by
 refine callType_new F.called_zip (by decide) (tyCall_zip3 _ _ _) (nwCall_zip3 _ _ _) (fun obj=>args_init4 obj _ _ _) F.entry_zip_new (new_zip3 l1 l2 l3 xs ys zs) ⟨q1,q2,q3,?_⟩
 have n1:(s.heap.push (itO l1)).objs.size=s.heap.objs.size + 1:=Heap.size_push ..
 have n2:((s.heap.push (itO l1)).push (itO l2)).objs.size=s.heap.objs.size + 2:=by rw [Heap.size_push,n1]
 have n3:(z3a s.heap l1 l2 l3).objs.size=s.heap.objs.size + 3:=by unfold z3a;rw [Heap.size_push,n2]
 have n4:(z3b s.heap l1 l2 l3).objs.size=s.heap.objs.size + 4:=by unfold z3b;rw [Heap.size_push,n3]
 have n5:(z3c s.heap l1 l2 l3).objs.size=s.heap.objs.size + 5:=by unfold z3c;rw [Heap.size_push,n4]
 have up:∀{h:Heap} {o p:Obj} {c:Addr},h.get? c=some p→(h.push o).get? c=some p:=fun e=>Heap.get?_push_of_some _ e
 have k5:(z3d s.heap l1 l2 l3).get? (z3c s.heap l1 l2 l3).objs.size=some _:=Heap.get?_push_size _ rfl
 have k4:(z3d s.heap l1 l2 l3).get? (z3b s.heap l1 l2 l3).objs.size=some _:=up (Heap.get?_push_size _ rfl)
 have k3:(z3d s.heap l1 l2 l3).get? (z3a s.heap l1 l2 l3).objs.size=some _:=up (up (Heap.get?_push_size _ rfl))
 have k2:(z3d s.heap l1 l2 l3).get? ((s.heap.push (itO l1)).push (itO l2)).objs.size=some _:=up (up (up (Heap.get?_push_size _ rfl)))
 have k1:(z3d s.heap l1 l2 l3).get? (s.heap.push (itO l1)).objs.size=some _:=up (up (up (up (Heap.get?_push_size _ rfl))))
 have k0:(z3d s.heap l1 l2 l3).get? s.heap.objs.size=some _:=up (up (up (up (up (Heap.get?_push_size _ rfl)))))
 show _∧_
 rw [n5,n3,n4] at k5
 rw [n4] at k4
 rw [n3,n1,n2] at k3
 rw [n2] at k2
 rw [n1] at k1
 rw [n5]
 exact ⟨⟨_,k5,rfl⟩,h _ _ rfl k5 k3 k4 ⟨_,k0,rfl,rfl⟩ ⟨_,k1,rfl,rfl⟩ ⟨_,k2,rfl,rfl⟩ fun c o e=>up (up (up (up (up (up e)))))⟩
end
def It3 (K:W.Frag) (a b c:Addr) (xs ys zs:List V):It :=
 ⟨fun i H=>(SqL K H a xs∧SqL K H b ys∧SqL K H c zs)∧(i < xs.length∧i < ys.length∧i < zs.length),fun i H x H'=>∃T u v t,x=.ref T∧xs[i]?=some u∧ys[i]?=some v∧zs[i]?=some t∧New H H' T (.tup [u,v,t]),fun i H=>(SqL K H a xs∧SqL K H b ys∧SqL K H c zs)∧xs.length≤i⟩
def Z3At (z TI TO i1 i2 i3 a b c:Addr) (i:Nat) (h:Heap):Prop:=IsZip h z TI TO .none∧Tri h TI (.ref i1) (.ref i2) (.ref i3)∧(∃u v t,Tri h TO u v t)∧h.IsListIter i1 a i∧h.IsListIter i2 b i∧h.IsListIter i3 c i
theorem z3_far {h:Heap} {z TI TO i1 i2 i3 a b c l:Addr} {i:Nat} {us:Array Value} (st:Z3At z TI TO i1 i2 i3 a b c i h) (p:h.IsList l us):l ∉ [z,TO,i1,i2,i3]:=by
 obtain ⟨hz,_,⟨u,v,t,hO⟩,⟨o1,g1,c1,_⟩,⟨o2,g2,c2,_⟩,⟨o3,g3,c3,_⟩⟩:=st
 have far:∀{d:Addr} {o:Obj} {n:String},h.get? d=some o→o.cls=.type n→n ≠ "list" → l≠d:=fun {d o n} hc ho hn e=>by
  obtain ⟨ol,gl,cl,_⟩:=p
  subst e
  rw [gl] at hc
  cases hc
  rw [cl] at ho
  exact hn (Value.type.inj ho).symm
 simp only [List.mem_cons,List.not_mem_nil,or_false,not_or]
 exact ⟨far hz rfl (by decide),far hO rfl (by decide),far g1 c1 (by decide),far g2 c2 (by decide),far g3 c3 (by decide)⟩
theorem turn_zip3 {P:Program} {w:World} {K:W.Frag} {elts:List Expr} {x1} {pos:Pos} (a b c z TI TO i1 i2 i3:Addr) (xs ys zs:List V) (D:Z6 z TI TO i1 i2 i3) :
  Turn P w K (.Tuple elts x1 pos) (It3 K a b c xs ys zs) [z,TI,TO,i1,i2,i3] z (Z3At z TI TO i1 i2 i3 a b c) where
 mem:=by simp
 obj:=fun i h st d hd=>by
  obtain ⟨hz,hI,⟨u,v,t,hO⟩,⟨o1,g1,_,d1⟩,⟨o2,g2,_,d2⟩,⟨o3,g3,_,d3⟩⟩:=st
  simp only [List.mem_cons,List.not_mem_nil,or_false] at hd
  rcases hd with rfl | rfl | rfl | rfl | rfl | rfl
  ·exact ⟨_,hz,fun v e=>by cases (show Data.fields _=Data.cell v from e)⟩
  ·exact ⟨_,hI,fun v e=>by cases (show Data.seq _ _=Data.cell v from e)⟩
  ·exact ⟨_,hO,fun v e=>by cases (show Data.seq _ _=Data.cell v from e)⟩
  ·exact ⟨o1,g1,fun v e=>by rw [d1] at e;cases e⟩
  ·exact ⟨o2,g2,fun v e=>by rw [d2] at e;cases e⟩
  ·exact ⟨o3,g3,fun v e=>by rw [d3] at e;cases e⟩
 keep:=fun i h h' st k=>by
  obtain ⟨hz,hI,⟨u,v,t,hO⟩,g1,g2,g3⟩:=st
  exact ⟨k z (by simp) _ hz,k TI (by simp) _ hI,⟨u,v,t,k TO (by simp) _ hO⟩,g1.at fun o q=>k i1 (by simp) o q,g2.at fun o q=>k i2 (by simp) o q,g3.at fun o q=>k i3 (by simp) o q⟩
 item:=by
  intro X hP hw hK hc i pins s σ H E I hf st hg
  subst hP hw hK
  obtain ⟨⟨qa,qb,qc⟩,ha,hb,hcl⟩:=hg
  obtain ⟨us,ru,pu,_⟩:=I.list qa
  obtain ⟨vs,rv,pv,_⟩:=I.list qb
  obtain ⟨ts,rt,pt,_⟩:=I.list qc
  have far:∀l∈[a,b,c],l ∉ [z,TO,i1,i2,i3]:=fun l hl=>by
   simp only [List.mem_cons,List.not_mem_nil,or_false] at hl
   rcases hl with rfl | rfl | rfl
   ·exact z3_far st pu.isList
   ·exact z3_far st pv.isList
   ·exact z3_far st pt.isList
  have d:=D.nd
  simp only [List.nodup_cons,List.mem_cons,List.not_mem_nil,or_false,not_or,List.nodup_nil,not_false_eq_true,and_true] at d
  obtain ⟨⟨dzI,dzO,dz1,dz2,dz3⟩,⟨dIO,dI1,dI2,dI3⟩,_⟩:=d
  obtain ⟨hz,hI,⟨c1,c2,c3,hO⟩,g1,g2,g3⟩:=id st
  have hx:xs[i]?=some xs[i]:=by simp [ha]
  have hy:ys[i]?=some ys[i]:=by simp [hb]
  have ht:zs[i]?=some zs[i]:=by simp [hcl]
  generalize xs[i]=x at hx
  generalize ys[i]=y at hy
  generalize zs[i]=t at ht
  obtain ⟨u,hu,rx⟩:=ru.get hx
  obtain ⟨v,hv,ry⟩:=rv.get hy
  obtain ⟨q,hq,rq⟩:=rt.get ht
  refine next3_item D far hz hI hO g1 g2 g3 pu.isList pv.isList pt.isList (x:=u) (y:=v) (t:=q) (by simpa using hu) (by simpa using hv) (by simpa using hq) fun h1 a1 a2 a3 a4 a5 a6 hk=>?_
  refine ⟨_,rfl,wpAny_letOwnedTupleGo_zip a1 fun h2 he2 hs2=>?_⟩
  have neT:s.heap.objs.size≠z:=Nat.ne_of_gt (Heap.lt_size hz)
  have hT2:=(hs2.2 _ neT).trans a6
  have k2:∀b o,b ∉ [z,TI,TO,i1,i2,i3]→s.heap.get? b=some o→h2.get? b=some o:=fun b o hb q=>by
   simp only [List.mem_cons,List.not_mem_nil,or_false,not_or] at hb
   exact (hs2.2 b hb.1).trans (hk b o (by simp only [List.mem_cons,List.not_mem_nil,or_false,not_or];exact ⟨hb.1,hb.2.2⟩) q)
  have new:ObjOk X.prog X.w (upd H s.heap.objs.size (.tup [x,y,t])) h2 s.heap.objs.size (.tup [x,y,t]) :=
   ⟨by show 3≤sizeLine;decide,[u,v,q],.cons rx (.cons ry (.cons rq .nil)),⟨_,hT2,rfl,_,rfl⟩⟩
  refine ⟨.ref s.heap.objs.size,_,I.turnedLaid (t':=s.toks) hf k2 (Nat.le_refl _) new,rfl,⟨_,x,y,t,rfl,hx,hy,ht,.mk' (I.hok.fresh (Nat.le_refl _))⟩,⟨he2,(hs2.2 TI (Ne.symm dzI)).trans (hk TI _ (by simp only [List.mem_cons,List.not_mem_nil,or_false,not_or];exact ⟨Ne.symm dzI,dIO,dI1,dI2,dI3⟩) hI),⟨u,v,q,(hs2.2 TO (Ne.symm dzO)).trans a2⟩,a3.at fun o q=>(hs2.2 i1 (Ne.symm dz1)).trans q,a4.at fun o q=>(hs2.2 i2 (Ne.symm dz2)).trans q,a5.at fun o q=>(hs2.2 i3 (Ne.symm dz3)).trans q⟩,fun b hb=>?_⟩
  have hbn:=(hf b hb).1
  have hb':b < s.heap.objs.size:=by
   obtain ⟨o1,q1,_⟩:=g1
   obtain ⟨o2,q2,_⟩:=g2
   obtain ⟨o3,q3,_⟩:=g3
   simp only [List.mem_cons,List.not_mem_nil,or_false] at hb
   rcases hb with rfl | rfl | rfl | rfl | rfl | rfl
   ·exact Heap.lt_size hz
   ·exact Heap.lt_size hI
   ·exact Heap.lt_size hO
   ·exact Heap.lt_size q1
   ·exact Heap.lt_size q2
   ·exact Heap.lt_size q3
  rw [upd_ne (Nat.ne_of_lt hb')]
  exact hbn
 done:=by
  intro X hP hw hK hc i pins s σ H E I hf st hg
  subst hP hw hK
  obtain ⟨⟨qa,_,_⟩,hle⟩:=hg
  obtain ⟨us,ru,pu,_⟩:=I.list qa
  have far:=z3_far st pu.isList
  obtain ⟨hz,hI,_,g1,_,_⟩:=id st
  have l1:=ru.length
  refine next3_end (I.ok.hd hc) D (fun e=>far (by simp [e])) hz hI g1 pu.isList (by simp;lia) fun h' eb=>⟨rfl,I.turnedN (t':=s.toks) (ch:=[z,TI,TO,i1,i2,i3]) hf fun b o hb q=>eb b o (fun m=>hb (by simp only [List.mem_cons] at m ⊢;exact m.elim .inl fun r=>.inr (.inr r))) q⟩
 self:=fun _ _ _ _ _ st h=>wpAny_pyIter_zip st.1 h
def iZip3 (K:W.Frag) (ta:TA):TI:=fun σ H R=>ta σ H fun vs H1=>∃a b c xs ys zs,vs=[.ref a,.ref b,.ref c]∧SqL K H1 a xs∧SqL K H1 b ys∧SqL K H1 c zs∧R (It3 K a b c xs ys zs) H1
theorem pi_zip3 {X:Cx} {elts:List Expr} {x1} {tpos:Pos} {a b c:Expr} {ta:TA} {p pos:Pos} (hg:Gl X "zip") (hm:X.mg "zip" = none) (ha:PA X [a,b,c] ta) (hs:starEach [a,b,c] X.env=[(false,eval a X.env),(false,eval b X.env),(false,eval c X.env)]:=by rfl) (hs2:starEach [b,c] X.env=[(false,eval b X.env),(false,eval c X.env)]:=by rfl) :
  PI X (.Tuple elts x1 tpos) (.Call (.Name "zip" p) [a,b,c] [] pos) (iZip3 X.K ta):=by
 intro pins s σ H R I h
 refine Call_ (ld_blt I hg hm boot_zip (PyProof.Rows.callWith_type1 (thn (ha pos pins s σ H _ I h) fun us s1 ⟨vs,H1,I1,r1,q1⟩=>?_) (by rw [hs,hs2]) (by rw [hs2];rfl)))
 obtain ⟨l,m,n,xs,ys,zs,e,hq,hq2,hq3,q⟩:=q1
 subst e
 obtain ⟨u,v,t,rfl,r,r2,r3⟩:=vals3 r1
 cases r
 cases r2
 cases r3
 obtain ⟨its,rv,pl,hz⟩:=I1.list hq
 obtain ⟨its2,rv2,pl2,hz2⟩:=I1.list hq2
 obtain ⟨its3,rv3,pl3,hz3⟩:=I1.list hq3
 refine call_zip3 pl.isList pl2.isList pl3.isList fun h' N eN b1 b2 b3 b4 b5 b6 hk=>?_
 have I2:Inv X pins σ H1 { s1 with heap:=h' }:=I1.kept (t':=s1.toks) hk
 refine wpAny_pyIter_zip b1 ?_
 have D:Z6 (N + 5) (N + 3) (N + 4) N (N + 1) (N + 2):=⟨by
  simp only [List.nodup_cons,List.mem_cons,List.not_mem_nil,or_false,not_or,List.nodup_nil,not_false_eq_true,and_true]
  have:∀i j:Nat,i≠j→((N + i:Nat):Addr)≠(N + j:Nat):=fun i j h e=>h (by have:N + i=N + j:=e;lia)
  exact ⟨⟨this 5 3 (by decide),this 5 4 (by decide),this 5 0 (by decide),this 5 1 (by decide),this 5 2 (by decide)⟩,⟨this 3 4 (by decide),this 3 0 (by decide),this 3 1 (by decide),this 3 2 (by decide)⟩,⟨this 4 0 (by decide),this 4 1 (by decide),this 4 2 (by decide)⟩,⟨this 0 1 (by decide),this 0 2 (by decide)⟩,this 1 2 (by decide)⟩⟩
 refine ⟨N + 5,[N + 5,N + 3,N + 4,N,N + 1,N + 2],_,It3 X.K l m n xs ys zs,H1,rfl,I2,turn_zip3 l m n (N + 5) (N + 3) (N + 4) N (N + 1) (N + 2) xs ys zs D,⟨b1,b2,⟨_,_,_,b3⟩,b4,b5,b6⟩,fun b hb=>?_,q⟩
 have hb':s1.heap.objs.size≤b:=by
  rw [← eN]
  simp only [List.mem_cons,List.not_mem_nil,or_false] at hb
  rcases hb with rfl | rfl | rfl | rfl | rfl | rfl
  ·exact Nat.le_add_right _ _
  ·exact Nat.le_add_right _ _
  ·exact Nat.le_add_right _ _
  ·exact Nat.le_refl _
  ·exact Nat.le_add_right _ _
  ·exact Nat.le_add_right _ _
 exact I1.fpOk hb' (I1.hok.fresh hb')
def For3 (K:PySem.W.Frag) (a b c:Addr) (xs ys zs:List V) (g:TG) (tb:TS) (D:Ends) (σ:St) (H:Hp):Prop :=
  ∃W:Nat→Nat→St→Hp→Prop,(∃m,W 0 m σ H)∧∀i m σ H,W i m σ H →
   ((It3 K a b c xs ys zs).stop i H∧D.nx σ H)∨((It3 K a b c xs ys zs).go i H∧∃N:St→Hp→Prop,(∀σ' H',N σ' H'→∃m',m' < m∧W (i + 1) m' σ' H')∧∀x H',(It3 K a b c xs ys zs).yld i H x H'→g x σ H' fun σ2 H2=>tb { D with nx:=N,ct:=N,bk:=D.nx } σ2 H2)
theorem for_zip3 {K:W.Frag} {a b c:Addr} {xs ys zs:List V} {g:TG} {tb:TS} {D:Ends} {σ:St} {H:Hp} (h1:xs.length≤ys.length) (h2:xs.length≤zs.length) (Pv:Nat→St→Hp→Prop) (h0:Pv 0 σ H) (hl:∀i σ H,i≤xs.length→Pv i σ H→SqL K H a xs∧SqL K H b ys∧SqL K H c zs)
  (hs:∀i x y t T σ H H',xs[i]?=some x→ys[i]?=some y→zs[i]?=some t→Pv i σ H→New H H' T (.tup [x,y,t])→g (.ref T) σ H' fun σ2 H2=>tb { D with nx:=Pv (i + 1),ct:=Pv (i + 1),bk:=D.nx } σ2 H2) (hd:∀σ H,Pv xs.length σ H→D.nx σ H) :
  For3 K a b c xs ys zs g tb D σ H:=by
 refine ⟨fun i m σ H=>m=xs.length - i∧i≤xs.length∧Pv i σ H,⟨xs.length,by simp,Nat.zero_le _,h0⟩,?_⟩
 rintro i m σ H ⟨rfl,hi,p⟩
 have q:=hl i σ H hi p
 by_cases hlt:i < xs.length
 ·refine .inr ⟨⟨q,hlt,by lia,by lia⟩,Pv (i + 1),fun σ' H' p'=>⟨xs.length - (i + 1),by lia,rfl,hlt,p'⟩,fun x H' y=>?_⟩
  obtain ⟨T,u,v,t,rfl,hu,hv,ht,n⟩:=y
  exact hs i u v t T σ H H' hu hv ht p n
 ·have e:i=xs.length:=by lia
  subst e
  exact .inl ⟨⟨q,Nat.le_refl _⟩,hd σ H p⟩
section
variable {K:W.Frag} {g:TG} {tb:TS} {D:Ends} {σ:St} {H:Hp} {tr:TA} {a b c:Addr} {xs ys zs:List V}
instance go_for3:Go (tFor (iZip3 K tr) g tb D σ H) (tr σ H fun vs H1=>∃a b c xs ys zs,vs=[.ref a,.ref b,.ref c]∧SqL K H1 a xs∧SqL K H1 b ys∧SqL K H1 c zs∧For3 K a b c xs ys zs g tb D σ H1):=⟨fun h=>h⟩
instance go_z3by [h:SqA K H a xs] [h2:SqA K H b ys] [h3:SqA K H c zs]:Go (∃a' b' c' xs' ys' zs',[V.ref a,V.ref b,V.ref c]=[.ref a',.ref b',.ref c']∧SqL K H a' xs'∧SqL K H b' ys'∧SqL K H c' zs'∧For3 K a' b' c' xs' ys' zs' g tb D σ H) (For3 K a b c xs ys zs g tb D σ H):=⟨fun k=>⟨a,b,c,xs,ys,zs,rfl,h.e,h2.e,h3.e,k⟩⟩
end
end L2
namespace M22
end M22
namespace M82
open L2
structure OkA (e n:Nat) (rs:List Rw):Prop where
 asc:rs.Pairwise fun r s=>r.st + r.sz≤s.st
 bd:∀r∈rs,e≤r.st∧1≤r.sz∧r.st + r.sz≤n
theorem OkA.tail {e n:Nat} {r:Rw} {rs:List Rw} (h:OkA e n (r::rs)):OkA (r.st + r.sz) n rs :=
 ⟨(List.pairwise_cons.mp h.asc).2,fun s hs=>⟨(List.pairwise_cons.mp h.asc).1 s hs,(h.bd s (.tail _ hs)).2⟩⟩
theorem OkA.mono {e e' n:Nat} {rs:List Rw} (h:OkA e n rs) (le:e'≤e):OkA e' n rs:=⟨h.asc,fun s hs=>⟨Nat.le_trans le (h.bd s hs).1,(h.bd s hs).2⟩⟩
theorem OkA.hd {e n:Nat} {r:Rw} {rs:List Rw} (h:OkA e n (r::rs)):e≤r.st∧1≤r.sz∧r.st + r.sz≤n:=h.bd r (.head _)
theorem OkA.cons {e n:Nat} {r:Rw} {rs:List Rw} (h:e≤r.st∧1≤r.sz∧r.st + r.sz≤n) (t:OkA (r.st + r.sz) n rs):OkA e n (r::rs) :=
 ⟨List.pairwise_cons.mpr ⟨fun s hs=>(t.bd s hs).1,t.asc⟩,fun s hs=>by
  rcases List.mem_cons.mp hs with rfl | hs
  ·exact h
  ·have:=t.bd s hs
   lia⟩
theorem OkA.nil {e n:Nat}:OkA e n []:=⟨.nil,fun _ h=>by cases h⟩
def putS (r:Rw) (s:Nat):Rw:=⟨r.nm,s,r.sz,r.pn⟩
def dnT (e:Nat) (r:Rw):Nat:=if 0 < r.pn then r.st else e
def dnR:Nat→List Rw→List Rw
 | _,[]=>[]
 | e,r::rs=>putS r (dnT e r)::dnR (dnT e r + r.sz) rs
abbrev Mv:=Nat×List Nat×Nat
def dnM:Nat→Nat→List Rw→List Mv
 | _,_,[]=>[]
 | k,e,r::rs=>if dnT e r=r.st then dnM (k + 1) (dnT e r + r.sz) rs else (k,r.nm,dnT e r)::dnM (k + 1) (dnT e r + r.sz) rs
def upT (b:Nat) (r:Rw):Nat:=if 0 < r.pn then r.st else b - r.sz
def upB (b:Nat) (rs:List Rw):Nat:=rs.foldl upT b
def upR:Nat→List Rw→List Rw
 | _,[]=>[]
 | b,r::rs=>putS r (upT b r)::upR (upT b r) rs
def upM:Nat→List Rw→List Mv
 | _,[]=>[]
 | b,r::rs=>if upT b r=r.st then upM (upT b r) rs else (rs.length,r.nm,upT b r)::upM (upT b r) rs
def upL (n:Nat):List Rw→List Rw×Nat
 | []=>([],n)
 | r::rs=>(putS r (upT (upL n rs).2 r)::(upL n rs).1,upT (upL n rs).2 r)
theorem upR_app (b:Nat) (xs ys:List Rw):upR b (xs++ys)=upR b xs++upR (upB b xs) ys:=by
 induction xs generalizing b with
 | nil=>rfl
 | cons x xs ih=>simp only [List.cons_append,upR,ih,upB,List.foldl_cons]
theorem upL_eq (n:Nat) (rs:List Rw):(upR n rs.reverse).reverse=(upL n rs).1∧upB n rs.reverse=(upL n rs).2:=by
 induction rs with
 | nil=>exact ⟨rfl,rfl⟩
 | cons r rs ih =>
  rw [List.reverse_cons,upR_app,List.reverse_append,ih.2]
  refine ⟨?_,?_⟩
  ·simp only [upR,upL,List.reverse_cons,List.reverse_nil,List.nil_append,List.singleton_append,ih.1]
  ·unfold upB at ih ⊢
   rw [List.foldl_append,ih.2]
   rfl
def packM (d:Bool) (n:Nat) (rs:List Rw):List Mv:=if d=true then dnM 0 0 rs else upM n rs.reverse
def packR (d:Bool) (n:Nat) (rs:List Rw):List Rw:=if d=true then dnR 0 rs else (upL n rs).1
def lowT (T:List Rw):Nat→Nat
 | 0=>0
 | j + 1=>match T[j]? with
  | some r=>r.st + r.sz
  | none=>0
def highT (n:Nat) (T:List Rw) (k:Nat):Nat:=match T[k + 1]? with
 | some r=>r.st
 | none=>n
def mvT (T:List Rw) (k to:Nat):List Rw:=T.modify k fun r=>putS r to
def WOk (n:Nat):List Rw→List Mv→Prop
 | _,[]=>True
 | T,m::ms=>(∃r,T[m.1]?=some r∧r.nm=m.2.1∧r.pn=0∧lowT T m.1≤m.2.2∧m.2.2 + r.sz≤highT n T m.1)∧WOk n (mvT T m.1 m.2.2) ms
def wEnd (T:List Rw) (ms:List Mv):List Rw:=ms.foldl (fun T m=>mvT T m.1 m.2.2) T
def wPr (T:List Rw) (m:Mv):Nat:=match T[m.1]? with
 | some r=>if m.2.2=r.st then 0 else r.sz
 | none=>0
def wPrice:List Rw→List Mv→Nat
 | _,[]=>0
 | T,m::ms=>wPr T m + wPrice (mvT T m.1 m.2.2) ms
theorem mvT_mid (P:List Rw) (r:Rw) (Q:List Rw) (to:Nat):mvT (P++r::Q) P.length to=P++putS r to::Q:=by
 unfold mvT
 induction P with
 | nil=>rfl
 | cons p P ih=>simp only [List.cons_append,List.length_cons,List.modify_succ_cons,ih]
theorem mid_at (P:List Rw) (r:Rw) (Q:List Rw):(P++r::Q)[P.length]?=some r:=by rw [List.getElem?_append_right (Nat.le_refl _),Nat.sub_self];rfl
theorem mid_high (n:Nat) (P:List Rw) (r:Rw) (Q:List Rw):highT n (P++r::Q) P.length=match Q with | []=>n | s::_=>s.st:=by
 unfold highT
 rw [List.getElem?_append_right (by lia),show P.length + 1 - P.length=1 by lia]
 cases Q <;> rfl
def endS:List Rw→Nat
 | []=>0
 | r::rs=>match rs with
  | []=>r.st + r.sz
  | _=>endS rs
theorem endS_snoc (P:List Rw) (r:Rw):endS (P++[r])=r.st + r.sz:=by
 induction P with
 | nil=>rfl
 | cons p P ih =>
  cases P with
  | nil=>rfl
  | cons q P=>exact ih
theorem mid_low (P:List Rw) (r:Rw) (Q:List Rw):lowT (P++r::Q) P.length=endS P:=by
 rcases List.eq_nil_or_concat P with rfl | ⟨P,p,rfl⟩
 ·rfl
 ·rw [List.concat_eq_append,endS_snoc]
  have:(P++[p]++r::Q)[P.length]?=some p:=by rw [List.append_assoc];exact mid_at P p _
  rw [show (P++[p]).length=P.length + 1 by simp]
  simp only [lowT,this]
theorem dn_walk {n:Nat} (rs:List Rw):∀(P:List Rw) (e:Nat),endS P=e→OkA e n rs→WOk n (P++rs) (dnM P.length e rs)∧wEnd (P++rs) (dnM P.length e rs)=P++dnR e rs:=by
 induction rs with
 | nil=>intro P e _ _;exact ⟨trivial,rfl⟩
 | cons r rs ih =>
  intro P e he h
  have h1:=h.hd
  have h2:=h.tail
  have ih1:=ih (P++[putS r (dnT e r)]) (dnT e r + r.sz) (endS_snoc _ _) (h2.mono (by unfold dnT;split <;> lia))
  rw [show (P++[putS r (dnT e r)]).length=P.length + 1 by simp,List.append_assoc,List.append_assoc,List.singleton_append,List.singleton_append] at ih1
  by_cases q:dnT e r=r.st
  ·rw [show dnM P.length e (r::rs)=dnM (P.length + 1) (dnT e r + r.sz) rs by rw [dnM,if_pos q]]
   have e3:putS r (dnT e r)=r:=by rw [q];rfl
   rw [e3] at ih1
   refine ⟨ih1.1,?_⟩
   rw [ih1.2,dnR,e3]
  ·rw [show dnM P.length e (r::rs)=(P.length,r.nm,dnT e r)::dnM (P.length + 1) (dnT e r + r.sz) rs by rw [dnM,if_neg q]]
   have hp:¬ 0 < r.pn:=fun z=>q (if_pos z)
   have hd:dnT e r=e:=if_neg hp
   refine ⟨⟨⟨r,mid_at _ _ _,rfl,by lia,?_,?_⟩,?_⟩,?_⟩
   ·show lowT (P++r::rs) P.length≤dnT e r
    rw [mid_low,he,hd]
    exact Nat.le_refl _
   ·show dnT e r + r.sz≤highT n (P++r::rs) P.length
    rw [mid_high,hd]
    cases rs with
    | nil=>show e + r.sz≤n;lia
    | cons s rs=>have:=(h2.hd).1;show e + r.sz≤s.st;lia
   ·show WOk n (mvT (P++r::rs) P.length (dnT e r)) _
    rw [mvT_mid]
    exact ih1.1
   ·show wEnd (mvT (P++r::rs) P.length (dnT e r)) _=_
    rw [mvT_mid,ih1.2,dnR]
structure OkD (b:Nat) (rs:List Rw):Prop where
 asc:rs.Pairwise fun r s=>s.st + s.sz≤r.st
 bd:∀r∈rs,1≤r.sz∧r.st + r.sz≤b
theorem OkA.rev {e n:Nat} {rs:List Rw} (h:OkA e n rs):OkD n rs.reverse:=⟨List.pairwise_reverse.mpr h.asc,fun r hr=>(h.bd r (List.mem_reverse.mp hr)).2⟩
theorem OkD.tail {b:Nat} {r:Rw} {rs:List Rw} (h:OkD b (r::rs)):OkD r.st rs :=
 ⟨(List.pairwise_cons.mp h.asc).2,fun s hs=>⟨(h.bd s (.tail _ hs)).1,(List.pairwise_cons.mp h.asc).1 s hs⟩⟩
theorem OkD.mono {b b':Nat} {rs:List Rw} (h:OkD b rs) (le:b≤b'):OkD b' rs:=⟨h.asc,fun s hs=>⟨(h.bd s hs).1,Nat.le_trans (h.bd s hs).2 le⟩⟩
def begS (n:Nat):List Rw→Nat
 | []=>n
 | r::_=>r.st
theorem up_walk {n:Nat} (rs:List Rw):∀(D:List Rw) (b:Nat),begS n D=b→OkD b rs→WOk n (rs.reverse++D) (upM b rs)∧wEnd (rs.reverse++D) (upM b rs)=(upR b rs).reverse++D:=by
 induction rs with
 | nil=>intro D b _ _;exact ⟨trivial,rfl⟩
 | cons r rs ih =>
  intro D b he h
  have h1:=h.bd r (.head _)
  have h2:=h.tail
  have ih1:=ih (putS r (upT b r)::D) (upT b r) rfl (h2.mono (by unfold upT;split <;> lia))
  rw [List.reverse_cons,List.append_assoc,List.singleton_append]
  by_cases q:upT b r=r.st
  ·rw [show upM b (r::rs)=upM (upT b r) rs by rw [upM,if_pos q]]
   have e3:putS r (upT b r)=r:=by rw [q];rfl
   rw [e3] at ih1
   refine ⟨ih1.1,?_⟩
   rw [ih1.2,upR,e3]
   simp
  ·rw [show upM b (r::rs)=(rs.length,r.nm,upT b r)::upM (upT b r) rs by rw [upM,if_neg q]]
   have hp:¬ 0 < r.pn:=fun z=>q (if_pos z)
   have hd:upT b r=b - r.sz:=if_neg hp
   have hl:rs.length=rs.reverse.length:=by simp
   refine ⟨⟨⟨r,?_,rfl,by lia,?_,?_⟩,?_⟩,?_⟩
   ·show (rs.reverse++r::D)[rs.length]?=some r
    rw [hl];exact mid_at _ _ _
   ·show lowT (rs.reverse++r::D) rs.length≤upT b r
    rw [hl,mid_low,hd]
    cases rs with
    | nil=>exact Nat.zero_le _
    | cons s rs =>
     rw [List.reverse_cons,endS_snoc]
     have:=(h2.bd s (.head _)).2
     lia
   ·show upT b r + r.sz≤highT n (rs.reverse++r::D) rs.length
    rw [hl,mid_high,hd]
    cases D with
    | nil=>simp only [begS] at he;show b - r.sz + r.sz≤n;lia
    | cons s D=>simp only [begS] at he;show b - r.sz + r.sz≤s.st;lia
   ·show WOk n (mvT (rs.reverse++r::D) rs.length (upT b r)) _
    rw [hl,mvT_mid]
    exact ih1.1
   ·show wEnd (mvT (rs.reverse++r::D) rs.length (upT b r)) _=_
    rw [hl,mvT_mid,ih1.2,upR]
    simp
theorem pack_walk {n:Nat} {rs:List Rw} (d:Bool) (h:OkA 0 n rs):WOk n rs (packM d n rs)∧wEnd rs (packM d n rs)=packR d n rs:=by
 cases d with
 | true=>exact dn_walk rs [] 0 rfl h
 | false =>
  have:=up_walk rs.reverse [] n rfl h.rev
  rw [List.reverse_reverse,List.append_nil,List.append_nil,(upL_eq n rs).1] at this
  exact this
theorem dnR_ok {n:Nat} (rs:List Rw):∀e,OkA e n rs→OkA e n (dnR e rs):=by
 induction rs with
 | nil=>intro e _;exact OkA.nil
 | cons r rs ih =>
  intro e h
  have h1:=h.hd
  have:dnT e r≤r.st∧e≤dnT e r:=by unfold dnT;split <;> lia
  exact OkA.cons ⟨this.2,h1.2.1,by show dnT e r + r.sz≤n;lia⟩ (ih _ (h.tail.mono (by show dnT e r + r.sz≤_;lia)))
theorem upL_ge {n:Nat} (rs:List Rw):∀e,e≤n→OkA e n rs→e≤(upL n rs).2:=by
 induction rs with
 | nil=>intro e he _;exact he
 | cons r rs ih =>
  intro e he h
  have h1:=h.hd
  have:=ih _ (by lia) h.tail
  show e≤upT (upL n rs).2 r
  unfold upT
  split <;> lia
theorem upL_ok {n:Nat} (rs:List Rw):∀e0 e,e0≤n→OkA e0 n rs→e≤(upL n rs).2→OkA e n (upL n rs).1∧(upL n rs).2≤n:=by
 induction rs with
 | nil=>intro e0 e _ _ _;exact ⟨OkA.nil,Nat.le_refl _⟩
 | cons r rs ih =>
  intro e0 e he0 h he
  have h1:=h.hd
  have g:=upL_ge rs _ (by lia) h.tail
  have t:upT (upL n rs).2 r + r.sz≤(upL n rs).2:=by unfold upT;split <;> lia
  have i:=ih _ (upT (upL n rs).2 r + r.sz) (by lia) h.tail t
  exact ⟨OkA.cons ⟨he,h1.2.1,by show upT (upL n rs).2 r + r.sz≤n;lia⟩ i.1,by show upT (upL n rs).2 r≤n;lia⟩
theorem packR_ok {n:Nat} {rs:List Rw} (d:Bool) (h:OkA 0 n rs):OkA 0 n (packR d n rs):=by
 cases d with
 | true=>exact dnR_ok rs 0 h
 | false=>exact (upL_ok rs 0 0 (Nat.zero_le _) h (Nat.zero_le _)).1
def strG (n:Nat):Int→Int→List Rw→List (Int×Int×Int)
 | f,u,[]=>[(f,(n:Int),(n:Int) - f - u)]
 | f,u,r::rs=>if 0 < r.pn then (f,(r.st:Int),(r.st:Int) - f - u)::strG n ((r.st:Int) + (r.sz:Int)) 0 rs else strG n f (u + (r.sz:Int)) rs
def gapI (e b:Int):List (Int×Int):=if e < b then [(e,b - e)] else []
theorem gapI_pos {e b:Int} (h:e < b):gapI e b=[(e,b - e)]:=if_pos h
theorem gapI_neg {e b:Int} (h:¬ e < b):gapI e b=[]:=if_neg h
def holG (n:Nat):Int→List Rw→List (Int×Int)
 | e,[]=>gapI e (n:Int)
 | e,r::rs=>gapI e (r.st:Int)++holG n ((r.st:Int) + (r.sz:Int)) rs
def endG (d:Bool) (w:Int×Int×Int):List (Int×Int):=if 0 < w.2.2 then [(if d=true then w.2.1 - w.2.2 else w.1,w.2.2)] else []
def endsG (d:Bool) (ws:List (Int×Int×Int)):List (Int×Int):=ws.flatMap (endG d)
theorem dn_hol {n:Nat} (rs:List Rw):∀(e:Nat) (f u:Int),(e:Int)=f + u→holG n e (dnR e rs)=endsG true (strG n f u rs):=by
 induction rs with
 | nil =>
  intro e f u h
  simp only [dnR,holG,strG,endsG,List.flatMap_cons,List.flatMap_nil,List.append_nil,endG,if_pos]
  by_cases q:(e:Int) < (n:Int)
  ·rw [gapI_pos q,if_pos (by lia)]
   congr 1;congr 1 <;> lia
  ·rw [gapI_neg q,if_neg (by lia)]
 | cons r rs ih =>
  intro e f u h
  simp only [dnR,holG,strG]
  by_cases hp:0 < r.pn
  ·rw [if_pos hp]
   have hd:dnT e r=r.st:=if_pos hp
   simp only [endsG,List.flatMap_cons,endG,if_pos]
   rw [show (putS r (dnT e r)).st=r.st from hd,show (putS r (dnT e r)).sz=r.sz from rfl,hd]
   have i:=ih (r.st + r.sz) ((r.st:Int) + (r.sz:Int)) 0 (by lia)
   rw [show (((r.st + r.sz:Nat):Int))=(r.st:Int) + (r.sz:Int) by lia] at i
   rw [i]
   congr 1
   by_cases q:(e:Int) < (r.st:Int)
   ·rw [gapI_pos q,if_pos (by lia)]
    congr 1;congr 1 <;> lia
   ·rw [gapI_neg q,if_neg (by lia)]
  ·rw [if_neg hp]
   have hd:dnT e r=e:=if_neg hp
   rw [show (putS r (dnT e r)).st=e from hd,show (putS r (dnT e r)).sz=r.sz from rfl,hd,gapI_neg (by lia),List.nil_append]
   have i:=ih (e + r.sz) f (u + (r.sz:Int)) (by lia)
   rw [show (((e + r.sz:Nat):Int))=(e:Int) + (r.sz:Int) by lia] at i
   exact i
theorem up_hol {n:Nat} (rs:List Rw):∀(e0:Nat) (f u:Int),e0≤n→OkA e0 n rs→∃bh fr tl,strG n f u rs=(f,bh,fr)::tl∧(((upL n rs).2:Nat):Int)=f + u + fr∧∀e:Int,holG n e (upL n rs).1=gapI e ((upL n rs).2:Nat)++endsG false tl:=by
 induction rs with
 | nil =>
  intro e0 f u _ _
  exact ⟨n,_,[],rfl,by show (n:Int)=_;lia,fun e=>by simp only [upL,holG,endsG,List.flatMap_nil,List.append_nil]⟩
 | cons r rs ih =>
  intro e0 f u he0 h
  have h1:=h.hd
  have g:=upL_ge rs _ (by lia) h.tail
  by_cases hp:0 < r.pn
  ·obtain ⟨bh,fr,tl,e1,e2,e3⟩:=ih _ ((r.st:Int) + (r.sz:Int)) 0 (by lia) h.tail
   have hd:upT (upL n rs).2 r=r.st:=if_pos hp
   refine ⟨r.st,_,strG n ((r.st:Int) + (r.sz:Int)) 0 rs,by rw [strG,if_pos hp],?_,fun e=>?_⟩
   ·show ((upT (upL n rs).2 r:Nat):Int)=_
    rw [hd];lia
   ·simp only [upL,holG]
    rw [show (putS r (upT (upL n rs).2 r)).st=r.st from hd,show (putS r (upT (upL n rs).2 r)).sz=r.sz from rfl,hd,e3,e1]
    congr 1
    simp only [endsG,List.flatMap_cons,endG]
    congr 1
    by_cases q:(r.st:Int) + (r.sz:Int) < ((upL n rs).2:Nat)
    ·rw [gapI_pos q,if_pos (by lia)]
     simp only [Bool.false_eq_true,if_false]
     congr 1;congr 1;lia
    ·rw [gapI_neg q,if_neg (by lia)]
  ·obtain ⟨bh,fr,tl,e1,e2,e3⟩:=ih _ f (u + (r.sz:Int)) (by lia) h.tail
   have hd:upT (upL n rs).2 r=(upL n rs).2 - r.sz:=if_neg hp
   refine ⟨bh,fr,tl,by rw [strG,if_neg hp,e1],?_,fun e=>?_⟩
   ·show ((upT (upL n rs).2 r:Nat):Int)=_
    rw [hd];lia
   ·simp only [upL,holG]
    rw [show (putS r (upT (upL n rs).2 r)).st=upT (upL n rs).2 r from rfl,show (putS r (upT (upL n rs).2 r)).sz=r.sz from rfl,e3]
    rw [gapI_neg (e:=_ + _) (by rw [hd];lia),List.nil_append]
theorem pack_hol {n:Nat} {rs:List Rw} (d:Bool) (h:OkA 0 n rs):holG n 0 (packR d n rs)=endsG d (strG n 0 0 rs):=by
 cases d with
 | true=>exact dn_hol rs 0 0 0 rfl
 | false =>
  obtain ⟨bh,fr,tl,e1,e2,e3⟩:=up_hol rs 0 0 0 (Nat.zero_le _) h
  show holG n 0 (upL n rs).1=_
  rw [e3,e1]
  simp only [endsG,List.flatMap_cons,endG]
  congr 1
  by_cases q:(0:Int) < ((upL n rs).2:Nat)
  ·rw [gapI_pos q,if_pos (by lia)]
   simp only [Bool.false_eq_true,if_false]
   congr 1;congr 1;lia
  ·rw [gapI_neg q,if_neg (by lia)]
theorem endsG_len (d:Bool) (ws:List (Int×Int×Int)):(endsG d ws).length=(ws.filter fun w=>decide (0 < w.2.2)).length:=by
 induction ws with
 | nil=>rfl
 | cons w ws ih =>
  simp only [endsG,List.flatMap_cons,List.length_append] at ih ⊢
  rw [ih]
  unfold endG
  by_cases q:0 < w.2.2
  ·rw [if_pos q,List.filter_cons_of_pos (by simpa using q)];simp;lia
  ·rw [if_neg q,List.filter_cons_of_neg (by simpa using q)];simp
end M82
namespace M87
open L2 M82
abbrev Sp2:=Rw×Int
def plc:Int→List Rw→List Sp2
 | _,[]=>[]
 | a,r::rs=>(r,a)::plc (a + (r.sz:Int)) rs
def szs (A:List Rw):Int:=(A.map fun r=>(r.sz:Int)).sum
def jn (f b:Int) (g:Nat) (A:List Rw):List Sp2:=plc f (A.take g)++plc (b - szs (A.drop g)) (A.drop g)
def mv (ss:List Sp2):List Sp2:=ss.filter fun s=>decide (s.2≠(s.1.st:Int))
def pri (ss:List Sp2):Int:=((mv ss).map fun s=>(s.1.sz:Int)).sum
def chc (f b:Int) (g:Nat) (A:List Rw):List Sp2:=mv (plc f (A.take g))++(mv (plc (b - szs (A.drop g)) (A.drop g))).reverse
theorem szs_nil:szs []=0:=rfl
theorem szs_cons (r:Rw) (A:List Rw):szs (r::A)=(r.sz:Int) + szs A:=by unfold szs;rw [List.map_cons,List.sum_cons]
theorem szs_app (A B:List Rw):szs (A++B)=szs A + szs B:=by unfold szs;rw [List.map_append,List.sum_append]
theorem szs_nn (A:List Rw):0≤szs A:=by
 induction A with
 | nil=>exact Int.le_refl _
 | cons r A ih=>rw [szs_cons];lia
theorem szs_take (A:List Rw) (g:Nat):szs (A.take g) + szs (A.drop g)=szs A:=by rw [← szs_app,List.take_append_drop]
theorem mv_app (a b:List Sp2):mv (a++b)=mv a++mv b:=List.filter_append ..
theorem chc_perm (f b:Int) (g:Nat) (A:List Rw):(chc f b g A).Perm (mv (jn f b g A)):=by
 unfold chc jn
 rw [mv_app]
 exact (List.reverse_perm _).append_left _
theorem sum_perm {a b:List Int} (h:a.Perm b):a.sum=b.sum:=by
 induction h with
 | nil=>rfl
 | cons x _ ih=>simp only [List.sum_cons,ih]
 | swap x y l=>simp only [List.sum_cons];lia
 | trans _ _ a b=>exact a.trans b
theorem psum {a b:List Sp2} (h:a.Perm b):(a.map fun s=>(s.1.sz:Int)).sum=(b.map fun s=>(s.1.sz:Int)).sum:=sum_perm (h.map _)
theorem chc_sum (f b:Int) (g:Nat) (A:List Rw):((chc f b g A).map fun s=>(s.1.sz:Int)).sum=pri (jn f b g A):=psum (chc_perm f b g A)
theorem plc_fst (a:Int) (A:List Rw):(plc a A).map (·.1)=A:=by
 induction A generalizing a with
 | nil=>rfl
 | cons r A ih=>rw [plc,List.map_cons,ih]
theorem jn_fst (f b:Int) (g:Nat) (A:List Rw):(jn f b g A).map (·.1)=A:=by
 unfold jn
 rw [List.map_append,plc_fst,plc_fst,List.take_append_drop]
def fm (p:Nat→Int):Nat→Nat
 | 0=>0
 | m + 1=>if p (m + 1) < p (fm p m) then m + 1 else fm p m
structure IsFm (p:Nat→Int) (m g:Nat):Prop where
 le:g≤m
 b:∀j,j≤m→p g≤p j∧(j < g→p g < p j)
theorem fm_is (p:Nat→Int) (m:Nat):IsFm p m (fm p m):=by
 induction m with
 | zero=>exact ⟨Nat.le_refl _,fun j h=>by
  have:j=0:=by lia
  subst this
  exact ⟨Int.le_refl _,fun z=>absurd z (Nat.lt_irrefl _)⟩⟩
 | succ m ih =>
  have:=ih.le
  rw [fm]
  split
  ·rename_i h
   refine ⟨Nat.le_refl _,fun j hj=>?_⟩
   by_cases e:j=m + 1
   ·subst e;exact ⟨Int.le_refl _,fun z=>absurd z (Nat.lt_irrefl _)⟩
   ·have:=ih.b j (by lia)
    exact ⟨by lia,fun _=>by lia⟩
  ·rename_i h
   refine ⟨by lia,fun j hj=>?_⟩
   by_cases e:j=m + 1
   ·subst e;exact ⟨by lia,fun z=>by lia⟩
   ·exact ih.b j (by lia)
theorem IsFm.one {p:Nat→Int} {m g h:Nat} (a:IsFm p m g) (b:IsFm p m h):g=h:=by
 rcases Nat.lt_trichotomy g h with q | q | q
 ·have:=(b.b g a.le).2 q
  have:=(a.b h b.le).1
  lia
 ·exact q
 ·have:=(a.b h b.le).2 q
  have:=(b.b g a.le).1
  lia
def gp0 (f b:Int) (A:List Rw):Nat:=fm (fun g=>pri (jn f b g A)) A.length
def best (f b:Int) (A:List Rw):List Sp2:=jn f b (gp0 f b A) A
def allJ (n:Nat):Int→List Rw→List Rw→List Sp2
 | f,A,[]=>best f n A
 | f,A,r::rs=>if 0 < r.pn then best f r.st A++(r,(r.st:Int))::allJ n ((r.st:Int) + (r.sz:Int)) [] rs else allJ n f (A++[r]) rs
abbrev S3:=Int×Int×List Rw
def strB (n:Nat):Int→List Rw→List Rw→List S3
 | f,A,[]=>[(f,(n:Int),A)]
 | f,A,r::rs=>if 0 < r.pn then (f,(r.st:Int),A)::strB n ((r.st:Int) + (r.sz:Int)) [] rs else strB n f (A++[r]) rs
def toW (w:S3):Int×Int×Int:=(w.1,w.2.1,w.2.1 - w.1 - szs w.2.2)
theorem strB_G (n:Nat) (rs:List Rw):∀(f:Int) (A:List Rw),(strB n f A rs).map toW=strG n f (szs A) rs:=by
 induction rs with
 | nil=>intro f A;rfl
 | cons r rs ih =>
  intro f A
  rw [strB,strG]
  split
  ·rw [List.map_cons,ih];rfl
  ·rw [ih,szs_app]
   rw [szs_cons,szs_nil,Int.add_zero]
theorem szs_fit {b:Int}:∀(A:List Rw) (f:Int),A.Pairwise (fun r s=>r.st + r.sz≤s.st)→(∀r∈A,f≤(r.st:Int)∧(r.st:Int) + (r.sz:Int)≤b)→f≤b→f + szs A≤b:=by
 intro A
 induction A with
 | nil=>intro f _ _ h;rw [szs_nil];lia
 | cons r A ih =>
  intro f p h hf
  obtain ⟨p1,p2⟩:=List.pairwise_cons.mp p
  have h1:=h r (.head _)
  have:=ih ((r.st:Int) + (r.sz:Int)) p2 (fun s hs=>⟨by have:=p1 s hs;lia,(h s (.tail _ hs)).2⟩) h1.2
  rw [szs_cons]
  lia
def inI (f b:Int) (r:Rw):Bool:=decide (f≤(r.st:Int)) && decide ((r.st:Int) < b)
theorem inI_all {f b:Int} {B:List Rw} (h:∀r∈B,f≤(r.st:Int)∧(r.st:Int) < b):B.filter (inI f b)=B:=List.filter_eq_self.mpr fun r hr=>by
 have:=h r hr
 unfold inI
 rw [decide_eq_true this.1,decide_eq_true this.2]
 rfl
theorem inI_none {f b:Int} {B:List Rw} (h:∀r∈B,(r.st:Int) < f∨b≤(r.st:Int)):B.filter (inI f b)=[]:=List.filter_eq_nil_iff.mpr fun r hr=>by
 unfold inI
 rcases h r hr with h | h
 ·rw [decide_eq_false (by lia)];simp
 ·rw [decide_eq_false (p:=(r.st:Int) < b) (by lia)];simp
structure StrOk (r0:List Rw) (n:Nat) (w:S3):Prop where
 flt:r0.filter (inI w.1 w.2.1)=w.2.2
 un:∀r∈w.2.2,r.pn=0
 fit:w.1 + szs w.2.2≤w.2.1
 lo:0≤w.1
 hi:w.2.1≤(n:Int)
theorem strB_in {n:Nat} {r0:List Rw} (ok:OkA 0 n r0):∀(rs Z A:List Rw) (f:Int),r0=Z++A++rs→(∀a∈Z,(a.st:Int) < f)→(∀b∈A,f≤(b.st:Int))→(∀s∈rs,f≤(s.st:Int))→(∀b∈A,b.pn=0)→0≤f→f≤(n:Int) →
  ∀w∈strB n f A rs,StrOk r0 n w:=by
 intro rs
 induction rs with
 | nil =>
  intro Z A f e hZ hA _ hu h0 hn w hw
  rw [strB] at hw
  rw [List.mem_singleton.mp hw]
  have aw:=ok.asc
  rw [e,List.append_nil,List.pairwise_append] at aw
  refine ⟨?_,hu,szs_fit A f aw.2.1 (fun r hr=>⟨hA r hr,by have:=ok.bd r (by rw [e];simp [hr]);show (r.st:Int) + (r.sz:Int)≤(n:Int);lia⟩) hn,h0,Int.le_refl _⟩
  rw [e,List.append_nil,List.filter_append,inI_none fun r hr=>.inl (hZ r hr),inI_all fun r hr=>⟨hA r hr,by have:=ok.bd r (by rw [e];simp [hr]);show (r.st:Int) < n;lia⟩]
  rfl
 | cons r rs ih =>
  intro Z A f e hZ hA hs hu h0 hn w hw
  have aw:=ok.asc
  rw [e,List.pairwise_append] at aw
  have aw1:=List.pairwise_append.mp aw.1
  have aw2:=List.pairwise_cons.mp aw.2.1
  have br:=ok.bd r (by rw [e];simp)
  rw [strB] at hw
  by_cases hp:0 < r.pn
  ·rw [if_pos hp] at hw
   rcases List.mem_cons.mp hw with rfl | hw
   ·have hx:∀a∈A,a.st + a.sz≤r.st:=fun a ha=>aw.2.2 a (by simp [ha]) r (by simp)
    refine ⟨?_,hu,szs_fit A f aw1.2.1 (fun a ha=>⟨hA a ha,by have:=hx a ha;show (a.st:Int) + a.sz≤r.st;lia⟩) (hs r (.head _)),h0,by show (r.st:Int)≤n;lia⟩
    show r0.filter (inI f r.st)=A
    rw [e,List.filter_append,List.filter_append,inI_none fun r hr=>.inl (hZ r hr),inI_all fun a ha=>⟨hA a ha,by have:=hx a ha;have:=ok.bd a (by rw [e];simp [ha]);lia⟩,inI_none (B:=r::rs) fun s hs=>.inr (by
     rcases List.mem_cons.mp hs with rfl | hs
     ·lia
     ·have:=aw2.1 s hs;lia)]
    simp
   ·exact ih (Z++A++[r]) [] ((r.st:Int) + (r.sz:Int)) (by rw [e];simp) (fun a ha=>by
     rcases List.mem_append.mp ha with ha | ha
     ·have:=aw.2.2 a ha r (by simp);have:=ok.bd a (by rw [e];exact List.mem_append_left _ ha);lia
     ·rw [List.mem_singleton.mp ha];lia) (fun b hb=>by cases hb) (fun s hs=>by have:=aw2.1 s hs;lia) (fun b hb=>by cases hb) (by lia) (by lia) w hw
  ·rw [if_neg hp] at hw
   exact ih Z (A++[r]) f (by rw [e];simp) hZ (fun b hb=>by
    rcases List.mem_append.mp hb with hb | hb
    ·exact hA b hb
    ·rw [List.mem_singleton.mp hb];exact hs r (.head _)) (fun s h=>hs s (.tail _ h)) (fun b hb=>by
    rcases List.mem_append.mp hb with hb | hb
    ·exact hu b hb
    ·rw [List.mem_singleton.mp hb];lia) h0 hn w hw
theorem strB_ok {n:Nat} {rs:List Rw} (ok:OkA 0 n rs):∀w∈strB n 0 [] rs,StrOk rs n w:=strB_in ok rs [] [] 0 rfl (fun _ h=>by cases h) (fun _ h=>by cases h) (fun s _=>by lia) (fun _ h=>by cases h) (Int.le_refl _) (by lia)
theorem allJ_B (n:Nat) (rs:List Rw):∀(f:Int) (A:List Rw),mv (allJ n f A rs)=(strB n f A rs).flatMap fun w=>mv (best w.1 w.2.1 w.2.2):=by
 induction rs with
 | nil=>intro f A;simp [allJ,strB]
 | cons r rs ih =>
  intro f A
  rw [allJ,strB]
  split
  ·rw [mv_app,List.flatMap_cons,← ih]
   congr 1
   unfold mv
   rw [List.filter_cons_of_neg (by simp)]
  ·exact ih f _
theorem best_fst (f b:Int) (A:List Rw):(best f b A).map (·.1)=A:=jn_fst ..
theorem allJ_fst (n:Nat) (rs:List Rw):∀(f:Int) (A:List Rw),(allJ n f A rs).map (·.1)=A++rs:=by
 induction rs with
 | nil=>intro f A;rw [allJ,best_fst,List.append_nil]
 | cons r rs ih =>
  intro f A
  rw [allJ]
  split
  ·rw [List.map_append,List.map_cons,ih,best_fst];rfl
  ·rw [ih,List.append_assoc];rfl
def ChS (b:Int):Int→List Sp2→Prop
 | e,[]=>e≤b
 | e,s::ss=>e≤s.2∧ChS b (s.2 + (s.1.sz:Int)) ss
theorem ChS.mono {b:Int}:∀{ss:List Sp2} {e e':Int},ChS b e ss→e'≤e→ChS b e' ss
 | [],_,_,h,l=>Int.le_trans l h
 | _::_,_,_,h,l=>⟨Int.le_trans l h.1,h.2⟩
theorem ChS.app {b c:Int} {ys:List Sp2}:∀{xs:List Sp2} {e:Int},ChS c e xs→ChS b c ys→ChS b e (xs++ys)
 | [],_,h,g=>g.mono h
 | _::_,_,h,g=>⟨h.1,ChS.app h.2 g⟩
theorem plc_ch {b:Int}:∀(A:List Rw) (a:Int),a + szs A≤b→ChS b a (plc a A):=by
 intro A
 induction A with
 | nil=>intro a h;rw [szs_nil] at h;show a≤b;lia
 | cons r A ih =>
  intro a h
  rw [szs_cons] at h
  exact ⟨Int.le_refl _,ih _ (by show a + (r.sz:Int) + szs A≤b;lia)⟩
theorem jn_ch {f b:Int} {A:List Rw} (g:Nat) (h:f + szs A≤b):ChS b f (jn f b g A):=by
 have:=szs_take A g
 exact ChS.app (c:=b - szs (A.drop g)) (plc_ch _ _ (by lia)) (plc_ch _ _ (by lia))
theorem allJ_ch {n:Nat} {r0:List Rw} (ok:OkA 0 n r0):∀(rs Z A:List Rw) (f:Int),r0=Z++A++rs→(∀b∈A,f≤(b.st:Int))→(∀s∈rs,f≤(s.st:Int))→f≤(n:Int)→ChS n f (allJ n f A rs):=by
 intro rs
 induction rs with
 | nil =>
  intro Z A f e hA _ hn
  have aw:=ok.asc
  rw [e,List.append_nil,List.pairwise_append] at aw
  exact jn_ch _ (szs_fit A f aw.2.1 (fun r hr=>⟨hA r hr,by have:=ok.bd r (by rw [e];simp [hr]);lia⟩) hn)
 | cons r rs ih =>
  intro Z A f e hA hs hn
  have aw:=ok.asc
  rw [e,List.pairwise_append] at aw
  have aw1:=List.pairwise_append.mp aw.1
  have aw2:=List.pairwise_cons.mp aw.2.1
  have br:=ok.bd r (by rw [e];simp)
  rw [allJ]
  split
  ·refine ChS.app (c:=(r.st:Int)) (jn_ch _ (szs_fit A f aw1.2.1 (fun a ha=>⟨hA a ha,by have:=aw.2.2 a (by simp [ha]) r (by simp);lia⟩) (hs r (.head _)))) ⟨Int.le_refl _,?_⟩
   exact ih (Z++A++[r]) [] _ (by rw [e];simp) (fun b hb=>by cases hb) (fun s hs=>by have:=aw2.1 s hs;show (r.st:Int) + (r.sz:Int)≤s.st;lia) (by show (r.st:Int) + (r.sz:Int)≤n;lia)
  ·exact ih Z (A++[r]) f (by rw [e];simp) (fun b hb=>by
    rcases List.mem_append.mp hb with hb | hb
    ·exact hA b hb
    ·rw [List.mem_singleton.mp hb];exact hs r (.head _)) (fun s h=>hs s (.tail _ h)) hn
theorem allJ_pin (n:Nat) (rs:List Rw):∀(f:Int) (A:List Rw),(∀b∈A,b.pn=0)→∀s∈allJ n f A rs,0 < s.1.pn→s.2=(s.1.st:Int):=by
 have hb:∀(f b:Int) (A:List Rw),(∀r∈A,r.pn=0)→∀s∈best f b A,¬ 0 < s.1.pn:=fun f b A h s hs=>by
  have:s.1∈A:=by rw [← best_fst f b A];exact List.mem_map_of_mem hs
  rw [h _ this];lia
 induction rs with
 | nil=>intro f A h s hs hp;exact absurd hp (hb _ _ _ h s hs)
 | cons r rs ih =>
  intro f A h s hs hp
  rw [allJ] at hs
  by_cases q:0 < r.pn
  ·rw [if_pos q] at hs
   rcases List.mem_append.mp hs with hs | hs
   ·exact absurd hp (hb _ _ _ h s hs)
   ·rcases List.mem_cons.mp hs with rfl | hs
    ·rfl
    ·exact ih _ [] (fun b hb=>by cases hb) s hs hp
  ·rw [if_neg q] at hs
   exact ih f (A++[r]) (fun b hb=>by
    rcases List.mem_append.mp hb with hb | hb
    ·exact h b hb
    ·rw [List.mem_singleton.mp hb];lia) s hs hp
def mid (s:Sp2):Rw:=if s.2 < (s.1.st:Int) then putS s.1 s.2.toNat else s.1
def tgt (s:Sp2):Rw:=putS s.1 s.2.toNat
def lm:Nat→List Sp2→List Mv
 | _,[]=>[]
 | k,s::ss=>if s.2 < (s.1.st:Int) then (k,s.1.nm,s.2.toNat)::lm (k + 1) ss else lm (k + 1) ss
def rm:List Sp2→List Mv
 | []=>[]
 | s::ss=>if (s.1.st:Int) < s.2 then (ss.length,s.1.nm,s.2.toNat)::rm ss else rm ss
theorem wok_app {n:Nat}:∀{a:List Mv} {b:List Mv} {T:List Rw},WOk n T a→WOk n (wEnd T a) b→WOk n T (a++b)
 | [],_,_,_,g=>g
 | _::_,_,_,h,g=>⟨h.1,wok_app h.2 g⟩
theorem wpr_app:∀(a b:List Mv) (T:List Rw),wPrice T (a++b)=wPrice T a + wPrice (wEnd T a) b
 | [],_,_=>by show _=0 + _;rw [Nat.zero_add];rfl
 | m::a,b,T=>by
  show wPr T m + wPrice (mvT T m.1 m.2.2) (a++b)=wPr T m + wPrice (mvT T m.1 m.2.2) a + _
  rw [wpr_app a b,Nat.add_assoc]
  rfl
def ml (ss:List Sp2):List Sp2:=ss.filter fun s=>decide (s.2 < (s.1.st:Int))
def mr (ss:List Sp2):List Sp2:=ss.filter fun s=>decide ((s.1.st:Int) < s.2)
def szN (ss:List Sp2):Nat:=(ss.map fun s=>s.1.sz).sum
theorem lm_walk {n:Nat} (L:List Sp2):∀(P:List Rw) (e:Int),(endS P:Int)≤e→ChS n e L→OkA 0 n (L.map (·.1))→(∀s∈L,0 < s.1.pn→s.2=(s.1.st:Int)) →
  WOk n (P++L.map (·.1)) (lm P.length L)∧wEnd (P++L.map (·.1)) (lm P.length L)=P++L.map mid∧wPrice (P++L.map (·.1)) (lm P.length L)=szN (ml L):=by
 induction L with
 | nil=>intro P e _ _ _ _;exact ⟨trivial,rfl,rfl⟩
 | cons s L ih =>
  intro P e he ch ok pin
  have h1:0≤s.1.st∧1≤s.1.sz∧s.1.st + s.1.sz≤n:=ok.hd
  have h2:OkA (s.1.st + s.1.sz) n (L.map (·.1)):=ok.tail
  have hl:(P++[mid s]).length=P.length + 1:=by simp
  by_cases q:s.2 < (s.1.st:Int)
  ·have hm:mid s=putS s.1 s.2.toNat:=if_pos q
   have he2:0≤e:=by lia
   have h0:=ch.1
   have i:=ih (P++[mid s]) (s.2 + (s.1.sz:Int)) (by rw [endS_snoc,hm];show (((s.2.toNat + s.1.sz:Nat)):Int)≤_;lia) ch.2 ⟨h2.asc,fun r hr=>⟨Nat.zero_le _,(h2.bd r hr).2⟩⟩ (fun s hs=>pin s (.tail _ hs))
   rw [hl,List.append_assoc,List.append_assoc,List.singleton_append,List.singleton_append] at i
   rw [show lm P.length (s::L)=(P.length,s.1.nm,s.2.toNat)::lm (P.length + 1) L by rw [lm,if_pos q],List.map_cons,List.map_cons]
   have hmv:mvT (P++s.1::L.map (·.1)) P.length s.2.toNat=P++mid s::L.map (·.1):=by rw [mvT_mid,hm]
   refine ⟨⟨⟨s.1,mid_at _ _ _,rfl,?_,?_,?_⟩,?_⟩,?_,?_⟩
   ·have:=pin s (.head _)
    lia
   ·show lowT (P++s.1::L.map (·.1)) P.length≤s.2.toNat
    rw [mid_low]
    lia
   ·show s.2.toNat + s.1.sz≤highT n (P++s.1::L.map (·.1)) P.length
    rw [mid_high]
    have hn:=h1.2.2
    generalize hR:L.map (·.1)=R at h2
    cases R with
    | nil=>show s.2.toNat + s.1.sz≤n;lia
    | cons t R=>have:=(h2.hd).1;show s.2.toNat + s.1.sz≤t.st;lia
   ·show WOk n (mvT (P++s.1::L.map (·.1)) P.length s.2.toNat) _
    rw [hmv];exact i.1
   ·show wEnd (mvT (P++s.1::L.map (·.1)) P.length s.2.toNat) _=_
    rw [hmv];exact i.2.1
   ·show wPr (P++s.1::L.map (·.1)) (P.length,s.1.nm,s.2.toNat) + wPrice (mvT (P++s.1::L.map (·.1)) P.length s.2.toNat) _=_
    rw [hmv,i.2.2]
    have e1:wPr (P++s.1::L.map (·.1)) (P.length,s.1.nm,s.2.toNat)=s.1.sz:=by
     simp only [wPr,mid_at]
     rw [if_neg (by lia)]
    rw [e1]
    unfold ml szN
    rw [List.filter_cons_of_pos (by simpa using q),List.map_cons,List.sum_cons]
  ·have hm:mid s=s.1:=if_neg q
   have i:=ih (P++[mid s]) (s.2 + (s.1.sz:Int)) (by rw [endS_snoc,hm];lia) ch.2 ⟨h2.asc,fun r hr=>⟨Nat.zero_le _,(h2.bd r hr).2⟩⟩ (fun s hs=>pin s (.tail _ hs))
   rw [hl,List.append_assoc,List.append_assoc,List.singleton_append,List.singleton_append] at i
   rw [show lm P.length (s::L)=lm (P.length + 1) L by rw [lm,if_neg q],List.map_cons,List.map_cons]
   rw [hm] at i ⊢
   refine ⟨i.1,i.2.1,?_⟩
   rw [i.2.2]
   unfold ml
   rw [List.filter_cons_of_neg (by simpa using q)]
def ChD:Int→List Sp2→Prop
 | _,[]=>True
 | b,s::ss=>s.2 + (s.1.sz:Int)≤b∧ChD s.2 ss
theorem ChS.le {b:Int}:∀{ss:List Sp2} {e:Int},ChS b e ss→e≤b∧∀s∈ss,e≤s.2∧s.2 + (s.1.sz:Int)≤b
 | [],_,h=>⟨h,fun _ z=>by cases z⟩
 | s::ss,e,h=>by
  obtain ⟨i1,i2⟩:=ChS.le h.2
  have:=h.1
  refine ⟨by lia,fun t ht=>?_⟩
  rcases List.mem_cons.mp ht with rfl | ht
  ·exact ⟨h.1,i1⟩
  ·have:=i2 t ht
   exact ⟨by lia,this.2⟩
theorem chd_snoc:∀{xs:List Sp2} {b:Int} {s:Sp2},ChD b xs→(∀t∈xs,s.2 + (s.1.sz:Int)≤t.2)→s.2 + (s.1.sz:Int)≤b→ChD b (xs++[s])
 | [],_,_,_,_,h=>⟨h,trivial⟩
 | x::xs,_,_,g,a,_=>⟨g.1,chd_snoc g.2 (fun t ht=>a t (.tail _ ht)) (a x (.head _))⟩
theorem ChS.rev {b:Int}:∀{ss:List Sp2} {e:Int},ChS b e ss→ChD b ss.reverse
 | [],_,_=>trivial
 | s::ss,e,h=>by
  rw [List.reverse_cons]
  obtain ⟨i1,i2⟩:=ChS.le h.2
  exact chd_snoc (ChS.rev h.2) (fun t ht=>(i2 t (List.mem_reverse.mp ht)).1) i1
theorem mid_eq {s:Sp2} (h:¬ (s.1.st:Int) < s.2):mid s=tgt s:=by
 unfold mid tgt
 by_cases q:s.2 < (s.1.st:Int)
 ·rw [if_pos q]
 ·rw [if_neg q]
  have:s.2.toNat=s.1.st:=by lia
  rw [this]
  rfl
theorem rm_walk {n:Nat} (L:List Sp2):∀(D:List Rw) (b:Int),(begS n D:Int)=b→ChD b L→(L.map (·.1)).Pairwise (fun r s=>s.st + s.sz≤r.st)→(∀s∈L,0≤s.2)→(∀s∈L,0 < s.1.pn→s.2=(s.1.st:Int)) →
  WOk n ((L.map mid).reverse++D) (rm L)∧wEnd ((L.map mid).reverse++D) (rm L)=(L.map tgt).reverse++D∧wPrice ((L.map mid).reverse++D) (rm L)=szN (mr L):=by
 induction L with
 | nil=>intro D b _ _ _ _ _;exact ⟨trivial,rfl,rfl⟩
 | cons s L ih =>
  intro D b he ch pw nn pin
  obtain ⟨p1,p2⟩:=List.pairwise_cons.mp (show ((s.1::L.map (·.1)).Pairwise (fun r s=>s.st + s.sz≤r.st)) from pw)
  have h0:=nn s (.head _)
  have hc:=ch.1
  have i:=ih (tgt s::D) s.2 (by show ((s.2.toNat:Nat):Int)=s.2;lia) ch.2 p2 (fun s hs=>nn s (.tail _ hs)) (fun s hs=>pin s (.tail _ hs))
  rw [List.map_cons,List.map_cons,List.reverse_cons,List.reverse_cons,List.append_assoc,List.append_assoc,List.singleton_append,List.singleton_append]
  by_cases q:(s.1.st:Int) < s.2
  ·have hm:mid s=s.1:=if_neg (by lia)
   have hl:L.length=(L.map mid).reverse.length:=by simp
   rw [show rm (s::L)=(L.length,s.1.nm,s.2.toNat)::rm L by rw [rm,if_pos q],hm]
   have hmv:mvT ((L.map mid).reverse++s.1::D) L.length s.2.toNat=(L.map mid).reverse++tgt s::D:=by rw [hl,mvT_mid];rfl
   have hat:((L.map mid).reverse++s.1::D)[L.length]?=some s.1:=by rw [hl];exact mid_at _ _ _
   refine ⟨⟨⟨s.1,hat,rfl,?_,?_,?_⟩,?_⟩,?_,?_⟩
   ·have:=pin s (.head _)
    lia
   ·show lowT ((L.map mid).reverse++s.1::D) L.length≤s.2.toNat
    rw [hl,mid_low]
    cases L with
    | nil=>exact Nat.zero_le _
    | cons t L =>
     rw [List.map_cons,List.reverse_cons,endS_snoc]
     have a1:=p1 t.1 (by simp)
     have a2:=ch.2.1
     have a3:=nn t (by simp)
     unfold mid
     split
     ·show t.2.toNat + t.1.sz≤_;lia
     ·show t.1.st + t.1.sz≤_;lia
   ·show s.2.toNat + s.1.sz≤highT n ((L.map mid).reverse++s.1::D) L.length
    rw [hl,mid_high]
    cases D with
    | nil=>simp only [begS] at he;show s.2.toNat + s.1.sz≤n;lia
    | cons t D=>simp only [begS] at he;show s.2.toNat + s.1.sz≤t.st;lia
   ·show WOk n (mvT ((L.map mid).reverse++s.1::D) L.length s.2.toNat) _
    rw [hmv];exact i.1
   ·show wEnd (mvT ((L.map mid).reverse++s.1::D) L.length s.2.toNat) _=_
    rw [hmv];exact i.2.1
   ·show wPr ((L.map mid).reverse++s.1::D) (L.length,s.1.nm,s.2.toNat) + wPrice (mvT ((L.map mid).reverse++s.1::D) L.length s.2.toNat) _=_
    rw [hmv,i.2.2]
    have e1:wPr ((L.map mid).reverse++s.1::D) (L.length,s.1.nm,s.2.toNat)=s.1.sz:=by
     simp only [wPr,hat]
     rw [if_neg (by lia)]
    rw [e1]
    unfold mr szN
    rw [List.filter_cons_of_pos (by simpa using q),List.map_cons,List.sum_cons]
  ·rw [show rm (s::L)=rm L by rw [rm,if_neg q],mid_eq q]
   refine ⟨i.1,i.2.1,?_⟩
   rw [i.2.2]
   unfold mr
   rw [List.filter_cons_of_neg (by simpa using q)]
def tdyM (L:List Sp2):List Mv:=lm 0 L++rm L.reverse
theorem tdy_walk {n:Nat} {L:List Sp2} (ch:ChS n 0 L) (ok:OkA 0 n (L.map (·.1))) (pin:∀s∈L,0 < s.1.pn→s.2=(s.1.st:Int)) :
  WOk n (L.map (·.1)) (tdyM L)∧wPrice (L.map (·.1)) (tdyM L)=szN (ml L) + szN (mr L.reverse):=by
 have a:=lm_walk L [] 0 (Int.le_refl _) ch ok pin
 have c:=ChS.le ch
 have b:=rm_walk (n:=n) L.reverse [] n rfl (ChS.rev ch) (by rw [List.map_reverse];exact List.pairwise_reverse.mpr ok.asc) (fun s hs=>(c.2 s (List.mem_reverse.mp hs)).1) (fun s hs=>pin s (List.mem_reverse.mp hs))
 rw [List.map_reverse,List.reverse_reverse,List.append_nil] at b
 simp only [List.nil_append,List.length_nil] at a
 unfold tdyM
 refine ⟨wok_app a.1 (by rw [a.2.1];exact b.1),?_⟩
 rw [wpr_app,a.2.1,a.2.2,b.2.2]
theorem mv_split (L:List Sp2):((ml L).map fun s=>(s.1.sz:Int)).sum + ((mr L).map fun s=>(s.1.sz:Int)).sum=pri L:=by
 unfold pri ml mr mv
 induction L with
 | nil=>rfl
 | cons s L ih =>
  by_cases q:s.2 < (s.1.st:Int)
  ·rw [List.filter_cons_of_pos (by simpa using q),List.filter_cons_of_neg (by simp;lia),List.filter_cons_of_pos (by simp;lia),List.map_cons,List.map_cons,List.sum_cons,List.sum_cons]
   lia
  ·by_cases q2:(s.1.st:Int) < s.2
   ·rw [List.filter_cons_of_neg (by simpa using q),List.filter_cons_of_pos (by simpa using q2),List.filter_cons_of_pos (by simp;lia),List.map_cons,List.map_cons,List.sum_cons,List.sum_cons]
    lia
   ·rw [List.filter_cons_of_neg (by simpa using q),List.filter_cons_of_neg (by simpa using q2),List.filter_cons_of_neg (by simp;lia)]
    exact ih
theorem szN_cast (L:List Sp2):((szN L:Nat):Int)=(L.map fun s=>(s.1.sz:Int)).sum:=by
 unfold szN
 induction L with
 | nil=>rfl
 | cons s L ih=>rw [List.map_cons,List.map_cons,List.sum_cons,List.sum_cons,← ih];lia
theorem mr_rev (L:List Sp2):mr L.reverse=(mr L).reverse:=List.filter_reverse ..
theorem tdy_price {n:Nat} {L:List Sp2} (ch:ChS n 0 L) (ok:OkA 0 n (L.map (·.1))) (pin:∀s∈L,0 < s.1.pn→s.2=(s.1.st:Int)):((wPrice (L.map (·.1)) (tdyM L):Nat):Int)=pri L:=by
 rw [(tdy_walk ch ok pin).2,← mv_split,Int.natCast_add,szN_cast,szN_cast,mr_rev,sum_perm ((List.reverse_perm (mr L)).map _)]
theorem lm_nm (L:List Sp2):∀k,(lm k L).map (fun m=>(m.2.1,((m.2.2:Nat):Int)))=(ml L).map fun s=>(s.1.nm,((s.2.toNat:Nat):Int)):=by
 induction L with
 | nil=>intro k;rfl
 | cons s L ih =>
  intro k
  unfold ml
  by_cases q:s.2 < (s.1.st:Int)
  ·rw [lm,if_pos q,List.filter_cons_of_pos (by simpa using q),List.map_cons,List.map_cons,ih];rfl
  ·rw [lm,if_neg q,List.filter_cons_of_neg (by simpa using q),ih];rfl
theorem rm_nm (L:List Sp2):(rm L).map (fun m=>(m.2.1,((m.2.2:Nat):Int)))=(mr L).map fun s=>(s.1.nm,((s.2.toNat:Nat):Int)):=by
 induction L with
 | nil=>rfl
 | cons s L ih =>
  unfold mr
  by_cases q:(s.1.st:Int) < s.2
  ·rw [rm,if_pos q,List.filter_cons_of_pos (by simpa using q),List.map_cons,List.map_cons,ih];rfl
  ·rw [rm,if_neg q,List.filter_cons_of_neg (by simpa using q),ih];rfl
def ordJ (L:List Sp2):List Sp2:=ml L++(mr L).reverse
theorem tdy_told {L:List Sp2} (nn:∀s∈L,0≤s.2):(tdyM L).map (fun m=>(m.2.1,((m.2.2:Nat):Int)))=(ordJ L).map fun s=>(s.1.nm,s.2):=by
 unfold tdyM ordJ
 rw [List.map_append,lm_nm,rm_nm,mr_rev,← List.map_append]
 refine List.map_congr_left fun s hs=>?_
 have:0≤s.2:=nn s (by
  rcases List.mem_append.mp hs with hs | hs
  ·exact (List.mem_filter.mp hs).1
  ·exact (List.mem_filter.mp (List.mem_reverse.mp hs)).1)
 congr 1
 lia
end M87
namespace M88
open L2 M82 M87
def Arr (b:Int):Int→List Rw→List Int→Prop
 | e,[],[]=>e≤b
 | e,r::rs,t::ts=>e≤t∧(0 < r.pn→t=(r.st:Int))∧Arr b (t + r.sz) rs ts
 | _,_,_=>False
def hls (b:Int):Int→List Rw→List Int→Nat
 | e,r::rs,t::ts=>(if e < t then 1 else 0) + hls b (t + r.sz) rs ts
 | e,_,_=>if e < b then 1 else 0
def prc:List Rw→List Int→Int
 | r::rs,t::ts=>(if t=(r.st:Int) then 0 else (r.sz:Int)) + prc rs ts
 | _,_=>0
theorem Arr.le {b:Int}:∀{e:Int} {rs:List Rw} {ts:List Int},Arr b e rs ts→e + szs rs≤b
 | e,[],[],h=>by rw [szs_nil];have:e≤b:=h;lia
 | e,r::rs,t::ts,h=>by
  have:=h.2.2.le
  rw [szs_cons]
  have:=h.1
  lia
 | e,[],_::_,h=>h.elim
 | e,_::_,[],h=>h.elim
theorem arr_part {b:Int} {p:Rw} (pp:0 < p.pn) {rest:List Rw}:∀{e:Int} {A:List Rw} {ts:List Int},Arr b e (A++p::rest) ts→∃ta tr,ts=ta++(p.st:Int)::tr∧Arr p.st e A ta∧Arr b ((p.st:Int) + p.sz) rest tr∧hls b e (A++p::rest) ts=hls p.st e A ta + hls b ((p.st:Int) + p.sz) rest tr∧prc (A++p::rest) ts=prc A ta + prc rest tr
 | e,[],[],h=>h.elim
 | e,[],t::ts,h=>by
  obtain ⟨h1,h2,h3⟩:=h
  have e2:=h2 pp
  subst e2
  refine ⟨[],ts,rfl,h1,h3,?_,?_⟩
  ·show (if e < (p.st:Int) then 1 else 0) + _=(if e < (p.st:Int) then 1 else 0) + _
   rfl
  ·show (if (p.st:Int)=(p.st:Int) then 0 else (p.sz:Int)) + prc rest ts=0 + prc rest ts
   rw [if_pos rfl]
 | e,r::A,[],h=>h.elim
 | e,r::A,t::ts,h=>by
  obtain ⟨h1,h2,h3⟩:=h
  obtain ⟨ta,tr,e1,a1,a2,a3,a4⟩:=arr_part pp (A:=A) h3
  refine ⟨t::ta,tr,by rw [e1];rfl,⟨h1,h2,a1⟩,a2,?_,?_⟩
  ·show (if e < t then 1 else 0) + hls b (t + r.sz) (A++p::rest) ts=(if e < t then 1 else 0) + hls p.st (t + r.sz) A ta + _
   rw [a3]
   lia
  ·show (if t=(r.st:Int) then 0 else (r.sz:Int)) + prc (A++p::rest) ts=(if t=(r.st:Int) then 0 else (r.sz:Int)) + prc A ta + prc rest tr
   rw [a4]
   lia
theorem arr_join {b:Int} {p:Rw} {rest:List Rw} {tr:List Int} (h2:Arr b ((p.st:Int) + p.sz) rest tr):∀{e:Int} {A:List Rw} {ta:List Int},Arr p.st e A ta→Arr b e (A++p::rest) (ta++(p.st:Int)::tr)∧hls b e (A++p::rest) (ta++(p.st:Int)::tr)=hls p.st e A ta + hls b ((p.st:Int) + p.sz) rest tr∧prc (A++p::rest) (ta++(p.st:Int)::tr)=prc A ta + prc rest tr
 | e,[],[],h=>by
  refine ⟨⟨h,fun _=>rfl,h2⟩,rfl,?_⟩
  show (if (p.st:Int)=(p.st:Int) then 0 else (p.sz:Int)) + prc rest tr=0 + prc rest tr
  rw [if_pos rfl]
 | e,[],_::_,h=>h.elim
 | e,_::_,[],h=>h.elim
 | e,r::A,t::ta,h=>by
  obtain ⟨a,c,d⟩:=arr_join h2 h.2.2
  refine ⟨⟨h.1,h.2.1,a⟩,?_,?_⟩
  ·show (if e < t then 1 else 0) + hls b (t + r.sz) (A++p::rest) (ta++(p.st:Int)::tr)=(if e < t then 1 else 0) + hls p.st (t + r.sz) A ta + _
   rw [c]
   lia
  ·show (if t=(r.st:Int) then 0 else (r.sz:Int)) + prc (A++p::rest) (ta++(p.st:Int)::tr)=(if t=(r.st:Int) then 0 else (r.sz:Int)) + prc A ta + prc rest tr
   rw [d]
   lia
theorem hls_pos {b:Int}:∀{e:Int} {A:List Rw} {ts:List Int},Arr b e A ts→e + szs A < b→1≤hls b e A ts
 | e,[],[],h,hf=>by
  show 1≤(if e < b then 1 else 0)
  rw [szs_nil] at hf
  rw [if_pos (by lia)]
  exact Nat.le_refl 1
 | e,r::A,t::ts,h,hf=>by
  rw [szs_cons] at hf
  show 1≤(if e < t then 1 else 0) + hls b (t + r.sz) A ts
  by_cases c:e < t
  ·rw [if_pos c];lia
  ·have:=hls_pos h.2.2 (by have:=h.1;lia)
   lia
 | e,[],_::_,h,_=>h.elim
 | e,_::_,[],h,_=>h.elim
theorem hls_zero {b:Int}:∀{e:Int} {A:List Rw} {ts:List Int},Arr b e A ts→hls b e A ts=0→ts=(plc e A).map (·.2)∧e + szs A=b
 | e,[],[],h,hz=>by
  have hz:(if e < b then 1 else 0)=0:=hz
  have h:e≤b:=h
  rw [szs_nil]
  refine ⟨rfl,?_⟩
  split at hz
  ·cases hz
  ·lia
 | e,r::A,t::ts,h,hz=>by
  have hz:(if e < t then 1 else 0) + hls b (t + r.sz) A ts=0:=hz
  obtain ⟨h1,h2,h3⟩:=h
  have c:¬ e < t:=fun c=>by rw [if_pos c] at hz;lia
  have et:t=e:=by lia
  subst et
  obtain ⟨a1,a2⟩:=hls_zero h3 (by lia)
  rw [szs_cons,plc,List.map_cons,← a1]
  exact ⟨rfl,by lia⟩
 | e,[],_::_,h,_=>h.elim
 | e,_::_,[],h,_=>h.elim
theorem hls_one {b:Int}:∀{e:Int} {A:List Rw} {ts:List Int},Arr b e A ts→hls b e A ts≤1→∃g,g≤A.length∧ts=(jn e b g A).map (·.2)
 | e,[],[],h,hz=>⟨0,Nat.le_refl _,rfl⟩
 | e,r::A,t::ts,h,hz=>by
  have hz:(if e < t then 1 else 0) + hls b (t + r.sz) A ts≤1:=hz
  obtain ⟨h1,h2,h3⟩:=h
  by_cases c:e < t
  ·rw [if_pos c] at hz
   obtain ⟨a1,a2⟩:=hls_zero h3 (by lia)
   refine ⟨0,Nat.zero_le _,?_⟩
   unfold jn
   rw [List.take_zero,List.drop_zero,szs_cons,show b - ((r.sz:Int) + szs A)=t by lia]
   show t::ts=(plc t (r::A)).map (·.2)
   rw [plc,List.map_cons,← a1]
  ·have et:t=e:=by lia
   subst et
   obtain ⟨g,g1,g2⟩:=hls_one h3 (by lia)
   refine ⟨g + 1,by simpa using g1,?_⟩
   rw [g2]
   unfold jn
   rw [List.take_succ_cons,List.drop_succ_cons,plc]
   rfl
 | e,[],_::_,h,_=>h.elim
 | e,_::_,[],h,_=>h.elim
theorem arr_plc {b:Int}:∀{A:List Rw} {e:Int},(∀r∈A,r.pn=0)→e + szs A≤b→Arr b e A ((plc e A).map (·.2))∧hls b e A ((plc e A).map (·.2))=if e + szs A < b then 1 else 0
 | [],e,_,h=>by
  rw [szs_nil] at h ⊢
  refine ⟨show e≤b by lia,?_⟩
  show (if e < b then 1 else 0)=_
  rw [show e + 0=e by lia]
 | r::A,e,un,h=>by
  rw [szs_cons] at h ⊢
  obtain ⟨a,c⟩:=arr_plc (b:=b) (A:=A) (e:=e + r.sz) (fun s hs=>un s (List.mem_cons_of_mem _ hs)) (by lia)
  refine ⟨⟨Int.le_refl _,fun z=>absurd z (by rw [un r List.mem_cons_self];decide),a⟩,?_⟩
  show (if e < e then 1 else 0) + hls b (e + r.sz) A _=_
  rw [if_neg (by lia),Nat.zero_add]
  rw [show (e:Int) + ((r.sz:Int) + szs A)=e + (r.sz:Int) + szs A by lia]
  exact c
theorem arr_jn {b:Int}:∀{A:List Rw} {e:Int} (g:Nat),(∀r∈A,r.pn=0)→e + szs A≤b→Arr b e A ((jn e b g A).map (·.2))∧hls b e A ((jn e b g A).map (·.2))=if e + szs A < b then 1 else 0
 | A,e,0,un,h=>by
  unfold jn
  rw [List.take_zero,List.drop_zero]
  show Arr b e A ((plc (b - szs A) A).map (·.2))∧_
  cases A with
  | nil=>exact arr_plc un h
  | cons r A =>
   rw [szs_cons] at h ⊢
   have un':∀s∈A,s.pn=0:=fun s hs=>un s (List.mem_cons_of_mem _ hs)
   have hp:¬ 0 < r.pn:=by rw [un r List.mem_cons_self];decide
   obtain ⟨a,c⟩:=arr_plc (b:=b) (A:=A) (e:=b - ((r.sz:Int) + szs A) + r.sz) un' (by lia)
   rw [if_neg (by lia)] at c
   refine ⟨⟨show e≤b - ((r.sz:Int) + szs A) by lia,fun z=>absurd z hp,a⟩,?_⟩
   show (if e < b - ((r.sz:Int) + szs A) then 1 else 0) + hls b (b - ((r.sz:Int) + szs A) + r.sz) A ((plc (b - ((r.sz:Int) + szs A) + r.sz) A).map (·.2))=_
   rw [c,Nat.add_zero]
   by_cases q:e + ((r.sz:Int) + szs A) < b
   ·rw [if_pos q,if_pos (by lia)]
   ·rw [if_neg q,if_neg (by lia)]
 | [],e,g + 1,un,h=>arr_plc un h
 | r::A,e,g + 1,un,h=>by
  have un':∀s∈A,s.pn=0:=fun s hs=>un s (List.mem_cons_of_mem _ hs)
  have hp:¬ 0 < r.pn:=by rw [un r List.mem_cons_self];decide
  rw [szs_cons] at h ⊢
  obtain ⟨a,c⟩:=arr_jn (b:=b) (A:=A) (e:=e + r.sz) g un' (by lia)
  have e1:(jn e b (g + 1) (r::A)).map (·.2)=e::(jn (e + r.sz) b g A).map (·.2):=by
   unfold jn
   rw [List.take_succ_cons,List.drop_succ_cons,plc]
   rfl
  rw [e1]
  refine ⟨⟨Int.le_refl _,fun z=>absurd z hp,a⟩,?_⟩
  show (if e < e then 1 else 0) + hls b (e + r.sz) A _=_
  rw [if_neg (by lia),Nat.zero_add,c,show (e:Int) + ((r.sz:Int) + szs A)=e + (r.sz:Int) + szs A by lia]
theorem prc_pri:∀ss:List Sp2,prc (ss.map (·.1)) (ss.map (·.2))=pri ss
 | []=>rfl
 | s::ss=>by
  have ih:=prc_pri ss
  unfold pri mv at ih ⊢
  show (if s.2=(s.1.st:Int) then 0 else (s.1.sz:Int)) + prc (ss.map (·.1)) (ss.map (·.2))=_
  rw [ih,List.filter_cons]
  by_cases c:s.2=(s.1.st:Int)
  ·rw [if_pos c,if_neg (by simpa using c),Int.zero_add]
  ·rw [if_neg c,if_pos (by simpa using c),List.map_cons,List.sum_cons]
theorem prc_jn (f b:Int) (g:Nat) (A:List Rw):prc A ((jn f b g A).map (·.2))=pri (jn f b g A):=by
 have:=prc_pri (jn f b g A)
 rw [jn_fst] at this
 exact this
def cnt:List S3→Nat
 | []=>0
 | w::ws=>(if w.1 + szs w.2.2 < w.2.1 then 1 else 0) + cnt ws
theorem best_le {f b:Int} {g:Nat} {A:List Rw} (h:g≤A.length):pri (best f b A)≤pri (jn f b g A):=((fm_is (fun g=>pri (jn f b g A)) A.length).b g h).1
theorem one_str {f b:Int} {A:List Rw} {ts:List Int} (h:Arr b f A ts):(if f + szs A < b then 1 else 0)≤hls b f A ts∧(hls b f A ts≤(if f + szs A < b then 1 else 0)→pri (best f b A)≤prc A ts):=by
 constructor
 ·by_cases c:f + szs A < b
  ·rw [if_pos c]
   exact hls_pos h c
  ·rw [if_neg c]
   exact Nat.zero_le _
 ·intro hz
  obtain ⟨g,g1,g2⟩:=hls_one h (Nat.le_trans hz (by split <;> lia))
  rw [g2,prc_jn]
  exact best_le g1
theorem pri_app (a c:List Sp2):pri (a++c)=pri a + pri c:=by
 unfold pri
 rw [mv_app,List.map_append,List.sum_append]
theorem pri_pin (r:Rw) (ss:List Sp2):pri ((r,(r.st:Int))::ss)=pri ss:=by
 unfold pri mv
 rw [List.filter_cons,if_neg (by simp)]
theorem opt_low (n:Nat):∀(rs:List Rw) (f:Int) (A:List Rw) (ts:List Int),Arr n f (A++rs) ts→cnt (strB n f A rs)≤hls n f (A++rs) ts∧(hls n f (A++rs) ts≤cnt (strB n f A rs)→pri (allJ n f A rs)≤prc (A++rs) ts)
 | [],f,A,ts,h=>by
  rw [List.append_nil] at h ⊢
  rw [strB,allJ]
  show (if f + szs A < (n:Int) then 1 else 0) + 0≤_∧(_≤(if f + szs A < (n:Int) then 1 else 0) + 0→_)
  rw [Nat.add_zero]
  exact one_str h
 | r::rs,f,A,ts,h=>by
  by_cases pp:0 < r.pn
  ·obtain ⟨ta,tr,e1,a1,a2,a3,a4⟩:=arr_part pp h
   obtain ⟨o1,o2⟩:=one_str a1
   obtain ⟨i1,i2⟩:=opt_low n rs ((r.st:Int) + r.sz) [] tr a2
   rw [List.nil_append] at i1 i2
   rw [strB,if_pos pp,allJ,if_pos pp,a3,a4,pri_app,pri_pin]
   show (if f + szs A < (r.st:Int) then 1 else 0) + cnt (strB n ((r.st:Int) + r.sz) [] rs)≤_∧(_≤(if f + szs A < (r.st:Int) then 1 else 0) + cnt (strB n ((r.st:Int) + r.sz) [] rs)→_)
   refine ⟨by lia,fun hz=>?_⟩
   have:=o2 (by lia)
   have:=i2 (by lia)
   lia
  ·have e:A++r::rs=(A++[r])++rs:=by rw [List.append_assoc];rfl
   rw [e] at h ⊢
   rw [strB,if_neg pp,allJ,if_neg pp]
   exact opt_low n rs f (A++[r]) ts h
theorem opt_is (n:Nat):∀(rs:List Rw) (f:Int) (A:List Rw),(∀r∈A,r.pn=0)→(∀w∈strB n f A rs,w.1 + szs w.2.2≤w.2.1)→Arr n f (A++rs) ((allJ n f A rs).map (·.2))∧hls n f (A++rs) ((allJ n f A rs).map (·.2))=cnt (strB n f A rs)∧prc (A++rs) ((allJ n f A rs).map (·.2))=pri (allJ n f A rs)
 | [],f,A,un,fit=>by
  rw [List.append_nil,allJ,strB]
  have h:=fit (f,(n:Int),A) (by rw [strB];exact List.mem_cons_self)
  obtain ⟨a,c⟩:=arr_jn (gp0 f n A) un h
  exact ⟨a,by rw [show cnt [(f,(n:Int),A)]=(if f + szs A < (n:Int) then 1 else 0) from rfl];exact c,prc_jn f n _ A⟩
 | r::rs,f,A,un,fit=>by
  by_cases pp:0 < r.pn
  ·rw [strB,if_pos pp] at fit
   obtain ⟨i1,i2,i3⟩:=opt_is n rs ((r.st:Int) + r.sz) [] (fun _ h=>absurd h List.not_mem_nil) fun w hw=>fit w (List.mem_cons_of_mem _ hw)
   rw [List.nil_append] at i1 i2 i3
   obtain ⟨a,c⟩:=arr_jn (gp0 f r.st A) un (fit (f,(r.st:Int),A) List.mem_cons_self)
   obtain ⟨j1,j2,j3⟩:=arr_join (p:=r) i1 a
   rw [allJ,if_pos pp,strB,if_pos pp,List.map_append,List.map_cons,pri_app,pri_pin]
   refine ⟨j1,?_,?_⟩
   ·show hls n f (A++r::rs) ((jn f r.st (gp0 f r.st A) A).map (·.2)++(r.st:Int)::_)=(if f + szs A < (r.st:Int) then 1 else 0) + cnt (strB n ((r.st:Int) + r.sz) [] rs)
    rw [j2,c,i2]
   ·show prc (A++r::rs) ((jn f r.st (gp0 f r.st A) A).map (·.2)++(r.st:Int)::_)=pri (jn f r.st (gp0 f r.st A) A) + _
    rw [j3,prc_jn,i3]
  ·have e:A++r::rs=(A++[r])++rs:=by rw [List.append_assoc];rfl
   rw [strB,if_neg pp] at fit
   rw [e,strB,if_neg pp,allJ,if_neg pp]
   exact opt_is n rs f (A++[r]) (fun s hs=>by
    rcases List.mem_append.mp hs with hs | hs
    ·exact un s hs
    ·rw [List.mem_singleton.mp hs];lia) fit
theorem cnt_G (ws:List S3):cnt ws=((ws.map toW).filter fun w=>decide (0 < w.2.2)).length:=by
 induction ws with
 | nil=>rfl
 | cons w ws ih =>
  show (if w.1 + szs w.2.2 < w.2.1 then 1 else 0) + cnt ws=_
  rw [List.map_cons,List.filter_cons,ih]
  by_cases c:w.1 + szs w.2.2 < w.2.1
  ·rw [if_pos c,if_pos (by show decide (0 < w.2.1 - w.1 - szs w.2.2)=true;exact decide_eq_true (by lia)),List.length_cons]
   lia
  ·rw [if_neg c,if_neg (by show ¬ decide (0 < w.2.1 - w.1 - szs w.2.2)=true;simp only [decide_eq_true_eq];lia)]
   lia
inductive Rc (fr:Int):List Rw→Int→Nat→Int→Prop where
 | nil:Rc fr [] 0 0 0
 | snoc {rs:List Rw} {r:Rw} {e t:Int} {h:Nat} {p:Int}:Rc fr rs e h p→e≤t→t≤szs rs + fr→(0 < r.pn→t=(r.st:Int))→Rc fr (rs++[r]) (t + r.sz) (h + if e < t then 1 else 0) (p + if t=(r.st:Int) then 0 else (r.sz:Int))
theorem szs_snoc (rs:List Rw) (r:Rw):szs (rs++[r])=szs rs + r.sz:=by rw [szs_app,szs_cons,szs_nil,Int.add_zero]
theorem Rc.le {fr:Int} (hf:0≤fr) {rs:List Rw} {e:Int} {h:Nat} {p:Int} (c:Rc fr rs e h p):0≤e∧e≤szs rs + fr:=by
 induction c with
 | nil=>rw [szs_nil];lia
 | @snoc rs r e t h p _ h1 h2 _ ih=>rw [szs_snoc];lia
theorem rc_of {n fr:Int}:∀{suf:List Rw} {pre:List Rw} {e:Int} {h:Nat} {p:Int} {ts:List Int},Rc fr pre e h p→Arr n e suf ts→szs pre + szs suf + fr=n→∃e' h' p',Rc fr (pre++suf) e' h' p'∧e'≤n∧h + hls n e suf ts=h' + (if e' < n then 1 else 0)∧p'=p + prc suf ts
 | [],pre,e,h,p,[],c,a,_=>⟨e,h,p,by rw [List.append_nil];exact c,a,rfl,by show p=p + 0;lia⟩
 | r::suf,pre,e,h,p,t::ts,c,a,hs=>by
  obtain ⟨a1,a2,a3⟩:=a
  have le:=a3.le
  rw [szs_cons] at hs
  have c2:=Rc.snoc c a1 (show t≤szs pre + fr by lia) a2
  obtain ⟨e',h',p',d1,d2,d3,d4⟩:=rc_of (suf:=suf) c2 a3 (by rw [szs_snoc];lia)
  refine ⟨e',h',p',by rw [List.append_assoc] at d1;exact d1,d2,?_,?_⟩
  ·show h + ((if e < t then 1 else 0) + hls n (t + r.sz) suf ts)=_
   lia
  ·show p'=p + ((if t=(r.st:Int) then 0 else (r.sz:Int)) + prc suf ts)
   lia
 | [],_,_,_,_,_::_,_,a,_=>a.elim
 | _::_,_,_,_,_,[],_,a,_=>a.elim
theorem arr_snoc {b t:Int} {r:Rw}:∀{rs:List Rw} {e:Int} {ts:List Int} {x:Int} , Arr x e rs ts→x≤t→(0 < r.pn→t=(r.st:Int))→t + r.sz≤b→(hx:hls x e rs ts=hls x e rs ts)→Arr b e (rs++[r]) (ts++[t])
 | [],e,[],x,a,h1,h2,h3,_=>⟨Int.le_trans a h1,h2,h3⟩
 | s::rs,e,u::ts,x,a,h1,h2,h3,_=>⟨a.1,a.2.1,arr_snoc a.2.2 h1 h2 h3 rfl⟩
 | [],_,_::_,_,a,_,_,_,_=>a.elim
 | _::_,_,[],_,a,_,_,_,_=>a.elim
def endA:Int→List Rw→List Int→Int
 | _,r::rs,t::ts=>endA (t + r.sz) rs ts
 | e,_,_=>e
theorem arr_to {x y:Int}:∀{rs:List Rw} {e:Int} {ts:List Int},Arr x e rs ts→endA e rs ts≤y→Arr y e rs ts
 | [],e,[],_,h=>h
 | s::rs,e,u::ts,a,h=>⟨a.1,a.2.1,arr_to a.2.2 h⟩
 | [],_,_::_,a,_=>a.elim
 | _::_,_,[],a,_=>a.elim
theorem end_snoc {r:Rw} {t:Int}:∀{rs:List Rw} {e x:Int} {ts:List Int},Arr x e rs ts→endA e (rs++[r]) (ts++[t])=t + r.sz∧(∀b,hls b e (rs++[r]) (ts++[t])=hls (endA e rs ts) e rs ts + (if endA e rs ts < t then 1 else 0) + if t + r.sz < b then 1 else 0)∧prc (rs++[r]) (ts++[t])=prc rs ts + if t=(r.st:Int) then 0 else (r.sz:Int)
 | [],e,x,[],a=>by
  refine ⟨rfl,fun b=>?_,?_⟩
  ·show (if e < t then 1 else 0) + (if t + r.sz < b then 1 else 0)=(if e < e then 1 else 0) + (if e < t then 1 else 0) + (if t + r.sz < b then 1 else 0)
   rw [if_neg (Int.lt_irrefl e)]
   lia
  ·show (if t=(r.st:Int) then 0 else (r.sz:Int)) + 0=0 + _
   lia
 | s::rs,e,x,u::ts,a=>by
  obtain ⟨a1,a2,a3⟩:=end_snoc (r:=r) (t:=t) a.2.2
  refine ⟨a1,fun b=>?_,?_⟩
  ·show (if e < u then 1 else 0) + hls b (u + s.sz) (rs++[r]) (ts++[t])=(if e < u then 1 else 0) + hls (endA (u + s.sz) rs ts) (u + s.sz) rs ts + (if endA (u + s.sz) rs ts < t then 1 else 0) + _
   rw [a2 b]
   lia
  ·show (if u=(s.st:Int) then 0 else (s.sz:Int)) + prc (rs++[r]) (ts++[t])=(if u=(s.st:Int) then 0 else (s.sz:Int)) + prc rs ts + _
   rw [a3]
   lia
 | [],_,_,_::_,a=>a.elim
 | _::_,_,_,[],a=>a.elim
theorem rc_is {fr:Int} {rs:List Rw} {e:Int} {h:Nat} {p:Int} (c:Rc fr rs e h p):∃ts,Arr e 0 rs ts∧endA 0 rs ts=e∧(∀b:Int,hls b 0 rs ts=h + if e < b then 1 else 0)∧prc rs ts=p:=by
 induction c with
 | nil=>exact ⟨[],Int.le_refl 0,rfl,fun b=>by show (if (0:Int) < b then 1 else 0)=0 + _;lia,rfl⟩
 | @snoc rs r e t h p _ h1 h2 h3 ih =>
  obtain ⟨ts,a1,a2,a3,a4⟩:=ih
  obtain ⟨b1,b2,b3⟩:=end_snoc (r:=r) (t:=t) a1
  refine ⟨ts++[t],arr_snoc a1 h1 h3 (Int.le_refl _) rfl,b1,fun b=>?_,by rw [b3,a4]⟩
  rw [b2 b,a2,a3 e,if_neg (Int.lt_irrefl e)]
  lia
def Lst {K:Type} (S:K→Int→Prop) (d:K→Option Int):Prop:=(∀k v,d k=some v→S k v)∧∀k v,S k v→∃u,d k=some u∧u≤v
def Kpt {K:Type} (d:K→Option Int) (k:K) (p:Int) (d':K→Option Int):Prop:=(∀k',k'≠k→d' k'=d k')∧(d k=none∧d' k=some p∨∃u,d k=some u∧d' k=some (if p < u then p else u))
theorem lst_none {K:Type} {S:K→Int→Prop} (h:∀k v,¬ S k v):Lst S (fun _=>none):=⟨fun _ _ e=>(nomatch e),fun k v x=>(h k v x).elim⟩
theorem Lst.ext {K:Type} {S T:K→Int→Prop} {d:K→Option Int} (h:Lst S d) (e:∀k v,S k v ↔ T k v):Lst T d:=⟨fun k v x=>(e k v).1 (h.1 k v x),fun k v x=>h.2 k v ((e k v).2 x)⟩
theorem Lst.put {K:Type} [DecidableEq K] {S:K→Int→Prop} {d d':K→Option Int} {k:K} {p:Int} (h:Lst S d) (x:Kpt d k p d'):Lst (fun k' v=>S k' v∨(k'=k∧v=p)) d':=by
 obtain ⟨x1,x2⟩:=x
 refine ⟨fun k' v e=>?_,fun k' v e=>?_⟩
 ·by_cases c:k'=k
  ·subst c
   rcases x2 with ⟨_,x2⟩ | ⟨u,x2,x3⟩
   ·rw [x2] at e;exact .inr ⟨rfl,(Option.some.inj e).symm⟩
   ·rw [x3] at e
    by_cases c:p < u
    ·rw [if_pos c] at e;exact .inr ⟨rfl,(Option.some.inj e).symm⟩
    ·rw [if_neg c] at e;exact .inl (h.1 _ _ (by rw [x2,Option.some.inj e]))
  ·rw [x1 _ c] at e;exact .inl (h.1 _ _ e)
 ·by_cases c:k'=k
  ·subst c
   rcases x2 with ⟨x0,x2⟩ | ⟨u,x2,x3⟩
   ·rcases e with e | e
    ·obtain ⟨u,e,_⟩:=h.2 _ _ e;rw [x0] at e;exact nomatch e
    ·exact ⟨p,x2,by lia⟩
   ·refine ⟨_,x3,?_⟩
    rcases e with e | e
    ·obtain ⟨u',e,l⟩:=h.2 _ _ e
     rw [x2] at e
     have:=Option.some.inj e
     split <;> lia
    ·split <;> lia
  ·rcases e with e | e
   ·obtain ⟨u,e,l⟩:=h.2 _ _ e;exact ⟨u,by rw [x1 _ c];exact e,l⟩
   ·exact (c e.1).elim
def Nxt (fr us:Int) (r:Rw) (d:Int×Nat→Option Int) (k:Int×Nat) (v:Int):Prop:=∃e h p t,d (e,h)=some p∧e≤t∧t≤us + fr∧(0 < r.pn→t=(r.st:Int))∧k=(t + r.sz,h + if e < t then 1 else 0)∧v=p + if t=(r.st:Int) then 0 else (r.sz:Int)
theorem lst_rc0 {fr:Int} {d:Int×Nat→Option Int} (h0:d (0,0)=some 0) (h1:∀k,k≠(0,0)→d k=none):Lst (fun k v=>Rc fr [] k.1 k.2 v) d:=by
 refine ⟨fun k v e=>?_,fun k v e=>?_⟩
 ·by_cases c:k=(0,0)
  ·subst c;rw [h0] at e;cases e;exact .nil
  ·rw [h1 _ c] at e;exact nomatch e
 ·obtain ⟨a,b⟩:=k
  have e:Rc fr [] a b v:=e
  generalize hz:([]:List Rw)=z at e
  cases e with
  | nil=>exact ⟨0,h0,Int.le_refl _⟩
  | snoc=>exact absurd hz (by simp)
theorem rc_inv {fr:Int} {rs:List Rw} {r:Rw} {e':Int} {h':Nat} {p':Int} (c:Rc fr (rs++[r]) e' h' p'):∃e h p t,Rc fr rs e h p∧e≤t∧t≤szs rs + fr∧(0 < r.pn→t=(r.st:Int))∧e'=t + r.sz∧h'=(h + if e < t then 1 else 0)∧p'=p + if t=(r.st:Int) then 0 else (r.sz:Int):=by
 generalize hz:rs++[r]=z at c
 cases c with
 | nil=>exact absurd hz (by simp)
 | @snoc rs' r' e t h p c h1 h2 h3 =>
  obtain ⟨rfl,hr⟩:=List.append_inj' hz rfl
  cases hr
  exact ⟨e,h,p,t,c,h1,h2,h3,rfl,rfl,rfl⟩
theorem lst_rc {fr:Int} {rs:List Rw} {r:Rw} {d d':Int×Nat→Option Int} (h:Lst (fun k v=>Rc fr rs k.1 k.2 v) d) (h':Lst (Nxt fr (szs rs) r d) d'):Lst (fun k v=>Rc fr (rs++[r]) k.1 k.2 v) d':=by
 refine ⟨fun k v e=>?_,fun k v e=>?_⟩
 ·obtain ⟨e,h0,p,t,a1,a2,a3,a4,rfl,rfl⟩:=h'.1 k v e
  exact .snoc (h.1 _ _ a1) a2 a3 a4
 ·obtain ⟨e,h0,p,t,c,a2,a3,a4,a5,a6,a7⟩:=rc_inv e
  obtain ⟨u,b1,b2⟩:=h.2 (e,h0) p c
  obtain ⟨w,c1,c2⟩:=h'.2 k _ ⟨e,h0,u,t,b1,a2,a3,a4,by rw [← a5,← a6],rfl⟩
  exact ⟨w,c1,by rw [a7];lia⟩
def Bst (n:Int) (d:Int×Nat→Option Int) (k:Nat) (v:Int):Prop:=∃e h,d (e,h)=some v∧k=h + if e < n then 1 else 0
theorem lst_all {n fr:Int} {rs:List Rw} {d:Int×Nat→Option Int} {b:Nat→Option Int} (hf:0≤fr) (hn:szs rs + fr=n) (h:Lst (fun k v=>Rc fr rs k.1 k.2 v) d) (h':Lst (Bst n d) b):Lst (fun k v=>∃ts,Arr n 0 rs ts∧hls n 0 rs ts=k∧prc rs ts=v) b:=by
 refine ⟨fun k v e=>?_,fun k v e=>?_⟩
 ·obtain ⟨e,h0,a1,a2⟩:=h'.1 k v e
  have c:Rc fr rs e h0 v:=h.1 _ _ a1
  have l:=c.le hf
  obtain ⟨ts,b1,b2,b3,b4⟩:=rc_is c
  exact ⟨ts,arr_to b1 (by lia),by rw [b3 n,a2],b4⟩
 ·obtain ⟨ts,a1,a2,a3⟩:=e
  obtain ⟨e',h0,p,c,l,c2,c3⟩:=rc_of (pre:=[]) (h:=0) (p:=0) (n:=n) (.nil (fr:=fr)) a1 (by rw [szs_nil];lia)
  rw [List.nil_append] at c
  obtain ⟨u,b1,b2⟩:=h.2 (e',h0) p c
  obtain ⟨w,d1,d2⟩:=h'.2 (h0 + if e' < n then 1 else 0) u ⟨e',h0,b1,rfl⟩
  rw [← c2,Nat.zero_add,a2] at d1
  exact ⟨w,d1,by lia⟩
theorem lst_opt {n:Nat} {rs:List Rw} {b:Nat→Option Int} (fit:∀w∈strB n 0 [] rs,w.1 + szs w.2.2≤w.2.1) (h:Lst (fun k v=>∃ts,Arr (n:Int) 0 rs ts∧hls n 0 rs ts=k∧prc rs ts=v) b):b (cnt (strB n 0 [] rs))=some (pri (allJ n 0 [] rs))∧∀k v,b k=some v→cnt (strB n 0 [] rs)≤k:=by
 obtain ⟨a1,a2,a3⟩:=opt_is n rs 0 [] (fun _ x=>nomatch x) fit
 rw [List.nil_append] at a1 a2 a3
 obtain ⟨u,b1,b2⟩:=h.2 _ _ ⟨_,a1,a2,a3⟩
 obtain ⟨ts,c1,c2,c3⟩:=h.1 _ _ b1
 refine ⟨?_,fun k v e=>?_⟩
 ·have:=(opt_low n rs 0 [] ts c1).2 (by rw [List.nil_append,c2];exact Nat.le_refl _)
  rw [List.nil_append] at this
  rw [b1]
  congr 1
  lia
 ·obtain ⟨ts,d1,d2,d3⟩:=h.1 _ _ e
  have:=(opt_low n rs 0 [] ts d1).1
  rw [List.nil_append] at this
  lia
section
variable {κ:Type} [DecidableEq κ]
theorem val_mem {k:κ} {v:V}:∀{kvs:List (κ×V)},valV kvs k=some v→(k,v)∈kvs
 | [],e=>by rw [valV_nil] at e;exact nomatch e
 | p::r,e=>by
  by_cases c:p.1=k
  ·rw [valV_pos c] at e
   cases e
   subst c
   exact List.mem_cons_self
  ·rw [valV_neg c] at e
   exact List.mem_cons_of_mem _ (val_mem e)
theorem mem_val {k:κ} {v:V}:∀{kvs:List (κ×V)},(kvs.map (·.1)).Nodup→(k,v)∈kvs→valV kvs k=some v
 | p::r,n,e=>by
  rw [List.map_cons,List.nodup_cons] at n
  rcases List.mem_cons.1 e with e | e
  ·subst e;exact valV_pos rfl
  ·have c:¬ p.1=k:=fun z=>n.1 (z▸List.mem_map.2 ⟨(k,v),e,rfl⟩)
   rw [valV_neg c]
   exact mem_val n.2 e
theorem put_nodup {kvs:List (κ×V)} {k:κ} {v:V} (n:(kvs.map (·.1)).Nodup):((putK kvs k v).map (·.1)).Nodup:=by
 unfold putK
 by_cases c:(kvs.any fun kv=>decide (kv.1=k))=true
 ·rw [if_pos c,List.map_map]
  rw [show ((fun x:κ×V=>x.1) ∘ fun kv=>if kv.1=k then (kv.1,v) else kv)=fun x=>x.1 from by funext x;show (if x.1=k then (x.1,v) else x).1=x.1;split <;> rfl]
  exact n
 ·rw [if_neg c,List.map_append]
  rw [valV_any] at c
  have c:valV kvs k=none:=by cases h:valV kvs k with | none=>rfl | some _=>rw [h] at c;exact absurd rfl c
  have:=valV_not c
  rw [List.nodup_append]
  refine ⟨n,by simp,fun a ha b hb=>?_⟩
  rw [List.map_cons,List.map_nil,List.mem_singleton] at hb
  subst hb
  exact fun z=>this (z▸ha)
theorem put_all {P:κ×V→Prop} {kvs:List (κ×V)} {k:κ} {v:V} (h:∀x∈kvs,P x) (hk:P (k,v)):∀x∈putK kvs k v,P x:=by
 unfold putK
 intro x m
 split at m
 ·obtain ⟨y,my,e⟩:=List.mem_map.1 m
  by_cases c:y.1=k
  ·rw [if_pos c,c] at e;rw [← e];exact hk
  ·rw [if_neg c] at e;rw [← e];exact h y my
 ·rcases List.mem_append.1 m with m | m
  ·exact h x m
  ·rw [List.mem_singleton.1 m];exact hk
structure OkD {K:Type} (f:K→κ) (kvs:List (κ×V)):Prop where
 all:∀x∈kvs,∃k p,x=(f k,V.int p)
 nd:(kvs.map (·.1)).Nodup
def dO {K:Type} (f:K→κ) (kvs:List (κ×V)) (k:K):Option Int:=(valV kvs (f k)).bind fun v=>match v with | .int p=>some p | _=>none
variable {K:Type} [DecidableEq K] {f:K→κ} {kvs:List (κ×V)}
theorem okd_nil:OkD f ([]:List (κ×V)):=⟨fun _ m=>(nomatch m),List.nodup_nil⟩
theorem dO_nil:dO f ([]:List (κ×V))=fun _=>none:=by funext k;unfold dO;rw [valV_nil];rfl
theorem OkD.val (o:OkD f kvs) (k:K):valV kvs (f k)=(dO f kvs k).map V.int:=by
 unfold dO
 cases h:valV kvs (f k) with
 | none=>rfl
 | some v =>
  obtain ⟨k',p,e⟩:=o.all _ (val_mem h)
  cases (Prod.mk.inj e).2
  rfl
theorem OkD.mem (o:OkD f kvs) {k:K} {p:Int}:(f k,V.int p)∈kvs ↔ dO f kvs k=some p:=by
 constructor
 ·intro m
  have:=mem_val o.nd m
  unfold dO
  rw [this]
  rfl
 ·intro e
  have:=o.val k
  rw [e] at this
  exact val_mem this
theorem OkD.put (o:OkD f kvs) (k:K) (p:Int):OkD f (putK kvs (f k) (V.int p)):=⟨put_all o.all ⟨k,p,rfl⟩,put_nodup o.nd⟩
theorem dO_put (hf:∀a b,f a=f b→a=b) (k j:K) (p:Int):dO f (putK kvs (f k) (V.int p)) j=if j=k then some p else dO f kvs j:=by
 unfold dO
 rw [valV_put]
 by_cases c:j=k
 ·rw [if_pos c,if_pos (by rw [c])];rfl
 ·rw [if_neg c,if_neg (fun z=>c (hf _ _ z))]
theorem kpt_put (hf:∀a b,f a=f b→a=b) {k:K} {p:Int} (h:∀u,dO f kvs k=some u→p < u):Kpt (dO f kvs) k p (dO f (putK kvs (f k) (V.int p))):=by
 refine ⟨fun k' c=>by rw [dO_put hf,if_neg c],?_⟩
 rw [dO_put hf,if_pos rfl]
 cases e:dO f kvs k with
 | none=>exact .inl ⟨rfl,rfl⟩
 | some u=>exact .inr ⟨u,rfl,by rw [if_pos (h u e)]⟩
theorem kpt_no {d:K→Option Int} {k:K} {p u:Int} (e:d k=some u) (h:¬ p < u):Kpt d k p d:=⟨fun _ _=>rfl,.inr ⟨u,e,by rw [if_neg h];exact e⟩⟩
end
theorem nodup_le:∀(n:Nat) (l:List Nat),l.Nodup→(∀x∈l,x < n)→l.length≤n
 | 0,[],_,_=>Nat.le_refl 0
 | 0,x::l,_,h=>absurd (h x List.mem_cons_self) (Nat.not_lt_zero x)
 | n + 1,l,d,h=>by
  have a:=nodup_le n (l.filter fun x=>decide (x≠n)) (d.filter _) fun x m=>by
   obtain ⟨m1,m2⟩:=List.mem_filter.1 m
   have:=h x m1
   have:=of_decide_eq_true m2
   lia
  have b:∀l:List Nat,l.Nodup→l.length≤(l.filter fun x=>decide (x≠n)).length + 1:=by
   intro l
   induction l with
   | nil=>intro _;exact Nat.zero_le _
   | cons x l ih =>
    intro d
    rw [List.nodup_cons] at d
    rw [List.filter_cons]
    by_cases c:x=n
    ·rw [if_neg (by simp [c])]
     have:l.filter (fun x=>decide (x≠n))=l:=List.filter_eq_self.2 fun y my=>decide_eq_true fun z=>d.1 (by rw [c,← z];exact my)
     rw [this]
     exact Nat.le_refl _
    ·rw [if_pos (by simp [c]),List.length_cons,List.length_cons]
     have:=ih d.2
     lia
  have:=b l d
  lia
def k2 (k:Int×Nat):List Key:=[.inl k.1,.inl (k.2:Int)]
def k1 (k:Nat):Key:=.inl (k:Int)
theorem k2_inj:∀a b,k2 a=k2 b→a=b
 | (a,b),(c,d),h=>by
  have h1:(Sum.inl a:Key)=Sum.inl c∧[(Sum.inl (b:Int):Key)]=[Sum.inl (d:Int)]:=List.cons.inj h
  have h2:=Sum.inl.inj h1.1
  have h3:=Sum.inl.inj (List.cons.inj h1.2).1
  rw [h2,Int.ofNat.inj h3]
theorem k1_inj:∀a b,k1 a=k1 b→a=b:=fun a b h=>Int.ofNat.inj (Sum.inl.inj h)
def nm2:List Key→Nat
 | [.inl a,.inl b]=>a.toNat * 64 + b.toNat
 | _=>0
theorem okd_len {kvs:List (List Key×V)} (o:OkD k2 kvs) (h:∀k p,dO k2 kvs k=some p→0≤k.1∧k.1≤300∧k.2 < 64):kvs.length≤19264:=by
 have hk:∀x∈kvs,∃a b:Nat,x.1=[.inl (a:Int),.inl (b:Int)]∧a≤300∧b < 64:=by
  intro x m
  obtain ⟨k,p,e⟩:=o.all x m
  have b:=h k p (o.mem.1 (e▸m))
  refine ⟨k.1.toNat,k.2,?_,by lia,b.2.2⟩
  rw [e]
  show k2 k=_
  unfold k2
  rw [Int.toNat_of_nonneg b.1]
 have n:=o.nd
 have:=nodup_le 19264 (kvs.map fun x=>nm2 x.1) ?_ ?_
 ·rw [List.length_map] at this;exact this
 ·clear h o
  induction kvs with
  | nil=>exact List.nodup_nil
  | cons x r ih =>
   rw [List.map_cons,List.nodup_cons] at n ⊢
   refine ⟨fun m=>?_,ih (fun y my=>hk y (List.mem_cons_of_mem _ my)) n.2⟩
   obtain ⟨y,my,e⟩:=List.mem_map.1 m
   obtain ⟨a,b,e1,l1,l2⟩:=hk x List.mem_cons_self
   obtain ⟨c,d,e2,l3,l4⟩:=hk y (List.mem_cons_of_mem _ my)
   rw [e1,e2] at e
   have e:c * 64 + d=a * 64 + b:=e
   refine n.1 (List.mem_map.2 ⟨y,my,?_⟩)
   rw [e1,e2,show c=a from by lia,show d=b from by lia]
 ·intro x m
  obtain ⟨y,my,e⟩:=List.mem_map.1 m
  obtain ⟨a,b,e1,l1,l2⟩:=hk y my
  rw [e1] at e
  have e:a * 64 + b=x:=e
  lia
def At (r:Rw) (e:Int) (h:Nat) (p t:Int) (k:Int×Nat) (v:Int):Prop:=(0 < r.pn→t=(r.st:Int))∧k=(t + r.sz,h + if e < t then 1 else 0)∧v=p + if t=(r.st:Int) then 0 else (r.sz:Int)
def InS (T:Int×Nat→Int→Prop) (r:Rw) (e:Int) (h:Nat) (p:Int) (m:Nat) (k:Int×Nat) (v:Int):Prop:=T k v∨∃t,e≤t∧t < e + m∧At r e h p t k v
theorem in_0 {T:Int×Nat→Int→Prop} {r:Rw} {e:Int} {h:Nat} {p:Int} {d:Int×Nat→Option Int} (x:Lst T d):Lst (InS T r e h p 0) d:=x.ext fun k v=>⟨.inl,fun y=>y.elim id fun ⟨t,a,b,_⟩=>by lia⟩
theorem in_put {T:Int×Nat→Int→Prop} {r:Rw} {e:Int} {h:Nat} {p:Int} {m:Nat} {d d':Int×Nat→Option Int} {k0:Int×Nat} {v0:Int} (x:Lst (InS T r e h p m) d) (a:At r e h p (e + m) k0 v0) (y:Kpt d k0 v0 d'):Lst (InS T r e h p (m + 1)) d':=(x.put y).ext fun k v=>by
 constructor
 ·rintro ((z | ⟨t,a1,a2,a3⟩) | ⟨rfl,rfl⟩)
  ·exact .inl z
  ·exact .inr ⟨t,a1,by lia,a3⟩
  ·exact .inr ⟨e + m,by lia,by lia,a⟩
 ·rintro (z | ⟨t,a1,a2,a3⟩)
  ·exact .inl (.inl z)
  ·by_cases c:t=e + m
   ·subst c
    exact .inr ⟨a3.2.1.trans a.2.1.symm,a3.2.2.trans a.2.2.symm⟩
   ·exact .inl (.inr ⟨t,a1,by lia,a3⟩)
theorem in_skip {T:Int×Nat→Int→Prop} {r:Rw} {e:Int} {h:Nat} {p:Int} {m:Nat} {d:Int×Nat→Option Int} (x:Lst (InS T r e h p m) d) (h1:0 < r.pn) (h2:¬ e + m=(r.st:Int)):Lst (InS T r e h p (m + 1)) d:=x.ext fun k v=>by
 constructor
 ·rintro (z | ⟨t,a1,a2,a3⟩)
  ·exact .inl z
  ·exact .inr ⟨t,a1,by lia,a3⟩
 ·rintro (z | ⟨t,a1,a2,a3⟩)
  ·exact .inl z
  ·have:=a3.1 h1
   exact .inr ⟨t,a1,by lia,a3⟩
def OuS (fr us:Int) (r:Rw) (kvs:List (List Key×V)) (k:Int×Nat) (v:Int):Prop:=∃e h p t,(k2 (e,h),V.int p)∈kvs∧e≤t∧t≤us + fr∧At r e h p t k v
theorem ou_0 {fr us:Int} {r:Rw}:Lst (OuS fr us r []) (dO k2 []):=by
 rw [dO_nil]
 exact lst_none fun k v ⟨_,_,_,_,m,_⟩=>nomatch m
theorem ou_1 {fr us:Int} {r:Rw} {kvs:List (List Key×V)} {e:Int} {h:Nat} {p:Int} {m:Nat} {d:Int×Nat→Option Int} (hm:(m:Int)=max 0 (us + fr + 1 - e)) (x:Lst (InS (OuS fr us r kvs) r e h p m) d):Lst (OuS fr us r (kvs++[(k2 (e,h),V.int p)])) d:=x.ext fun k v=>by
 constructor
 ·rintro (⟨e',h',p',t,a1,a2,a3,a4⟩ | ⟨t,a1,a2,a3⟩)
  ·exact ⟨e',h',p',t,List.mem_append_left _ a1,a2,a3,a4⟩
  ·exact ⟨e,h,p,t,List.mem_append_right _ (List.mem_singleton.2 rfl),a1,by lia,a3⟩
 ·rintro ⟨e',h',p',t,a1,a2,a3,a4⟩
  rcases List.mem_append.1 a1 with a1 | a1
  ·exact .inl ⟨e',h',p',t,a1,a2,a3,a4⟩
  ·obtain ⟨b1,b2⟩:=Prod.mk.inj (List.mem_singleton.1 a1)
   cases k2_inj _ _ b1
   cases b2
   exact .inr ⟨t,a2,by lia,a4⟩
theorem ou_end {fr us:Int} {r:Rw} {kvs:List (List Key×V)} {d:Int×Nat→Option Int} (o:OkD k2 kvs) (x:Lst (OuS fr us r kvs) d):Lst (Nxt fr us r (dO k2 kvs)) d:=x.ext fun k v=>by
 constructor
 ·rintro ⟨e,h,p,t,a1,a2,a3,a4,a5,a6⟩
  exact ⟨e,h,p,t,o.mem.1 a1,a2,a3,a4,a5,a6⟩
 ·rintro ⟨e,h,p,t,a1,a2,a3,a4,a5,a6⟩
  exact ⟨e,h,p,t,o.mem.2 a1,a2,a3,a4,a5,a6⟩
def BsS (n:Int) (kvs:List (List Key×V)) (k:Nat) (v:Int):Prop:=∃e h,(k2 (e,h),V.int v)∈kvs∧k=h + if e < n then 1 else 0
theorem bs_0 {n:Int}:Lst (BsS n []) (dO k1 []):=by
 rw [dO_nil]
 exact lst_none fun k v ⟨_,_,m,_⟩=>nomatch m
theorem bs_1 {n:Int} {kvs:List (List Key×V)} {e:Int} {h:Nat} {p:Int} {b b':Nat→Option Int} (x:Lst (BsS n kvs) b) (y:Kpt b (h + if e < n then 1 else 0) p b'):Lst (BsS n (kvs++[(k2 (e,h),V.int p)])) b':=(x.put y).ext fun k v=>by
 constructor
 ·rintro (⟨e',h',a1,a2⟩ | ⟨a1,rfl⟩)
  ·exact ⟨e',h',List.mem_append_left _ a1,a2⟩
  ·exact ⟨e,h,List.mem_append_right _ (List.mem_singleton.2 rfl),a1⟩
 ·rintro ⟨e',h',a1,a2⟩
  rcases List.mem_append.1 a1 with a1 | a1
  ·exact .inl ⟨e',h',a1,a2⟩
  ·obtain ⟨b1,b2⟩:=Prod.mk.inj (List.mem_singleton.1 a1)
   cases k2_inj _ _ b1
   cases b2
   exact .inr ⟨a2,rfl⟩
theorem bs_end {n:Int} {kvs:List (List Key×V)} {b:Nat→Option Int} (o:OkD k2 kvs) (x:Lst (BsS n kvs) b):Lst (Bst n (dO k2 kvs)) b:=x.ext fun k v=>⟨fun ⟨e,h,a1,a2⟩=>⟨e,h,o.mem.1 a1,a2⟩,fun ⟨e,h,a1,a2⟩=>⟨e,h,o.mem.2 a1,a2⟩⟩
theorem tdy_end {n:Nat} {L:List Sp2} (ch:ChS n 0 L) (ok:OkA 0 n (L.map (·.1))) (pin:∀s∈L,0 < s.1.pn→s.2=(s.1.st:Int)):wEnd (L.map (·.1)) (tdyM L)=L.map tgt:=by
 have a:=lm_walk L [] 0 (Int.le_refl _) ch ok pin
 have c:=ChS.le ch
 have b:=rm_walk (n:=n) L.reverse [] n rfl (ChS.rev ch) (by rw [List.map_reverse];exact List.pairwise_reverse.mpr ok.asc) (fun s hs=>(c.2 s (List.mem_reverse.mp hs)).1) (fun s hs=>pin s (List.mem_reverse.mp hs))
 rw [List.map_reverse,List.map_reverse,List.reverse_reverse,List.reverse_reverse,List.append_nil,List.append_nil] at b
 simp only [List.nil_append,List.length_nil] at a
 unfold tdyM wEnd
 rw [List.foldl_append]
 show wEnd (wEnd (L.map (·.1)) (lm 0 L)) (rm L.reverse)=_
 rw [a.2.1]
 exact b.2.1
theorem gap_len (e b:Int):(gapI e b).length=if e < b then 1 else 0:=by
 by_cases c:e < b
 ·rw [gapI_pos c,if_pos c];rfl
 ·rw [gapI_neg c,if_neg c];rfl
def Sim:List Rw→List Rw→Prop
 | [],[]=>True
 | r::rs,s::ss=>s.sz=r.sz∧s.pn=r.pn∧(0 < r.pn→s.st=r.st)∧Sim rs ss
 | _,_=>False
theorem sim_refl:∀T:List Rw,Sim T T
 | []=>trivial
 | _::T=>⟨rfl,rfl,fun _=>rfl,sim_refl T⟩
theorem sim_tr:∀{A B C:List Rw},Sim A B→Sim B C→Sim A C
 | [],[],[],_,_=>trivial
 | a::A,b::B,c::C,h,g=>⟨g.1.trans h.1,g.2.1.trans h.2.1,fun p=>(g.2.2.1 (by rw [h.2.1];exact p)).trans (h.2.2.1 p),sim_tr h.2.2.2 g.2.2.2⟩
theorem sim_len:∀{A B:List Rw},Sim A B→B.length=A.length
 | [],[],_=>rfl
 | _::A,_::B,h=>by rw [List.length_cons,List.length_cons,sim_len h.2.2.2]
theorem sim_mv:∀{T:List Rw} {k to:Nat} {r:Rw},T[k]?=some r→r.pn=0→Sim T (mvT T k to)
 | [],k,to,r,h,_=>by simp at h
 | a::T,0,to,r,h,p=>by
  simp at h
  subst h
  exact ⟨rfl,rfl,fun z=>by lia,sim_refl T⟩
 | a::T,k + 1,to,r,h,p=>by
  have e:mvT (a::T) (k + 1) to=a::mvT T k to:=by unfold mvT;rw [List.modify_succ_cons]
  rw [e]
  exact ⟨rfl,rfl,fun _=>rfl,sim_mv (by simpa using h) p⟩
theorem sim_end {n:Nat}:∀{ms:List Mv} {T:List Rw},WOk n T ms→Sim T (wEnd T ms)
 | [],T,_=>sim_refl T
 | m::ms,T,h=>by
  obtain ⟨⟨r,h1,_,h2,_⟩,h3⟩:=h
  exact sim_tr (sim_mv (to:=m.2.2) h1 h2) (sim_end h3)
abbrev stI (E:List Rw):List Int:=E.map fun r=>(r.st:Int)
theorem sim_hol {n:Nat}:∀{rs E:List Rw} {e:Int},Sim rs E→(holG n e E).length=hls n e rs (stI E)
 | [],[],e,_=>gap_len e n
 | r::rs,s::E,e,h=>by
  show (gapI e (s.st:Int)++holG n ((s.st:Int) + (s.sz:Int)) E).length=(if e < (s.st:Int) then 1 else 0) + hls n ((s.st:Int) + (r.sz:Int)) rs (stI E)
  rw [List.length_append,gap_len,sim_hol h.2.2.2,h.1]
theorem sim_arr {n:Nat}:∀{rs E:List Rw} {e:Nat},Sim rs E→OkA e n E→e≤n→Arr (n:Int) (e:Int) rs (stI E)
 | [],[],e,_,_,h=>by show (e:Int)≤(n:Int);lia
 | r::rs,s::E,e,h,o,l=>by
  have b:=o.hd
  refine ⟨by show (e:Int)≤(s.st:Int);lia,fun p=>by show (s.st:Int)=_;rw [h.2.2.1 p],?_⟩
  have:=sim_arr (e:=s.st + s.sz) h.2.2.2 o.tail b.2.2
  rw [h.1] at this
  show Arr (n:Int) ((s.st:Int) + (r.sz:Int)) rs (stI E)
  rw [← Int.natCast_add]
  exact this
theorem prc_self:∀T:List Rw,prc T (stI T)=0
 | []=>rfl
 | r::T=>by
  show (if (r.st:Int)=(r.st:Int) then 0 else (r.sz:Int)) + prc T (stI T)=0
  rw [if_pos rfl,prc_self T];rfl
theorem prc_nil (T:List Rw):prc T []=0:=by cases T <;> rfl
theorem prc_mv:∀(T:List Rw) (m:Mv) (ts:List Int),prc T ts≤(wPr T m:Nat) + prc (mvT T m.1 m.2.2) ts
 | T,m,[]=>by rw [prc_nil,prc_nil];lia
 | [],m,t::ts=>by
  have e:mvT [] m.1 m.2.2=[]:=by unfold mvT;cases m.1 <;> rfl
  rw [e];lia
 | r::T,(0,nm,to),t::ts=>by
  have e:mvT (r::T) 0 to=putS r to::T:=rfl
  show _≤((if to=r.st then 0 else r.sz:Nat):Int) + prc (mvT (r::T) 0 to) (t::ts)
  rw [e]
  show (if t=(r.st:Int) then 0 else (r.sz:Int)) + prc T ts≤_ + ((if t=(to:Int) then 0 else (r.sz:Int)) + prc T ts)
  by_cases c1:to=r.st
  ·rw [if_pos c1,c1];lia
  ·rw [if_neg c1]
   split <;> split <;> lia
 | r::T,(k + 1,nm,to),t::ts=>by
  have e:mvT (r::T) (k + 1) to=r::mvT T k to:=by unfold mvT;rw [List.modify_succ_cons]
  have w:wPr (r::T) (k + 1,nm,to)=wPr T (k,nm,to):=by simp only [wPr,List.getElem?_cons_succ]
  have i:prc T ts≤(wPr T (k,nm,to):Nat) + prc (mvT T k to) ts:=prc_mv T (k,nm,to) ts
  show _≤_ + prc (mvT (r::T) (k + 1) to) (t::ts)
  rw [e,w]
  show (if t=(r.st:Int) then 0 else (r.sz:Int)) + prc T ts≤_ + ((if t=(r.st:Int) then 0 else (r.sz:Int)) + prc (mvT T k to) ts)
  lia
theorem prc_walk:∀(ms:List Mv) (T:List Rw),prc T (stI (wEnd T ms))≤(wPrice T ms:Nat)
 | [],T=>by
  show prc T (stI T)≤((0:Nat):Int)
  rw [prc_self];exact Int.le_refl _
 | m::ms,T=>by
  have i:=prc_walk ms (mvT T m.1 m.2.2)
  have j:=prc_mv T m (stI (wEnd (mvT T m.1 m.2.2) ms))
  show prc T (stI (wEnd (mvT T m.1 m.2.2) ms))≤((wPr T m + wPrice (mvT T m.1 m.2.2) ms:Nat):Int)
  lia
theorem cnt_str (n:Nat) (rs:List Rw):cnt (strB n 0 [] rs)=((strG n 0 0 rs).filter fun w=>decide (0 < w.2.2)).length:=by
 rw [cnt_G]
 have:=strB_G n rs 0 []
 rw [szs_nil] at this
 rw [this]
theorem fit_of {n:Nat} {rs:List Rw} (ok:OkA 0 n rs):∀w∈strB n 0 [] rs,w.1 + szs w.2.2≤w.2.1:=fun w hw=>(strB_ok ok w hw).fit
theorem tdy_holes {n:Nat} {rs:List Rw} (ok:OkA 0 n rs) (ch:ChS n 0 (allJ n 0 [] rs)) (pin:∀s∈allJ n 0 [] rs,0 < s.1.pn→s.2=(s.1.st:Int)):(holG n 0 (wEnd rs (tdyM (allJ n 0 [] rs)))).length=cnt (strB n 0 [] rs):=by
 have e:(allJ n 0 [] rs).map (·.1)=rs:=allJ_fst n rs 0 []
 have okJ:OkA 0 n ((allJ n 0 [] rs).map (·.1)):=by rw [e];exact ok
 have w:=(tdy_walk ch okJ pin).1
 have t:=tdy_end ch okJ pin
 rw [e] at w t
 rw [sim_hol (sim_end w),t]
 have nn:stI ((allJ n 0 [] rs).map tgt)=(allJ n 0 [] rs).map (·.2):=by
  unfold stI
  rw [List.map_map]
  refine List.map_congr_left fun s hs=>?_
  have:=((ChS.le ch).2 s hs).1
  show ((s.2.toNat:Nat):Int)=s.2
  lia
 rw [nn]
 exact (opt_is n rs 0 [] (fun _ h=>by cases h) (fit_of ok)).2.1
theorem pack_low {n:Nat} {rs:List Rw} (ok:OkA 0 n rs) (d:Bool):(holG n 0 (packR d n rs)).length=cnt (strB n 0 [] rs)∧pri (allJ n 0 [] rs)≤(wPrice rs (packM d n rs):Nat):=by
 have w:=pack_walk d ok
 have h1:(holG n 0 (packR d n rs)).length=cnt (strB n 0 [] rs):=by rw [pack_hol d ok,endsG_len,cnt_str]
 refine ⟨h1,?_⟩
 have s:=sim_end w.1
 rw [w.2] at s
 have a:=sim_arr (e:=0) s (packR_ok d ok) (Nat.zero_le _)
 have l:=opt_low n rs 0 [] (stI (packR d n rs)) a
 have p:=prc_walk (packM d n rs) rs
 rw [w.2] at p
 have h2:=sim_hol (n:=n) (e:=0) s
 have:=l.2 (by show hls n 0 rs _≤_;rw [← h2,h1];exact Nat.le_refl _)
 exact Int.le_trans this p
theorem fold_min {c:Int}:∀(ns:List Int) (d:Int),(∀x∈ns,c≤x)→c≤d→(c∈ns∨c=d)→ns.foldl min d=c
 | [],d,_,_,h=>h.elim (fun z=>nomatch z) fun z=>z.symm
 | x::ns,d,a,b,h=>by
  have ax:=a x List.mem_cons_self
  refine fold_min ns (min d x) (fun y hy=>a y (List.mem_cons_of_mem _ hy)) (by lia) ?_
  rcases h with h | h
  ·rcases List.mem_cons.mp h with h | h
   ·exact .inr (by lia)
   ·exact .inl h
  ·exact .inr (by lia)
end M88
namespace K88
open PySem L2 PyProof.Rows
def top (i:Nat):Stmt:=PySem.Challenge.pw_slideroom_k88_whole_no_cheaper_tidying.main.body.getD i (.Pass ⟨0,0,0,0⟩)
abbrev s_is_whole:Stmt:=top 18
theorem sc_is_whole:FnScope ["thing"] ["thing"] (defScope s_is_whole):=⟨rfl,rfl,rfl,by decide +kernel,rfl,by decide +kernel,by decide +kernel⟩
abbrev s_is_from:Stmt:=top 19
theorem sc_is_from:FnScope ["thing", "low"] ["thing", "low"] (defScope s_is_from):=⟨rfl,rfl,rfl,by decide +kernel,rfl,by decide +kernel,by decide +kernel⟩
abbrev s_is_within:Stmt:=top 20
theorem sc_is_within:FnScope ["thing", "low", "high"] ["thing", "low", "high"] (defScope s_is_within):=⟨rfl,rfl,rfl,by decide +kernel,rfl,by decide +kernel,by decide +kernel⟩
abbrev s_is_many:Stmt:=top 21
theorem sc_is_many:FnScope ["thing"] ["thing"] (defScope s_is_many):=⟨rfl,rfl,rfl,by decide +kernel,rfl,by decide +kernel,by decide +kernel⟩
abbrev s_is_name:Stmt:=top 22
theorem sc_is_name:FnScope ["thing"] ["thing"] (defScope s_is_name):=⟨rfl,rfl,rfl,by decide +kernel,rfl,by decide +kernel,by decide +kernel⟩
abbrev s_end_of:Stmt:=top 24
theorem sc_end_of:FnScope ["stretch"] ["stretch"] (defScope s_end_of):=⟨rfl,rfl,rfl,by decide +kernel,rfl,by decide +kernel,by decide +kernel⟩
abbrev s_is_row:Stmt:=top 28
theorem sc_is_row:FnScope ["thing"] ["thing"] (defScope s_is_row):=⟨rfl,rfl,rfl,by decide +kernel,rfl,by decide +kernel,by decide +kernel⟩
abbrev s_cells_of:Stmt:=top 29
theorem sc_cells_of:FnScope ["row"] ["row"] (defScope s_cells_of):=⟨rfl,rfl,rfl,by decide +kernel,rfl,by decide +kernel,by decide +kernel⟩
abbrev s_need_row:Stmt:=top 30
theorem sc_need_row:FnScope ["many", "row", "ahead", "other"] ["many", "row", "ahead"] (defScope s_need_row):=⟨rfl,rfl,rfl,by decide +kernel,rfl,by decide +kernel,by decide +kernel⟩
abbrev s_need_rows:Stmt:=top 31
theorem sc_need_rows:FnScope ["many", "rows", "at"] ["many", "rows"] (defScope s_need_rows):=⟨rfl,rfl,rfl,by decide +kernel,rfl,by decide +kernel,by decide +kernel⟩
abbrev s_share:Stmt:=top 25
theorem sc_share:FnScope ["one", "other"] ["one", "other"] (defScope s_share):=⟨rfl,rfl,rfl,by decide +kernel,rfl,by decide +kernel,by decide +kernel⟩
abbrev s_between:Stmt:=top 34
theorem sc_between:FnScope ["layout", "first", "behind"] ["layout", "first", "behind"] (defScope s_between):=⟨rfl,rfl,rfl,by decide +kernel,rfl,by decide +kernel,by decide +kernel⟩
abbrev s_freeb:Stmt:=top 35
theorem sc_freeb:FnScope ["layout", "first", "behind"] ["layout", "first", "behind"] (defScope s_freeb):=⟨rfl,rfl,rfl,by decide +kernel,rfl,by decide +kernel,by decide +kernel⟩
abbrev s_stretches:Stmt:=top 36
theorem sc_stretches:FnScope ["layout", "stretches", "first", "block"] ["layout"] (defScope s_stretches):=⟨rfl,rfl,rfl,by decide +kernel,rfl,by decide +kernel,by decide +kernel⟩
abbrev s_sdown:Stmt:=top 38
theorem sc_sdown:FnScope ["blocks", "first", "steps", "end_ahead", "name", "start", "size", "pins", "to"] ["blocks", "first"] (defScope s_sdown):=⟨rfl,rfl,rfl,by decide +kernel,rfl,by decide +kernel,by decide +kernel⟩
abbrev s_sup:Stmt:=top 39
theorem sc_sup:FnScope ["blocks", "behind", "steps", "start_behind", "name", "start", "size", "pins", "to"] ["blocks", "behind"] (defScope s_sup):=⟨rfl,rfl,rfl,by decide +kernel,rfl,by decide +kernel,by decide +kernel⟩
abbrev s_moves:Stmt:=top 40
theorem sc_moves:FnScope ["steps"] ["steps"] (defScope s_moves):=⟨rfl,rfl,rfl,by decide +kernel,rfl,by decide +kernel,by decide +kernel⟩
abbrev s_packed:Stmt:=top 41
theorem sc_packed:FnScope ["layout", "way"] ["layout", "way"] (defScope s_packed):=⟨rfl,rfl,rfl,by decide +kernel,rfl,by decide +kernel,by decide +kernel⟩
abbrev s_fewest:Stmt:=top 42
theorem sc_fewest:FnScope ["layout"] ["layout"] (defScope s_fewest):=⟨rfl,rfl,rfl,by decide +kernel,rfl,by decide +kernel,by decide +kernel⟩
abbrev s_cmoved:Stmt:=top 43
theorem sc_cmoved:FnScope ["steps"] ["steps"] (defScope s_cmoved):=⟨rfl,rfl,rfl,by decide +kernel,rfl,by decide +kernel,by decide +kernel⟩
abbrev s_cheapest:Stmt:=top 44
theorem sc_cheapest:FnScope ["blocks", "first", "behind", "choices", "gap"] ["blocks", "first", "behind"] (defScope s_cheapest):=⟨rfl,rfl,rfl,by decide +kernel,rfl,by decide +kernel,by decide +kernel⟩
abbrev s_order:Stmt:=top 45
theorem sc_order:FnScope ["steps", "rising", "lesser", "greater"] ["steps"] (defScope s_order):=⟨rfl,rfl,rfl,by decide +kernel,rfl,by decide +kernel,by decide +kernel⟩
abbrev s_tidied:Stmt:=top 46
theorem sc_tidied:FnScope ["layout", "steps", "first", "behind", "free"] ["layout"] (defScope s_tidied):=⟨rfl,rfl,rfl,by decide +kernel,rfl,by decide +kernel,by decide +kernel⟩
abbrev s_cell_at:Stmt:=top 48
theorem sc_cell_at:FnScope ["_law_script", "_law_k"] ["_law_script", "_law_k"] (defScope s_cell_at):=⟨rfl,rfl,rfl,by decide +kernel,rfl,by decide +kernel,by decide +kernel⟩
abbrev s_box:Stmt:=top 49
theorem sc_box:FnScope ["_law_cell_here"] ["_law_cell_here"] (defScope s_box):=⟨rfl,rfl,rfl,by decide +kernel,rfl,by decide +kernel,by decide +kernel⟩
abbrev s_take:Stmt:=top 50
theorem sc_take:FnScope ["_law_well_here", "_law_many", "_law_number"] ["_law_well_here", "_law_many"] (defScope s_take):=⟨rfl,rfl,rfl,by decide +kernel,rfl,by decide +kernel,by decide +kernel⟩
abbrev s_names:Stmt:=top 51
theorem sc_names:FnScope ["_law_well_here", "_law_many", "_law_letters", "_law_tail", "_law_shift", "_law_names_here", "_law_k", "_law_name", "_law_words"] ["_law_well_here", "_law_many"] (defScope s_names):=⟨rfl,rfl,rfl,by decide +kernel,rfl,by decide +kernel,by decide +kernel⟩
abbrev s_lwhole:Stmt:=top 52
theorem sc_lwhole:FnScope ["_law_thing"] ["_law_thing"] (defScope s_lwhole):=⟨rfl,rfl,rfl,by decide +kernel,rfl,by decide +kernel,by decide +kernel⟩
abbrev s_walk:Stmt:=top 53
theorem sc_walk:FnScope ["_law_many", "_law_rows_here", "_law_moves", "_law_lying", "_law_names_here", "_law_done", "_law_price", "_law_move", "_law_name", "_law_to", "_law_k", "_law_low", "_law_high"] ["_law_many", "_law_rows_here", "_law_moves"] (defScope s_walk):=⟨rfl,rfl,rfl,by decide +kernel,rfl,by decide +kernel,by decide +kernel⟩
abbrev s_lholes:Stmt:=top 54
theorem sc_lholes:FnScope ["_law_many", "_law_rows_here", "_law_found", "_law_end", "_law_name", "_law_start", "_law_size", "_law_pins"] ["_law_many", "_law_rows_here"] (defScope s_lholes):=⟨rfl,rfl,rfl,by decide +kernel,rfl,by decide +kernel,by decide +kernel⟩
abbrev s_sizes:Stmt:=top 55
theorem sc_sizes:FnScope ["_law_well_here", "_law_used", "_law_many", "_law_found", "_law_k", "_law_left", "_law_wide", "_law_size"] ["_law_well_here", "_law_used", "_law_many"] (defScope s_sizes):=⟨rfl,rfl,rfl,by decide +kernel,rfl,by decide +kernel,by decide +kernel⟩
abbrev s_lgaps:Stmt:=top 56
theorem sc_lgaps:FnScope ["_law_well_here", "_law_free", "_law_many", "_law_gaps_here", "_law_some", "_law_at"] ["_law_well_here", "_law_free", "_law_many"] (defScope s_lgaps):=⟨rfl,rfl,rfl,by decide +kernel,rfl,by decide +kernel,by decide +kernel⟩
abbrev s_rows:Stmt:=top 57
theorem sc_rows:FnScope ["_law_well_here", "_law_many", "_law_most", "_law_free", "_law_sizes_here", "_law_gaps_here", "_law_names_here", "_law_share", "_law_rows_here", "_law_at", "_law_name", "_law_size", "_law_gap", "_law_pins"] ["_law_well_here", "_law_many"] (defScope s_rows):=⟨rfl,rfl,rfl,by decide +kernel,rfl,by decide +kernel,by decide +kernel⟩
abbrev s_kept:Stmt:=top 58
theorem sc_kept:FnScope ["_law_states", "_law_key", "_law_price"] ["_law_states", "_law_key", "_law_price"] (defScope s_kept):=⟨rfl,rfl,rfl,by decide +kernel,rfl,by decide +kernel,by decide +kernel⟩
abbrev s_places:Stmt:=top 59
theorem sc_places:FnScope ["_law_many", "_law_rows_here", "_law_free", "_law_states", "_law_used", "_law_name", "_law_start", "_law_size", "_law_pins", "_law_further", "_law_end", "_law_holes_here", "_law_price", "_law_to", "_law_best"] ["_law_many", "_law_rows_here"] (defScope s_places):=⟨rfl,rfl,rfl,by decide +kernel,rfl,by decide +kernel,by decide +kernel⟩
abbrev s_law:Stmt:=top 60
theorem sc_law:FnScope ["_law_script", "_law_k", "_law_well_here", "_law_many", "_law_rows_here", "_law_layout", "_law_best", "_law_few", "_law_told", "_law_price", "_law_moves", "_law_walk_here", "_law_way", "_law_other"] ["_law_script"] (defScope s_law):=⟨rfl,rfl,rfl,by decide +kernel,rfl,by decide +kernel,by decide +kernel⟩
abbrev s_Linit:Stmt:=inClass (top 32) 0
theorem sc_Linit:FnScope ["self", "many", "rows"] ["self", "many", "rows"] (defScope s_Linit):=⟨rfl,rfl,rfl,by decide +kernel,rfl,by decide +kernel,by decide +kernel⟩
abbrev s_Lblocks:Stmt:=inClass (top 32) 1
theorem sc_Lblocks:FnScope ["self"] ["self"] (defScope s_Lblocks):=⟨rfl,rfl,rfl,by decide +kernel,rfl,by decide +kernel,by decide +kernel⟩
structure Txt (K:W.Frag) (mg:Str→Option Value) (c:Nat→Addr) (R CL ct_Linit pt_Linit ct_order pt_order:Addr):Prop where
 d_is_whole:HasDef K mg "is_whole" s_is_whole
 d_is_from:HasDef K mg "is_from" s_is_from
 d_is_within:HasDef K mg "is_within" s_is_within
 d_is_many:HasDef K mg "is_many" s_is_many
 d_is_name:HasDef K mg "is_name" s_is_name
 d_end_of:HasDef K mg "end_of" s_end_of
 d_is_row:HasDef K mg "is_row" s_is_row
 d_cells_of:HasDef K mg "cells_of" s_cells_of
 d_need_row:HasDef K mg "need_row" s_need_row
 d_need_rows:HasDef K mg "need_rows" s_need_rows
 d_share:HasDef K mg "share_cells" s_share
 d_between:HasDef K mg "blocks_between" s_between
 d_freeb:HasDef K mg "free_between" s_freeb
 d_stretches:HasDef K mg "stretches_of" s_stretches
 d_sdown:HasDef K mg "steps_down" s_sdown
 d_sup:HasDef K mg "steps_up" s_sup
 d_moves:HasDef K mg "moves_of" s_moves
 d_packed:∃tk0:Tok,HasDefD K mg "packed" s_packed [.str "down" tk0]
 d_fewest:HasDef K mg "fewest_holes" s_fewest
 d_cmoved:HasDef K mg "cells_moved" s_cmoved
 d_cheapest:HasDef K mg "cheapest_joining" s_cheapest
 tab_order:W.codeHdIn K ct_order pt_order=true
 d_order:HasDefC K mg "in_moving_order" s_order ct_order
 d_tidied:HasDef K mg "tidied" s_tidied
 d_cell_at:HasDef K mg "_law_cell" s_cell_at
 d_box:HasDef K mg "_law_well" s_box
 d_take:HasDef K mg "_law_draw" s_take
 d_names:HasDef K mg "_law_names" s_names
 d_lwhole:HasDef K mg "_law_whole" s_lwhole
 d_walk:HasDef K mg "_law_walk" s_walk
 d_lholes:HasDef K mg "_law_holes" s_lholes
 d_sizes:HasDef K mg "_law_sizes" s_sizes
 d_lgaps:HasDef K mg "_law_gaps" s_lgaps
 d_rows:HasDef K mg "_law_rows" s_rows
 d_kept:HasDef K mg "_law_kept" s_kept
 d_places:HasDef K mg "_law_places" s_places
 n_isinstance:mg "isinstance" = none
 n_int:mg "int" = none
 n_bool:mg "bool" = none
 n_str:mg "str" = none
 n_list:mg "list" = none
 n_tuple:mg "tuple" = none
 n_len:mg "len" = none
 n_all:mg "all" = none
 n_range:mg "range" = none
 n_sorted:mg "sorted" = none
 n_max:mg "max" = none
 n_min:mg "min" = none
 n_reversed:mg "reversed" = none
 n_sum:mg "sum" = none
 n_zip:mg "zip" = none
 g_LETTERS:GlobIs mg "LETTERS" (.str LET)
 g_NAME_SIGNS:GlobIs mg "NAME_SIGNS" (.str SGN)
 g_MOST_SIGNS:GlobIs mg "MOST_SIGNS" (.int 8)
 g_FEWEST_CELLS:GlobIs mg "FEWEST_CELLS" (.int 16)
 g_MOST_CELLS:GlobIs mg "MOST_CELLS" (.int 240)
 g_MOST_BLOCKS:GlobIs mg "MOST_BLOCKS" (.int 40)
 tne:pt_Linit≠pt_order
 g_R:mg "RoomError" = some (.ref R)
 c_R:(W.clsIn K R).isSome=true
 t_R:W.typeIn K (.ref R)=some (.type "type")
 m_R:W.mroIn K R (.type "BaseException")=some true
 clL:Cls K CL
 gc_Layout:mg "Layout" = some (.ref CL)
 aL_many:NoAttr K CL "many"
 aL_rows:NoAttr K CL "rows"
 tab_Linit:W.codeHdIn K ct_Linit pt_Linit=true
 f_Linit:∃f,(∃fd,Fun K "__init__" "Layout.__init__" s_Linit f fd∧fd.code=.ref ct_Linit)∧Mk K CL f
 f_Lblocks:∃f,FnAt K "blocks" "Layout.blocks" s_Lblocks f∧Meth K CL "blocks" f
local macro_rules | `(tactic| k_tabat)=>`(tactic| first
 | with_reducible assumption
 | (with_reducible exact New.e (by with_reducible assumption))
 | (with_reducible refine New.at (by with_reducible assumption) ?_;k_tabat)
 | (with_reducible refine Off.at (by with_reducible assumption) (by k_ne) ?_;k_tabat)
 | (with_reducible refine Kp.at (by with_reducible assumption) (by k_ne) ?_;k_tabat)
 | (with_reducible refine Same.at (by with_reducible assumption) ?_;k_tabat))
local macro_rules | `(tactic| k_ne)=>`(tactic| first
 | with_reducible assumption
 | (with_reducible exact Ne.symm (by with_reducible assumption))
 | (with_reducible exact New.neA (by with_reducible assumption) (by k_in))
 | (with_reducible exact New.neB (by with_reducible assumption) (by k_in)))
local macro_rules | `(tactic| k_in)=>`(tactic| first
 | (with_reducible exact Hs.of (by with_reducible assumption))
 | (with_reducible exact New.hs (by with_reducible assumption))
 | (with_reducible refine New.hsAt (by with_reducible assumption) ?_;k_in)
 | (with_reducible refine Off.hsAt (by with_reducible assumption) (by k_ne) ?_;k_in)
 | (with_reducible refine Kp.hsAt (by with_reducible assumption) (by k_ne) ?_;k_in)
 | (with_reducible refine Same.hsAt (by with_reducible assumption) ?_;k_in))
local macro_rules | `(tactic| k_flat)=>`(tactic| first
 | with_reducible assumption
 | (with_reducible exact SqL.of (by k_tabat))
 | (with_reducible exact SqT.of (by k_tabat))
 | (with_reducible refine Same.seq (by with_reducible assumption) ?_;k_flat)
 | (with_reducible refine Same.seq (New.s (by with_reducible assumption)) ?_;k_flat)
 | (with_reducible refine Off.seq (by with_reducible assumption) (by k_ne) ?_;k_flat))
local macro_rules | `(tactic| k_keys)=>`(tactic| first
 | with_reducible assumption
 | (with_reducible exact atI_0)
 | (with_reducible exact atL1)
 | (with_reducible exact atL2)
 | (with_reducible exact atL3)
 | with_unfolding_all rfl)
local macro_rules | `(tactic| k_room)=>`(tactic| first
 | with_reducible assumption
 | decide
 | lia
 | (simp only [List.length_cons,List.length_nil,List.length_map,List.length_append,List.length_replicate];lia))
local macro_rules | `(tactic| k_inst)=>`(tactic| first
 | (with_reducible refine small_line ?_;first | lia | (simp only [List.length_cons,List.length_nil,List.length_map,List.length_append,List.length_replicate,rowsN_len];lia))
 | (with_reducible refine small_lt ?_;first | lia | (simp only [List.length_cons,List.length_nil,List.length_map,List.length_append,List.length_replicate,rowsN_len];lia))
 | with_unfolding_all exact Nat.le_of_ble_eq_true rfl
 | lia)
local macro_rules | `(tactic| k_upd)=>`(tactic| first
 | with_reducible assumption
 | (intro b u e;k_tabat))
local macro_rules | `(tactic| k_updF)=>`(tactic| first
 | with_reducible assumption
 | (intro b u nb e;k_tabat))
local macro_rules | `(tactic| k_all)=>`(tactic| first
 | with_reducible assumption
 | (refine ⟨?_,?_,?_⟩;(focus (intro b u e;k_tabat));(focus k_tabat);(focus (intro b u e;k_ne))))
local macro_rules | `(tactic| k_mem)=>`(tactic| with_reducible (first
 | refine go_seq ?_ | refine go_asg ?_ | refine go_ret ?_ | refine go_if ?_ | refine go_drop ?_ | refine go_next ?_ | refine go_nx ?_ | refine w_rt ?_
 | refine go_test ?_ | refine go_b ?_ | refine go_op ?_ | refine go_cb ?_ | refine go_cons ?_ | refine go_nil ?_ | refine w_call ?_ | refine w_c ?_
 | refine wv0 ?_ | refine wv1 ?_ | refine wv2 ?_ | refine wv3 ?_ | refine wv4 ?_ | refine wv5 ?_ | refine wv6 ?_ | refine wv7 ?_ | refine wv8 ?_ | refine wv9 ?_ | refine wv10 ?_ | refine wv11 ?_ | refine wv12 ?_ | refine wv13 ?_
 | refine wn0 ?_ | refine wn1 ?_ | refine wn2 ?_ | refine wn3 ?_ | refine wn4 ?_ | refine wn5 ?_ | refine wn6 ?_ | refine wn7 ?_ | refine wn8 ?_ | refine wn9 ?_ | refine wn10 ?_ | refine wn11 ?_ | refine wn12 ?_ | refine wn13 ?_
 | refine w_i0 ?_ | refine w_u ?_ | refine w_un ?_ | refine w_eqi ?_ | refine w_nei ?_ | refine w_eqs ?_ | refine w_nes ?_ | refine w_eqb ?_ | refine w_neb ?_ | refine w_bl ?_ | refine w_not ?_ | refine w_and ?_ | refine w_or ?_ | refine w_notV ?_ | refine w_andV ?_ | refine w_orV ?_
 | refine w_ifE ?_ | refine w_chain ?_ | refine w_bm ?_ | refine w_bm0 ?_ | refine w_sub ?_ | refine w_slice ?_ | refine w_noPart ?_ | refine w_part ?_ | refine w_int ?_ | refine w_max ?_ | refine w_min ?_ | refine w_intB ?_ | refine w_intI ?_
 | refine w_mod (by decide) ?_ | refine w_div (by decide) (by decide) ?_ | refine w_pow (by decide) (by decide) (by decide) ?_ | refine w_mulL (by decide) (by decide) ?_ | refine w_mulR (by decide) (by decide) ?_ | refine go_tupA ?_ | refine go_lstA ?_ | refine w_notT ?_ | refine w_isB ?_ | refine w_isNB ?_ | refine w_revSl ?_ | refine w_din ?_ | refine w_dput ?_ | refine go_fs ?_ | refine go_fmt ?_ | refine go_fld ?_ | refine go_methB ?_ | refine go_makeB ?_ | refine go_sfldB ?_))
set_option hygiene false in
local macro_rules | `(tactic| k_meth)=>`(tactic| first
 | k_mem
 | with_reducible (refine w_isTT (by k_tabat) ?_)
 | with_reducible (refine w_isLL (by k_tabat) ?_)
 | with_reducible (refine w_isTL (by k_tabat) ?_)
 | with_reducible (refine w_isLT (by k_tabat) ?_)
 | with_reducible refine w_isII ?_
 | with_reducible refine w_isIB ?_
 | with_reducible refine w_isBB ?_
 | with_reducible refine w_isBI ?_
 | with_reducible (refine w_ixL (by k_flat) (by k_keys) ?_)
 | with_reducible (refine w_ixT (by k_flat) (by k_keys) ?_)
 | with_reducible (refine w_lenL (by k_flat) ?_)
 | with_reducible (refine w_lenT (by k_flat) ?_)
 | with_reducible (refine made_ok (by k_inst) ?_;intro _ _ _)
 | with_reducible (refine w_tyL (by k_flat) ?_)
 | with_reducible (refine w_app (by k_tabat) (by k_inst) ?_;intro _ _ _)
 | with_reducible (refine w_clr (by k_tabat) ?_;intro _ _ _)
 | with_reducible (refine w_slA (by k_flat) ?_;intro _ _ _)
 | with_reducible (refine w_catA (by k_tabat) (by k_tabat) (by k_inst) ?_;intro _ _ _)
 | with_reducible (refine w_lofL (by k_flat) ?_;intro _ _ _)
 | with_reducible (refine w_rep1 (by k_tabat) (by lia) ?_;intro _ _ _)
 | with_reducible (refine i_pos (by k_room) ?_)
 | with_reducible (refine i_neg (by k_room) ?_)
 | with_reducible (refine i_npos (by k_room) ?_)
 | with_reducible (refine i_nneg (by k_room) ?_)
 | with_reducible (refine i_tt ?_)
 | with_reducible (refine i_ff ?_)
 | with_reducible (refine i_ntt ?_)
 | with_reducible (refine i_nff ?_)
 | with_reducible (refine w_tupB (by with_unfolding_all rfl) (by k_flat) ?_)
 | with_reducible (refine go_aug rfl ?_)
 | with_reducible refine w_not2 ?_
 | with_reducible refine go_ck ?_
 | with_reducible refine go_slc ?_
 | with_reducible (refine w_mod (by lia) ?_)
 | with_reducible (refine w_rng2 ?_)
 | with_reducible refine w_forE ?_
 | with_reducible refine w_forR1 ?_
 | with_reducible refine w_forR2 ?_
 | with_reducible refine w_forL ?_
 | with_reducible refine w_compL ?_)
section
variable {P:Program} {w:World} {K:W.Frag} {mg:Str→Option Value} {base:Heap} {c:Nat→Addr} {ct_Linit pt_Linit ct_order pt_order R CL:Addr}
theorem D_is_whole (T:Txt K mg c R CL ct_Linit pt_Linit ct_order pt_order):Def P w K mg base CX0 1 "is_whole" ["thing"] (sp_whole K):=by
 refine def_of T.d_is_whole sc_is_whole (fun vs H Q E h=>?_) (fun _ _ _ _ _ _=>el1 fun _=>rfl) (fun f cdv A outer s H vs Q E hr h=>?_)
 ·obtain ⟨x,n,rfl,_⟩:=h
  rfl
 ·obtain ⟨x,n,rfl,ty,k⟩:=h
  have nd:=sc_is_whole.nd
  refine ⟨_,(pss_one (ps_ret (pe_and (pe_callB call_isT rfl T.n_isinstance boot_isinstance (pa_cons (pv 0) (pa_cons (pe_ty (T := "int") rfl T.n_int boot_int) pa_nil))) (pe_one (pe_not (pe_callB call_isT rfl T.n_isinstance boot_isinstance (pa_cons (pv 0) (pa_cons (pe_ty (T := "bool") rfl T.n_bool boot_bool) pa_nil)))))))),?_⟩
  clear nd 
  rw [show start ["thing"] [x]=[some (x)] from rfl]
  try dsimp only [cx_K,cx_K2]
  rw [isW_eq] at k
  repeat k_mem
  refine w_is ty (bt_int ty) ?_
  repeat k_mem
  refine i_b (fun h=>?_) (fun h=>?_)
  ·repeat k_mem
   refine w_is ty (bt_bool ty) ?_
   repeat k_mem
   rw [h] at k
   exact k
  ·rw [h] at k
   exact k
theorem D_is_from (T:Txt K mg c R CL ct_Linit pt_Linit ct_order pt_order):Def P w K mg base CX0 2 "is_from" ["thing", "low"] (sp_is_from K):=by
 have D_is_whole:=D_is_whole (P:=P) (w:=w) (base:=base) T
 refine def_of T.d_is_from sc_is_from (fun vs H Q E h=>?_) (fun _ _ _ _ _ _=>el2 fun _ _=>rfl) (fun f cdv A outer s H vs Q E hr h=>?_)
 ·obtain ⟨x,n,lo,rfl,_⟩:=h
  rfl
 ·obtain ⟨x,n,lo,rfl,ty,k⟩:=h
  have nd:=sc_is_from.nd
  refine ⟨_,(pss_one (ps_ret (pe_and (pe_def D_is_whole hr (pa_cons (pv 0) pa_nil)) (pe_one (pe_cmpR op_le (pv 1) (pv 0) (nomark _)))))),?_⟩
  clear nd D_is_whole
  rw [show start ["thing", "low"] [x,.int lo]=[some (x),some (.int lo)] from rfl]
  try dsimp only [cx_K,cx_K2]
  repeat k_mem
  refine u_whole ty ?_
  repeat k_mem
  cases x with
  | int i =>
   refine i_T rfl ?_
   repeat k_mem
   exact k
  | _=>exact i_F rfl k
theorem D_is_within (T:Txt K mg c R CL ct_Linit pt_Linit ct_order pt_order):Def P w K mg base CX0 2 "is_within" ["thing", "low", "high"] (sp_is_within K):=by
 have D_is_whole:=D_is_whole (P:=P) (w:=w) (base:=base) T
 refine def_of T.d_is_within sc_is_within (fun vs H Q E h=>?_) (fun _ _ _ _ _ _=>el3 fun _ _ _=>rfl) (fun f cdv A outer s H vs Q E hr h=>?_)
 ·obtain ⟨x,n,lo,hi,rfl,_⟩:=h
  rfl
 ·obtain ⟨x,n,lo,hi,rfl,ty,k⟩:=h
  have nd:=sc_is_within.nd
  refine ⟨_,(pss_one (ps_ret (pe_and (pe_def D_is_whole hr (pa_cons (pv 0) pa_nil)) (pe_one (pe_chain op_le op_le (pv 1) (pv 0) (pv 2)))))),?_⟩
  clear nd D_is_whole
  rw [show start ["thing", "low", "high"] [x,.int lo,.int hi]=[some (x),some (.int lo),some (.int hi)] from rfl]
  try dsimp only [cx_K,cx_K2]
  repeat k_mem
  refine u_whole ty ?_
  repeat k_mem
  cases x with
  | int i =>
   refine i_T rfl ?_
   repeat k_mem
   have k:Q (.bl (decide (lo≤i) && decide (i≤hi))) H:=k
   refine i_dec (fun h=>?_) (fun h=>?_)
   ·repeat k_mem
    rw [decide_eq_true h,Bool.true_and] at k
    exact k
   ·rw [decide_eq_false h,Bool.false_and] at k
    exact k
  | _=>exact i_F rfl k
theorem D_is_many (T:Txt K mg c R CL ct_Linit pt_Linit ct_order pt_order):Def P w K mg base CX0 3 "is_many" ["thing"] (sp_is_many K):=by
 have D_is_within:=D_is_within (P:=P) (w:=w) (base:=base) T
 refine def_of T.d_is_many sc_is_many (fun vs H Q E h=>?_) (fun _ _ _ _ _ _=>el1 fun _=>rfl) (fun f cdv A outer s H vs Q E hr h=>?_)
 ·obtain ⟨x,n,rfl,_⟩:=h
  rfl
 ·obtain ⟨x,n,rfl,ty,k⟩:=h
  have nd:=sc_is_many.nd
  refine ⟨_,(pss_one (ps_ret (pe_def D_is_within hr (pa_cons (pv 0) (pa_cons (pe_gl T.g_FEWEST_CELLS) (pa_cons (pe_gl T.g_MOST_CELLS) pa_nil)))))),?_⟩
  clear nd D_is_within
  rw [show start ["thing"] [x]=[some (x)] from rfl]
  try dsimp only [cx_K,cx_K2]
  repeat k_mem
  exact u_within ty k
theorem D_end_of (T:Txt K mg c R CL ct_Linit pt_Linit ct_order pt_order):Def P w K mg base CX0 1 "end_of" ["stretch"] sp_end_of:=by
 refine def_of T.d_end_of sc_end_of (fun vs H Q E h=>?_) (fun _ _ _ _ _ _=>el1 fun _=>rfl) (fun f cdv A outer s H vs Q E hr h=>?_)
 ·obtain ⟨q,a,b,rfl,_⟩:=h
  rfl
 ·obtain ⟨q,a,b,rfl,h,k⟩:=h
  have nd:=sc_end_of.nd
  refine ⟨_,(pss_one (ps_ret (pe_op op_add (pe_ix ix_tup (pv 0) pe_int (fun _ _=>rfl)) (pe_ix ix_tup (pv 0) pe_int (fun _ _=>rfl))))),?_⟩
  clear nd 
  rw [show start ["stretch"] [.ref q]=[some (.ref q)] from rfl]
  try dsimp only [cx_K,cx_K2]
  repeat k_meth
  exact k
theorem D_cell_at (T:Txt K mg c R CL ct_Linit pt_Linit ct_order pt_order):Def P w K mg base CX0 1 "_law_cell" ["_law_script", "_law_k"] (sp_cellA K):=by
 refine def_of T.d_cell_at sc_cell_at (fun vs H Q E h=>?_) (fun _ _ _ _ _ _=>el2 fun _ _=>rfl) (fun f cdv A outer s H vs Q E hr h=>?_)
 ·obtain ⟨a,ns,m,rfl,_⟩:=h
  rfl
 ·obtain ⟨a,ns,m,rfl,hS,m0,k⟩:=h
  have nd:=sc_cell_at.nd
  refine ⟨_,(pss_cons (ps_if (pt_cmpR op_lt (pv 1) (pe_callB call_lenN rfl T.n_len boot_len (pa_cons (pv 0) pa_nil)) (nomark _)) (pss_one (ps_ret (pe_ix ix_list (pv 0) (pv 1) (fun _ _=>rfl)))) pss_nil)
   (pss_one (ps_ret (pe_op op_add (pe_op op_mul pe_int (pv 1)) pe_int)))),?_⟩
  clear nd 
  rw [show start ["_law_script", "_law_k"] [.ref a,.int m]=[some (.ref a),some (.int m)] from rfl]
  try dsimp only [cx_K,cx_K2]
  repeat k_meth
  refine i_dec (fun h=>?_) (fun h=>?_)
  ·repeat k_meth
   rw [List.length_map] at h
   obtain ⟨v,e,mm⟩:=atI_lt (xs:=ns.map V.int) m0 (by rw [List.length_map];exact h)
   obtain ⟨c,_,rfl⟩:=List.mem_map.mp mm
   exact w_ixL hS e (k c)
  ·repeat k_meth
   exact k _
theorem D_box (T:Txt K mg c R CL ct_Linit pt_Linit ct_order pt_order):Def P w K mg base CX0 1 "_law_well" ["_law_cell_here"] sp_boxA:=by
 refine def_of T.d_box sc_box (fun vs H Q E h=>?_) (fun _ _ _ _ _ _=>el1 fun _=>rfl) (fun f cdv A outer s H vs Q E hr h=>?_)
 ·obtain ⟨c,rfl,_⟩:=h
  rfl
 ·obtain ⟨c,rfl,k⟩:=h
  have nd:=sc_box.nd
  refine ⟨_,(pss_cons (ps_if (pt_cmpR op_ge (pv 0) (pe_op op_pow pe_int pe_int) (nomark _)) (pss_one (ps_ret (pe_lstA (pa_cons (pv 0) (pa_cons (pe_op op_mod (pv 0) pe_int) (pa_cons pe_int pa_nil)))))) pss_nil)
   (pss_one (ps_ret (pe_lstA (pa_cons pe_int (pa_cons (pe_op op_mod (pv 0) pe_int) (pa_cons pe_int pa_nil))))))),?_⟩
  clear nd 
  rw [show start ["_law_cell_here"] [.int c]=[some (.int c)] from rfl]
  try dsimp only [cx_K,cx_K2]
  repeat k_meth
  refine i_dec (fun h=>?_) (fun h=>?_)
  ·repeat k_meth
   rename_i n
   exact k _ _ _ _ n
  ·repeat k_meth
   rename_i n
   exact k _ _ _ _ n
theorem D_take (T:Txt K mg c R CL ct_Linit pt_Linit ct_order pt_order):Def P w K mg base CX0 1 "_law_draw" ["_law_well_here", "_law_many"] sp_takeA:=by
 refine def_of T.d_take sc_take (fun vs H Q E h=>?_) (fun _ _ _ _ _ _=>el2 fun _ _=>rfl) (fun f cdv A outer s H vs Q E hr h=>?_)
 ·obtain ⟨p,a,b,c,m,rfl,_⟩:=h
  rfl
 ·obtain ⟨p,a,b,c,m,rfl,hp,m0,m1,k⟩:=h
  have nd:=sc_take.nd
  refine ⟨_,(pss_cons (ps_if (pt_cmpR op_gt (pe_ix ix_list (pv 0) pe_int (fun _ _=>rfl)) pe_int (nomark _)) (pss_cons (ps_set (i:=2) nd rfl (Or.inl rfl) (pe_op op_mod (pe_ix ix_list (pv 0) pe_int (fun _ _=>rfl)) (pv 1)))
    (pss_cons (ps_asg (pe_op op_fdiv (pe_ix ix_list (pv 0) pe_int (fun _ _=>rfl)) (pv 1)) (pg_sub (pv 0) pe_int set_listA))
    (pss_one (ps_ret (pv 2))))) pss_nil)
   (pss_cons (ps_asg (pe_op op_add (pe_ix ix_list (pv 0) pe_int (fun _ _=>rfl)) pe_int) (pg_sub (pv 0) pe_int set_listA))
   (pss_cons (ps_set (i:=2) nd rfl (Or.inl rfl) (pe_op op_mod (pe_op op_add (pe_op op_add (pe_op op_mul (pe_ix ix_list (pv 0) pe_int (fun _ _=>rfl)) pe_int) (pe_op op_mul pe_int (pe_ix ix_list (pv 0) pe_int (fun _ _=>rfl)))) pe_int) pe_int))
   (pss_cons (ps_set (i:=2) nd rfl (Or.inl rfl) (pe_op op_mod (pe_op op_add (pe_op op_add (pe_op op_mul (pv 2) (pv 2)) (pe_op op_mul pe_int (pe_ix ix_list (pv 0) pe_int (fun _ _=>rfl)))) pe_int) pe_int))
   (pss_one (ps_ret (pe_op op_mod (pe_op op_mod (pe_op op_mul (pv 2) (pv 2)) pe_int) (pv 1)))))))),?_⟩
  clear nd 
  rw [show start ["_law_well_here", "_law_many", "_law_number"] [.ref p,.int m]=[some (.ref p),some (.int m),none] from rfl]
  try dsimp only [cx_K,cx_K2]
  repeat k_meth
  refine i_dec (fun h=>?_) (fun h=>?_)
  ·repeat k_meth
   refine w_div m0 m1 ?_
   repeat k_meth
   refine w_setA hp rfl fun H1 f1 e1=>?_
   repeat k_meth
   exact k _ _ _ _ H1 (Int.emod_nonneg _ (by lia)) (Int.emod_lt_of_pos _ m0) f1 e1
  ·repeat k_meth
   refine w_setA hp rfl fun H1 f1 e1=>?_
   have e1:H1 p=some (.lst [.int a,.int b,.int (c + 1)]):=e1
   repeat k_meth
   generalize (b * 48271 + 7919 * (c + 1) + 101)=z
   have b1:=Int.emod_nonneg z (show (2147483647:Int)≠0 by decide)
   have b2:=Int.emod_lt_of_pos z (show (0:Int) < 2147483647 by decide)
   generalize z % 2147483647=y at b1 b2
   refine w_mulL (by lia) (by lia) ?_
   repeat k_meth
   have b3:=Int.emod_nonneg (y * y + 104729 * (c + 1) + 7) (show (2147483629:Int)≠0 by decide)
   have b4:=Int.emod_lt_of_pos (y * y + 104729 * (c + 1) + 7) (show (0:Int) < 2147483629 by decide)
   generalize (y * y + 104729 * (c + 1) + 7) % 2147483629=x at b3 b4
   refine w_mulR (by lia) (by lia) ?_
   repeat k_meth
   exact k _ _ _ _ H1 (Int.emod_nonneg _ (by lia)) (Int.emod_lt_of_pos _ m0) f1 e1
end
end K88
namespace K88
open PySem L2 PyProof.Rows
local macro_rules | `(tactic| k_room)=>`(tactic| first
 | with_reducible assumption
 | with_unfolding_all exact rfl
 | with_unfolding_all exact Nat.le_of_ble_eq_true rfl
 | lia
 | (with_reducible refine small_line ?_;first | lia | (simp only [List.length_cons,List.length_nil,List.length_map,List.length_append,List.length_replicate,rowsN_len,List.length_take,List.length_drop,List.length_set];lia))
 | (with_reducible refine small_lt ?_;first | lia | (simp only [List.length_cons,List.length_nil,List.length_map,List.length_append,List.length_replicate,rowsN_len,List.length_take,List.length_drop,List.length_set];lia))
 | (simp only [List.length_cons,List.length_nil,List.length_map,List.length_append,List.length_replicate,rowsN_len,List.length_take,List.length_drop,List.length_set];lia)
 | decide)
local macro_rules | `(tactic| k_mem)=>`(tactic| first
 | with_reducible assumption
 | decide
 | lia
 | (simp only [List.length_cons,List.length_nil,List.length_map,List.length_append,List.length_replicate,rowsN_len,List.length_take,List.length_drop,List.length_set];lia))
set_option hygiene false in
local macro_rules | `(tactic| k_meth)=>`(tactic| first
 | with_reducible refine go1 ?_
 | (clear F;intro H_ a_ dx_ (F:SH _ _ _ _ _) (ex_:ExcT _ _ _ _);have exA_:=ExA.mk ex_)
 | (clear F;intro H_ (F:SH _ _ _ _ _))
 | (clear F;intro H_ p_ (F:SH _ _ _ _ _))
 | (clear F;intro H_ x_ dx_ (F:SH _ _ _ _ _))
 | (clear F;intro H_ p_ ys_ l_ (F:SH _ _ _ _ _))
 | with_reducible refine sd (by k_room) ?_
 | (intro (r_:Int) (x_:Int) (y_:Int) (z_:Int) lo_ hi_)
 | (intro (x_:Int) (y_:Int))
 | (intro (c_:Int))
 | with_reducible refine i_pos (by k_mem) ?_
 | with_reducible refine i_neg (by k_mem) ?_
 | with_reducible refine i_npos (by k_mem) ?_
 | with_reducible refine i_nneg (by k_mem) ?_)
open M22
def sp_is_name:Sp:=fun vs H Q _=>∃cs:List Nat,vs=[.str (tx cs)]∧NameOk cs∧∀H',Same H H'→Q (.bl true) H'
def sp_share:Sp:=fun vs H Q _=>∃(p q:Addr) (a b c d:Int),vs=[.ref p,.ref q]∧H p=some (.tup [.int a,.int b])∧H q=some (.tup [.int c,.int d])∧Q (.bl (decide (a < c + d) && decide (c < a + b))) H
def sp_cells:Sp:=fun vs H Q _=>∃(q:Addr) (r:Rw),vs=[.ref q]∧H q=some (.tup (rowV r))∧∀p H',Same H H'→H' p=some (.tup [.int (r.st:Nat),.int (r.sz:Nat)])→Q (.ref p) H'
def sp_is_row:Sp:=fun vs H Q _=>∃(q:Addr) (r:Rw),vs=[.ref q]∧H q=some (.tup (rowV r))∧NameOk r.nm∧1≤r.sz∧∀H',Same H H'→Q (.bl true) H'
def sp_need_row:Sp:=fun vs H Q _=>∃(n:Nat) (q l:Addr) (r:Rw) (ys:List V) (rs:List Rw),vs=[.int (n:Nat),.ref q,.ref l]∧H q=some (.tup (rowV r))∧H l=some (.lst ys)∧TupsAt H ys (rowsV rs)∧GoodR n r∧(∀s∈rs,Apart s r)∧∀H',Same H H'→Q .non H'
def sp_need_rows:Sp:=fun vs H Q _=>∃(n:Nat) (l:Addr) (ys:List V) (rs:List Rw),vs=[.int (n:Nat),.ref l]∧H l=some (.lst ys)∧TupsAt H ys (rowsV rs)∧Lay n rs∧∀H',Same H H'→Q .non H'
section
variable {H:Hp} {Q:VK} {E:XK} {cs:List Nat} {p q l:Addr} {a b c d:Int} {r:Rw} {n:Nat} {ys:List V} {rs:List Rw}
instance go_is_name:Go (sp_is_name [.str (tx cs)] H Q E) (Sd (NameOk cs) (∀H',Same H H'→Q (.bl true) H')):=⟨fun s=>⟨cs,rfl,s.1,s.2⟩⟩
instance go_share [h:Hat H p (.tup [.int a,.int b])] [h2:Hat H q (.tup [.int c,.int d])]:Go (sp_share [.ref p,.ref q] H Q E) (Q (.bl (decide (a < c + d) && decide (c < a + b))) H):=⟨fun k=>⟨p,q,a,b,c,d,rfl,h.e,h2.e,k⟩⟩
instance go_cells [h:Hat H q (.tup (rowV r))]:Go (sp_cells [.ref q] H Q E) (∀p H',Same H H'→H' p=some (.tup [.int (r.st:Nat),.int (r.sz:Nat)])→Q (.ref p) H'):=⟨fun k=>⟨q,r,rfl,h.e,k⟩⟩
instance go_is_row [h:Hat H q (.tup (rowV r))]:Go (sp_is_row [.ref q] H Q E) (Sd (NameOk r.nm∧1≤r.sz) (∀H',Same H H'→Q (.bl true) H')):=⟨fun s=>⟨q,r,rfl,h.e,s.1.1,s.1.2,s.2⟩⟩
instance go_need_row [h:Hat H q (.tup (rowV r))] [h2:Hat H l (.lst ys)] [t:TpA H ys (rowsV rs)]:Go (sp_need_row [.int (n:Nat),.ref q,.ref l] H Q E) (Sd (GoodR n r∧∀s∈rs,Apart s r) (∀H',Same H H'→Q .non H')):=⟨fun s=>⟨n,q,l,r,ys,rs,rfl,h.e,h2.e,t.e,s.1.1,s.1.2,s.2⟩⟩
instance go_need_rows [h2:Hat H l (.lst ys)] [t:TpA H ys (rowsV rs)]:Go (sp_need_rows [.int (n:Nat),.ref l] H Q E) (Sd (Lay n rs) (∀H',Same H H'→Q .non H')):=⟨fun s=>⟨n,l,ys,rs,rfl,h2.e,t.e,s.1,s.2⟩⟩
instance nx_sameT {H0:Hp} {M:List Addr} {L:List (Addr×HO)} {I:List Im} {xs:List V} {Z:Addr→Hp→Prop} [F:SH H0 M H L I]:Go (∀p H',Same H H'→H' p=some (.tup xs)→Z p H') (∀H' p,SH H0 M H' L (.tup p xs::I)→Z p H'):=⟨fun k p H' s e=>k H' p ((F.same s).addT e)⟩
theorem rows_take {i:Nat} (t:TupsAt H ys (rowsV rs)):TupsAt H (ys.take i) (rowsV (rs.take i)):=by
 refine ⟨?_,fun j r e=>?_⟩
 ·rw [rowsV_len,List.length_take,List.length_take,t.1,rowsV_len]
 ·unfold rowsV at e
  rw [List.map_take,List.getElem?_take] at e
  split at e
  ·rename_i hj
   obtain ⟨q,e1,e2⟩:=t.2 j r e
   exact ⟨q,by rw [List.getElem?_take,if_pos hj];exact e1,e2⟩
  ·cases e
theorem cut_take {i:Nat}:cutV ys none (some (i:Int))=ys.take i:=by
 unfold cutV
 rw [HT.sIx_nat]
 show (ys.drop 0).take (min i ys.length - 0)=_
 rw [List.drop_zero,Nat.sub_zero]
 by_cases h:i≤ys.length
 ·rw [show min i ys.length=i by lia]
 ·rw [List.take_of_length_le (by lia),List.take_of_length_le (by lia)]
end
section
variable {P:Program} {w:World} {K:W.Frag} {mg:Str→Option Value} {base:Heap} {c:Nat→Addr} {ct_Linit pt_Linit ct_order pt_order R CL:Addr}
theorem D_is_name (T:Txt K mg c R CL ct_Linit pt_Linit ct_order pt_order):Def P w K mg base CX0 1 "is_name" ["thing"] sp_is_name:=by
 refine def_of T.d_is_name sc_is_name (fun vs H Q E h=>?_) (fun _ _ _ _ _ _=>el1 fun _=>rfl) (fun f cdv A outer s H vs Q E hr h=>?_)
 ·obtain ⟨cs,rfl,_⟩:=h
  rfl
 ·obtain ⟨cs,rfl,ok,k⟩:=h
  have nd:=sc_is_name.nd
  refine ⟨_,(pss_cons (ps_if (PW.pt (pw_or (pt_not (pt_val (pe_callB call_isT rfl T.n_isinstance boot_isinstance (pa_cons (pv 0) (pa_cons (pe_ty (T := "str") rfl T.n_str boot_str) pa_nil))))) (pw_or1 (pt_not (pt_chain op_le op_le pe_int (pe_callB call_lenN rfl T.n_len boot_len (pa_cons (pv 0) pa_nil)) (pe_gl T.g_MOST_SIGNS)))))) (pss_one (ps_ret pe_bl)) pss_nil)
   (pss_one (ps_ret (pe_and (pe_cmpR op_inS (pe_ix ix_str (pv 0) pe_int (fun _ _=>rfl)) (pe_gl T.g_LETTERS) (by with_unfolding_all rfl)) (pe_one (pe_callB (call_all rfl) rfl T.n_all boot_all (pa_cons (pe_comp (N:=["sign"]) (nt:=1) (fr:=[]) (pi_str (pv 0)) (fun _ _ _ _=>(pg_name (i:=0) (show (["sign"]:List Str).Nodup from by decide +kernel) rfl (Or.inl rfl))) (fun _ _ _ _=>pif_nil) (fun _ _ _ _=>(pe_cmpR op_inS (pv 0) (pe_gl T.g_NAME_SIGNS) (by with_unfolding_all rfl)))) pa_nil))))))),?_⟩
  clear nd 
  rw [show start ["thing"] [.str (tx cs)]=[some (.str (tx cs))] from rfl]
  try dsimp only [cx_K,cx_K2]
  have iL_many:FldOk K CL "many" := ⟨T.clL,T.aL_many⟩
  have iL_rows:FldOk K CL "rows" := ⟨T.clL,T.aL_rows⟩
  have F:SH H [] H [] []:=SH.nil
  have h1:=ok.lo
  have h2:=ok.hi
  repeat k_meth
  intro c hc
  repeat k_meth
  rw [let_low,ok.hd c hc]
  repeat k_meth
  refine comp_S (F:=fun c=>V.bl true) (by lia) rfl (fun c H' R hm s kk=>?_) ?_
  ·clear F
   have F:SH H' [] H' [] []:=SH.nil
   repeat k_meth
   rw [sgn_low,ok.all c hm]
   exact kk _ (Same.refl _)
  ·have e:(cs.map fun _=>V.bl true)=(List.replicate cs.length true).map V.bl:=by
    rw [List.map_replicate,List.map_const']
   rw [e]
   repeat k_meth
   rw [show (List.replicate cs.length true).all id=true by simp]
   exact k _ F.sm
theorem D_share (T:Txt K mg c R CL ct_Linit pt_Linit ct_order pt_order):Def P w K mg base CX0 2 "share_cells" ["one", "other"] sp_share:=by
 have D_end_of:=D_end_of (P:=P) (w:=w) (base:=base) T
 refine def_of T.d_share sc_share (fun vs H Q E h=>?_) (fun _ _ _ _ _ _=>el2 fun _ _=>rfl) (fun f cdv A outer s H vs Q E hr h=>?_)
 ·obtain ⟨p,q,a,b,c,d,rfl,_⟩:=h
  rfl
 ·obtain ⟨p,q,a,b,c,d,rfl,hp,hq,k⟩:=h
  have nd:=sc_share.nd
  refine ⟨_,(pss_one (ps_ret (pe_and (pe_cmpR op_lt (pe_ix ix_tup (pv 0) pe_int (fun _ _=>rfl)) (pe_def D_end_of hr (pa_cons (pv 1) pa_nil)) (nomark _)) (pe_one (pe_cmpR op_lt (pe_ix ix_tup (pv 1) pe_int (fun _ _=>rfl)) (pe_def D_end_of hr (pa_cons (pv 0) pa_nil)) (nomark _)))))),?_⟩
  clear nd D_end_of
  rw [show start ["one", "other"] [.ref p,.ref q]=[some (.ref p),some (.ref q)] from rfl]
  try dsimp only [cx_K,cx_K2]
  have iL_many:FldOk K CL "many" := ⟨T.clL,T.aL_many⟩
  have iL_rows:FldOk K CL "rows" := ⟨T.clL,T.aL_rows⟩
  have o_hp:=Old.mk (M:=[]) hp nm0
  have o_hq:=Old.mk (M:=[]) hq nm0
  have F:SH H [] H [] []:=SH.nil
  repeat k_meth
  refine i_dec (fun h=>?_) (fun h=>?_)
  ·repeat k_meth
   rw [decide_eq_true h,Bool.true_and] at k
   exact k
  ·rw [decide_eq_false h,Bool.false_and] at k
   exact k
theorem D_cells_of (T:Txt K mg c R CL ct_Linit pt_Linit ct_order pt_order):Def P w K mg base CX0 1 "cells_of" ["row"] sp_cells:=by
 refine def_of T.d_cells_of sc_cells_of (fun vs H Q E h=>?_) (fun _ _ _ _ _ _=>el1 fun _=>rfl) (fun f cdv A outer s H vs Q E hr h=>?_)
 ·obtain ⟨q,r,rfl,_⟩:=h
  rfl
 ·obtain ⟨q,r,rfl,hq,k⟩:=h
  have nd:=sc_cells_of.nd
  refine ⟨_,(pss_one (ps_ret (pe_tupA (pa_cons (pe_ix ix_tup (pv 0) pe_int (fun _ _=>rfl)) (pa_cons (pe_ix ix_tup (pv 0) pe_int (fun _ _=>rfl)) pa_nil))))),?_⟩
  clear nd 
  rw [show start ["row"] [.ref q]=[some (.ref q)] from rfl]
  try dsimp only [cx_K,cx_K2]
  have iL_many:FldOk K CL "many" := ⟨T.clL,T.aL_many⟩
  have iL_rows:FldOk K CL "rows" := ⟨T.clL,T.aL_rows⟩
  have o_hq:=Old.mk (M:=[]) hq nm0
  have F:SH H [] H [] []:=SH.nil
  repeat k_meth
  exact k _ _ F.sm hatC
theorem D_is_row (T:Txt K mg c R CL ct_Linit pt_Linit ct_order pt_order):Def P w K mg base CX0 3 "is_row" ["thing"] sp_is_row:=by
 have D_is_name:=D_is_name (P:=P) (w:=w) (base:=base) T
 have D_is_from:=D_is_from (P:=P) (w:=w) (base:=base) T
 refine def_of T.d_is_row sc_is_row (fun vs H Q E h=>?_) (fun _ _ _ _ _ _=>el1 fun _=>rfl) (fun f cdv A outer s H vs Q E hr h=>?_)
 ·obtain ⟨q,r,rfl,_⟩:=h
  rfl
 ·obtain ⟨q,r,rfl,hq,ok,hz,k⟩:=h
  have nd:=sc_is_row.nd
  refine ⟨_,(pss_cons (ps_if (PW.pt (pw_or (pt_not (pt_val (pe_callB call_isT rfl T.n_isinstance boot_isinstance (pa_cons (pv 0) (pa_cons (pe_ty (T := "tuple") rfl T.n_tuple boot_tuple) pa_nil))))) (pw_or1 (pt_cmpR op_ne (pe_callB call_lenN rfl T.n_len boot_len (pa_cons (pv 0) pa_nil)) pe_int (nomark _))))) (pss_one (ps_ret pe_bl)) pss_nil)
   (pss_one (ps_ret (pe_and (pe_def D_is_name hr (pa_cons (pe_ix ix_tup (pv 0) pe_int (fun _ _=>rfl)) pa_nil)) (pe_and (pe_def D_is_from hr (pa_cons (pe_ix ix_tup (pv 0) pe_int (fun _ _=>rfl)) (pa_cons pe_int pa_nil))) (pe_and (pe_def D_is_from hr (pa_cons (pe_ix ix_tup (pv 0) pe_int (fun _ _=>rfl)) (pa_cons pe_int pa_nil))) (pe_one (pe_def D_is_from hr (pa_cons (pe_ix ix_tup (pv 0) pe_int (fun _ _=>rfl)) (pa_cons pe_int pa_nil)))))))))),?_⟩
  clear nd D_is_name D_is_from
  rw [show start ["thing"] [.ref q]=[some (.ref q)] from rfl]
  try dsimp only [cx_K,cx_K2]
  have iL_many:FldOk K CL "many" := ⟨T.clL,T.aL_many⟩
  have iL_rows:FldOk K CL "rows" := ⟨T.clL,T.aL_rows⟩
  have o_hq:=Old.mk (M:=[]) hq nm0
  have F:SH H [] H [] []:=SH.nil
  have e4:(((rowV r).length:Nat):Int)=4:=rfl
  repeat k_meth
  exact k _ F.sm
theorem D_need_row (T:Txt K mg c R CL ct_Linit pt_Linit ct_order pt_order):Def P w K mg base CX0 4 "need_row" ["many", "row", "ahead"] sp_need_row:=by
 have D_is_row:=D_is_row (P:=P) (w:=w) (base:=base) T
 have D_end_of:=D_end_of (P:=P) (w:=w) (base:=base) T
 have D_share:=D_share (P:=P) (w:=w) (base:=base) T
 have D_cells_of:=D_cells_of (P:=P) (w:=w) (base:=base) T
 refine def_of T.d_need_row sc_need_row (fun vs H Q E h=>?_) (fun _ _ _ _ _ _=>el3 fun _ _ _=>rfl) (fun f cdv A outer s H vs Q E hr h=>?_)
 ·obtain ⟨n,q,l,r,ys,rs,rfl,_⟩:=h
  rfl
 ·obtain ⟨n,q,l,r,ys,rs,rfl,hq,hl,tp,gd,ap,k⟩:=h
  have nd:=sc_need_row.nd
  refine ⟨_,(pss_cons (ps_if (pt_not (pt_val (pe_def D_is_row hr (pa_cons (pv 1) pa_nil)))) pss_never pss_nil)
   (pss_cons (ps_if (pt_cmpR op_gt (pe_def D_end_of hr (pa_cons (pe_def D_cells_of hr (pa_cons (pv 1) pa_nil)) pa_nil)) (pv 0) (nomark _)) pss_never pss_nil)
   (pss_cons (ps_for PassesOwn.never rfl (pi_list (pv 2)) (pg_name (i:=3) nd rfl (Or.inl rfl)) (pss_one (ps_if (pt_cmpR op_eq (pe_ix ix_tup (pv 3) pe_int (fun _ _=>rfl)) (pe_ix ix_tup (pv 1) pe_int (fun _ _=>rfl)) (nomark _)) pss_never pss_nil)))
   (pss_one (ps_for PassesOwn.never rfl (pi_list (pv 2)) (pg_name (i:=3) nd rfl (Or.inl rfl)) (pss_one (ps_if (pt_val (pe_def D_share hr (pa_cons (pe_def D_cells_of hr (pa_cons (pv 1) pa_nil)) (pa_cons (pe_def D_cells_of hr (pa_cons (pv 3) pa_nil)) pa_nil)))) pss_never pss_nil))))))),?_⟩
  clear nd D_is_row D_end_of D_share D_cells_of
  rw [show start ["many", "row", "ahead", "other"] [.int (n:Nat),.ref q,.ref l]=[some (.int (n:Nat)),some (.ref q),some (.ref l),none] from rfl]
  try dsimp only [cx_K,cx_K2]
  have iL_many:FldOk K CL "many" := ⟨T.clL,T.aL_many⟩
  have iL_rows:FldOk K CL "rows" := ⟨T.clL,T.aL_rows⟩
  have o_hq:=Old.mk (M:=[]) hq nm0
  have o_hl:=Old.mk (M:=[]) hl nm0
  have o_tp:=OldP.mk tp
  have F:SH H [] H [] []:=SH.nil
  have ok:NameOk r.nm∧1≤r.sz:=⟨gd.nm,gd.sz⟩
  have le:=gd.le
  repeat k_meth
  refine forL_by (xs:=ys) (fun i σ' H'=>∃o3:Option V,σ'=[some (.int (n:Nat)),some (.ref q),some (.ref l),o3]∧SH H [] H' [] []) ⟨_,rfl,F.subC⟩ ?_ ?_ ?_
  ·clear F
   rintro i σ' H' _ ⟨_,rfl,F⟩
   exact SqA.e
  ·clear F
   rintro i v σ' H' hv ⟨_,rfl,F⟩
   obtain ⟨s,q1,e1,rfl,e2⟩:=rowsV_at tp hv
   have o_e2:=Old.mk (M:=[]) e2 nm0
   have ne:¬ tx s.nm=tx r.nm:=fun z=>(ap s (List.mem_of_getElem? e1)).1 (tx_inj z)
   repeat k_meth
   exact ⟨_,rfl,F⟩
  ·clear F
   rintro σ' H' ⟨_,rfl,F⟩
   repeat k_meth
   refine forL_by (xs:=ys) (fun i σ' H'=>∃o3:Option V,σ'=[some (.int (n:Nat)),some (.ref q),some (.ref l),o3]∧SH H [] H' [] []) ⟨_,rfl,F.subC⟩ ?_ ?_ ?_
   ·clear F
    rintro i σ' H' _ ⟨_,rfl,F⟩
    exact SqA.e
   ·clear F
    rintro i v σ' H' hv ⟨_,rfl,F⟩
    obtain ⟨s,q1,e1,rfl,e2⟩:=rowsV_at tp hv
    have o_e2:=Old.mk (M:=[]) e2 nm0
    have ne:=(ap s (List.mem_of_getElem? e1)).2
    repeat k_meth
    have e5:(decide (((r.st:Nat):Int) < ((s.st:Nat):Int) + ((s.sz:Nat):Int)) && decide (((s.st:Nat):Int) < ((r.st:Nat):Int) + ((r.sz:Nat):Int)))=false:=by
     rcases ne with ne | ne
     ·rw [decide_eq_false (by lia),Bool.false_and]
     ·rw [decide_eq_false (show ¬ ((s.st:Nat):Int) < ((r.st:Nat):Int) + ((r.sz:Nat):Int) by lia),Bool.and_false]
    rw [e5]
    repeat k_meth
    exact ⟨_,rfl,F.subC⟩
   ·clear F
    rintro σ' H' ⟨_,rfl,F⟩
    repeat k_meth
    exact k _ F.sm
theorem D_need_rows (T:Txt K mg c R CL ct_Linit pt_Linit ct_order pt_order):Def P w K mg base CX0 5 "need_rows" ["many", "rows"] sp_need_rows:=by
 have D_need_row:=D_need_row (P:=P) (w:=w) (base:=base) T
 refine def_of T.d_need_rows sc_need_rows (fun vs H Q E h=>?_) (fun _ _ _ _ _ _=>el2 fun _ _=>rfl) (fun f cdv A outer s H vs Q E hr h=>?_)
 ·obtain ⟨n,l,ys,rs,rfl,_⟩:=h
  rfl
 ·obtain ⟨n,l,ys,rs,rfl,hl,tp,ly,k⟩:=h
  have nd:=sc_need_rows.nd
  refine ⟨_,(pss_cons (ps_if (pt_not (pt_val (pe_callB call_isT rfl T.n_isinstance boot_isinstance (pa_cons (pv 1) (pa_cons (pe_ty (T := "list") rfl T.n_list boot_list) pa_nil))))) pss_never pss_nil)
   (pss_cons (ps_if (pt_cmpR op_gt (pe_callB call_lenN rfl T.n_len boot_len (pa_cons (pv 1) pa_nil)) (pe_gl T.g_MOST_BLOCKS) (nomark _)) pss_never pss_nil)
   (pss_one (ps_for PassesOwn.never rfl (pi_range1 rfl T.n_range (pa_cons (pe_callB call_lenN rfl T.n_len boot_len (pa_cons (pv 1) pa_nil)) pa_nil)) (pg_name (i:=2) nd rfl (Or.inl rfl)) (pss_one (ps_expr (pe_def D_need_row hr (pa_cons (pv 0) (pa_cons (pe_ix ix_list (pv 1) (pv 2) (fun _ _=>rfl)) (pa_cons (pe_slice sl_listA (pv 1) po_none (po_some (pv 2))) pa_nil)))))))))),?_⟩
  clear nd D_need_row
  rw [show start ["many", "rows", "at"] [.int (n:Nat),.ref l]=[some (.int (n:Nat)),some (.ref l),none] from rfl]
  try dsimp only [cx_K,cx_K2]
  have iL_many:FldOk K CL "many" := ⟨T.clL,T.aL_many⟩
  have iL_rows:FldOk K CL "rows" := ⟨T.clL,T.aL_rows⟩
  have o_hl:=Old.mk (M:=[]) hl nm0
  have o_tp:=OldP.mk tp
  have F:SH H [] H [] []:=SH.nil
  have few:=ly.few
  have yl:ys.length=rs.length:=by rw [tp.1,rowsV_len]
  repeat k_meth
  rw [show ((ys.length:Nat):Int).toNat=ys.length by lia]
  refine forR0_by (fun i σ' H'=>∃o2:Option V,σ'=[some (.int (n:Nat)),some (.ref l),o2]∧SH H [] H' [] []) ⟨_,rfl,F⟩ ?_ ?_
  ·clear F
   rintro i σ' H' hi ⟨_,rfl,F⟩
   obtain ⟨s,q1,e1,e0,e2⟩:=rowsV_at tp (i:=i) (v:=ys[i]) (by simp)
   have o_e2:=Old.mk (M:=[]) e2 nm0
   have a1:AtI ys (i:Int) (.ref q1):=⟨atI_nat (by rw [← e0];simp)⟩
   have gd:=ly.good s (List.mem_of_getElem? e1)
   have ap:∀t∈rs.take i,Apart t s:=fun t ht=>by
    have h1:=ly.ap
    obtain ⟨hi2,rfl⟩:=List.getElem?_eq_some_iff.mp e1
    obtain ⟨j,hj,rfl⟩:=List.getElem_of_mem ht
    rw [List.length_take] at hj
    rw [List.getElem_take]
    exact List.pairwise_iff_getElem.mp h1 j i (by lia) hi2 (by lia)
   have side:=And.intro gd ap
   repeat k_meth
   rw [cut_take] at F
   have tp2:TpA H_ (ys.take i) (rowsV (rs.take i)):=⟨(rows_take tp).same F.sm⟩
   repeat k_meth
   exact ⟨_,rfl,F.subC⟩
  ·clear F
   rintro σ' H' ⟨_,rfl,F⟩
   repeat k_meth
   exact k _ F.sm
end
def lF (n:Int) (p:Addr):List (Str×V):=putF "rows" (.ref p) (putF "many" (.int n) [])
theorem lF_many {n:Int} {p:Addr}:(lF n p).lookup ("many" : Str)=some (.int n):=by unfold lF;rw [lookup_putF,if_neg (by decide),lookup_putF,if_pos rfl]
theorem lF_rows {n:Int} {p:Addr}:(lF n p).lookup ("rows" : Str)=some (.ref p):=by unfold lF;rw [lookup_putF,if_pos rfl]
theorem lF_none {n:Int} {p:Addr} {m:Str} (h1:m ≠ "rows") (h2:m ≠ "many"):(lF n p).lookup m=none:=by unfold lF;rw [lookup_putF,if_neg h1,lookup_putF,if_neg h2];rfl
class LayA (n:Nat) (rs:List Rw) (as:outParam (List Rw)):Prop where
 p:rs.Perm as
 l:Lay n as
 a:Asc as
def sp_Linit (CL P:Addr) (pos:Pos) (qual:Str):Sp:=fun vs H Q _=>∃(x dx l:Addr) (n:Nat) (ys:List V) (rs as:List Rw) (ps:Array Value),vs=[.ref x,.int (n:Nat),.ref l]∧H x=some (.ins CL dx [])∧H l=some (.lst ys)∧TupsAt H ys (rowsV rs)∧LayA n rs as∧16≤n∧n≤240∧H P=some (.tbl ps)∧TabOk pos qual ps H ∧
 ∀(p:Addr) (zs:List V) (ps':Array Value) (H':Hp),(∀b u,b≠x→b≠P→H b=some u→H' b=some u)→H' x=some (.ins CL dx (lF n p))→H' p=some (.lst zs)→TupsAt H' zs (rowsV as)→(∀b u,H b=some u→b≠p)→H' P=some (.tbl ps')→TabOk pos qual ps' H'→Q .non H'
def sp_Lblocks (CL:Addr):Sp:=fun vs H Q _=>∃(x p dx:Addr) (n:Nat) (zs:List V),vs=[.ref x]∧H x=some (.ins CL dx (lF (n:Nat) p))∧H p=some (.lst zs)∧∀q H',New H H' q (.lst zs)→Q (.ref q) H'
section
variable {CL P x dx l p:Addr} {pos:Pos} {qual:Str} {H H0:Hp} {M:List Addr} {L:List (Addr×HO)} {I:List Im} {Q:VK} {E:XK} {n:Nat} {m:Int} {ys zs:List V} {rs as:List Rw} {ps:Array Value}
instance ll_many:FLk (lF m p) "many" (.int m):=⟨lF_many⟩
instance ll_rows:FLk (lF m p) "rows" (.ref p):=⟨lF_rows⟩
instance ln_blocks:FNo (lF m p) "blocks" := ⟨lF_none (by decide) (by decide)⟩
instance go_Lblocks [h:Hat H x (.ins CL dx (lF (n:Nat) p))] [h2:Hat H p (.lst zs)]:Go (sp_Lblocks CL [.ref x] H Q E) (∀q H',New H H' q (.lst zs)→Q (.ref q) H'):=⟨fun k=>⟨x,p,dx,n,zs,rfl,h.e,h2.e,k⟩⟩
instance go_Linit [h:Hat H x (.ins CL dx [])] [h2:Hat H l (.lst ys)] [t:TpA H ys (rowsV rs)] [e:Hat H P (.tbl ps)] [F:SH H0 M H L I] [tb:TabA I pos qual ps] [la:LayA n rs as]:Go (sp_Linit CL P pos qual [.ref x,.int (n:Nat),.ref l] H Q E)
  (Sd (16≤n∧n≤240) (∀(ps':Array Value) (H1:Hp),Kp P H H1→H1 P=some (.tbl ps')→TabOk pos qual ps' H1→∀(p:Addr) (zs:List V) (H2:Hp),New H1 H2 p (.lst zs)→TupsAt H2 zs (rowsV as)→∀H3,Off x H2 H3→H3 x=some (.ins CL dx (lF n p))→Q .non H3)):=by
 refine ⟨fun s=>⟨x,dx,l,n,ys,rs,as,ps,rfl,h.e,h2.e,t.e,la,s.1.1,s.1.2,e.e,F.im _ tb.m,fun p zs ps' H' keep ex ep tz fr eP tk=>?_⟩⟩
 have hx:=h.e
 have hP:=e.e
 have nxp:x≠p:=fr x _ hx
 have nPp:P≠p:=fr P _ hP
 have nPx:P≠x:=fun z=>by rw [z,hx] at hP;cases hP
 let H2:Hp:=fun b=>if b=x then H x else H' b
 let H1:Hp:=fun b=>if b=p then none else H2 b
 have h2x:H2 x=H x:=if_pos rfl
 have h2n:∀{b:Addr},b≠x→H2 b=H' b:=fun n=>if_neg n
 have h1n:∀{b:Addr},b≠p→H1 b=H2 b:=fun n=>if_neg n
 refine s.2 ps' H1 (fun b u nb eb=>?_) ?_ ?_ p zs H2 ⟨fun b u eb=>?_,?_,fun b u eb z=>?_⟩ ?_ H' (fun b nb=>(h2n nb).symm) ex
 ·have n1:b≠p:=fr b u eb
  rw [h1n n1]
  by_cases hb:b=x
  ·rw [hb,h2x,← hb]
   exact eb
  ·rw [h2n hb]
   exact keep b u hb nb eb
 ·rw [h1n nPp,h2n nPx]
  exact eP
 ·rcases tk with tk | ⟨c',oc,vs,t',e1,e2,e3⟩
  ·exact .inl tk
  ·refine .inr ⟨c',oc,vs,t',e1,?_,e3⟩
   have n1:c'≠p:=fun z=>by rw [z,ep] at e2;cases e2
   have n2:c'≠x:=fun z=>by rw [z,ex] at e2;cases e2
   rw [h1n n1,h2n n2]
   exact e2
 ·by_cases hb:b=p
  ·have:H1 b=none:=if_pos hb
   rw [this] at eb
   cases eb
  ·rw [h1n hb] at eb
   exact eb
 ·rw [h2n (Ne.symm nxp)]
  exact ep
 ·have:H1 b=none:=if_pos z
  rw [this] at eb
  cases eb
 ·refine ⟨tz.1,fun j r ej=>?_⟩
  obtain ⟨q,e1,e2⟩:=tz.2 j r ej
  refine ⟨q,e1,?_⟩
  rw [h2n (fun z=>by rw [z,ex] at e2;cases e2)]
  exact e2
end
abbrev lamPos:Pos:=⟨100,37,100,55⟩
abbrev lamQual:Str := "Layout.__init__.<locals>.<lambda>"
section
variable {P:Program} {w:World} {K:W.Frag} {mg:Str→Option Value} {base:Heap} {c:Nat→Addr} {ct_Linit pt_Linit ct_order pt_order R CL:Addr}
theorem MK_Linit (T:Txt K mg c R CL ct_Linit pt_Linit ct_order pt_order) (B:Bm mg base):Mak P w K mg base CX0 6 "Layout" CL ["self", "many", "rows"] (sp_Linit CL pt_Linit lamPos lamQual):=by
 have D_need_rows:=D_need_rows (P:=P) (w:=w) (base:=base) T
 have D_is_many:=D_is_many (P:=P) (w:=w) (base:=base) T
 obtain ⟨f,hf,hm⟩:=T.f_Linit
 refine (fn_tellsC (k:=5) hf sc_Linit (fun vs H Q E h=>?_) (fun _ _ _ _ _ _=>el3 fun _ _ _=>rfl) (fun f A outer s H vs Q E hr h=>?_)).mak hm T.gc_Layout
 ·obtain ⟨x,dx,l,n,ys,rs,as,ps,rfl,_⟩:=h
  rfl
 ·obtain ⟨x,dx,l,n,ys,rs,as,ps,rfl,hx,hl,tp,la,h16,h240,hP,tk,k⟩:=h
  have nd:=sc_Linit.nd
  refine ⟨_,(pss_cons (ps_if (pt_not (pt_val (pe_def D_is_many hr (pa_cons (pv 1) pa_nil)))) pss_never pss_nil)
   (pss_cons (ps_expr (pe_def D_need_rows hr (pa_cons (pv 1) (pa_cons (pv 2) pa_nil))))
   (pss_cons (ps_fld (pv 0) (pv 1) rfl)
   (pss_one (ps_fld (pv 0) (pe_ckw (call_sortK rfl hr) rfl T.n_sorted boot_sorted (pa_cons (pv 2) pa_nil) (pe_lam (qual:=lamQual) B rfl T.tab_Linit (by with_unfolding_all rfl) ⟨rfl,rfl,rfl,by with_unfolding_all rfl,by decide +kernel,by decide⟩)) rfl))))),?_⟩
  clear nd D_need_rows D_is_many
  rw [show start ["self", "many", "rows"] [.ref x,.int (n:Nat),.ref l]=[some (.ref x),some (.int (n:Nat)),some (.ref l)] from rfl]
  try dsimp only [cx_K,cx_K2]
  have iL_many:FldOk K CL "many" := ⟨T.clL,T.aL_many⟩
  have iL_rows:FldOk K CL "rows" := ⟨T.clL,T.aL_rows⟩
  have nxP:x≠pt_Linit:=fun z=>by rw [z,hP] at hx;cases hx
  have nlx:l≠x:=fun z=>by rw [z,hx] at hl;cases hl
  have nlP:l≠pt_Linit:=fun z=>by rw [z,hP] at hl;cases hl
  have nm2:∀{b:Addr},b≠x→b≠pt_Linit→b ∉ [x,pt_Linit]:=fun a b z=>by
   rcases List.mem_cons.mp z with z | z
   ·exact a z
   ·exact b (List.mem_singleton.mp z)
  have F:SH H [x,pt_Linit] H [(x,.ins CL dx []),(pt_Linit,.tbl ps)] [.tps ys (rowsV rs),TabI lamPos lamQual ps]:=(((SH.nil.addM (List.mem_cons_of_mem _ List.mem_cons_self) hP rfl (by simp)).addM List.mem_cons_self hx rfl (by simp [Ne.symm nxP])).addF tk).addP tp
  have o_hl:=Old.mk (M:=[x,pt_Linit]) hl (nm2 nlx nlP)
  have ly:=la.l.perm la.p.symm
  have few:=ly.few
  have e1:(decide (16≤(n:Int)) && decide ((n:Int)≤240))=true:=by rw [decide_eq_true (by lia),decide_eq_true (by lia)];rfl
  repeat k_meth
  rw [e1]
  repeat k_meth
  intro f_ ps_
  repeat k_meth
  intro D zs H8 n8 so
  have t8:=sort_rows (H:=H_) TpA.e la.p (la.a.lt la.l.good) so
  replace F:=F.newR n8 (t8.same n8.s)
  repeat k_meth
  exact k D zs ps_ _ (fun b u n1 n2 e=>F.fr b u (nm2 n1 n2) e) hatC hatC TpA.e (F.fresh (LkL.m (o:=.lst zs)) (nm2 (SH.neC (F:=F)) (SH.neC (F:=F)))) hatC SH.tab
theorem MT_Lblocks (T:Txt K mg c R CL ct_Linit pt_Linit ct_order pt_order):Met P w K mg base CX0 1 CL "blocks" ["self"] (sp_Lblocks CL):=by
 obtain ⟨f,hf,hm⟩:=T.f_Lblocks
 refine (fn_tells (k:=0) hf sc_Lblocks (fun vs H Q E h=>?_) (fun _ _ _ _ _ _=>el1 fun _=>rfl) (fun f cdv A outer s H vs Q E hr h=>?_)).met hm
 ·obtain ⟨x,p,dx,n,zs,rfl,_⟩:=h
  rfl
 ·obtain ⟨x,p,dx,n,zs,rfl,hx,hp,k⟩:=h
  have nd:=sc_Lblocks.nd
  refine ⟨_,(pss_one (ps_ret (pe_callTy call_list_ofA rfl T.n_list boot_list (pa_cons (pe_fld (pv 0) rfl) pa_nil)))),?_⟩
  clear nd 
  rw [show start ["self"] [.ref x]=[some (.ref x)] from rfl]
  try dsimp only [cx_K,cx_K2]
  have iL_many:FldOk K CL "many" := ⟨T.clL,T.aL_many⟩
  have iL_rows:FldOk K CL "rows" := ⟨T.clL,T.aL_rows⟩
  have o_hx:=Old.mk (M:=[]) hx nm0
  have o_hp:=Old.mk (M:=[]) hp nm0
  have F:SH H [] H [] []:=SH.nil
  repeat k_meth
  exact k _ _ SH.nwC
end
open M22
def sp_names:Sp:=fun vs H Q _=>∃(bx:Addr) (x y z:Int) (m:Nat),vs=[.ref bx,.int (m:Nat)]∧H bx=some (.lst [.int x,.int y,.int z])∧m≤40∧∀(x' y' z':Int) (nms:List (List Nat)) (p:Addr) (H':Hp),nms.length=m→(∀cs∈nms,NameOk cs)→nms.Nodup→Kp bx H H'→H' bx=some (.lst [.int x',.int y',.int z'])→H' p=some (.lst (nms.map fun cs=>.str (tx cs)))→(∀b u,H b=some u→b≠p)→Q (.ref p) H'
def sp_lrows:Sp:=fun vs H Q _=>∃(bx:Addr) (x y z:Int) (n:Nat),vs=[.ref bx,.int (n:Nat)]∧H bx=some (.lst [.int x,.int y,.int z])∧16≤n∧n≤240∧∀(x' y' z':Int) (rs:List Rw) (p:Addr) (ys:List V) (H':Hp),Lay n rs→Asc rs→Kp bx H H'→H' bx=some (.lst [.int x',.int y',.int z'])→H' p=some (.lst ys)→TupsAt H' ys (rowsV rs)→(∀b u,H b=some u→b≠p)→Q (.ref p) H'
theorem two_steps {H H':Hp} {bx p:Addr} {b3 o:HO} {R:Hp→Prop} (hb:∃u,H bx=some u) (kp:Kp bx H H') (eb:H' bx=some b3) (ep:H' p=some o) (fr:∀b u,H b=some u→b≠p) (k:∀H1,Kp bx H H1→H1 bx=some b3→New H1 H' p o→R H'):R H':=by
 obtain ⟨u0,hb⟩:=hb
 have nb:bx≠p:=fr bx _ hb
 have h1:∀{b:Addr},b≠p→(fun b=>if b=p then none else H' b:Hp) b=H' b:=fun n=>if_neg n
 refine k (fun b=>if b=p then none else H' b) (fun b u n e=>?_) ?_ ⟨fun b u e=>?_,ep,fun b u e z=>?_⟩
 ·rw [h1 (fr b u e)]
  exact kp b u n e
 ·exact (h1 nb).trans eb
 ·have e:(if b=p then none else H' b)=some u:=e
  split at e
  ·cases e
  ·exact e
 ·have e:(if b=p then none else H' b)=some u:=e
  rw [if_pos z] at e
  cases e
section
variable {bx l:Addr} {x y z:Int} {H:Hp} {Q:VK} {E:XK} {n m:Nat} {ys:List V} {rs:List Rw}
instance go_names [h:Hat H bx (.lst [.int x,.int y,.int z])]:Go (sp_names [.ref bx,.int (m:Nat)] H Q E) (Sd (m≤40) (∀(x' y' z':Int) (nms:List (List Nat)),nms.length=m→(∀cs∈nms,NameOk cs)→nms.Nodup→∀H1,Kp bx H H1→H1 bx=some (.lst [.int x',.int y',.int z'])→∀p H2,New H1 H2 p (.lst (nms.map fun cs=>.str (tx cs)))→Q (.ref p) H2)) :=
 ⟨fun s=>⟨bx,x,y,z,m,rfl,h.e,s.1,fun x' y' z' nms p H' h1 h2 h3 f e e2 fr=>two_steps (R:=fun H'=>Q (.ref p) H') ⟨_,h.e⟩ f e e2 fr fun H1 f1 e1 n1=>s.2 x' y' z' nms h1 h2 h3 H1 f1 e1 p H' n1⟩⟩
instance go_lrows [h:Hat H bx (.lst [.int x,.int y,.int z])]:Go (sp_lrows [.ref bx,.int (n:Nat)] H Q E) (Sd (16≤n∧n≤240) (∀(x' y' z':Int) (rs:List Rw),Lay n rs→Asc rs→∀H1,Kp bx H H1→H1 bx=some (.lst [.int x',.int y',.int z'])→∀p ys H2,New H1 H2 p (.lst ys)→TupsAt H2 ys (rowsV rs)→Q (.ref p) H2)) :=
 ⟨fun s=>⟨bx,x,y,z,n,rfl,h.e,s.1.1,s.1.2,fun x' y' z' rs p ys H' h1 h2 f e e2 t fr=>two_steps (R:=fun H'=>Q (.ref p) H') ⟨_,h.e⟩ f e e2 fr fun H1 f1 e1 n1=>s.2 x' y' z' rs h1 h2 H1 f1 e1 p ys H' n1 t⟩⟩
end
def letter (s:Nat):Nat:=97 + s % 26
theorem letter_at {s:Int} {c:Nat} (h0:0≤s) (h:(List.range' 97 26)[(s % 26).toNat]?=some c):c=letter s.toNat:=by
 have h1:(s % 26).toNat < 26:=by lia
 rw [List.getElem?_eq_getElem (by simpa using h1),List.getElem_range'] at h
 have:=Option.some.inj h
 unfold letter
 lia
theorem letter_low (s:Nat):isLow (letter s)=true:=by
 unfold isLow letter
 rw [decide_eq_true (by lia),decide_eq_true (by lia)]
 rfl
structure TailOk (tl:List Nat):Prop where
 len:tl.length=7
 all:∀c∈tl,c∈[98,103,106,107,55,113,118,48]
theorem TailOk.sgn {tl:List Nat} (h:TailOk tl):∀c∈tl,(isLow c || isFig c)=true:=fun c hc=>by
 have:=h.all c hc
 simp only [List.mem_cons,List.not_mem_nil,or_false] at this
 rcases this with rfl | rfl | rfl | rfl | rfl | rfl | rfl | rfl <;> rfl
def nameA (s:Nat) (tl:List Nat) (k:Nat):List Nat:=[letter (s + k / 8)]++tl.take (k % 8)
def nameB (s:Nat) (tl:List Nat) (k r:Nat):List Nat:=([letter (s + 9 * k)]++List.replicate (k / 26) 122)++tl.take r
theorem nameA_ok {s k:Nat} {tl:List Nat} (h:TailOk tl):NameOk (nameA s tl k):=by
 refine ⟨?_,?_,fun c hc=>?_,fun c hc=>?_⟩
 ·simp [nameA]
 ·simp only [nameA,List.length_append,List.length_singleton,List.length_take]
  lia
 ·have:some (letter (s + k / 8))=some c:=hc
  cases this
  exact letter_low _
 ·rcases List.mem_append.mp hc with hc | hc
  ·rw [List.mem_singleton.mp hc,letter_low]
   rfl
  ·exact h.sgn c (List.mem_of_mem_take hc)
theorem nameB_ok {s k r:Nat} {tl:List Nat} (h:TailOk tl) (hk:k < 40) (hr:r < 7):NameOk (nameB s tl k r):=by
 refine ⟨?_,?_,fun c hc=>?_,fun c hc=>?_⟩
 ·simp [nameB]
 ·simp only [nameB,List.length_append,List.length_singleton,List.length_take,List.length_replicate]
  lia
 ·have:some (letter (s + 9 * k))=some c:=hc
  cases this
  exact letter_low _
 ·rcases List.mem_append.mp hc with hc | hc
  ·rcases List.mem_append.mp hc with hc | hc
   ·rw [List.mem_singleton.mp hc,letter_low]
    rfl
   ·rw [(List.mem_replicate.mp hc).2]
    rfl
  ·exact h.sgn c (List.mem_of_mem_take hc)
theorem nameA_inj {s:Nat} {tl:List Nat} (h:TailOk tl) {i j:Nat} (hi:i < 40) (hj:j < 40) (e:nameA s tl i=nameA s tl j):i=j:=by
 have e1:=congrArg List.length e
 simp only [nameA,List.length_append,List.length_singleton,List.length_take,h.len] at e1
 have e2:letter (s + i / 8)=letter (s + j / 8):=by
  have:=congrArg (fun l:List Nat=>l[0]?) e
  exact Option.some.inj this
 unfold letter at e2
 lia
theorem nameB_inj {s:Nat} {tl:List Nat} (h:TailOk tl) {i j r t:Nat} (hi:i < 40) (hj:j < 40) (hij:i < j) (e:nameB s tl i r=nameB s tl j t):False:=by
 have e2:letter (s + 9 * i)=letter (s + 9 * j):=by
  have:=congrArg (fun l:List Nat=>l[0]?) e
  exact Option.some.inj this
 unfold letter at e2
 have e3:j=i + 26:=by lia
 have e4:i / 26=0:=by lia
 have e5:j / 26=1:=by lia
 have e6:tl.take r=[122]++tl.take t:=by
  unfold nameB at e
  rw [e4,e5] at e
  simp only [List.replicate,List.append_nil,List.append_assoc,List.cons_append,List.nil_append,List.cons.injEq] at e
  exact e.2
 have e7:122∈tl:=List.mem_of_mem_take (i:=r) (by rw [e6];simp)
 have:=h.all 122 e7
 simp at this
theorem nodup_of {nms:List (List Nat)} (h:∀(i j:Nat) a b,i < j→nms[i]?=some a→nms[j]?=some b→a≠b):nms.Nodup:=by
 rw [List.Nodup,List.pairwise_iff_getElem]
 intro i j hi hj hij
 exact h i j _ _ hij (by simp) (by simp)
theorem join_one:∀cs:List Nat,Str.join (Str.ofString "") (cs.map fun c=>tx [c])=tx cs:=by
 have e0:Str.ofString "" = tx []:=by decide +kernel
 rw [e0]
 intro cs
 induction cs with
 | nil=>rfl
 | cons c t ih =>
  cases t with
  | nil=>rfl
  | cons d u =>
   show tx [c]++tx []++Str.join (tx []) ((d::u).map fun c=>tx [c])=_
   rw [ih,append_tx,append_tx]
   rfl
instance go_join {K:W.Frag} {H:Hp} {Q:VK} {p:Addr} {cs:List Nat} [h:SqA K H p (cs.map fun c=>V.str (tx [c]))]:Go (rJoin K (.str (Str.ofString "")) [.ref p] H Q) (Sd (cs.length≤1000) (Q (.str (tx cs)) H)):=⟨fun s=>⟨_,p,cs.map fun c=>tx [c],rfl,rfl,by rw [List.map_map];exact h.e,by decide,by
 rw [List.map_map,List.length_map]
 have:(cs.map ((fun t:Str=>t.length) ∘ fun c=>tx [c]))=cs.map fun _=>1:=rfl
 rw [this,List.map_const']
 have hs:(List.replicate cs.length 1).sum=cs.length:=by simp
 have:=s.1
 lia,by rw [join_one];exact s.2⟩⟩
instance go_tyS {K:W.Frag} {H:Hp} {z:Str} {R:Prop}:Go (tyV K "str" (.str z) H∧R) R:=⟨fun k=>⟨by first | exact .inr (.inr rfl) | exact .inr rfl | exact ⟨_,rfl⟩ | trivial,k⟩⟩
def wordsN:List (List Nat):=[[100,111,119,110],[117,112],[112,97,99,107],[99,101,108,108,115],[97,116],[115,105,122,101],[112,105,110,115],[102,105,116],[116,97,107,101],[104,97,108,118,101,115],[110,101,120,116],[102,105,114,115,116]]
instance {c:List Nat}:Decidable (NameOk c):=decidable_of_iff (1≤c.length∧c.length≤8∧(∀x∈c.head?,isLow x=true)∧∀x∈c,(isLow x || isFig x)=true) ⟨fun h=>⟨h.1,h.2.1,fun x hx=>h.2.2.1 x (by cases c with | nil=>cases hx | cons a t=>simpa using hx),h.2.2.2⟩,fun h=>⟨h.lo,h.hi,fun x hx=>h.hd x (by cases c with | nil=>cases hx | cons a t=>simpa using hx),h.all⟩⟩
theorem words_ok:∀c∈wordsN,NameOk c:=by decide +kernel
theorem words_nd:wordsN.Nodup:=by decide +kernel
theorem words_tx:[V.str (Str.ofString "down"),V.str (Str.ofString "up"),V.str (Str.ofString "pack"),V.str (Str.ofString "cells"),V.str (Str.ofString "at"),V.str (Str.ofString "size"),V.str (Str.ofString "pins"),V.str (Str.ofString "fit"),V.str (Str.ofString "take"),V.str (Str.ofString "halves"),V.str (Str.ofString "next"),V.str (Str.ofString "first")]=wordsN.map fun cs=>V.str (tx cs):=by
 show _=[V.str (tx [100,111,119,110]),V.str (tx [117,112]),V.str (tx [112,97,99,107]),V.str (tx [99,101,108,108,115]),V.str (tx [97,116]),V.str (tx [115,105,122,101]),V.str (tx [112,105,110,115]),V.str (tx [102,105,116]),V.str (tx [116,97,107,101]),V.str (tx [104,97,108,118,101,115]),V.str (tx [110,101,120,116]),V.str (tx [102,105,114,115,116])]
 rw [show Str.ofString "down" = tx [100,111,119,110] by decide +kernel,show Str.ofString "up" = tx [117,112] by decide +kernel,show Str.ofString "pack" = tx [112,97,99,107] by decide +kernel,show Str.ofString "cells" = tx [99,101,108,108,115] by decide +kernel,show Str.ofString "at" = tx [97,116] by decide +kernel,show Str.ofString "size" = tx [115,105,122,101] by decide +kernel,show Str.ofString "pins" = tx [112,105,110,115] by decide +kernel,show Str.ofString "fit" = tx [102,105,116] by decide +kernel,show Str.ofString "take" = tx [116,97,107,101] by decide +kernel,show Str.ofString "halves" = tx [104,97,108,118,101,115] by decide +kernel,show Str.ofString "next" = tx [110,101,120,116] by decide +kernel,show Str.ofString "first" = tx [102,105,114,115,116] by decide +kernel]
open M22
theorem cut_take2 {ys:List V} {i:Nat}:cutV ys none (some (i:Int))=ys.take i:=by
 unfold cutV
 rw [HT.sIx_nat]
 show (ys.drop 0).take (min i ys.length - 0)=_
 rw [List.drop_zero,Nat.sub_zero]
 by_cases h:i≤ys.length
 ·rw [show min i ys.length=i by lia]
 ·rw [List.take_of_length_le (by lia),List.take_of_length_le (by lia)]
theorem cut_drop {ys:List V} {i:Nat}:cutV ys (some (i:Int)) none=ys.drop i:=by
 unfold cutV
 rw [HT.sIx_nat]
 show (ys.drop (min i ys.length)).take (ys.length - min i ys.length)=_
 by_cases h:i≤ys.length
 ·rw [show min i ys.length=i by lia,List.take_of_length_le (by rw [List.length_drop];lia)]
 ·rw [List.drop_of_length_le (by lia),List.drop_of_length_le (by lia)]
  simp
theorem second_no {s k r:Nat} {tl:List Nat} (h:TailOk tl) {c:List Nat} (hc:c∈wordsN):c≠nameB s tl k r:=fun z=>by
 have h2:∃d,c[1]?=some d∧d≠122∧d ∉ [98,103,106,107,55,113,118,48]:=by
  have:∀c∈wordsN,∃d∈c[1]?,d≠122∧d ∉ [98,103,106,107,55,113,118,48]:=by decide +kernel
  obtain ⟨d,hd,r⟩:=this c hc
  exact ⟨d,hd,r⟩
 obtain ⟨d,hd,n1,n2⟩:=h2
 rw [z] at hd
 have hm:d∈List.replicate (k / 26) 122++tl.take r:=by
  have:(nameB s tl k r)[1]?=(List.replicate (k / 26) 122++tl.take r)[0]?:=by unfold nameB;rw [List.append_assoc];rfl
  rw [this] at hd
  exact List.mem_of_getElem? hd
 rcases List.mem_append.mp hm with hm | hm
 ·exact n1 (List.mem_replicate.mp hm).2
 ·exact n2 (h.all d (List.mem_of_mem_take hm))
theorem words_mix {s m:Nat} {tl:List Nat} (h:TailOk tl) {nms:List (List Nat)} (hl:nms.length=m) (h40:m≤40) (hn:∀(j:Nat) cs,nms[j]?=some cs→∃r,r < 7∧cs=nameB s tl j r) (ok:∀cs∈nms,NameOk cs) (nd:nms.Nodup) :
  (wordsN.take m++nms.drop 12).length=m∧(∀cs∈wordsN.take m++nms.drop 12,NameOk cs)∧(wordsN.take m++nms.drop 12).Nodup:=by
 refine ⟨?_,fun cs hcs=>?_,?_⟩
 ·rw [List.length_append,List.length_take,List.length_drop,hl,show wordsN.length=12 from rfl]
  lia
 ·rcases List.mem_append.mp hcs with hcs | hcs
  ·exact words_ok cs (List.mem_of_mem_take hcs)
  ·exact ok cs (List.mem_of_mem_drop hcs)
 ·rw [List.nodup_append]
  refine ⟨words_nd.sublist (List.take_sublist _ _),nd.sublist (List.drop_sublist _ _),fun a ha b hb e=>?_⟩
  obtain ⟨j,hj,e2⟩:=List.getElem_of_mem (List.mem_of_mem_drop hb)
  obtain ⟨r,_,rfl⟩:=hn j b (by rw [← e2];simp)
  exact second_no h (List.mem_of_mem_take ha) e
section
variable {P:Program} {w:World} {K:W.Frag} {mg:Str→Option Value} {base:Heap} {c:Nat→Addr} {ct_Linit pt_Linit ct_order pt_order R CL:Addr}
theorem D_names (T:Txt K mg c R CL ct_Linit pt_Linit ct_order pt_order):Def P w K mg base CX0 2 "_law_names" ["_law_well_here", "_law_many"] sp_names:=by
 have D_take:=D_take (P:=P) (w:=w) (base:=base) T
 refine def_of T.d_names sc_names (fun vs H Q E h=>?_) (fun _ _ _ _ _ _=>el2 fun _ _=>rfl) (fun f cdv A outer s H vs Q E hr h=>?_)
 ·obtain ⟨bx,x,y,z,m,rfl,_⟩:=h
  rfl
 ·obtain ⟨bx,x,y,z,m,rfl,hbx,h40,k⟩:=h
  have nd:=sc_names.nd
  refine' ⟨_,(pss_cons (ps_set (i:=2) nd rfl (Or.inr rfl) (pe_strT (cs:=List.range' 97 26) (by decide +kernel)))
   (pss_cons (ps_set (i:=3) nd rfl (Or.inr rfl) (pe_join pe_str (pe_comp (N:=["_law_k", "_law_well_here"]) (nt:=1) (fr:=[0]) (pi_range1 rfl T.n_range (pa_cons pe_int pa_nil)) (fun _ _ _ _=>(pg_name (i:=0) (show (["_law_k", "_law_well_here"]:List Str).Nodup from by decide +kernel) rfl (Or.inl rfl))) (fun _ _ _ _=>pif_nil) (fun _ _ _ _=>(pe_ix ix_str (pe_strT (cs:=[98,103,106,107,55,113,118,48]) (by decide +kernel)) (pe_def D_take hr (pa_cons (pv 1) (pa_cons pe_int pa_nil))) (fun _ _=>rfl))))))
   (pss_cons (ps_set (i:=4) nd rfl (Or.inr rfl) (pe_def D_take hr (pa_cons (pv 0) (pa_cons pe_int pa_nil))))
   (pss_cons (ps_if (pt_cmpR op_eq (pe_def D_take hr (pa_cons (pv 0) (pa_cons pe_int pa_nil))) pe_int (nomark _)) (pss_one (ps_ret (pe_comp (N:=["_law_k", "_law_letters", "_law_tail", "_law_shift"]) (nt:=1) (fr:=[2,3,4]) (pi_range1 rfl T.n_range (pa_cons (pv 1) pa_nil)) (fun _ _ _ _=>(pg_name (i:=0) (show (["_law_k", "_law_letters", "_law_tail", "_law_shift"]:List Str).Nodup from by decide +kernel) rfl (Or.inl rfl))) (fun _ _ _ _=>pif_nil) (fun _ _ _ _=>(pe_op op_addS (pe_ix ix_str (pv 1) (pe_op op_mod (pe_op op_add (pv 3) (pe_op op_fdiv (pv 0) pe_int)) pe_int) (fun _ _=>rfl)) (pe_slS (pv 2) (pe_op op_mod (pv 0) pe_int))))))) pss_nil)
   (pss_cons (ps_set (i:=5) nd rfl (Or.inl rfl) (pe_lstA pa_nil))
   (pss_cons (ps_for PassesOwn.never rfl (pi_range1 rfl T.n_range (pa_cons (pv 1) pa_nil)) (pg_name (i:=6) nd rfl (Or.inl rfl)) (pss_cons (ps_set (i:=7) nd rfl (Or.inl rfl) (pe_op op_addS (pe_ix ix_str (pv 2) (pe_op op_mod (pe_op op_add (pv 4) (pe_op op_mul pe_int (pv 6))) pe_int) (fun _ _=>rfl)) (pe_op op_mulS (pe_strT (cs:=[122]) (by decide +kernel)) (pe_op op_fdiv (pv 6) pe_int))))
    (pss_one (ps_expr (pe_appendA (pv 5) (pe_op op_addS (pv 7) (pe_slS (pv 3) (pe_def D_take hr (pa_cons (pv 0) (pa_cons pe_int pa_nil))))))))))
   (pss_cons ?s7
   ?r7))))))),?main⟩
  case s7 =>
   refine ps_set (i:=8) (te:=tLstA (tVals [.str "down", .str "up", .str "pack", .str "cells", .str "at", .str "size", .str "pins", .str "fit", .str "take", .str "halves", .str "next", .str "first"])) ?a ?b ?c ?d ?e ?f
   case a=>exact nd
   case b=>rfl
   case c=>exact Or.inl rfl
   case d =>
    refine pe_lstA ?g
    case g =>
     refine pa_vals ?h
     case h=>with_unfolding_all rfl
   case e=>rfl
   case f=>first | exact .inl rfl | exact .inr rfl
  case r7 =>
   exact (pss_cons (ps_if (pt_cmpR op_eq (pe_def D_take hr (pa_cons (pv 0) (pa_cons pe_int pa_nil))) pe_int (nomark _)) (pss_one (ps_set (i:=5) nd rfl (Or.inl rfl) (pe_op op_catA (pe_slice sl_listA (pv 8) po_none (po_some (pv 1))) (pe_slice sl_listA (pv 5) (po_some pe_int) po_none)))) pss_nil)
         (pss_one (ps_ret (pv 5))))
  clear nd D_take
  rw [show start ["_law_well_here", "_law_many", "_law_letters", "_law_tail", "_law_shift", "_law_names_here", "_law_k", "_law_name", "_law_words"] [.ref bx,.int (m:Nat)]=[some (.ref bx),some (.int (m:Nat)),none,none,none,none,none,none,none] from rfl]
  try dsimp only [cx_K,cx_K2]
  have iL_many:FldOk K CL "many" := ⟨T.clL,T.aL_many⟩
  have iL_rows:FldOk K CL "rows" := ⟨T.clL,T.aL_rows⟩
  have F:SH H [bx] H [(bx,.lst [.int x,.int y,.int z])] []:=SH.nil.addM List.mem_cons_self hbx rfl (by simp)
  repeat k_meth
  have e26:(List.range' 97 26).length=26:=by simp
  refine go_compR (n:=7) (fvs:=[some (.ref bx)]) (fun acc i ys H'=>∃(cs:List Nat) (x y z:Int),cs.length=i∧(∀c∈cs,c∈[98,103,106,107,55,113,118,48])∧ys=cs.map (fun c=>V.str (tx [c]))∧SH H [bx] H' [(acc,.lst ys),(bx,.lst [.int x,.int y,.int z])] []) (rda_cons rd_c rda_nil) (by decide) rfl (fun acc H' n=>⟨[],x,y,z,rfl,by simp,rfl,F.newL n⟩) ?_ ?_ ?_
  ·clear F
   rintro acc i ys H' ⟨cs,x,y,z,h1,_,rfl,F⟩
   exact ⟨hatC,by rw [List.length_map];exact h1⟩
  ·clear F
   rintro acc i ys H' R hi ⟨cs,x,y,z,h1,h2,rfl,F⟩ kk
   repeat k_meth
   intro c hc
   refine kk _ _ hatC ?_
   repeat k_meth
   refine ⟨cs++[c],_,_,_,by simp [h1],fun d hd=>?_,by simp,F⟩
   rcases List.mem_append.mp hd with hd | hd
   ·exact h2 d hd
   ·rw [List.mem_singleton.mp hd]
    exact List.mem_of_getElem? hc
  ·clear F
   rintro acc ys H' ⟨tl,x,y,z,h1,h2,rfl,F⟩
   have tk:TailOk tl:=⟨h1,h2⟩
   repeat k_meth
   rename_i sh _ _ _ sh0 _ _
   refine i_dec (fun h=>?_) (fun h=>?_)
   ·repeat k_meth
    refine go_map_range (n:=m) (fvs:=[some (.str (tx (List.range' 97 26))),some (.str (tx tl)),some (.int sh)]) (F:=fun j=>V.str (tx (nameA sh.toNat tl j))) (rda_cons (rd_var rfl) rda_nil) (by lia) (by lia) rfl (fun i H' hi s8 Q8 q8=>?_) ?_
    ·repeat k_meth
     intro c hc
     have e3:=letter_at (by lia) hc
     subst e3
     repeat k_meth
     have e4:[letter (sh + (i:Int) / 8).toNat]++tl.take ((i:Int) % 8).toNat=nameA sh.toNat tl i:=by
      unfold nameA
      rw [show (sh + (i:Int) / 8).toNat=sh.toNat + i / 8 by lia,show ((i:Int) % 8).toNat=i % 8 by lia]
     rw [e4]
     exact q8
    ·repeat k_meth
     have e5:(List.range m).map (fun j=>V.str (tx (nameA sh.toNat tl j)))=((List.range m).map (nameA sh.toNat tl)).map fun cs=>V.str (tx cs):=by
      rw [List.map_map]
      rfl
     rw [e5] at F
     refine k _ _ _ _ _ _ (by simp) (fun cs hcs=>?_) (nodup_of fun i j a b hij ha hb z=>?_) F.kpo hatC hatC (F.fresh (LkL.m (o:=.lst _)) (nm1 (SH.neC (F:=F))))
     ·obtain ⟨j,_,rfl⟩:=List.mem_map.mp hcs
      exact nameA_ok tk
     ·have h3:=(List.getElem?_eq_some_iff.mp hb).1
      rw [List.length_map,List.length_range] at h3
      rw [List.getElem?_map,List.getElem?_range (by lia)] at ha hb
      cases ha
      cases hb
      have:=nameA_inj tk (by lia) (by lia) z
      lia
   ·repeat k_meth
    rename Addr=>nl
    rw [show ((m:Nat):Int).toNat=m by lia]
    refine forR0_by (fun i σ' H'=>∃(o6 o7:Option V) (nms:List (List Nat)) (x y z:Int),σ'=[some (.ref bx),some (.int (m:Nat)),some (.str (tx (List.range' 97 26))),some (.str (tx tl)),some (.int sh),some (.ref nl),o6,o7,none]∧nms.length=i∧(∀(j:Nat) cs,nms[j]?=some cs→∃r,r < 7∧cs=nameB sh.toNat tl j r)∧SH H [bx] H' [(nl,.lst (nms.map fun cs=>V.str (tx cs))),(bx,.lst [.int x,.int y,.int z])] []) ⟨_,_,[],_,_,_,rfl,rfl,fun j cs e=>by simp at e,F.subC (L':=[(nl,.lst []),(bx,.lst [.int x_,.int y_,.int z_])])⟩ ?_ ?_
    ·clear F
     rintro i σ' H' hi ⟨_,_,nms,x,y,z,rfl,hl,hn,F⟩
     repeat k_meth
     intro c hc
     have e3:=letter_at (by lia) hc
     subst e3
     repeat k_meth
     refine ⟨_,_,nms++[nameB sh.toNat tl i r_.toNat],x_,y_,z_,rfl,by simp [hl],fun j cs e=>?_,?_⟩
     ·by_cases hj:j < nms.length
      ·rw [List.getElem?_append_left hj] at e
       exact hn j cs e
      ·have hj2:=(List.getElem?_eq_some_iff.mp e).1
       rw [List.length_append,List.length_singleton] at hj2
       obtain rfl:j=i:=by lia
       rw [List.getElem?_append_right (by lia),hl,Nat.sub_self] at e
       cases e
       exact ⟨r_.toNat,by lia,rfl⟩
     ·have e4:[letter (sh + 9 * (i:Int)).toNat]++List.replicate ((i:Int) / 26).toNat 122++tl.take r_.toNat=nameB sh.toNat tl i r_.toNat:=by
       unfold nameB
       rw [show (sh + 9 * (i:Int)).toNat=sh.toNat + 9 * i by lia,show ((i:Int) / 26).toNat=i / 26 by lia]
      rw [e4] at F
      rw [List.map_append]
      exact F
    ·clear F
     rintro σ' H' ⟨_,_,nms,x,y,z,rfl,hl,hn,F⟩
     have okn:∀cs∈nms,NameOk cs:=fun cs hcs=>by
      obtain ⟨j,hj,e⟩:=List.getElem_of_mem hcs
      obtain ⟨r,hr,rfl⟩:=hn j cs (by rw [← e];simp)
      exact nameB_ok tk (by lia) hr
     have ndn:nms.Nodup:=nodup_of fun i j a b hij ha hb z=>by
      have h3:=(List.getElem?_eq_some_iff.mp hb).1
      obtain ⟨r,hr,rfl⟩:=hn i a ha
      obtain ⟨t,ht,rfl⟩:=hn j b hb
      exact nameB_inj tk (by lia) (by lia) hij z
     repeat k_meth
     refine i_dec (fun h5=>?_) (fun h5=>?_)
     ·repeat k_meth
      have e1:cutV [V.str (Str.ofString "down"),V.str (Str.ofString "up"),V.str (Str.ofString "pack"),V.str (Str.ofString "cells"),V.str (Str.ofString "at"),V.str (Str.ofString "size"),V.str (Str.ofString "pins"),V.str (Str.ofString "fit"),V.str (Str.ofString "take"),V.str (Str.ofString "halves"),V.str (Str.ofString "next"),V.str (Str.ofString "first")] none (some (m:Int))=(wordsN.take m).map fun cs=>V.str (tx cs):=by rw [cut_take2,words_tx,List.map_take]
      have e2:cutV (nms.map fun cs=>V.str (tx cs)) (some 12) none=(nms.drop 12).map fun cs=>V.str (tx cs):=by rw [show (12:Int)=((12:Nat):Int) from rfl,cut_drop,List.map_drop]
      obtain ⟨l3,o3,n3⟩:=words_mix tk hl h40 hn okn ndn
      rw [e1,e2,← List.map_append]
      refine sd (small_line ?_) ?_
      ·rw [List.length_append] at l3
       rw [List.length_map,List.length_map]
       lia
      ·repeat k_meth
       exact k _ _ _ (wordsN.take m++nms.drop 12) _ _ l3 o3 n3 F.kpo hatC hatC (F.fresh (LkL.m (o:=.lst ((wordsN.take m++nms.drop 12).map fun cs=>V.str (tx cs)))) (nm1 (SH.neC (F:=F))))
     ·repeat k_meth
      exact k _ _ _ nms _ _ hl okn ndn F.kpo hatC hatC (F.fresh (LkL.m (o:=.lst (nms.map fun cs=>V.str (tx cs)))) (nm1 (SH.neC (F:=F))))
end
open M22
theorem pickL {v:V} {xs:List Int} {lo hi:Int} (hv:v∈xs.map V.int) (h:∀a∈xs,lo≤a∧a < hi) (h0:0≤lo):∃g:Nat,v=.int (g:Nat)∧lo≤(g:Int)∧(g:Int) < hi:=by
 obtain ⟨a,ha,rfl⟩:=List.mem_map.mp hv
 have:=h a ha
 exact ⟨a.toNat,by congr 1;lia,by lia,by lia⟩
theorem pickL4 {v:V} {a b c d lo hi:Int} (hv:v∈[V.int a,V.int b,V.int c,V.int d]) (h:0≤lo∧(lo≤a∧a < hi)∧(lo≤b∧b < hi)∧(lo≤c∧c < hi)∧(lo≤d∧d < hi)):∃g:Nat,v=.int (g:Nat)∧lo≤(g:Int)∧(g:Int) < hi :=
 pickL (xs:=[a,b,c,d]) hv (fun z hz=>by
  simp only [List.mem_cons,List.not_mem_nil,or_false] at hz
  rcases hz with rfl | rfl | rfl | rfl
  ·exact h.2.1
  ·exact h.2.2.1
  ·exact h.2.2.2.1
  ·exact h.2.2.2.2) h.1
theorem pickL3 {v:V} {a b c lo hi:Int} (hv:v∈[V.int a,V.int b,V.int c]) (h:0≤lo∧(lo≤a∧a < hi)∧(lo≤b∧b < hi)∧(lo≤c∧c < hi)):∃g:Nat,v=.int (g:Nat)∧lo≤(g:Int)∧(g:Int) < hi :=
 pickL (xs:=[a,b,c]) hv (fun z hz=>by
  simp only [List.mem_cons,List.not_mem_nil,or_false] at hz
  rcases hz with rfl | rfl | rfl
  ·exact h.2.1
  ·exact h.2.2.1
  ·exact h.2.2.2) h.1
theorem lay_of {n at_:Nat} {rs:List Rw} {nms:List (List Nat)} (h1:at_≤n) (as:Asc rs) (ok:∀r∈rs,NameOk r.nm∧1≤r.sz∧r.st + r.sz≤at_) (sb:(rs.map (·.nm)).Sublist nms) (nd:nms.Nodup) (h40:nms.length≤40):Lay n rs:=by
 refine ⟨fun r hr=>⟨(ok r hr).1,(ok r hr).2.1,by have:=(ok r hr).2.2;lia⟩,?_,?_⟩
 ·have h2:rs.Pairwise fun r s=>r.nm≠s.nm:=List.pairwise_map.mp (nd.sublist sb)
  exact h2.imp₂ (fun a b h3 h4=>⟨h3,.inl h4⟩) as
 ·have:=sb.length_le
  rw [List.length_map] at this
  lia
theorem asc_snoc {rs:List Rw} {r:Rw} {at_:Nat} (h:Asc rs) (ok:∀s∈rs,s.st + s.sz≤at_) (hr:at_≤r.st):Asc (rs++[r]):=by
 unfold Asc
 rw [List.pairwise_append]
 refine ⟨h,List.pairwise_singleton _ _,fun a ha b hb=>?_⟩
 rw [List.mem_singleton.mp hb]
 have:=ok a ha
 lia
theorem rowsV_snoc (rs:List Rw) (r:Rw):rowsV (rs++[r])=rowsV rs++[rowV r]:=by unfold rowsV;rw [List.map_append];rfl
theorem while_m {c:TT} {tb:TS} {D:Ends} {σ:L2.St} {H:Hp} (Pv:Nat→L2.St→Hp→Prop) (h0:∃m,Pv m σ H)
  (hs:∀m σ H,Pv m σ H→c σ H fun b H1=>if b=true then ∃N:L2.St→Hp→Prop,(∀σ' H',N σ' H'→∃m',m' < m∧Pv m' σ' H')∧tb { D with nx:=N,ct:=N,bk:=D.nx } σ H1 else D.nx σ H1):tWhile c tb D σ H:=⟨Pv,h0,hs⟩
theorem pickL2 {v:V} {a b lo hi:Int} (hv:v∈[V.int a,V.int b]) (h:0≤lo∧(lo≤a∧a < hi)∧(lo≤b∧b < hi)):∃g:Nat,v=.int (g:Nat)∧lo≤(g:Int)∧(g:Int) < hi :=
 pickL3 (c:=b) (by simpa using hv) ⟨h.1,h.2.1,h.2.2,h.2.2⟩
open M22
abbrev Stp:=Rw×Int
def stD (g:List Stp×Int) (r:Rw):List Stp×Int:=if 0 < r.pn then (g.1,(r.st:Int) + (r.sz:Int)) else if g.2=(r.st:Int) then (g.1,g.2 + (r.sz:Int)) else (g.1++[(r,g.2)],g.2 + (r.sz:Int))
def stU (g:List Stp×Int) (r:Rw):List Stp×Int:=if 0 < r.pn then (g.1,(r.st:Int)) else if g.2 - (r.sz:Int)=(r.st:Int) then (g.1,g.2 - (r.sz:Int)) else (g.1++[(r,g.2 - (r.sz:Int))],g.2 - (r.sz:Int))
def downF (f:Int) (rs:List Rw):List Stp×Int:=rs.foldl stD ([],f)
def upF (b:Int) (rs:List Rw):List Stp×Int:=rs.foldl stU ([],b)
theorem downF_snoc (f:Int) (rs:List Rw) (r:Rw):downF f (rs++[r])=stD (downF f rs) r:=by unfold downF;rw [List.foldl_append];rfl
theorem upF_snoc (f:Int) (rs:List Rw) (r:Rw):upF f (rs++[r])=stU (upF f rs) r:=by unfold upF;rw [List.foldl_append];rfl
theorem stD_pin {g:List Stp×Int} {r:Rw} (h:0 < r.pn):stD g r=(g.1,(r.st:Int) + (r.sz:Int)):=if_pos h
theorem stD_eq {g:List Stp×Int} {r:Rw} (h:¬ 0 < r.pn) (e:g.2=(r.st:Int)):stD g r=(g.1,g.2 + (r.sz:Int)):=by unfold stD;rw [if_neg h,if_pos e]
theorem stD_ne {g:List Stp×Int} {r:Rw} (h:¬ 0 < r.pn) (e:¬ g.2=(r.st:Int)):stD g r=(g.1++[(r,g.2)],g.2 + (r.sz:Int)):=by unfold stD;rw [if_neg h,if_neg e]
theorem stU_pin {g:List Stp×Int} {r:Rw} (h:0 < r.pn):stU g r=(g.1,(r.st:Int)):=if_pos h
theorem stU_eq {g:List Stp×Int} {r:Rw} (h:¬ 0 < r.pn) (e:g.2 - (r.sz:Int)=(r.st:Int)):stU g r=(g.1,g.2 - (r.sz:Int)):=by unfold stU;rw [if_neg h,if_pos e]
theorem stU_ne {g:List Stp×Int} {r:Rw} (h:¬ 0 < r.pn) (e:¬ g.2 - (r.sz:Int)=(r.st:Int)):stU g r=(g.1++[(r,g.2 - (r.sz:Int))],g.2 - (r.sz:Int)):=by unfold stU;rw [if_neg h,if_neg e]
theorem fold_len {st:List Stp×Int→Rw→List Stp×Int} (h:∀g r,(st g r).1.length≤g.1.length + 1) (rs:List Rw) (g:List Stp×Int):(rs.foldl st g).1.length≤g.1.length + rs.length:=by
 induction rs generalizing g with
 | nil=>exact Nat.le_refl _
 | cons r t ih =>
  have:=ih (st g r)
  have:=h g r
  rw [List.foldl_cons,List.length_cons]
  lia
theorem downF_len (f:Int) (rs:List Rw):(downF f rs).1.length≤rs.length:=by
 have:=fold_len (st:=stD) (fun g r=>by
  unfold stD
  split
  ·simp
  ·split <;> simp) rs ([],f)
 simpa [downF] using this
theorem upF_len (f:Int) (rs:List Rw):(upF f rs).1.length≤rs.length:=by
 have:=fold_len (st:=stU) (fun g r=>by
  unfold stU
  split
  ·simp
  ·split <;> simp) rs ([],f)
 simpa [upF] using this
abbrev stepV (s:Stp):List V:=[.str (tx s.1.nm),.int (s.1.st:Nat),.int (s.1.sz:Nat),.int s.2]
abbrev moveV (s:Stp):List V:=[.str (tx s.1.nm),.int s.2]
def stepsV (ss:List Stp):List (List V):=ss.map stepV
def movesV (ss:List Stp):List (List V):=ss.map moveV
theorem stepsV_len (ss:List Stp):(stepsV ss).length=ss.length:=List.length_map ..
theorem movesV_len (ss:List Stp):(movesV ss).length=ss.length:=List.length_map ..
theorem stepsV_snoc (ss:List Stp) (s:Stp):stepsV (ss++[s])=stepsV ss++[stepV s]:=by unfold stepsV;rw [List.map_append];rfl
theorem movesV_snoc (ss:List Stp) (s:Stp):movesV (ss++[s])=movesV ss++[moveV s]:=by unfold movesV;rw [List.map_append];rfl
theorem map_at {α β:Type} {f:α→β} {ss:List α} {i:Nat} {r:β} (h:(ss.map f)[i]?=some r):∃s,ss[i]?=some s∧r=f s:=by
 rw [List.getElem?_map] at h
 cases e:ss[i]? with
 | none=>rw [e] at h;cases h
 | some s=>rw [e] at h;exact ⟨s,rfl,(Option.some.inj h).symm⟩
theorem take_snocR {α:Type} {rs:List α} {i:Nat} {r:α} (h:rs[i]?=some r):rs.take (i + 1)=rs.take i++[r]:=by rw [List.take_succ,h];rfl
theorem rev_at {α:Type} {rs:List α} {i n:Nat} {r:α} (hn:n=rs.length) (hi:i < n) (h:rs[n - 1 - i]?=some r):rs.reverse[i]?=some r:=by
 subst hn
 rw [List.getElem?_reverse hi]
 exact h
theorem comp_W {K:W.Frag} {l:Addr} {xs:List V} {rows:List (List V)} {σ fvs:L2.St} {fr:List Nat} {te:TE} {H:Hp} {Q:VK} (hq:H l=some (.lst xs)) (tp:TupsAt H xs rows) (hz:xs.length≤1000000) (hf:(fr.map fun i=>(σ[i]?).getD none)=fvs)
  (G:Nat→List V→Hp→Prop) (st:∀i ys H1 H2,(∀q u,H1 q=some (.tup u)→H2 q=some (.tup u))→G i ys H1→G i ys H2) (g0:G 0 [] H)
  (turnE:∀(i:Nat) (q:Addr) r ys (H':Hp) (R:VK),rows[i]?=some r→Same H H'→H' q=some (.tup r)→G i ys H'→(∀y H2,Same H' H2→G (i + 1) (ys++[y]) H2→R y H2)→te (some (.ref q)::fvs) H' R)
  (k:∀p ys H',New H H' p (.lst ys)→G xs.length ys H'→Q (.ref p) H'):CompAll (Itl K l) 1 fr (gName 0) tTrue te σ H Q:=by
 intro acc hacc
 subst hf
 have nacc:∀b u,H b=some u→b≠acc:=fun b u e=>ne_of_none e hacc
 have n0:New H (upd H acc (.lst [])) acc (.lst []):=.mk' hacc
 refine comp_by (items_list (xs:=xs)) (fun i ys H'=>H' acc=some (.lst ys)∧Same H H'∧ys.length≤i∧G i ys H') ⟨n0.e,n0.s,Nat.le_refl _,st _ _ _ _ (fun q u e=>n0.s _ _ e) g0⟩ (fun i ys H' _ h=>⟨h.2.1.seq (SqL.of hq),h.1⟩) ?_ ?_
 ·rintro i x tv ys H' hx hi ⟨ha,hs,hl,hg⟩ htv
  obtain ⟨t0,rfl⟩:∃a,tv=[a]:=List.length_eq_one_iff.mp htv
  obtain ⟨r,q,e1,rfl,e2⟩:=tups_at tp hx
  refine wn0 ?_
  unfold tTrue
  dsimp only
  rw [if_pos rfl]
  refine turnE i q r ys H' _ e1 hs (hs _ _ e2) hg fun y H3 s3 g3=>⟨Nat.lt_of_le_of_lt hl (Nat.lt_of_lt_of_le hi (small_line hz)),s3 _ _ ha,CompW.next (tv:=[some (.ref q)]) hi ⟨upd_same,fun b u e=>?_,by rw [List.length_append,List.length_singleton];lia,st _ _ _ _ (fun q' u e=>?_) g3⟩ rfl⟩
  ·rw [upd_ne (nacc b u e)]
   exact s3 _ _ (hs _ _ e)
  ·have e3:H3 acc=some (.lst ys):=s3 _ _ ha
   rw [upd_ne (fun z=>by rw [z,e3] at e;cases e)]
   exact e
 ·rintro ys H' ⟨ha,hs,_,hg⟩
  exact k acc ys H' ⟨hs,ha,nacc⟩ hg
theorem tups_st {H1 H2:Hp} {ys:List V} {rows:List (List V)} (s:∀q u,H1 q=some (.tup u)→H2 q=some (.tup u)) (t:TupsAt H1 ys rows):TupsAt H2 ys rows:=⟨t.1,fun j r e=>let ⟨q,a,b⟩:=t.2 j r e;⟨q,a,s _ _ b⟩⟩
def packF (d:Bool) (n:Nat) (rs:List Rw):List Stp:=if d=true then (downF 0 rs).1 else (upF (n:Int) rs.reverse).1
def IsWay (w:Str) (d:Bool):Prop:=(w = "down" ∧ d=true)∨(w = "up" ∧ d=false)
def sp_sdown:Sp:=fun vs H Q _=>∃(l:Addr) (f:Int) (zs:List V) (rs:List Rw),vs=[.ref l,.int f]∧H l=some (.lst zs)∧TupsAt H zs (rowsV rs)∧rs.length≤40∧∀q ys H',New H H' q (.lst ys)→TupsAt H' ys (stepsV (downF f rs).1)→Q (.ref q) H'
def sp_sup:Sp:=fun vs H Q _=>∃(l:Addr) (f:Int) (zs:List V) (rs:List Rw),vs=[.ref l,.int f]∧H l=some (.lst zs)∧TupsAt H zs (rowsV rs)∧rs.length≤40∧∀q ys H',New H H' q (.lst ys)→TupsAt H' ys (stepsV (upF f rs.reverse).1)→Q (.ref q) H'
def sp_moves:Sp:=fun vs H Q _=>∃(l:Addr) (zs:List V) (ss:List Stp),vs=[.ref l]∧H l=some (.lst zs)∧TupsAt H zs (stepsV ss)∧ss.length≤40∧∀q ys H',New H H' q (.lst ys)→TupsAt H' ys (movesV ss)→Q (.ref q) H'
def sp_packed (CL:Addr):Sp:=fun vs H Q _=>∃(x p dx:Addr) (way:Str) (d:Bool) (n:Nat) (zs:List V) (rs:List Rw),vs=[.ref x,.str way]∧IsWay way d∧H x=some (.ins CL dx (lF (n:Nat) p))∧H p=some (.lst zs)∧TupsAt H zs (rowsV rs)∧rs.length≤40∧∀q ys H',New H H' q (.lst ys)→TupsAt H' ys (movesV (packF d n rs))→Q (.ref q) H'
section
variable {K:W.Frag} {CL x p q dx l:Addr} {H H0:Hp} {M:List Addr} {L:List (Addr×HO)} {I:List Im} {Q:VK} {E:XK} {n:Nat} {f:Int} {ys zs:List V} {rs:List Rw} {ss:List Stp} {Z:Addr→Hp→Prop}
instance go_sdown [h2:Hat H l (.lst zs)] [t:TpA H zs (rowsV rs)]:Go (sp_sdown [.ref l,.int f] H Q E) (Sd (rs.length≤40) (∀q ys H',New H H' q (.lst ys)→TupsAt H' ys (stepsV (downF f rs).1)→Q (.ref q) H')):=⟨fun s=>⟨l,f,zs,rs,rfl,h2.e,t.e,s.1,s.2⟩⟩
instance go_sup [h2:Hat H l (.lst zs)] [t:TpA H zs (rowsV rs)]:Go (sp_sup [.ref l,.int f] H Q E) (Sd (rs.length≤40) (∀q ys H',New H H' q (.lst ys)→TupsAt H' ys (stepsV (upF f rs.reverse).1)→Q (.ref q) H')):=⟨fun s=>⟨l,f,zs,rs,rfl,h2.e,t.e,s.1,s.2⟩⟩
instance go_moves [h2:Hat H l (.lst zs)] [t:TpA H zs (stepsV ss)]:Go (sp_moves [.ref l] H Q E) (Sd (ss.length≤40) (∀q ys H',New H H' q (.lst ys)→TupsAt H' ys (movesV ss)→Q (.ref q) H')):=⟨fun s=>⟨l,zs,ss,rfl,h2.e,t.e,s.1,s.2⟩⟩
instance go_packD [h:Hat H x (.ins CL dx (lF (n:Nat) p))] [h2:Hat H p (.lst zs)] [t:TpA H zs (rowsV rs)]:Go (sp_packed CL [.ref x,.str "down"] H Q E) (Sd (rs.length≤40) (∀q ys H',New H H' q (.lst ys)→TupsAt H' ys (movesV (packF true n rs))→Q (.ref q) H')):=⟨fun s=>⟨x,p,dx,_,true,n,zs,rs,rfl,.inl ⟨rfl,rfl⟩,h.e,h2.e,t.e,s.1,s.2⟩⟩
instance go_packU [h:Hat H x (.ins CL dx (lF (n:Nat) p))] [h2:Hat H p (.lst zs)] [t:TpA H zs (rowsV rs)]:Go (sp_packed CL [.ref x,.str "up"] H Q E) (Sd (rs.length≤40) (∀q ys H',New H H' q (.lst ys)→TupsAt H' ys (movesV (packF false n rs))→Q (.ref q) H')):=⟨fun s=>⟨x,p,dx,_,false,n,zs,rs,rfl,.inr ⟨rfl,rfl⟩,h.e,h2.e,t.e,s.1,s.2⟩⟩
instance nx_steps [F:SH H0 M H L I]:Go (∀p ys H',New H H' p (.lst ys)→TupsAt H' ys (stepsV ss)→Z p H') (∀H' p ys,ys.length=ss.length→SH H0 M H' ((p,.lst ys)::L) (.tps ys (stepsV ss)::I)→Z p H'):=⟨fun k p ys H' n t=>k H' p ys (by rw [t.1,stepsV_len]) (F.newR n t)⟩
instance nx_moves [F:SH H0 M H L I]:Go (∀p ys H',New H H' p (.lst ys)→TupsAt H' ys (movesV ss)→Z p H') (∀H' p ys,ys.length=ss.length→SH H0 M H' ((p,.lst ys)::L) (.tps ys (movesV ss)::I)→Z p H'):=⟨fun k p ys H' n t=>k H' p ys (by rw [t.1,movesV_len]) (F.newR n t)⟩
end
section
variable {P:Program} {w:World} {K:W.Frag} {mg:Str→Option Value} {base:Heap} {c:Nat→Addr} {ct_Linit pt_Linit ct_order pt_order R CL:Addr}
theorem D_sdown (T:Txt K mg c R CL ct_Linit pt_Linit ct_order pt_order):Def P w K mg base CX0 1 "steps_down" ["blocks", "first"] sp_sdown:=by
 refine def_of T.d_sdown sc_sdown (fun vs H Q E h=>?_) (fun _ _ _ _ _ _=>el2 fun _ _=>rfl) (fun f cdv A outer s H vs Q E hr h=>?_)
 ·obtain ⟨l,f,zs,rs,rfl,_⟩:=h
  rfl
 ·obtain ⟨l,f,zs,rs,rfl,hl,tp,few,k⟩:=h
  have nd:=sc_sdown.nd
  refine ⟨_,(pss_cons (ps_set (i:=2) nd rfl (Or.inl rfl) (pe_lstA pa_nil))
   (pss_cons (ps_set (i:=3) nd rfl (Or.inl rfl) (pv 1))
   (pss_cons (ps_for PassesOwn.never rfl (pi_list (pv 0)) (pg_tup rfl (pgs_cons (pg_name (i:=4) nd rfl (Or.inl rfl)) (pgs_cons (pg_name (i:=5) nd rfl (Or.inl rfl)) (pgs_cons (pg_name (i:=6) nd rfl (Or.inl rfl)) (pgs_cons (pg_name (i:=7) nd rfl (Or.inl rfl)) pgs_nil))))) (pss_cons (ps_set (i:=8) nd rfl (Or.inl rfl) (pe_ifExp (pt_cmpR op_gt (pv 7) pe_int (nomark _)) (pv 5) (pv 3)))
    (pss_cons (ps_if (pt_cmpR op_ne (pv 8) (pv 5) (nomark _)) (pss_one (ps_expr (pe_appendA (pv 2) (pe_tupA (pa_cons (pv 4) (pa_cons (pv 5) (pa_cons (pv 6) (pa_cons (pv 8) pa_nil)))))))) pss_nil)
    (pss_one (ps_set (i:=3) nd rfl (Or.inl rfl) (pe_op op_add (pv 8) (pv 6)))))))
   (pss_one (ps_ret (pv 2)))))),?_⟩
  clear nd 
  rw [show start ["blocks", "first", "steps", "end_ahead", "name", "start", "size", "pins", "to"] [.ref l,.int f]=[some (.ref l),some (.int f),none,none,none,none,none,none,none] from rfl]
  try dsimp only [cx_K,cx_K2]
  have iL_many:FldOk K CL "many" := ⟨T.clL,T.aL_many⟩
  have iL_rows:FldOk K CL "rows" := ⟨T.clL,T.aL_rows⟩
  have o_hl:=Old.mk (M:=[]) hl nm0
  have o_tp:=OldP.mk tp
  have F:SH H [] H [] []:=SH.nil
  have zl:zs.length=rs.length:=by rw [tp.1,rowsV_len]
  repeat k_meth
  rename Addr=>sl
  refine forL_by (xs:=zs) (fun i σ' H'=>∃(o4 o5 o6 o7 o8:Option V) (ys:List V),σ'=[some (.ref l),some (.int f),some (.ref sl),some (.int (downF f (rs.take i)).2),o4,o5,o6,o7,o8]∧ys.length=(downF f (rs.take i)).1.length∧SH H [] H' [(sl,.lst ys)] [.tps ys (stepsV (downF f (rs.take i)).1)]) ⟨_,_,_,_,_,[],rfl,rfl,(F.addP (ys:=[]) (rs:=stepsV []) TupsAt.nil).sub SbC.s (fun _ h=>h)⟩ ?_ ?_ ?_
  ·clear F
   rintro i σ' H' _ ⟨_,_,_,_,_,ys,rfl,yl,F⟩
   exact SqA.e
  ·clear F
   rintro i v σ' H' hv ⟨_,_,_,_,_,ys,rfl,yl,F⟩
   obtain ⟨r,q1,e1,rfl,e2⟩:=rowsV_at tp hv
   
   have o_e2:=Old.mk (M:=[]) e2 nm0
   have dl:=downF_len f (rs.take i)
   rw [List.length_take] at dl
   have hi41:i≤40:=by
    have:=(List.getElem?_eq_some_iff.mp hv).1
    lia
   by_cases hp:0 < r.pn
   ·repeat k_meth
    refine ⟨_,_,_,_,_,ys,by rw [take_snocR e1,downF_snoc,stD_pin hp],by rw [take_snocR e1,downF_snoc,stD_pin hp];exact yl,?_⟩
    rw [take_snocR e1,downF_snoc,stD_pin hp]
    exact F.sub SbC.s SbI.s
   ·by_cases he:(downF f (rs.take i)).2=(r.st:Int)
    ·repeat k_meth
     refine ⟨_,_,_,_,_,ys,by rw [take_snocR e1,downF_snoc,stD_eq hp he],by rw [take_snocR e1,downF_snoc,stD_eq hp he];exact yl,?_⟩
     rw [take_snocR e1,downF_snoc,stD_eq hp he]
     exact F.sub SbC.s SbI.s
    ·repeat k_meth
     rename Addr=>tq
     have F2:=SH.app (ys:=ys) (rs:=stepsV (downF f (rs.take i)).1) (q:=tq) (r:=stepV (r,(downF f (rs.take i)).2)) F (LkP.m) (LkI.m)
     rw [← stepsV_snoc] at F2
     refine ⟨_,_,_,_,_,ys++[.ref tq],by rw [take_snocR e1,downF_snoc,stD_ne hp he],by rw [take_snocR e1,downF_snoc,stD_ne hp he];simp [yl],?_⟩
     rw [take_snocR e1,downF_snoc,stD_ne hp he]
     exact F2.sub SbC.s SbI.s
  ·clear F
   rintro σ' H' ⟨_,_,_,_,_,ys,rfl,yl,F⟩
   rw [zl,List.take_of_length_le (by lia)] at F
   repeat k_meth
   exact k _ _ _ SH.nwC TpA.e
theorem D_sup (T:Txt K mg c R CL ct_Linit pt_Linit ct_order pt_order):Def P w K mg base CX0 1 "steps_up" ["blocks", "behind"] sp_sup:=by
 refine def_of T.d_sup sc_sup (fun vs H Q E h=>?_) (fun _ _ _ _ _ _=>el2 fun _ _=>rfl) (fun f cdv A outer s H vs Q E hr h=>?_)
 ·obtain ⟨l,f,zs,rs,rfl,_⟩:=h
  rfl
 ·obtain ⟨l,f,zs,rs,rfl,hl,tp,few,k⟩:=h
  have nd:=sc_sup.nd
  refine ⟨_,(pss_cons (ps_set (i:=2) nd rfl (Or.inl rfl) (pe_lstA pa_nil))
   (pss_cons (ps_set (i:=3) nd rfl (Or.inl rfl) (pv 1))
   (pss_cons (ps_for PassesOwn.never rfl (pi_rev rfl T.n_reversed (pa_cons (pv 0) pa_nil)) (pg_tup rfl (pgs_cons (pg_name (i:=4) nd rfl (Or.inl rfl)) (pgs_cons (pg_name (i:=5) nd rfl (Or.inl rfl)) (pgs_cons (pg_name (i:=6) nd rfl (Or.inl rfl)) (pgs_cons (pg_name (i:=7) nd rfl (Or.inl rfl)) pgs_nil))))) (pss_cons (ps_set (i:=8) nd rfl (Or.inl rfl) (pe_ifExp (pt_cmpR op_gt (pv 7) pe_int (nomark _)) (pv 5) (pe_op op_sub (pv 3) (pv 6))))
    (pss_cons (ps_if (pt_cmpR op_ne (pv 8) (pv 5) (nomark _)) (pss_one (ps_expr (pe_appendA (pv 2) (pe_tupA (pa_cons (pv 4) (pa_cons (pv 5) (pa_cons (pv 6) (pa_cons (pv 8) pa_nil)))))))) pss_nil)
    (pss_one (ps_set (i:=3) nd rfl (Or.inl rfl) (pv 8))))))
   (pss_one (ps_ret (pv 2)))))),?_⟩
  clear nd 
  rw [show start ["blocks", "behind", "steps", "start_behind", "name", "start", "size", "pins", "to"] [.ref l,.int f]=[some (.ref l),some (.int f),none,none,none,none,none,none,none] from rfl]
  try dsimp only [cx_K,cx_K2]
  have iL_many:FldOk K CL "many" := ⟨T.clL,T.aL_many⟩
  have iL_rows:FldOk K CL "rows" := ⟨T.clL,T.aL_rows⟩
  have o_hl:=Old.mk (M:=[]) hl nm0
  have o_tp:=OldP.mk tp
  have F:SH H [] H [] []:=SH.nil
  have zl:zs.length=rs.length:=by rw [tp.1,rowsV_len]
  repeat k_meth
  rename Addr=>sl
  refine forV_by (xs:=zs) (fun i σ' H'=>∃(o4 o5 o6 o7 o8:Option V) (ys:List V),σ'=[some (.ref l),some (.int f),some (.ref sl),some (.int (upF f (rs.reverse.take i)).2),o4,o5,o6,o7,o8]∧ys.length=(upF f (rs.reverse.take i)).1.length∧SH H [] H' [(sl,.lst ys)] [.tps ys (stepsV (upF f (rs.reverse.take i)).1)]) ⟨_,_,_,_,_,[],rfl,rfl,(F.addP (ys:=[]) (rs:=stepsV []) TupsAt.nil).sub SbC.s (fun _ h=>h)⟩ ?_ ?_ ?_
  ·clear F
   rintro i σ' H' _ ⟨_,_,_,_,_,ys,rfl,yl,F⟩
   exact SqA.e
  ·clear F
   rintro i v σ' H' hi hv ⟨_,_,_,_,_,ys,rfl,yl,F⟩
   obtain ⟨r,q1,e1,rfl,e2⟩:=rowsV_at tp hv
   replace e1:=rev_at zl hi e1
   have o_e2:=Old.mk (M:=[]) e2 nm0
   have dl:=upF_len f (rs.reverse.take i)
   rw [List.length_take,List.length_reverse] at dl
   have hi41:i≤40:=by
    have:=(List.getElem?_eq_some_iff.mp hv).1
    lia
   by_cases hp:0 < r.pn
   ·repeat k_meth
    refine ⟨_,_,_,_,_,ys,by rw [take_snocR e1,upF_snoc,stU_pin hp],by rw [take_snocR e1,upF_snoc,stU_pin hp];exact yl,?_⟩
    rw [take_snocR e1,upF_snoc,stU_pin hp]
    exact F.sub SbC.s SbI.s
   ·by_cases he:(upF f (rs.reverse.take i)).2 - (r.sz:Int)=(r.st:Int)
    ·repeat k_meth
     refine ⟨_,_,_,_,_,ys,by rw [take_snocR e1,upF_snoc,stU_eq hp he],by rw [take_snocR e1,upF_snoc,stU_eq hp he];exact yl,?_⟩
     rw [take_snocR e1,upF_snoc,stU_eq hp he]
     exact F.sub SbC.s SbI.s
    ·repeat k_meth
     rename Addr=>tq
     have F2:=SH.app (ys:=ys) (rs:=stepsV (upF f (rs.reverse.take i)).1) (q:=tq) (r:=stepV (r,(upF f (rs.reverse.take i)).2 - (r.sz:Int))) F (LkP.m) (LkI.m)
     rw [← stepsV_snoc] at F2
     refine ⟨_,_,_,_,_,ys++[.ref tq],by rw [take_snocR e1,upF_snoc,stU_ne hp he],by rw [take_snocR e1,upF_snoc,stU_ne hp he];simp [yl],?_⟩
     rw [take_snocR e1,upF_snoc,stU_ne hp he]
     exact F2.sub SbC.s SbI.s
  ·clear F
   rintro σ' H' ⟨_,_,_,_,_,ys,rfl,yl,F⟩
   rw [zl,List.take_of_length_le (by rw [List.length_reverse];lia)] at F
   repeat k_meth
   exact k _ _ _ SH.nwC TpA.e
theorem D_moves (T:Txt K mg c R CL ct_Linit pt_Linit ct_order pt_order):Def P w K mg base CX0 1 "moves_of" ["steps"] sp_moves:=by
 refine def_of T.d_moves sc_moves (fun vs H Q E h=>?_) (fun _ _ _ _ _ _=>el1 fun _=>rfl) (fun f cdv A outer s H vs Q E hr h=>?_)
 ·obtain ⟨l,zs,ss,rfl,_⟩:=h
  rfl
 ·obtain ⟨l,zs,ss,rfl,hl,tp,few,k⟩:=h
  have nd:=sc_moves.nd
  refine ⟨_,(pss_one (ps_ret (pe_comp (N:=["step"]) (nt:=1) (fr:=[]) (pi_list (pv 0)) (fun _ _ _ _=>(pg_name (i:=0) (show (["step"]:List Str).Nodup from by decide +kernel) rfl (Or.inl rfl))) (fun _ _ _ _=>pif_nil) (fun _ _ _ _=>(pe_tupA (pa_cons (pe_ix (ix_tupK (K:=K) rfl) (pv 0) pe_int (fun _ _=>rfl)) (pa_cons (pe_ix (ix_tupK (K:=K) rfl) (pv 0) pe_int (fun _ _=>rfl)) pa_nil))))))),?_⟩
  clear nd 
  rw [show start ["steps"] [.ref l]=[some (.ref l)] from rfl]
  try dsimp only [cx_K,cx_K2]
  have iL_many:FldOk K CL "many" := ⟨T.clL,T.aL_many⟩
  have iL_rows:FldOk K CL "rows" := ⟨T.clL,T.aL_rows⟩
  have o_hl:=Old.mk (M:=[]) hl nm0
  have o_tp:=OldP.mk tp
  have F:SH H [] H [] []:=SH.nil
  have zl:zs.length=ss.length:=by rw [tp.1,stepsV_len]
  repeat k_meth
  refine comp_W (fvs:=[]) hatC (TpA.e (rs:=stepsV ss)) (by lia) rfl (fun i ys H'=>TupsAt H' ys (movesV (ss.take i))) (fun i ys H1 H2 s t=>tups_st s t) TupsAt.nil (fun i q1 r ys H' R e1 s1 e2 g kk=>?_) fun q ys H' n1 g=>?_
  ·clear F
   have F:SH H' [] H' [] []:=SH.nil
   obtain ⟨s,e3,rfl⟩:=map_at e1
   have o_e2:=Old.mk (M:=[]) e2 nm0
   repeat k_meth
   refine kk _ _ F.sm ?_
   rw [take_snocR e3,movesV_snoc]
   exact TupsAt.snoc (g.same F.sm) hatC
  ·rw [List.take_of_length_le (by lia)] at g
   replace F:=F.newR n1 g
   repeat k_meth
   exact k _ _ _ SH.nwC TpA.e
theorem D_packed (T:Txt K mg c R CL ct_Linit pt_Linit ct_order pt_order):∃tk0:Tok,DefD P w K mg base CX0 2 "packed" ["layout", "way"] (sp_packed CL) [.str "down" tk0]:=by
 have D_moves:=D_moves (P:=P) (w:=w) (base:=base) T
 have D_sdown:=D_sdown (P:=P) (w:=w) (base:=base) T
 have D_sup:=D_sup (P:=P) (w:=w) (base:=base) T
 have MT_Lblocks:=MT_Lblocks (P:=P) (w:=w) (base:=base) T
 obtain ⟨tk0,hasD⟩:=T.d_packed
 refine ⟨tk0,def_ofD hasD sc_packed (fun vs H Q E h=>?_) (fun _ _ _ _ _ _ _=>el2 fun _ _=>⟨_,rfl,rfl⟩) (fun _ _ _ _ _ _ _ us hl=>by obtain ⟨a,rfl⟩:∃a,us=[a]:=List.length_eq_one_iff.mp (by simpa using hl);exact ⟨_,rfl,rfl⟩) (fun f cdv A outer s H vs Q E hr h=>?_)⟩
 ·obtain ⟨x,p,dx,way,d,n,zs,rs,rfl,_⟩:=h
  rfl
 ·obtain ⟨x,p,dx,way,d,n,zs,rs,rfl,hw,hx,hp,tp,few,k⟩:=h
  have nd:=sc_packed.nd
  refine ⟨_,(pss_cons (ps_if (pt_cmpR op_eq (pv 1) pe_str (nomark _)) (pss_one (ps_ret (pe_def D_moves hr (pa_cons (pe_def D_sdown hr (pa_cons (pe_met0 (pv 0) T.clL MT_Lblocks hr) (pa_cons pe_int pa_nil))) pa_nil)))) pss_nil)
   (pss_cons (ps_if (pt_cmpR op_eq (pv 1) pe_str (nomark _)) (pss_one (ps_ret (pe_def D_moves hr (pa_cons (pe_def D_sup hr (pa_cons (pe_met0 (pv 0) T.clL MT_Lblocks hr) (pa_cons (pe_fld (pv 0) rfl) pa_nil))) pa_nil)))) pss_nil)
   pss_never)),?_⟩
  clear nd D_moves D_sdown D_sup MT_Lblocks
  rw [show start ["layout", "way"] [.ref x,.str way]=[some (.ref x),some (.str way)] from rfl]
  try dsimp only [cx_K,cx_K2]
  have iL_many:FldOk K CL "many" := ⟨T.clL,T.aL_many⟩
  have iL_rows:FldOk K CL "rows" := ⟨T.clL,T.aL_rows⟩
  have o_hx:=Old.mk (M:=[]) hx nm0
  have o_hp:=Old.mk (M:=[]) hp nm0
  have o_tp:=OldP.mk tp
  have F:SH H [] H [] []:=SH.nil
  have nud:¬ (("up" : Str) = "down"):=by decide
  rcases hw with ⟨rfl,rfl⟩ | ⟨rfl,rfl⟩
  ·have dl:=downF_len 0 rs
   repeat k_meth
   exact k _ _ _ SH.nwC TpA.e
  ·have dl:=upF_len (n:Int) rs.reverse
   rw [List.length_reverse] at dl
   repeat k_meth
   exact k _ _ _ SH.nwC TpA.e
end
open M22
theorem comp_G {K:W.Frag} {l:Addr} {xs:List V} {rows:List (List V)} {σ fvs:L2.St} {fr:List Nat} {c:TT} {te:TE} {H:Hp} {Q:VK} {P:List V→Bool} (hq:H l=some (.lst xs)) (tp:TupsAt H xs rows) (hz:xs.length≤1000000) (hf:(fr.map fun i=>(σ[i]?).getD none)=fvs)
  (G:Nat→List V→Hp→Prop) (st:∀i ys H1 H2,(∀q u,H1 q=some (.tup u)→H2 q=some (.tup u))→G i ys H1→G i ys H2) (g0:G 0 [] H)
  (turnC:∀(i:Nat) (q:Addr) r (H':Hp) (R:Bool→Hp→Prop),rows[i]?=some r→Same H H'→H' q=some (.tup r)→(∀H2,Same H' H2→R (P r) H2)→c (some (.ref q)::fvs) H' R)
  (turnE:∀(i:Nat) (q:Addr) r ys (H':Hp) (R:VK),rows[i]?=some r→P r=true→Same H H'→H' q=some (.tup r)→G i ys H'→(∀y H2,Same H' H2→G (i + 1) (ys++[y]) H2→R y H2)→te (some (.ref q)::fvs) H' R)
  (skip:∀(i:Nat) r ys (H':Hp),rows[i]?=some r→P r=false→G i ys H'→G (i + 1) ys H')
  (k:∀p ys H',New H H' p (.lst ys)→G xs.length ys H'→Q (.ref p) H'):CompAll (Itl K l) 1 fr (gName 0) c te σ H Q:=by
 intro acc hacc
 subst hf
 have nacc:∀b u,H b=some u→b≠acc:=fun b u e=>ne_of_none e hacc
 have n0:New H (upd H acc (.lst [])) acc (.lst []):=.mk' hacc
 refine comp_by (items_list (xs:=xs)) (fun i ys H'=>H' acc=some (.lst ys)∧Same H H'∧ys.length≤i∧G i ys H') ⟨n0.e,n0.s,Nat.le_refl _,st _ _ _ _ (fun q u e=>n0.s _ _ e) g0⟩ (fun i ys H' _ h=>⟨h.2.1.seq (SqL.of hq),h.1⟩) ?_ ?_
 ·rintro i x tv ys H' hx hi ⟨ha,hs,hl,hg⟩ htv
  obtain ⟨t0,rfl⟩:∃a,tv=[a]:=List.length_eq_one_iff.mp htv
  obtain ⟨r,q,e1,rfl,e2⟩:=tups_at tp hx
  refine wn0 ?_
  refine turnC i q r H' _ e1 hs (hs _ _ e2) fun H2 s2=>?_
  have g2:=st _ _ _ _ (fun q u e=>s2 _ _ e) hg
  have ha2:H2 acc=some (.lst ys):=s2 _ _ ha
  by_cases hp:P r=true
  ·rw [hp,if_pos rfl]
   refine turnE i q r ys H2 _ e1 hp (hs.trans s2) (s2 _ _ (hs _ _ e2)) g2 fun y H3 s3 g3=>⟨Nat.lt_of_le_of_lt hl (Nat.lt_of_lt_of_le hi (small_line hz)),s3 _ _ ha2,CompW.next (tv:=[some (.ref q)]) hi ⟨upd_same,fun b u e=>?_,by rw [List.length_append,List.length_singleton];lia,st _ _ _ _ (fun q' u e=>?_) g3⟩ rfl⟩
   ·rw [upd_ne (nacc b u e)]
    exact s3 _ _ (s2 _ _ (hs _ _ e))
   ·have e3:H3 acc=some (.lst ys):=s3 _ _ ha2
    rw [upd_ne (fun z=>by rw [z,e3] at e;cases e)]
    exact e
  ·have hp:P r=false:=by simpa using hp
   rw [hp,if_neg (by decide)]
   exact CompW.next (tv:=[some (.ref q)]) hi ⟨ha2,hs.trans s2,by lia,skip i r ys H2 e1 hp g2⟩ rfl
 ·rintro ys H' ⟨ha,hs,_,hg⟩
  exact k acc ys H' ⟨hs,ha,nacc⟩ hg
section
variable {K:W.Frag} {H:Hp} {Q:VK} {p q l:Addr} {ns:List Int} {c:Int}
instance go_sumL [h:SqA K H l (ns.map V.int)]:Go (rSumL K [.ref l] H Q) (Sd ((∀n∈ns,0≤n∧n≤1000000)∧ns.length≤1000000) (Q (.int ns.sum) H)):=⟨fun s=>w_sumL h.e s.1.1 s.1.2 s.2⟩
end
def within (a b:Int) (r:Rw):Bool:=decide (a≤(r.st:Int)) && decide ((r.st:Int) < b)
def freeB (rs:List Rw) (a b:Int):Int:=b - a - ((rs.filter (within a b)).map fun r=>(r.sz:Int)).sum
def sp_between (CL:Addr):Sp:=fun vs H Q _=>∃(x p dx:Addr) (n:Nat) (zs:List V) (rs:List Rw) (a b:Int),vs=[.ref x,.int a,.int b]∧H x=some (.ins CL dx (lF (n:Nat) p))∧H p=some (.lst zs)∧TupsAt H zs (rowsV rs)∧rs.length≤40∧∀q ys H',New H H' q (.lst ys)→TupsAt H' ys (rowsV (rs.filter (within a b)))→Q (.ref q) H'
def sp_freeb (CL:Addr):Sp:=fun vs H Q _=>∃(x p dx:Addr) (n:Nat) (zs:List V) (rs:List Rw) (a b:Int),vs=[.ref x,.int a,.int b]∧H x=some (.ins CL dx (lF (n:Nat) p))∧H p=some (.lst zs)∧TupsAt H zs (rowsV rs)∧(rs.length≤40∧∀r∈rs,r.sz≤240)∧∀H',Same H H'→Q (.int (freeB rs a b)) H'
section
variable {CL x p dx l:Addr} {H:Hp} {Q:VK} {E:XK} {n:Nat} {zs:List V} {rs:List Rw} {a b:Int}
instance go_between [h:Hat H x (.ins CL dx (lF (n:Nat) p))] [h2:Hat H p (.lst zs)] [t:TpA H zs (rowsV rs)]:Go (sp_between CL [.ref x,.int a,.int b] H Q E) (Sd (rs.length≤40) (∀q ys H',New H H' q (.lst ys)→TupsAt H' ys (rowsV (rs.filter (within a b)))→Q (.ref q) H')):=⟨fun s=>⟨x,p,dx,n,zs,rs,a,b,rfl,h.e,h2.e,t.e,s.1,s.2⟩⟩
instance go_freeb [h:Hat H x (.ins CL dx (lF (n:Nat) p))] [h2:Hat H p (.lst zs)] [t:TpA H zs (rowsV rs)]:Go (sp_freeb CL [.ref x,.int a,.int b] H Q E) (Sd (rs.length≤40∧∀r∈rs,r.sz≤240) (∀H',Same H H'→Q (.int (freeB rs a b)) H')):=⟨fun s=>⟨x,p,dx,n,zs,rs,a,b,rfl,h.e,h2.e,t.e,s.1,s.2⟩⟩
end
def inV2 (a b:Int) (r:List V):Bool:=match r with
 | [_,.int s,_,_]=>decide (a≤s) && decide (s < b)
 | _=>false
theorem filt_rows (rs:List Rw) (a b:Int):(rowsV rs).filter (inV2 a b)=rowsV (rs.filter (within a b)):=by
 unfold rowsV
 rw [List.filter_map]
 rfl
theorem take_rows {rows:List (List V)} {i:Nat} {r:List V} (h:rows[i]?=some r):rows.take (i + 1)=rows.take i++[r]:=by rw [List.take_succ,h];rfl
section
variable {P:Program} {w:World} {K:W.Frag} {mg:Str→Option Value} {base:Heap} {c:Nat→Addr} {ct_Linit pt_Linit ct_order pt_order R CL:Addr}
theorem D_between (T:Txt K mg c R CL ct_Linit pt_Linit ct_order pt_order):Def P w K mg base CX0 2 "blocks_between" ["layout", "first", "behind"] (sp_between CL):=by
 have MT_Lblocks:=MT_Lblocks (P:=P) (w:=w) (base:=base) T
 refine def_of T.d_between sc_between (fun vs H Q E h=>?_) (fun _ _ _ _ _ _=>el3 fun _ _ _=>rfl) (fun f cdv A outer s H vs Q E hr h=>?_)
 ·obtain ⟨x,p,dx,n,zs,rs,a,b,rfl,_⟩:=h
  rfl
 ·obtain ⟨x,p,dx,n,zs,rs,a,b,rfl,hx,hp,tp,few,k⟩:=h
  have nd:=sc_between.nd
  refine ⟨_,(pss_one (ps_ret (pe_comp (N:=["block", "first", "behind"]) (nt:=1) (fr:=[1,2]) (pi_list (pe_met0 (pv 0) T.clL MT_Lblocks hr)) (fun _ _ _ _=>(pg_name (i:=0) (show (["block", "first", "behind"]:List Str).Nodup from by decide +kernel) rfl (Or.inl rfl))) (fun _ _ _ _=>pif_one (pt_chain op_le op_lt (pv 1) (pe_ix (ix_tupK (K:=K) rfl) (pv 0) pe_int (fun _ _=>rfl)) (pv 2))) (fun _ _ _ _=>(pv 0))))),?_⟩
  clear nd MT_Lblocks
  rw [show start ["layout", "first", "behind"] [.ref x,.int a,.int b]=[some (.ref x),some (.int a),some (.int b)] from rfl]
  try dsimp only [cx_K,cx_K2]
  have iL_many:FldOk K CL "many" := ⟨T.clL,T.aL_many⟩
  have iL_rows:FldOk K CL "rows" := ⟨T.clL,T.aL_rows⟩
  have o_hx:=Old.mk (M:=[]) hx nm0
  have o_hp:=Old.mk (M:=[]) hp nm0
  have o_tp:=OldP.mk tp
  have F:SH H [] H [] []:=SH.nil
  have yl:zs.length=rs.length:=by rw [tp.1,rowsV_len]
  repeat k_meth
  refine comp_G (P:=inV2 a b) (fvs:=[some (.int a),some (.int b)]) hatC (TpA.e (rs:=rowsV rs)) (by lia) rfl (fun i ys H'=>TupsAt H' ys (((rowsV rs).take i).filter (inV2 a b))) (fun i ys H1 H2 s t=>tups_st s t) TupsAt.nil (fun i q1 r H' R e1 s1 e2 kk=>?_) (fun i q1 r ys H' R e1 hp s1 e2 g kk=>?_) (fun i r ys H' e1 hp g=>by rw [take_rows e1,List.filter_append,List.filter_cons_of_neg (by simp [hp]),List.filter_nil,List.append_nil];exact g) fun q ys H' n1 g=>?_
  ·clear F
   have F:SH H' [] H' [] []:=SH.nil
   obtain ⟨s,_,rfl⟩:=List.mem_map.mp (List.mem_of_getElem? e1)
   have o_e2:=Old.mk (M:=[]) e2 nm0
   have kk:∀H2,Same H' H2→R (decide (a≤(s.st:Int)) && decide ((s.st:Int) < b)) H2:=kk
   repeat k_meth
   refine i_dec (fun h=>?_) (fun h=>?_)
   ·repeat k_meth
    rw [decide_eq_true h,Bool.true_and] at kk
    exact kk _ (Same.refl _)
   ·repeat k_meth
    rw [decide_eq_false h,Bool.false_and] at kk
    exact kk _ (Same.refl _)
  ·repeat k_meth
   refine kk _ _ (Same.refl _) ?_
   rw [take_rows e1,List.filter_append,List.filter_cons_of_pos hp,List.filter_nil]
   exact TupsAt.snoc g e2
  ·rw [List.take_of_length_le (by rw [rowsV_len];lia),filt_rows] at g
   replace F:=F.newR n1 g
   repeat k_meth
   exact k _ _ _ SH.nwC TpA.e
theorem D_freeb (T:Txt K mg c R CL ct_Linit pt_Linit ct_order pt_order):Def P w K mg base CX0 3 "free_between" ["layout", "first", "behind"] (sp_freeb CL):=by
 have D_between:=D_between (P:=P) (w:=w) (base:=base) T
 refine def_of T.d_freeb sc_freeb (fun vs H Q E h=>?_) (fun _ _ _ _ _ _=>el3 fun _ _ _=>rfl) (fun f cdv A outer s H vs Q E hr h=>?_)
 ·obtain ⟨x,p,dx,n,zs,rs,a,b,rfl,_⟩:=h
  rfl
 ·obtain ⟨x,p,dx,n,zs,rs,a,b,rfl,hx,hp,tp,few,k⟩:=h
  have nd:=sc_freeb.nd
  refine ⟨_,(pss_one (ps_ret (pe_op op_sub (pe_op op_sub (pv 2) (pv 1)) (pe_callB (call_sumL rfl) rfl T.n_sum boot_sum (pa_cons (pe_comp (N:=["block"]) (nt:=1) (fr:=[]) (pi_list (pe_def D_between hr (pa_cons (pv 0) (pa_cons (pv 1) (pa_cons (pv 2) pa_nil))))) (fun _ _ _ _=>(pg_name (i:=0) (show (["block"]:List Str).Nodup from by decide +kernel) rfl (Or.inl rfl))) (fun _ _ _ _=>pif_nil) (fun _ _ _ _=>(pe_ix (ix_tupK (K:=K) rfl) (pv 0) pe_int (fun _ _=>rfl)))) pa_nil))))),?_⟩
  clear nd D_between
  rw [show start ["layout", "first", "behind"] [.ref x,.int a,.int b]=[some (.ref x),some (.int a),some (.int b)] from rfl]
  try dsimp only [cx_K,cx_K2]
  have iL_many:FldOk K CL "many" := ⟨T.clL,T.aL_many⟩
  have iL_rows:FldOk K CL "rows" := ⟨T.clL,T.aL_rows⟩
  have o_hx:=Old.mk (M:=[]) hx nm0
  have o_hp:=Old.mk (M:=[]) hp nm0
  have o_tp:=OldP.mk tp
  have F:SH H [] H [] []:=SH.nil
  have few1:=few.1
  have fl:(rs.filter (within a b)).length≤40:=Nat.le_trans (List.length_filter_le _ _) few.1
  repeat k_meth
  refine comp_rows (F:=fun r=>r.getD 2 .non) hatC (TpA.e (rs:=rowsV (rs.filter (within a b)))) (by lia) rfl (fun q r H1 R hr s1 e1 kk=>?_) ?_
  ·clear F
   have F:SH H1 [] H1 [] []:=SH.nil
   obtain ⟨s,_,rfl⟩:=List.mem_map.mp hr
   have o_e1:=Old.mk (M:=[]) e1 nm0
   repeat k_meth
   exact kk _ (Same.refl _)
  ·have e5:(rowsV (rs.filter (within a b))).map (fun r=>r.getD 2 V.non)=((rs.filter (within a b)).map fun r=>((r.sz:Nat):Int)).map V.int:=by
    unfold rowsV
    rw [List.map_map,List.map_map]
    rfl
   rw [e5]
   have side:(∀n∈(rs.filter (within a b)).map fun r=>((r.sz:Nat):Int),0≤n∧n≤1000000)∧((rs.filter (within a b)).map fun r=>((r.sz:Nat):Int)).length≤1000000:=by
    refine ⟨fun n hn=>?_,by rw [List.length_map];lia⟩
    obtain ⟨r,hr,rfl⟩:=List.mem_map.mp hn
    have:=few.2 r (List.mem_filter.mp hr).1
    lia
   repeat k_meth
   exact k _ F.sm
end
abbrev W3:=Int×Int×Int
abbrev row3 (w:W3):List V:=[V.int w.1,V.int w.2.1,V.int w.2.2]
def rows3 (ws:List W3):List (List V):=ws.map row3
theorem rows3_len (ws:List W3):(rows3 ws).length=ws.length:=List.length_map ..
theorem rows3_snoc (ws:List W3) (w:W3):rows3 (ws++[w])=rows3 ws++[row3 w]:=by unfold rows3;rw [List.map_append];rfl
def spF (r0 rs:List Rw):List W3×Int:=rs.foldl (fun g r=>if 0 < r.pn then (g.1++[(g.2,(r.st:Int),freeB r0 g.2 r.st)],(r.st:Int) + (r.sz:Int)) else g) ([],0)
theorem spF_snoc (r0 rs:List Rw) (r:Rw):spF r0 (rs++[r])=if 0 < r.pn then ((spF r0 rs).1++[((spF r0 rs).2,(r.st:Int),freeB r0 (spF r0 rs).2 r.st)],(r.st:Int) + (r.sz:Int)) else spF r0 rs:=by unfold spF;rw [List.foldl_append];rfl
def strF (n:Nat) (rs:List Rw):List W3:=(spF rs rs).1++[((spF rs rs).2,(n:Int),freeB rs (spF rs rs).2 n)]
theorem snocR {P:List Rw→Prop} (h0:P []) (h1:∀rs r,P rs→P (rs++[r])) (rs:List Rw):P rs:=by
 have:∀n,∀rs:List Rw,rs.length=n→P rs:=by
  intro n
  induction n with
  | zero=>intro rs h;rw [List.length_eq_zero_iff.mp h];exact h0
  | succ n ih =>
   intro rs h
   have hne:rs≠[]:=fun z=>by rw [z] at h;simp at h
   have e:=List.dropLast_concat_getLast hne
   rw [← e]
   exact h1 _ _ (ih _ (by rw [List.length_dropLast];lia))
 exact this rs.length rs rfl
theorem spF_len (r0 rs:List Rw):(spF r0 rs).1.length≤rs.length:=by
 induction rs using snocR with
 | h0=>exact Nat.le_refl _
 | h1 rs r ih =>
  rw [spF_snoc]
  split
  ·simp only [List.length_append,List.length_singleton];lia
  ·simp only [List.length_append,List.length_singleton];lia
def sp_stretches (CL:Addr):Sp:=fun vs H Q _=>∃(x p dx:Addr) (n:Nat) (zs:List V) (rs:List Rw),vs=[.ref x]∧H x=some (.ins CL dx (lF (n:Nat) p))∧H p=some (.lst zs)∧TupsAt H zs (rowsV rs)∧(rs.length≤40∧∀r∈rs,r.sz≤240)∧∀q ys H',New H H' q (.lst ys)→TupsAt H' ys (rows3 (strF n rs))→Q (.ref q) H'
section
variable {K:W.Frag} {CL x p dx l q a:Addr} {H H0:Hp} {M:List Addr} {L:List (Addr×HO)} {I:List Im} {Q:VK} {E:XK} {n:Nat} {xs ys zs:List V} {rs:List Rw} {ws:List W3} {Z:Addr→Hp→Prop} {t0 te:TE} {nt:Nat} {fr:List Nat} {g:TG} {cc:TT} {σ fvs:L2.St} {i:Int}
instance go_stretches [h:Hat H x (.ins CL dx (lF (n:Nat) p))] [h2:Hat H p (.lst zs)] [t:TpA H zs (rowsV rs)]:Go (sp_stretches CL [.ref x] H Q E) (Sd (rs.length≤40∧∀r∈rs,r.sz≤240) (∀q ys H',New H H' q (.lst ys)→TupsAt H' ys (rows3 (strF n rs))→Q (.ref q) H')):=⟨fun s=>⟨x,p,dx,n,zs,rs,rfl,h.e,h2.e,t.e,s.1,s.2⟩⟩
instance nx_rows3 [F:SH H0 M H L I]:Go (∀p ys H',New H H' p (.lst ys)→TupsAt H' ys (rows3 ws)→Z p H') (∀H' p ys,ys.length=ws.length→SH H0 M H' ((p,.lst ys)::L) (.tps ys (rows3 ws)::I)→Z p H'):=⟨fun k p ys H' n t=>k H' p ys (by rw [t.1,rows3_len]) (F.newR n t)⟩
instance go_wholeI:Go (sp_whole K [.int i] H Q E) (Q (.bl true) H):=⟨fun k=>⟨_,_,rfl,.int i,k⟩⟩
end
theorem row3_at {H:Hp} {ws:List W3} {ys:List V} {i:Nat} {v:V} (h:TupsAt H ys (rows3 ws)) (e:ys[i]?=some v):∃w q,ws[i]?=some w∧v=.ref q∧H q=some (.tup (row3 w)):=by
 obtain ⟨r,q,e1,e2,e3⟩:=tups_at h e
 unfold rows3 at e1
 rw [List.getElem?_map] at e1
 cases e4:ws[i]? with
 | none=>rw [e4] at e1;cases e1
 | some w=>rw [e4] at e1;cases e1;exact ⟨w,q,rfl,e2,e3⟩
section
variable {P:Program} {w:World} {K:W.Frag} {mg:Str→Option Value} {base:Heap} {c:Nat→Addr} {ct_Linit pt_Linit ct_order pt_order R CL:Addr}
theorem D_stretches (T:Txt K mg c R CL ct_Linit pt_Linit ct_order pt_order):Def P w K mg base CX0 4 "stretches_of" ["layout"] (sp_stretches CL):=by
 have MT_Lblocks:=MT_Lblocks (P:=P) (w:=w) (base:=base) T
 have D_end_of:=D_end_of (P:=P) (w:=w) (base:=base) T
 have D_freeb:=D_freeb (P:=P) (w:=w) (base:=base) T
 have D_cells_of:=D_cells_of (P:=P) (w:=w) (base:=base) T
 refine def_of T.d_stretches sc_stretches (fun vs H Q E h=>?_) (fun _ _ _ _ _ _=>el1 fun _=>rfl) (fun f cdv A outer s H vs Q E hr h=>?_)
 ·obtain ⟨x,p,dx,n,zs,rs,rfl,_⟩:=h
  rfl
 ·obtain ⟨x,p,dx,n,zs,rs,rfl,hx,hp,tp,few,k⟩:=h
  have nd:=sc_stretches.nd
  refine ⟨_,(pss_cons (ps_set (i:=1) nd rfl (Or.inl rfl) (pe_lstA pa_nil))
   (pss_cons (ps_set (i:=2) nd rfl (Or.inl rfl) pe_int)
   (pss_cons (ps_for PassesOwn.never rfl (pi_list (pe_met0 (pv 0) T.clL MT_Lblocks hr)) (pg_name (i:=3) nd rfl (Or.inl rfl)) (pss_one (ps_if (pt_cmpR op_gt (pe_ix ix_tup (pv 3) pe_int (fun _ _=>rfl)) pe_int (nomark _)) (pss_cons (ps_expr (pe_appendA (pv 1) (pe_tupA (pa_cons (pv 2) (pa_cons (pe_ix ix_tup (pv 3) pe_int (fun _ _=>rfl)) (pa_cons (pe_def D_freeb hr (pa_cons (pv 0) (pa_cons (pv 2) (pa_cons (pe_ix ix_tup (pv 3) pe_int (fun _ _=>rfl)) pa_nil)))) pa_nil))))))
     (pss_one (ps_set (i:=2) nd rfl (Or.inl rfl) (pe_def D_end_of hr (pa_cons (pe_def D_cells_of hr (pa_cons (pv 3) pa_nil)) pa_nil))))) pss_nil)))
   (pss_cons (ps_expr (pe_appendA (pv 1) (pe_tupA (pa_cons (pv 2) (pa_cons (pe_fld (pv 0) rfl) (pa_cons (pe_def D_freeb hr (pa_cons (pv 0) (pa_cons (pv 2) (pa_cons (pe_fld (pv 0) rfl) pa_nil)))) pa_nil))))))
   (pss_one (ps_ret (pv 1))))))),?_⟩
  clear nd MT_Lblocks D_end_of D_freeb D_cells_of
  rw [show start ["layout", "stretches", "first", "block"] [.ref x]=[some (.ref x),none,none,none] from rfl]
  try dsimp only [cx_K,cx_K2]
  have iL_many:FldOk K CL "many" := ⟨T.clL,T.aL_many⟩
  have iL_rows:FldOk K CL "rows" := ⟨T.clL,T.aL_rows⟩
  have o_hx:=Old.mk (M:=[]) hx nm0
  have o_hp:=Old.mk (M:=[]) hp nm0
  have o_tp:=OldP.mk tp
  have F:SH H [] H [] []:=SH.nil
  have few1:=few.1
  repeat k_meth
  rename_i _ sl
  rename Addr=>bl
  refine forL_by (xs:=zs) (fun i σ' H'=>∃(o3:Option V) (ys:List V),σ'=[some (.ref x),some (.ref sl),some (.int (spF rs (rs.take i)).2),o3]∧ys.length=(spF rs (rs.take i)).1.length∧SH H [] H' [(sl,.lst ys),(bl,.lst zs)] [.tps ys (rows3 (spF rs (rs.take i)).1)]) ⟨_,[],rfl,rfl,(F.addP (ys:=[]) (rs:=rows3 []) TupsAt.nil).sub SbC.s (fun _ h=>h)⟩ ?_ ?_ ?_
  ·clear F
   rintro i σ' H' _ ⟨_,ys,rfl,yl,F⟩
   exact SqA.e
  ·clear F
   rintro i v σ' H' hv ⟨_,ys,rfl,yl,F⟩
   obtain ⟨r,q1,e1,rfl,e2⟩:=rowsV_at tp hv
   have o_e2:=Old.mk (M:=[]) e2 nm0
   have sl1:=spF_len rs (rs.take i)
   rw [List.length_take] at sl1
   repeat k_meth
   refine i_dec (fun h=>?_) (fun h=>?_)
   ·have hp:0 < r.pn:=by lia
    repeat k_meth
    rename Addr=>zz
    have F2:=SH.app (ys:=ys) (rs:=rows3 (spF rs (rs.take i)).1) (q:=p_) (r:=row3 ((spF rs (rs.take i)).2,(r.st:Int),freeB rs (spF rs (rs.take i)).2 r.st)) F (LkP.m) (LkI.m)
    rw [← rows3_snoc] at F2
    refine ⟨_,ys++[.ref p_],by rw [take_snocR e1,spF_snoc,if_pos hp],by rw [take_snocR e1,spF_snoc,if_pos hp];simp [yl],?_⟩
    rw [take_snocR e1,spF_snoc,if_pos hp]
    exact F2.sub SbC.s SbI.s
   ·have hp:¬ 0 < r.pn:=by lia
    repeat k_meth
    refine ⟨_,ys,by rw [take_snocR e1,spF_snoc,if_neg hp],by rw [take_snocR e1,spF_snoc,if_neg hp];exact yl,?_⟩
    rw [take_snocR e1,spF_snoc,if_neg hp]
    exact F
  ·clear F
   rintro σ' H' ⟨_,ys,rfl,yl,F⟩
   have sl1:=spF_len rs rs
   rw [show zs.length=rs.length by rw [tp.1,rowsV_len],List.take_length] at F yl ⊢
   repeat k_meth
   rename Addr=>tq
   have F2:=SH.app (ys:=ys) (rs:=rows3 (spF rs rs).1) (q:=tq) (r:=row3 ((spF rs rs).2,(n:Int),freeB rs (spF rs rs).2 n)) F (LkP.m) (LkI.m)
   rw [← rows3_snoc] at F2
   exact k _ _ _ (SH.nwC (F:=F2)) (F2.tps List.mem_cons_self)
end
open M22 M82
def mvV (m:Mv):List V:=[.str (tx m.2.1),.int (m.2.2:Nat)]
def mvsV (ms:List Mv):List (List V):=ms.map mvV
theorem mvsV_len (ms:List Mv):(mvsV ms).length=ms.length:=List.length_map ..
theorem down_mv (rs:List Rw):∀(g:List Stp) (k e:Nat),∃ss:List Stp,(rs.foldl stD (g,(e:Int))).1=g++ss∧movesV ss=mvsV (dnM k e rs):=by
 induction rs with
 | nil=>intro g k e;exact ⟨[],(List.append_nil _).symm,rfl⟩
 | cons r rs ih =>
  intro g k e
  rw [List.foldl_cons]
  by_cases hp:0 < r.pn
  ·have hd:dnT e r=r.st:=if_pos hp
   obtain ⟨ss,e1,e2⟩:=ih g (k + 1) (r.st + r.sz)
   refine ⟨ss,?_,by rw [dnM,if_pos hd,hd];exact e2⟩
   rw [stD_pin hp,← e1]
   rfl
  ·have hd:dnT e r=e:=if_neg hp
   by_cases he:e=r.st
   ·obtain ⟨ss,e1,e2⟩:=ih g (k + 1) (e + r.sz)
    refine ⟨ss,?_,by rw [dnM,if_pos (hd.trans he),hd];exact e2⟩
    rw [stD_eq hp (by show (e:Int)=_;lia),← e1]
    rfl
   ·obtain ⟨ss,e1,e2⟩:=ih (g++[(r,(e:Int))]) (k + 1) (e + r.sz)
    refine ⟨(r,(e:Int))::ss,?_,?_⟩
    ·rw [stD_ne hp (by show ¬ (e:Int)=_;lia)]
     rw [show ((e:Int) + (r.sz:Int))=((e + r.sz:Nat):Int) by lia,e1,List.append_assoc]
     rfl
    ·rw [dnM,if_neg (by rw [hd];exact he),hd]
     show moveV _::movesV ss=mvV _::_
     rw [e2]
     rfl
theorem up_mv (rs:List Rw):∀(g:List Stp) (b:Nat),OkD b rs→∃ss:List Stp,(rs.foldl stU (g,(b:Int))).1=g++ss∧movesV ss=mvsV (upM b rs):=by
 induction rs with
 | nil=>intro g b _;exact ⟨[],(List.append_nil _).symm,rfl⟩
 | cons r rs ih =>
  intro g b h
  have h1:=h.bd r (.head _)
  have h2:=h.tail
  rw [List.foldl_cons]
  by_cases hp:0 < r.pn
  ·have hd:upT b r=r.st:=if_pos hp
   obtain ⟨ss,e1,e2⟩:=ih g r.st h2
   refine ⟨ss,?_,by rw [upM,if_pos hd,hd];exact e2⟩
   rw [stU_pin hp,← e1]
  ·have hd:upT b r=b - r.sz:=if_neg hp
   have hc:((b:Int) - (r.sz:Int))=((b - r.sz:Nat):Int):=by lia
   have h3:OkD (b - r.sz) rs:=h2.mono (by lia)
   by_cases he:b - r.sz=r.st
   ·obtain ⟨ss,e1,e2⟩:=ih g (b - r.sz) h3
    refine ⟨ss,?_,by rw [upM,if_pos (hd.trans he),hd];exact e2⟩
    rw [stU_eq hp (by show (b:Int) - _=_;lia)]
    show (rs.foldl stU (g,(b:Int) - (r.sz:Int))).1=_
    rw [hc,e1]
   ·obtain ⟨ss,e1,e2⟩:=ih (g++[(r,((b - r.sz:Nat):Int))]) (b - r.sz) h3
    refine ⟨(r,((b - r.sz:Nat):Int))::ss,?_,?_⟩
    ·rw [stU_ne hp (by show ¬ (b:Int) - _=_;lia)]
     show (rs.foldl stU (g++[(r,(b:Int) - (r.sz:Int))],(b:Int) - (r.sz:Int))).1=_
     rw [hc,e1,List.append_assoc]
     rfl
    ·rw [upM,if_neg (by rw [hd];exact he),hd]
     show moveV _::movesV ss=mvV _::_
     rw [e2]
     rfl
theorem pack_mv {n:Nat} {rs:List Rw} (d:Bool) (h:OkA 0 n rs):movesV (packF d n rs)=mvsV (packM d n rs):=by
 cases d with
 | true =>
  obtain ⟨ss,e1,e2⟩:=down_mv rs [] 0 0
  show movesV (rs.foldl stD ([],((0:Nat):Int))).1=_
  rw [e1];exact e2
 | false =>
  obtain ⟨ss,e1,e2⟩:=up_mv rs.reverse [] n h.rev
  show movesV (rs.reverse.foldl stU ([],(n:Int))).1=_
  rw [e1];exact e2
theorem filt_all {f b:Int} {B:List Rw} (h:∀r∈B,f≤(r.st:Int)∧(r.st:Int) < b):B.filter (within f b)=B:=List.filter_eq_self.mpr fun r hr=>by
 have:=h r hr
 unfold within
 rw [decide_eq_true this.1,decide_eq_true this.2]
 rfl
theorem filt_none {f b:Int} {B:List Rw} (h:∀r∈B,(r.st:Int) < f∨b≤(r.st:Int)):B.filter (within f b)=[]:=List.filter_eq_nil_iff.mpr fun r hr=>by
 unfold within
 rcases h r hr with h | h
 ·rw [decide_eq_false (by lia)];simp
 ·rw [decide_eq_false (p:=(r.st:Int) < b) (by lia)];simp
theorem spF_gen {n:Nat} {r0:List Rw} (ok:OkA 0 n r0):∀(rs A B:List Rw) (f u:Int) (g:List W3),r0=A++B++rs→(∀a∈A,(a.st:Int) < f)→(∀b∈B,f≤(b.st:Int))→(∀s∈rs,f≤(s.st:Int))→u=(B.map fun r=>(r.sz:Int)).sum →
  (rs.foldl (fun g r=>if 0 < r.pn then (g.1++[(g.2,(r.st:Int),freeB r0 g.2 r.st)],(r.st:Int) + (r.sz:Int)) else g) (g,f)).1++[((rs.foldl (fun g r=>if 0 < r.pn then (g.1++[(g.2,(r.st:Int),freeB r0 g.2 r.st)],(r.st:Int) + (r.sz:Int)) else g) (g,f)).2,(n:Int),freeB r0 (rs.foldl (fun g r=>if 0 < r.pn then (g.1++[(g.2,(r.st:Int),freeB r0 g.2 r.st)],(r.st:Int) + (r.sz:Int)) else g) (g,f)).2 n)]=g++strG n f u rs:=by
 intro rs
 induction rs with
 | nil =>
  intro A B f u g e hA hB _ hu
  have:freeB r0 f n=(n:Int) - f - u:=by
   unfold freeB
   rw [e,List.append_nil,List.filter_append,filt_none fun r hr=>.inl (hA r hr),filt_all fun r hr=>⟨hB r hr,by have:=ok.bd r (by rw [e];simp [hr]);lia⟩,List.nil_append,hu]
  show g++[(f,(n:Int),freeB r0 f n)]=_
  rw [this]
  rfl
 | cons r rs ih =>
  intro A B f u g e hA hB hs hu
  have aw:=ok.asc
  rw [e,List.pairwise_append] at aw
  have aw2:=List.pairwise_cons.mp aw.2.1
  have br:=ok.bd r (by rw [e];simp)
  rw [List.foldl_cons]
  by_cases hp:0 < r.pn
  ·have:freeB r0 f r.st=(r.st:Int) - f - u:=by
    unfold freeB
    rw [e,List.filter_append,List.filter_append,filt_none fun r hr=>.inl (hA r hr),filt_all fun b hb=>⟨hB b hb,by have:=aw.2.2 b (by simp [hb]) r (by simp);have:=ok.bd b (by rw [e];simp [hb]);lia⟩,filt_none (B:=r::rs) fun s hs=>.inr (by
     rcases List.mem_cons.mp hs with rfl | hs
     ·lia
     ·have:=aw2.1 s hs;lia),List.nil_append,List.append_nil,hu]
   rw [strG,if_pos hp]
   simp only [if_pos hp,this]
   have i:=ih (A++B++[r]) [] ((r.st:Int) + (r.sz:Int)) 0 (g++[(f,(r.st:Int),(r.st:Int) - f - u)]) (by rw [e];simp) (fun a ha=>by
    rcases List.mem_append.mp ha with ha | ha
    ·have:=aw.2.2 a ha r (by simp);lia
    ·rw [List.mem_singleton.mp ha];lia) (fun b hb=>by cases hb) (fun s hs=>by have:=aw2.1 s hs;lia) rfl
   rw [i,List.append_assoc]
   rfl
  ·rw [strG,if_neg hp]
   simp only [if_neg hp]
   exact ih A (B++[r]) f (u + (r.sz:Int)) g (by rw [e];simp) hA (fun b hb=>by
    rcases List.mem_append.mp hb with hb | hb
    ·exact hB b hb
    ·rw [List.mem_singleton.mp hb];exact hs r (.head _)) (fun s h=>hs s (.tail _ h)) (by rw [List.map_append,List.sum_append,← hu];simp)
theorem strF_G {n:Nat} {rs:List Rw} (ok:OkA 0 n rs):strF n rs=strG n 0 0 rs:=spF_gen ok rs [] [] 0 0 [] rfl (fun a h=>by cases h) (fun a h=>by cases h) (fun s _=>by lia) rfl
theorem ok_of {n:Nat} {rs:List Rw} (h:Lay n rs) (a:Asc rs):OkA 0 n rs:=⟨a,fun r hr=>⟨Nat.zero_le _,(h.good r hr).sz,(h.good r hr).le⟩⟩
theorem nms_nd {n:Nat} {rs:List Rw} (h:Lay n rs):(rs.map (·.nm)).Nodup:=by
 rw [List.Nodup,List.pairwise_map]
 exact h.ap.imp fun h=>h.1
def fewF (n:Nat) (rs:List Rw):Nat:=((strF n rs).filter fun w=>decide (0 < w.2.2)).length
def sp_fewest (CL:Addr):Sp:=fun vs H Q _=>∃(x p dx:Addr) (n:Nat) (zs:List V) (rs:List Rw),vs=[.ref x]∧H x=some (.ins CL dx (lF (n:Nat) p))∧H p=some (.lst zs)∧TupsAt H zs (rowsV rs)∧(rs.length≤40∧∀r∈rs,r.sz≤240)∧∀H',Same H H'→Q (.int (fewF n rs:Nat)) H'
section
variable {K:W.Frag} {CL x p dx:Addr} {H:Hp} {Q:VK} {E:XK} {n:Nat} {zs:List V} {rs:List Rw}
instance go_fewest [h:Hat H x (.ins CL dx (lF (n:Nat) p))] [h2:Hat H p (.lst zs)] [t:TpA H zs (rowsV rs)]:Go (sp_fewest CL [.ref x] H Q E) (Sd (rs.length≤40∧∀r∈rs,r.sz≤240) (∀H',Same H H'→Q (.int (fewF n rs:Nat)) H')):=⟨fun s=>⟨x,p,dx,n,zs,rs,rfl,h.e,h2.e,t.e,s.1,s.2⟩⟩
end
def pos3 (r:List V):Bool:=match r with
 | [_,_,.int f]=>decide (0 < f)
 | _=>false
theorem pos3_rows (ws:List W3):((rows3 ws).filter pos3).length=(ws.filter fun w=>decide (0 < w.2.2)).length:=by
 unfold rows3
 rw [List.filter_map,List.length_map]
 rfl
section
variable {P:Program} {w:World} {K:W.Frag} {mg:Str→Option Value} {base:Heap} {c:Nat→Addr} {ct_Linit pt_Linit ct_order pt_order R CL:Addr}
theorem D_fewest (T:Txt K mg c R CL ct_Linit pt_Linit ct_order pt_order):Def P w K mg base CX0 5 "fewest_holes" ["layout"] (sp_fewest CL):=by
 have D_stretches:=D_stretches (P:=P) (w:=w) (base:=base) T
 refine def_of T.d_fewest sc_fewest (fun vs H Q E h=>?_) (fun _ _ _ _ _ _=>el1 fun _=>rfl) (fun f cdv A outer s H vs Q E hr h=>?_)
 ·obtain ⟨x,p,dx,n,zs,rs,rfl,_⟩:=h
  rfl
 ·obtain ⟨x,p,dx,n,zs,rs,rfl,hx,hp,tp,few,k⟩:=h
  have nd:=sc_fewest.nd
  refine ⟨_,(pss_one (ps_ret (pe_callB call_lenN rfl T.n_len boot_len (pa_cons (pe_comp (N:=["stretch"]) (nt:=1) (fr:=[]) (pi_list (pe_def D_stretches hr (pa_cons (pv 0) pa_nil))) (fun _ _ _ _=>(pg_name (i:=0) (show (["stretch"]:List Str).Nodup from by decide +kernel) rfl (Or.inl rfl))) (fun _ _ _ _=>pif_one (pt_cmpR op_gt (pe_ix (ix_tupK (K:=K) rfl) (pv 0) pe_int (fun _ _=>rfl)) pe_int (nomark _))) (fun _ _ _ _=>(pv 0))) pa_nil)))),?_⟩
  clear nd D_stretches
  rw [show start ["layout"] [.ref x]=[some (.ref x)] from rfl]
  try dsimp only [cx_K,cx_K2]
  have iL_many:FldOk K CL "many" := ⟨T.clL,T.aL_many⟩
  have iL_rows:FldOk K CL "rows" := ⟨T.clL,T.aL_rows⟩
  have o_hx:=Old.mk (M:=[]) hx nm0
  have o_hp:=Old.mk (M:=[]) hp nm0
  have o_tp:=OldP.mk tp
  have F:SH H [] H [] []:=SH.nil
  have few1:=few.1
  have sl:(strF n rs).length≤41:=by
   have:=spF_len rs rs
   unfold strF
   rw [List.length_append,List.length_singleton]
   lia
  repeat k_meth
  refine comp_G (P:=pos3) (fvs:=[]) hatC (TpA.e (rs:=rows3 (strF n rs))) (by lia) rfl (fun i ys H'=>ys.length=(((rows3 (strF n rs)).take i).filter pos3).length) (fun i ys H1 H2 s t=>t) rfl (fun i q1 r H' R e1 s1 e2 kk=>?_) (fun i q1 r ys H' R e1 hp s1 e2 g kk=>?_) (fun i r ys H' e1 hp g=>by rw [take_rows e1,List.filter_append,List.filter_cons_of_neg (by simp [hp]),List.filter_nil,List.append_nil];exact g) fun q ys H' n1 g=>?_
  ·clear F
   have F:SH H' [] H' [] []:=SH.nil
   obtain ⟨s,_,rfl⟩:=List.mem_map.mp (List.mem_of_getElem? e1)
   have o_e2:=Old.mk (M:=[]) e2 nm0
   have kk:∀H2,Same H' H2→R (decide (0 < s.2.2)) H2:=kk
   repeat k_meth
   exact kk _ (Same.refl _)
  ·repeat k_meth
   refine kk _ _ (Same.refl _) ?_
   rw [take_rows e1,List.filter_append,List.filter_cons_of_pos hp,List.filter_nil,List.length_append,List.length_append,g]
   rfl
  ·rw [List.take_of_length_le (by rw [rows3_len];lia),pos3_rows] at g
   replace F:=F.newL n1
   have yl:ys.length≤41:=by
    have:=List.length_filter_le (fun w:W3=>decide (0 < w.2.2)) (strF n rs)
    lia
   repeat k_meth
   rw [g]
   exact k _ F.sm
end
open M22 M82
abbrev row2 (w:Int×Int):List V:=[V.int w.1,V.int w.2]
def rows2 (ws:List (Int×Int)):List (List V):=ws.map row2
theorem rows2_len (ws:List (Int×Int)):(rows2 ws).length=ws.length:=List.length_map ..
theorem rows2_snoc (ws:List (Int×Int)) (w:Int×Int):rows2 (ws++[w])=rows2 ws++[row2 w]:=by unfold rows2;rw [List.map_append];rfl
theorem holG_len (n:Nat) (rs:List Rw):∀e,(holG n e rs).length≤rs.length + 1:=by
 have g1:∀a b:Int,(gapI a b).length≤1:=fun a b=>by unfold gapI;split <;> simp
 induction rs with
 | nil=>intro e;exact g1 _ _
 | cons r rs ih =>
  intro e
  have:=ih ((r.st:Int) + (r.sz:Int))
  have:=g1 e r.st
  rw [holG,List.length_append,List.length_cons]
  lia
theorem drop_at {α:Type} {rs:List α} {i:Nat} {r:α} (h:rs[i]?=some r):rs.drop i=r::rs.drop (i + 1):=by
 obtain ⟨hi,e⟩:=List.getElem?_eq_some_iff.mp h
 rw [List.drop_eq_getElem_cons hi,e]
def sp_lholes2:Sp:=fun vs H Q _=>∃(l:Addr) (n:Nat) (zs:List V) (rs:List Rw),vs=[.int (n:Nat),.ref l]∧H l=some (.lst zs)∧TupsAt H zs (rowsV rs)∧rs.length≤40∧∀q ys H',New H H' q (.lst ys)→TupsAt H' ys (rows2 (holG n 0 rs))→Q (.ref q) H'
section
variable {K:W.Frag} {CL x p dx l q:Addr} {H H0:Hp} {M:List Addr} {L:List (Addr×HO)} {I:List Im} {Q:VK} {E:XK} {n:Nat} {ys zs:List V} {rs:List Rw} {ws:List W3} {us:List (Int×Int)} {w:Int} {Z:Addr→Hp→Prop}
instance go_lholes2 [h2:Hat H l (.lst zs)] [t:TpA H zs (rowsV rs)]:Go (sp_lholes2 [.int (n:Nat),.ref l] H Q E) (Sd (rs.length≤40) (∀q ys H',New H H' q (.lst ys)→TupsAt H' ys (rows2 (holG n 0 rs))→Q (.ref q) H')):=⟨fun s=>⟨l,n,zs,rs,rfl,h2.e,t.e,s.1,s.2⟩⟩
instance nx_rows2 [F:SH H0 M H L I]:Go (∀p ys H',New H H' p (.lst ys)→TupsAt H' ys (rows2 us)→Z p H') (∀H' p ys,ys.length=us.length→SH H0 M H' ((p,.lst ys)::L) (.tps ys (rows2 us)::I)→Z p H'):=⟨fun k p ys H' n t=>k H' p ys (by rw [t.1,rows2_len]) (F.newR n t)⟩
end
section
variable {P:Program} {w:World} {K:W.Frag} {mg:Str→Option Value} {base:Heap} {c:Nat→Addr} {ct_Linit pt_Linit ct_order pt_order R CL:Addr}
theorem D_lwhole (T:Txt K mg c R CL ct_Linit pt_Linit ct_order pt_order):Def P w K mg base CX0 1 "_law_whole" ["_law_thing"] (sp_whole K):=by
 refine def_of T.d_lwhole sc_lwhole (fun vs H Q E h=>?_) (fun _ _ _ _ _ _=>el1 fun _=>rfl) (fun f cdv A outer s H vs Q E hr h=>?_)
 ·obtain ⟨x,n,rfl,_⟩:=h
  rfl
 ·obtain ⟨x,n,rfl,ty,k⟩:=h
  have nd:=sc_lwhole.nd
  refine ⟨_,(pss_one (ps_ret (pe_and (pe_callB call_isT rfl T.n_isinstance boot_isinstance (pa_cons (pv 0) (pa_cons (pe_ty (T := "int") rfl T.n_int boot_int) pa_nil))) (pe_one (pe_not (pe_callB call_isT rfl T.n_isinstance boot_isinstance (pa_cons (pv 0) (pa_cons (pe_ty (T := "bool") rfl T.n_bool boot_bool) pa_nil)))))))),?_⟩
  clear nd 
  rw [show start ["_law_thing"] [x]=[some (x)] from rfl]
  try dsimp only [cx_K,cx_K2]
  rw [isW_eq] at k
  repeat k_meth
  refine w_is ty (bt_int ty) ?_
  repeat k_meth
  refine i_b (fun h=>?_) (fun h=>?_)
  ·repeat k_meth
   refine w_is ty (bt_bool ty) ?_
   repeat k_meth
   rw [h] at k
   exact k
  ·rw [h] at k
   exact k
theorem D_lholes (T:Txt K mg c R CL ct_Linit pt_Linit ct_order pt_order):Def P w K mg base CX0 1 "_law_holes" ["_law_many", "_law_rows_here"] sp_lholes2:=by
 refine def_of T.d_lholes sc_lholes (fun vs H Q E h=>?_) (fun _ _ _ _ _ _=>el2 fun _ _=>rfl) (fun f cdv A outer s H vs Q E hr h=>?_)
 ·obtain ⟨l,n,zs,rs,rfl,_⟩:=h
  rfl
 ·obtain ⟨l,n,zs,rs,rfl,hl,tp,few,k⟩:=h
  have nd:=sc_lholes.nd
  refine ⟨_,(pss_cons (ps_set (i:=2) nd rfl (Or.inl rfl) (pe_lstA pa_nil))
   (pss_cons (ps_set (i:=3) nd rfl (Or.inl rfl) pe_int)
   (pss_cons (ps_for PassesOwn.never rfl (pi_list (pv 1)) (pg_tup rfl (pgs_cons (pg_name (i:=4) nd rfl (Or.inl rfl)) (pgs_cons (pg_name (i:=5) nd rfl (Or.inl rfl)) (pgs_cons (pg_name (i:=6) nd rfl (Or.inl rfl)) (pgs_cons (pg_name (i:=7) nd rfl (Or.inl rfl)) pgs_nil))))) (pss_cons (ps_if (pt_cmpR op_gt (pv 5) (pv 3) (nomark _)) (pss_one (ps_expr (pe_appendA (pv 2) (pe_tupA (pa_cons (pv 3) (pa_cons (pe_op op_sub (pv 5) (pv 3)) pa_nil)))))) pss_nil)
    (pss_one (ps_set (i:=3) nd rfl (Or.inl rfl) (pe_op op_add (pv 5) (pv 6))))))
   (pss_cons (ps_if (pt_cmpR op_gt (pv 0) (pv 3) (nomark _)) (pss_one (ps_expr (pe_appendA (pv 2) (pe_tupA (pa_cons (pv 3) (pa_cons (pe_op op_sub (pv 0) (pv 3)) pa_nil)))))) pss_nil)
   (pss_one (ps_ret (pv 2))))))),?_⟩
  clear nd 
  rw [show start ["_law_many", "_law_rows_here", "_law_found", "_law_end", "_law_name", "_law_start", "_law_size", "_law_pins"] [.int (n:Nat),.ref l]=[some (.int (n:Nat)),some (.ref l),none,none,none,none,none,none] from rfl]
  try dsimp only [cx_K,cx_K2]
  have iL_many:FldOk K CL "many" := ⟨T.clL,T.aL_many⟩
  have iL_rows:FldOk K CL "rows" := ⟨T.clL,T.aL_rows⟩
  have o_hl:=Old.mk (M:=[]) hl nm0
  have o_tp:=OldP.mk tp
  have F:SH H [] H [] []:=SH.nil
  have zl:zs.length=rs.length:=by rw [tp.1,rowsV_len]
  have sl:=holG_len n rs 0
  repeat k_meth
  rename Addr=>fo
  refine forL_by (xs:=zs) (fun i σ' H'=>∃(o4 o5 o6 o7:Option V) (f:Int) (ws:List (Int×Int)) (ys:List V),σ'=[some (.int (n:Nat)),some (.ref l),some (.ref fo),some (.int f),o4,o5,o6,o7]∧ws++holG n f (rs.drop i)=holG n 0 rs∧ys.length=ws.length∧SH H [] H' [(fo,.lst ys)] [.tps ys (rows2 ws)]) ⟨_,_,_,_,0,[],[],rfl,rfl,rfl,(F.addP (ys:=[]) (rs:=rows2 []) TupsAt.nil).sub SbC.s (fun _ h=>h)⟩ ?_ ?_ ?_
  ·clear F
   rintro i σ' H' _ ⟨_,_,_,_,f,ws,ys,rfl,e,yl,F⟩
   exact SqA.e
  ·clear F
   rintro i v σ' H' hv ⟨_,_,_,_,f,ws,ys,rfl,e,yl,F⟩
   obtain ⟨r,q1,e1,rfl,e2⟩:=rowsV_at tp hv
   have o_e2:=Old.mk (M:=[]) e2 nm0
   rw [drop_at e1,holG] at e
   have wl:ws.length≤41:=by
    have:=congrArg List.length e
    rw [List.length_append] at this
    lia
   repeat k_meth
   refine i_dec (fun h=>?_) (fun h=>?_)
   ·rw [gapI_pos (by lia)] at e
    repeat k_meth
    rename Addr=>tq
    have F2:=SH.app (ys:=ys) (rs:=rows2 ws) (q:=tq) (r:=row2 (f,(r.st:Int) - f)) F (LkP.m) (LkI.m)
    rw [← rows2_snoc] at F2
    exact ⟨_,_,_,_,_,ws++[(f,(r.st:Int) - f)],ys++[.ref tq],rfl,by rw [← e,List.append_assoc],by simp [yl],F2.sub SbC.s SbI.s⟩
   ·rw [gapI_neg (by lia)] at e
    repeat k_meth
    exact ⟨_,_,_,_,_,ws,ys,rfl,e,yl,F.sub SbC.s SbI.s⟩
  ·clear F
   rintro σ' H' ⟨_,_,_,_,f,ws,ys,rfl,e,yl,F⟩
   rw [zl,List.drop_of_length_le (Nat.le_refl _),holG] at e
   have wl:ws.length≤41:=by
    have:=congrArg List.length e
    rw [List.length_append] at this
    lia
   repeat k_meth
   refine i_dec (fun h=>?_) (fun h=>?_)
   ·rw [gapI_pos (by lia)] at e
    repeat k_meth
    rename Addr=>tq
    have F2:=SH.app (ys:=ys) (rs:=rows2 ws) (q:=tq) (r:=row2 (f,(n:Int) - f)) F (LkP.m) (LkI.m)
    rw [← rows2_snoc,e] at F2
    exact k _ _ _ (SH.nwC (F:=F2)) (F2.tps List.mem_cons_self)
   ·rw [gapI_neg (by lia),List.append_nil] at e
    rw [e] at F
    repeat k_meth
    exact k _ _ _ SH.nwC TpA.e
end
open M22 M82
structure WkOk (n:Nat) (rs:List Rw) (ms:List Mv):Prop where
 few:rs.length≤40
 fem:ms.length≤40
 ok:WOk n rs ms
 ndm:(ms.map (·.2.1)).Nodup
 ndr:(rs.map (·.nm)).Nodup
def sp_walk:Sp:=fun vs H Q _=>∃(n:Nat) (l m:Addr) (zs ws:List V) (rs:List Rw) (ms:List Mv),vs=[.int (n:Nat),.ref l,.ref m]∧H l=some (.lst zs)∧TupsAt H zs (rowsV rs)∧H m=some (.lst ws)∧TupsAt H ws (mvsV ms)∧WkOk n rs ms∧∀p ys H1,New H H1 p (.lst ys)→TupsAt H1 ys (rowsV (wEnd rs ms))→∀t H2,Same H1 H2→H2 t=some (.tup [.int (wPrice rs ms:Nat),.ref p])→Q (.ref t) H2
section
variable {l m:Addr} {H:Hp} {Q:VK} {E:XK} {n:Nat} {ws zs:List V} {rs:List Rw} {ms:List Mv}
instance go_walk [h1:Hat H l (.lst zs)] [t1:TpA H zs (rowsV rs)] [h2:Hat H m (.lst ws)] [t2:TpA H ws (mvsV ms)]:Go (sp_walk [.int (n:Nat),.ref l,.ref m] H Q E) (Sd (WkOk n rs ms) (∀p ys H1,New H H1 p (.lst ys)→TupsAt H1 ys (rowsV (wEnd rs ms))→∀t H2,Same H1 H2→H2 t=some (.tup [.int (wPrice rs ms:Nat),.ref p])→Q (.ref t) H2)):=⟨fun s=>⟨n,l,m,zs,ws,rs,ms,rfl,h1.e,t1.e,h2.e,t2.e,s.1,s.2⟩⟩
end
theorem hsR_up {qs:List Addr} {T:List (List V)} {i:Nat} {q:Addr} {r:List V} (o:List V) (h1:qs[i]?=some q) (h2:T[i]?=some r):Up q (.lst o) (hsR qs T) (hsR qs (T.set i o)):=by
 have:=hsR_set (B:=[]) o h1 h2
 rw [List.append_nil,List.append_nil] at this
 exact this
theorem mv_at {H:Hp} {ms:List Mv} {ys:List V} {i:Nat} {v:V} (h:TupsAt H ys (mvsV ms)) (e:ys[i]?=some v):∃w q,ms[i]?=some w∧v=.ref q∧H q=some (.tup (mvV w)):=by
 obtain ⟨r,q,e1,e2,e3⟩:=tups_at h e
 unfold mvsV at e1
 rw [List.getElem?_map] at e1
 cases e4:ms[i]? with
 | none=>rw [e4] at e1;cases e1
 | some w=>rw [e4] at e1;cases e1;exact ⟨w,q,rfl,e2,e3⟩
theorem mvT_nm (T:List Rw) (k to:Nat):(mvT T k to).map (·.nm)=T.map (·.nm):=by
 unfold mvT
 induction T generalizing k with
 | nil=>simp
 | cons r T ih =>
  cases k with
  | zero=>rfl
  | succ k=>rw [List.modify_succ_cons,List.map_cons,List.map_cons,ih]
theorem mvT_rows {T:List Rw} {k to:Nat} {r:Rw} (h:T[k]?=some r):rowsV (mvT T k to)=(rowsV T).set k ((rowV r).set 1 (.int (to:Nat))):=by
 unfold mvT rowsV
 induction T generalizing k with
 | nil=>simp at h
 | cons a T ih =>
  cases k with
  | zero=>simp at h;subst h;rfl
  | succ k=>rw [List.modify_succ_cons,List.map_cons,List.map_cons,List.set_cons_succ,ih (by simpa using h)]
theorem lowT_at {T:List Rw} {j:Nat} {r:Rw} (h:T[j]?=some r):lowT T (j + 1)=r.st + r.sz:=by simp only [lowT,h]
theorem highT_at {n:Nat} {T:List Rw} {k:Nat} {r:Rw} (h:T[k + 1]?=some r):highT n T k=r.st:=by simp only [highT,h]
theorem highT_no {n:Nat} {T:List Rw} {k:Nat} (h:¬ k + 1 < T.length):highT n T k=n:=by simp only [highT,List.getElem?_eq_none (by lia:T.length≤k + 1)]
theorem rowsV_get {T:List Rw} {k:Nat} {r:Rw} (h:T[k]?=some r):(rowsV T)[k]?=some (rowV r):=by unfold rowsV;rw [List.getElem?_map,h];rfl
theorem ref_at {qs:List Addr} {T:List Rw} {k:Nat} {r:Rw} (hl:qs.length=T.length) (h:T[k]?=some r):∃q,qs[k]?=some q∧(qs.map V.ref)[k]?=some (V.ref q):=by
 have:=(List.getElem?_eq_some_iff.mp h).1
 exact ⟨qs[k],by simp,by simp⟩
section
variable {P:Program} {w:World} {K:W.Frag} {mg:Str→Option Value} {base:Heap} {c:Nat→Addr} {ct_Linit pt_Linit ct_order pt_order R CL:Addr}
theorem wPr_eq {T:List Rw} {m:Mv} {r:Rw} (h:T[m.1]?=some r) (e:m.2.2=r.st):wPr T m=0:=by simp only [wPr,h];rw [if_pos e]
theorem wPr_ne {T:List Rw} {m:Mv} {r:Rw} (h:T[m.1]?=some r) (e:¬ m.2.2=r.st):wPr T m=r.sz:=by simp only [wPr,h];rw [if_neg e]
theorem D_walk (T:Txt K mg c R CL ct_Linit pt_Linit ct_order pt_order):Def P w K mg base CX0 2 "_law_walk" ["_law_many", "_law_rows_here", "_law_moves"] sp_walk:=by
 have D_lwhole:=D_lwhole (P:=P) (w:=w) (base:=base) T
 refine def_of T.d_walk sc_walk (fun vs H Q E h=>?_) (fun _ _ _ _ _ _=>el3 fun _ _ _=>rfl) (fun f cdv A outer s H vs Q E hr h=>?_)
 ·obtain ⟨n,l,m,zs,ws,rs,ms,rfl,_⟩:=h
  rfl
 ·obtain ⟨n,l,m,zs,ws,rs,ms,rfl,hl,tl,hm,tm,side,k⟩:=h
  have nd:=sc_walk.nd
  refine ⟨_,(pss_cons (ps_if (pt_not (pt_val (pe_callB call_isT rfl T.n_isinstance boot_isinstance (pa_cons (pv 2) (pa_cons (pe_ty (T := "list") rfl T.n_list boot_list) pa_nil))))) (pss_one (ps_ret pe_non)) pss_nil)
   (pss_cons (ps_setc (i:=3) nd rfl (Or.inl rfl) (N:=["_law_row"]) (nt:=1) (fr:=[]) (pi_list (pv 1)) (fun _ _ _ _=>(pg_name (i:=0) (show (["_law_row"]:List Str).Nodup from by decide +kernel) rfl (Or.inl rfl))) (fun _ _ _ _=>pif_nil) (fun _ _ _ _=>(pe_callTy (call_list_ofK (K:=K) rfl) rfl T.n_list boot_list (pa_cons (pv 0) pa_nil))))
   (pss_cons (ps_setc (i:=4) nd rfl (Or.inl rfl) (N:=["_law_row"]) (nt:=1) (fr:=[]) (pi_list (pv 1)) (fun _ _ _ _=>(pg_name (i:=0) (show (["_law_row"]:List Str).Nodup from by decide +kernel) rfl (Or.inl rfl))) (fun _ _ _ _=>pif_nil) (fun _ _ _ _=>(pe_ix (ix_tupK (K:=K) rfl) (pv 0) pe_int (fun _ _=>rfl))))
   (pss_cons (ps_set (i:=5) nd rfl (Or.inl rfl) (pe_lstA pa_nil))
   (pss_cons (ps_set (i:=6) nd rfl (Or.inl rfl) pe_int)
   (pss_cons (ps_for PassesOwn.never rfl (pi_list (pv 2)) (pg_name (i:=7) nd rfl (Or.inl rfl)) (pss_cons (ps_if (PW.pt (pw_or (pt_not (pt_val (pe_callB call_isT rfl T.n_isinstance boot_isinstance (pa_cons (pv 7) (pa_cons (pe_ty (T := "tuple") rfl T.n_tuple boot_tuple) pa_nil))))) (pw_or (pt_cmpR op_ne (pe_callB call_lenN rfl T.n_len boot_len (pa_cons (pv 7) pa_nil)) pe_int (nomark _)) (pw_or1 (pt_not (pt_val (pe_callB call_isT rfl T.n_isinstance boot_isinstance (pa_cons (pe_ix ix_tup (pv 7) pe_int (fun _ _=>rfl)) (pa_cons (pe_ty (T := "str") rfl T.n_str boot_str) pa_nil))))))))) (pss_one (ps_ret pe_non)) pss_nil)
    (pss_cons (ps_asg (pv 7) (pg_tup rfl (pgs_cons (pg_name (i:=8) nd rfl (Or.inl rfl)) (pgs_cons (pg_name (i:=9) nd rfl (Or.inl rfl)) pgs_nil))))
    (pss_cons (ps_if (PW.pt (pw_or (pt_cmpR op_notIn_seq (pv 8) (pv 4) (by with_unfolding_all rfl)) (pw_or (pt_cmpR op_in_seq (pv 8) (pv 5) (by with_unfolding_all rfl)) (pw_or1 (pt_not (pt_val (pe_def D_lwhole hr (pa_cons (pv 9) pa_nil)))))))) (pss_one (ps_ret pe_non)) pss_nil)
    (pss_cons (ps_set (i:=10) nd rfl (Or.inl rfl) (pe_idx (pv 4) (pv 8)))
    (pss_cons (ps_set (i:=11) nd rfl (Or.inl rfl) pe_int)
    (pss_cons (ps_set (i:=12) nd rfl (Or.inl rfl) (pv 0))
    (pss_cons (ps_if (pt_cmpR op_gt (pv 10) pe_int (nomark _)) (pss_one (ps_set (i:=11) nd rfl (Or.inl rfl) (pe_op op_add (pe_ix ix_list (pe_ix ix_list (pv 3) (pe_op op_sub (pv 10) pe_int) (fun _ _=>rfl)) pe_int (fun _ _=>rfl)) (pe_ix ix_list (pe_ix ix_list (pv 3) (pe_op op_sub (pv 10) pe_int) (fun _ _=>rfl)) pe_int (fun _ _=>rfl))))) pss_nil)
    (pss_cons (ps_if (pt_cmpR op_lt (pe_op op_add (pv 10) pe_int) (pe_callB call_lenN rfl T.n_len boot_len (pa_cons (pv 3) pa_nil)) (nomark _)) (pss_one (ps_set (i:=12) nd rfl (Or.inl rfl) (pe_ix ix_list (pe_ix ix_list (pv 3) (pe_op op_add (pv 10) pe_int) (fun _ _=>rfl)) pe_int (fun _ _=>rfl)))) pss_nil)
    (pss_cons (ps_if (PW.pt (pw_or (pt_cmpR op_gt (pe_ix ix_list (pe_ix ix_list (pv 3) (pv 10) (fun _ _=>rfl)) pe_int (fun _ _=>rfl)) pe_int (nomark _)) (pw_or (pt_cmpR op_lt (pv 9) (pv 11) (nomark _)) (pw_or1 (pt_cmpR op_gt (pe_op op_add (pv 9) (pe_ix ix_list (pe_ix ix_list (pv 3) (pv 10) (fun _ _=>rfl)) pe_int (fun _ _=>rfl))) (pv 12) (nomark _)))))) (pss_one (ps_ret pe_non)) pss_nil)
    (pss_cons (ps_if (pt_cmpR op_ne (pv 9) (pe_ix ix_list (pe_ix ix_list (pv 3) (pv 10) (fun _ _=>rfl)) pe_int (fun _ _=>rfl)) (nomark _)) (pss_one (ps_set (i:=6) nd rfl (Or.inl rfl) (pe_op op_add (pv 6) (pe_ix ix_list (pe_ix ix_list (pv 3) (pv 10) (fun _ _=>rfl)) pe_int (fun _ _=>rfl))))) pss_nil)
    (pss_cons (ps_asg (pv 9) (pg_sub (pe_ix ix_list (pv 3) (pv 10) (fun _ _=>rfl)) pe_int set_listA))
    (pss_one (ps_expr (pe_appendA (pv 5) (pv 8))))))))))))))))
   (pss_one (ps_ret (pe_tupA (pa_cons (pv 6) (pa_cons (pe_comp (N:=["_law_row"]) (nt:=1) (fr:=[]) (pi_list (pv 3)) (fun _ _ _ _=>(pg_name (i:=0) (show (["_law_row"]:List Str).Nodup from by decide +kernel) rfl (Or.inl rfl))) (fun _ _ _ _=>pif_nil) (fun _ _ _ _=>(pe_callTy (call_tuple_ofK (K:=K) rfl) rfl T.n_tuple boot_tuple (pa_cons (pv 0) pa_nil)))) pa_nil))))))))))),?_⟩
  clear nd D_lwhole
  rw [show start ["_law_many", "_law_rows_here", "_law_moves", "_law_lying", "_law_names_here", "_law_done", "_law_price", "_law_move", "_law_name", "_law_to", "_law_k", "_law_low", "_law_high"] [.int (n:Nat),.ref l,.ref m]=[some (.int (n:Nat)),some (.ref l),some (.ref m),none,none,none,none,none,none,none,none,none,none] from rfl]
  try dsimp only [cx_K,cx_K2]
  have iL_many:FldOk K CL "many" := ⟨T.clL,T.aL_many⟩
  have iL_rows:FldOk K CL "rows" := ⟨T.clL,T.aL_rows⟩
  have o_hl:=Old.mk (M:=[]) hl nm0
  have o_hm:=Old.mk (M:=[]) hm nm0
  have o_tl:=OldP.mk tl
  have o_tm:=OldP.mk tm
  have F:SH H [] H [] []:=SH.nil
  obtain ⟨few,fem,ok,ndm,ndr⟩:=side
  have zl:zs.length=rs.length:=by rw [tl.1,rowsV_len]
  have wl:ws.length=ms.length:=by rw [tm.1,mvsV_len]
  repeat k_meth
  refine comp_lists (fvs:=[]) F hatC (TpA.e (rs:=rowsV rs)) (by lia) rfl (fun q r H' R hr e2 kk=>?_) fun lyA qs H1 ql F1=>?_
  ·clear F
   have F:SH H' [] H' [] []:=SH.nil
   have o_e2:=Old.mk (M:=[]) e2 nm0
   repeat k_meth
   exact kk _ _ SH.nwC
  clear F
  have F:=F1
  clear F1
  rw [List.append_nil] at F
  repeat k_meth
  refine comp_rows (F:=fun r=>r.getD 0 .non) hatC (TpA.e (rs:=rowsV rs)) (by lia) rfl (fun q r H1 R hr s1 e1 kk=>?_) ?_
  ·clear F
   have F:SH H1 [] H1 [] []:=SH.nil
   obtain ⟨s,_,rfl⟩:=List.mem_map.mp hr
   have o_e1:=Old.mk (M:=[]) e1 nm0
   repeat k_meth
   exact kk _ (Same.refl _)
  rw [show (rowsV rs).map (fun r=>r.getD 0 V.non)=(rs.map (·.nm)).map fun cs=>V.str (tx cs) by unfold rowsV;rw [List.map_map,List.map_map];rfl]
  rw [rowsV_len] at ql
  repeat k_meth
  rename_i nmA
  rename Addr=>dnA
  refine forL_by (xs:=ws) (fun i σ' H'=>∃(o7 o8 o9 o10 o11 o12:Option V) (T:List Rw) (pr:Nat),σ'=[some (.int (n:Nat)),some (.ref l),some (.ref m),some (.ref lyA),some (.ref nmA),some (.ref dnA),some (.int (pr:Nat)),o7,o8,o9,o10,o11,o12]∧WOk n T (ms.drop i)∧wEnd T (ms.drop i)=wEnd rs ms∧pr + wPrice T (ms.drop i)=wPrice rs ms∧T.map (·.nm)=rs.map (·.nm)∧SH H [] H' ((dnA,.lst (((ms.take i).map (·.2.1)).map fun cs=>V.str (tx cs)))::(nmA,.lst ((rs.map (·.nm)).map fun cs=>V.str (tx cs)))::(lyA,.lst (qs.map V.ref))::hsR qs (rowsV T)) []) ⟨_,_,_,_,_,_,rs,0,rfl,ok,rfl,by simp,rfl,by rw [List.take_zero];exact F⟩ ?_ ?_ ?_
  ·clear F
   rintro i σ' H' _ ⟨_,_,_,_,_,_,T,pr,rfl,okT,wE,pE,nme,F⟩
   exact SqA.e
  ·clear F
   rintro i v σ' H' hv ⟨_,_,_,_,_,_,T,pr,rfl,okT,wE,pE,nme,F⟩
   obtain ⟨mm,q1,e1,rfl,e2⟩:=mv_at tm hv
   have o_e2:Old H [] q1 (.tup [.str (tx mm.2.1),.int (mm.2.2:Nat)]):=Old.mk (M:=[]) e2 nm0
   rw [drop_at e1] at okT wE pE
   obtain ⟨⟨r,hr,hnm,hpn,lo1,hi1⟩,okn⟩:=okT
   have wn:wEnd (mvT T mm.1 mm.2.2) (ms.drop (i + 1))=wEnd rs ms:=wE
   have pn:pr + (wPr T mm + wPrice (mvT T mm.1 mm.2.2) (ms.drop (i + 1)))=wPrice rs ms:=pE
   clear wE pE
   have hT:T.length=rs.length:=by have:=congrArg List.length nme;simpa using this
   replace ql:qs.length=T.length:=by lia
   have ix:IdxA (rs.map (·.nm)) mm.2.1 mm.1:=⟨by rw [← nme,List.getElem?_map,hr,← hnm];rfl,ndr⟩
   have in1:mm.2.1∈rs.map (·.nm):=List.mem_of_getElem? ix.a
   have in2:¬ mm.2.1∈(ms.take i).map (·.2.1):=fun z=>by
    have h1:(ms.map (·.2.1))[i]?=some mm.2.1:=by rw [List.getElem?_map,e1];rfl
    rw [List.map_take] at z
    obtain ⟨j,hj,e⟩:=List.getElem_of_mem z
    rw [List.length_take] at hj
    rw [List.getElem_take] at e
    obtain ⟨hi,e3⟩:=List.getElem?_eq_some_iff.mp h1
    exact List.pairwise_iff_getElem.mp ndm j i (by lia) hi (by lia) (e.trans e3.symm)
   have hi40:i < 40:=by
    have:=(List.getElem?_eq_some_iff.mp hv).1
    lia
   have hkT:=(List.getElem?_eq_some_iff.mp hr).1
   obtain ⟨q,hq,hx⟩:=ref_at ql hr
   have a1:AtI (qs.map V.ref) ((mm.1:Nat):Int) (.ref q):=⟨atI_nat hx⟩
   have o1:Hat H' q (.lst (rowV r)):=⟨F.at' _ (by simp only [List.mem_cons];exact .inr (.inr (.inr (hsR_at hq (rowsV_get hr)))))⟩
   have tkl:(((ms.take i).map (·.2.1)).map fun cs=>V.str (tx cs)).length < sizeLine:=by rw [List.length_map,List.length_map,List.length_take,sizeLine_eq];lia
   have qll:(qs.map V.ref).length=T.length:=by rw [List.length_map];exact ql
   rcases Nat.eq_zero_or_pos mm.1 with hk0 | hk0
   ·by_cases hh:mm.1 + 1 < T.length
    ·obtain ⟨r2,hr2⟩:∃r2,T[mm.1 + 1]?=some r2:=⟨T[mm.1 + 1],by simp [hh]⟩
     rw [highT_at hr2] at hi1
     obtain ⟨q2,hq2,hx2⟩:=ref_at ql hr2
     have a2:AtI (qs.map V.ref) (((mm.1:Nat):Int) + 1) (.ref q2):=⟨by rw [show ((mm.1:Nat):Int) + 1=((mm.1 + 1:Nat):Int) by lia];exact atI_nat hx2⟩
     have o2:Hat H' q2 (.lst (rowV r2)):=⟨F.at' _ (by simp only [List.mem_cons];exact .inr (.inr (.inr (hsR_at hq2 (rowsV_get hr2)))))⟩
     by_cases hto:mm.2.2=r.st
     ·repeat k_meth
      intro Hn off en
      have F2:=F.offL off en (.tail (.tail (.tail (hsR_up _ hq (rowsV_get hr)))))
      clear F
      have F:SH H [] Hn _ _:=F2
      clear F2
      rw [show (Int.toNat 1)=1 from rfl,← mvT_rows hr] at F
      repeat k_meth
      refine ⟨_,_,_,_,_,_,mvT T mm.1 mm.2.2,pr,rfl,okn,wn,by rw [wPr_eq hr hto] at pn;lia,by rw [mvT_nm];exact nme,?_⟩
      rw [take_snocR e1,List.map_append,List.map_append]
      exact F
     ·repeat k_meth
      intro Hn off en
      have F2:=F.offL off en (.tail (.tail (.tail (hsR_up _ hq (rowsV_get hr)))))
      clear F
      have F:SH H [] Hn _ _:=F2
      clear F2
      rw [show (Int.toNat 1)=1 from rfl,← mvT_rows hr] at F
      repeat k_meth
      refine ⟨_,_,_,_,_,_,mvT T mm.1 mm.2.2,pr + r.sz,by simp only [Int.natCast_add];rfl,okn,wn,by rw [wPr_ne hr hto] at pn;lia,by rw [mvT_nm];exact nme,?_⟩
      rw [take_snocR e1,List.map_append,List.map_append]
      exact F
    ·rw [highT_no hh] at hi1
     by_cases hto:mm.2.2=r.st
     ·repeat k_meth
      intro Hn off en
      have F2:=F.offL off en (.tail (.tail (.tail (hsR_up _ hq (rowsV_get hr)))))
      clear F
      have F:SH H [] Hn _ _:=F2
      clear F2
      rw [show (Int.toNat 1)=1 from rfl,← mvT_rows hr] at F
      repeat k_meth
      refine ⟨_,_,_,_,_,_,mvT T mm.1 mm.2.2,pr,rfl,okn,wn,by rw [wPr_eq hr hto] at pn;lia,by rw [mvT_nm];exact nme,?_⟩
      rw [take_snocR e1,List.map_append,List.map_append]
      exact F
     ·repeat k_meth
      intro Hn off en
      have F2:=F.offL off en (.tail (.tail (.tail (hsR_up _ hq (rowsV_get hr)))))
      clear F
      have F:SH H [] Hn _ _:=F2
      clear F2
      rw [show (Int.toNat 1)=1 from rfl,← mvT_rows hr] at F
      repeat k_meth
      refine ⟨_,_,_,_,_,_,mvT T mm.1 mm.2.2,pr + r.sz,by simp only [Int.natCast_add];rfl,okn,wn,by rw [wPr_ne hr hto] at pn;lia,by rw [mvT_nm];exact nme,?_⟩
      rw [take_snocR e1,List.map_append,List.map_append]
      exact F
   ·obtain ⟨r0,hr0⟩:∃r0,T[mm.1 - 1]?=some r0:=⟨T[mm.1 - 1],by simp⟩
    have lw:=lowT_at hr0
    rw [show mm.1 - 1 + 1=mm.1 by lia] at lw
    rw [lw] at lo1
    obtain ⟨q0,hq0,hx0⟩:=ref_at ql hr0
    have a0:AtI (qs.map V.ref) (((mm.1:Nat):Int) - 1) (.ref q0):=⟨by rw [show ((mm.1:Nat):Int) - 1=((mm.1 - 1:Nat):Int) by lia];exact atI_nat hx0⟩
    have o0:Hat H' q0 (.lst (rowV r0)):=⟨F.at' _ (by simp only [List.mem_cons];exact .inr (.inr (.inr (hsR_at hq0 (rowsV_get hr0)))))⟩
    by_cases hh:mm.1 + 1 < T.length
    ·obtain ⟨r2,hr2⟩:∃r2,T[mm.1 + 1]?=some r2:=⟨T[mm.1 + 1],by simp [hh]⟩
     rw [highT_at hr2] at hi1
     obtain ⟨q2,hq2,hx2⟩:=ref_at ql hr2
     have a2:AtI (qs.map V.ref) (((mm.1:Nat):Int) + 1) (.ref q2):=⟨by rw [show ((mm.1:Nat):Int) + 1=((mm.1 + 1:Nat):Int) by lia];exact atI_nat hx2⟩
     have o2:Hat H' q2 (.lst (rowV r2)):=⟨F.at' _ (by simp only [List.mem_cons];exact .inr (.inr (.inr (hsR_at hq2 (rowsV_get hr2)))))⟩
     by_cases hto:mm.2.2=r.st
     ·repeat k_meth
      intro Hn off en
      have F2:=F.offL off en (.tail (.tail (.tail (hsR_up _ hq (rowsV_get hr)))))
      clear F
      have F:SH H [] Hn _ _:=F2
      clear F2
      rw [show (Int.toNat 1)=1 from rfl,← mvT_rows hr] at F
      repeat k_meth
      refine ⟨_,_,_,_,_,_,mvT T mm.1 mm.2.2,pr,rfl,okn,wn,by rw [wPr_eq hr hto] at pn;lia,by rw [mvT_nm];exact nme,?_⟩
      rw [take_snocR e1,List.map_append,List.map_append]
      exact F
     ·repeat k_meth
      intro Hn off en
      have F2:=F.offL off en (.tail (.tail (.tail (hsR_up _ hq (rowsV_get hr)))))
      clear F
      have F:SH H [] Hn _ _:=F2
      clear F2
      rw [show (Int.toNat 1)=1 from rfl,← mvT_rows hr] at F
      repeat k_meth
      refine ⟨_,_,_,_,_,_,mvT T mm.1 mm.2.2,pr + r.sz,by simp only [Int.natCast_add];rfl,okn,wn,by rw [wPr_ne hr hto] at pn;lia,by rw [mvT_nm];exact nme,?_⟩
      rw [take_snocR e1,List.map_append,List.map_append]
      exact F
    ·rw [highT_no hh] at hi1
     by_cases hto:mm.2.2=r.st
     ·repeat k_meth
      intro Hn off en
      have F2:=F.offL off en (.tail (.tail (.tail (hsR_up _ hq (rowsV_get hr)))))
      clear F
      have F:SH H [] Hn _ _:=F2
      clear F2
      rw [show (Int.toNat 1)=1 from rfl,← mvT_rows hr] at F
      repeat k_meth
      refine ⟨_,_,_,_,_,_,mvT T mm.1 mm.2.2,pr,rfl,okn,wn,by rw [wPr_eq hr hto] at pn;lia,by rw [mvT_nm];exact nme,?_⟩
      rw [take_snocR e1,List.map_append,List.map_append]
      exact F
     ·repeat k_meth
      intro Hn off en
      have F2:=F.offL off en (.tail (.tail (.tail (hsR_up _ hq (rowsV_get hr)))))
      clear F
      have F:SH H [] Hn _ _:=F2
      clear F2
      rw [show (Int.toNat 1)=1 from rfl,← mvT_rows hr] at F
      repeat k_meth
      refine ⟨_,_,_,_,_,_,mvT T mm.1 mm.2.2,pr + r.sz,by simp only [Int.natCast_add];rfl,okn,wn,by rw [wPr_ne hr hto] at pn;lia,by rw [mvT_nm];exact nme,?_⟩
      rw [take_snocR e1,List.map_append,List.map_append]
      exact F
  ·clear F
   rintro σ' H' ⟨_,_,_,_,_,_,T,pr,rfl,okT,wE,pE,nme,F⟩
   rw [wl,List.drop_of_length_le (Nat.le_refl _)] at wE pE
   have wE:T=wEnd rs ms:=wE
   have pE:pr + 0=wPrice rs ms:=pE
   have hT:T.length=rs.length:=by have:=congrArg List.length nme;simpa using this
   repeat k_meth
   refine comp_Wx (fvs:=[]) hatC (by rw [List.length_map];lia) rfl (fun i ys H1=>TupsAt H1 ys (rowsV (T.take i))) (fun i ys H1 H2 s t=>tups_st s t) TupsAt.nil (fun i x ys H1 R hx s1 g kk=>?_) fun q ys H1 n1 g=>?_
   ·have hi:i < T.length:=by
     have:=(List.getElem?_eq_some_iff.mp hx).1
     rw [List.length_map] at this
     lia
    obtain ⟨q,hq,hx2⟩:=ref_at (T:=T) (k:=i) (ql.trans hT.symm) (List.getElem?_eq_getElem hi)
    rw [hx2] at hx
    cases hx
    have hh:H1 q=some (.lst (rowV T[i])):=s1 _ _ (F.at' _ (by simp only [List.mem_cons];exact .inr (.inr (.inr (hsR_at hq (rowsV_get (List.getElem?_eq_getElem hi)))))))
    clear F
    have F:SH H1 [] H1 [] []:=SH.nil
    have o_hh:=Old.mk (M:=[]) hh nm0
    repeat k_meth
    refine kk _ _ F.sm ?_
    rw [take_snocR (List.getElem?_eq_getElem hi),rowsV_snoc]
    exact TupsAt.snoc (g.same F.sm) hatC
   ·rw [List.length_map,ql,← hT,List.take_of_length_le (Nat.le_refl _),wE] at g
    replace F:=F.newR n1 g
    rw [show pr=wPrice rs ms from pE]
    repeat k_meth
    exact k _ _ _ SH.nwC TpA.e _ _ (Same.refl _) hatC
end
open M22 M82 M87
theorem down_plc (A:List Rw):(∀r∈A,r.pn=0)→∀(g:List Stp) (f:Int),(A.foldl stD (g,f)).1=g++mv (plc f A):=by
 induction A with
 | nil=>intro _ g f;exact (List.append_nil _).symm
 | cons r A ih =>
  intro un g f
  have hp:¬ 0 < r.pn:=by rw [un r (.head _)];lia
  rw [List.foldl_cons,plc]
  by_cases he:f=(r.st:Int)
  ·rw [stD_eq hp (show (g,f).2=(r.st:Int) from he)]
   show (A.foldl stD (g,f + (r.sz:Int))).1=_
   rw [ih (fun s hs=>un s (.tail _ hs))]
   unfold mv
   rw [List.filter_cons_of_neg (by simpa using he)]
  ·rw [stD_ne hp (show ¬ (g,f).2=(r.st:Int) from he)]
   show (A.foldl stD (g++[(r,f)],f + (r.sz:Int))).1=_
   rw [ih (fun s hs=>un s (.tail _ hs)),List.append_assoc]
   unfold mv
   rw [List.filter_cons_of_pos (by simpa using he)]
   rfl
theorem up_plc (b:Int) (A:List Rw):(∀r∈A,r.pn=0)→A.reverse.foldl stU (([]:List Stp),b)=((mv (plc (b - szs A) A)).reverse,b - szs A):=by
 induction A with
 | nil=>intro _;rw [szs_nil,Int.sub_zero];rfl
 | cons r A ih =>
  intro un
  have hp:¬ 0 < r.pn:=by rw [un r (.head _)];lia
  rw [List.reverse_cons,List.foldl_append,ih (fun s hs=>un s (.tail _ hs)),List.foldl_cons,List.foldl_nil,plc,szs_cons]
  have e1:b - szs A - (r.sz:Int)=b - ((r.sz:Int) + szs A):=by lia
  have e2:b - ((r.sz:Int) + szs A) + (r.sz:Int)=b - szs A:=by lia
  rw [e2]
  by_cases he:b - ((r.sz:Int) + szs A)=(r.st:Int)
  ·rw [stU_eq hp (show _ - (r.sz:Int)=(r.st:Int) from e1.trans he)]
   show (_,b - szs A - (r.sz:Int))=_
   rw [e1]
   unfold mv
   rw [List.filter_cons_of_neg (by simpa using he)]
  ·rw [stU_ne hp (show ¬ _ - (r.sz:Int)=(r.st:Int) from fun z=>he (e1.symm.trans z))]
   show (_++[(r,b - szs A - (r.sz:Int))],b - szs A - (r.sz:Int))=_
   rw [e1]
   unfold mv
   rw [List.filter_cons_of_pos (by simpa using he),List.reverse_cons]
theorem chc_eq {A:List Rw} (un:∀r∈A,r.pn=0) (f b:Int) (g:Nat):(downF f (A.take g)).1++(upF b (A.drop g).reverse).1=chc f b g A:=by
 unfold downF upF chc
 rw [down_plc _ (fun r hr=>un r (List.mem_of_mem_take hr)),up_plc _ _ (fun r hr=>un r (List.mem_of_mem_drop hr)),List.nil_append]
theorem mv_len (ss:List Sp2):(mv ss).length≤ss.length:=List.length_filter_le ..
theorem jn_len (f b:Int) (g:Nat) (A:List Rw):(jn f b g A).length=A.length:=by have:=congrArg List.length (jn_fst f b g A);rwa [List.length_map] at this
theorem chc_len (f b:Int) (g:Nat) (A:List Rw):(chc f b g A).length≤A.length:=by
 rw [(chc_perm f b g A).length_eq]
 have:=mv_len (jn f b g A)
 rw [jn_len] at this
 exact this
theorem chc_mem {f b:Int} {g:Nat} {A:List Rw} {s:Sp2} (h:s∈chc f b g A):s.1∈A:=by
 have:=(List.mem_filter.mp ((chc_perm f b g A).mem_iff.mp h)).1
 rw [← jn_fst f b g A]
 exact List.mem_map_of_mem this
theorem tp_take {H:Hp} {ys:List V} {A:List Rw} (h:TupsAt H ys (rowsV A)) (i:Nat):TupsAt H (ys.take i) (rowsV (A.take i)):=by
 have hl:ys.length=A.length:=by rw [h.1,rowsV_len]
 refine ⟨by rw [rowsV_len,List.length_take,List.length_take,hl],fun j r e=>?_⟩
 unfold rowsV at e
 rw [List.getElem?_map,List.getElem?_take] at e
 by_cases hj:j < i
 ·rw [if_pos hj] at e
  obtain ⟨q,a,b⟩:=h.2 j r (by unfold rowsV;rw [List.getElem?_map];exact e)
  exact ⟨q,by rw [List.getElem?_take,if_pos hj];exact a,b⟩
 ·rw [if_neg hj] at e;cases e
theorem tp_drop {H:Hp} {ys:List V} {A:List Rw} (h:TupsAt H ys (rowsV A)) (i:Nat):TupsAt H (ys.drop i) (rowsV (A.drop i)):=by
 have hl:ys.length=A.length:=by rw [h.1,rowsV_len]
 refine ⟨by rw [rowsV_len,List.length_drop,List.length_drop,hl],fun j r e=>?_⟩
 unfold rowsV at e
 rw [List.getElem?_map,List.getElem?_drop] at e
 obtain ⟨q,a,b⟩:=h.2 (i + j) r (by unfold rowsV;rw [List.getElem?_map];exact e)
 exact ⟨q,by rw [List.getElem?_drop];exact a,b⟩
def szI (ss:List Stp):Int:=(ss.map fun s=>(s.1.sz:Int)).sum
def sp_cmoved:Sp:=fun vs H Q _=>∃(l:Addr) (zs:List V) (ss:List Stp),vs=[.ref l]∧H l=some (.lst zs)∧TupsAt H zs (stepsV ss)∧(ss.length≤40∧∀s∈ss,s.1.sz≤240)∧∀H',Same H H'→Q (.int (szI ss)) H'
def sp_cheapest:Sp:=fun vs H Q _=>∃(l:Addr) (f b:Int) (zs:List V) (A:List Rw),vs=[.ref l,.int f,.int b]∧H l=some (.lst zs)∧TupsAt H zs (rowsV A)∧(A.length≤40∧(∀r∈A,r.sz≤240)∧∀r∈A,r.pn=0)∧∀q ys H',New H H' q (.lst ys)→TupsAt H' ys (stepsV (chc f b (gp0 f b A) A))→Q (.ref q) H'
section
variable {K:W.Frag} {l:Addr} {H:Hp} {Q:VK} {E:XK} {zs:List V} {ss:List Stp} {A:List Rw} {f b:Int} {sp:Sp} {t:TA} {σ:L2.St}
instance go_cmoved [h:Hat H l (.lst zs)] [t:TpA H zs (stepsV ss)]:Go (sp_cmoved [.ref l] H Q E) (Sd (ss.length≤40∧∀s∈ss,s.1.sz≤240) (∀H',Same H H'→Q (.int (szI ss)) H')):=⟨fun s=>⟨l,zs,ss,rfl,h.e,t.e,s.1,s.2⟩⟩
instance go_cheapest [h:Hat H l (.lst zs)] [t:TpA H zs (rowsV A)]:Go (sp_cheapest [.ref l,.int f,.int b] H Q E) (Sd (A.length≤40∧(∀r∈A,r.sz≤240)∧∀r∈A,r.pn=0) (∀q ys H',New H H' q (.lst ys)→TupsAt H' ys (stepsV (chc f b (gp0 f b A) A))→Q (.ref q) H')):=⟨fun s=>⟨l,f,b,zs,A,rfl,h.e,t.e,s.1,s.2⟩⟩
instance go_minK:Go (tMinK K sp t σ H Q) (t σ H fun xs H1=>rMinK K sp xs H1 Q):=⟨id⟩
end
section
variable {P:Program} {w:World} {K:W.Frag} {mg:Str→Option Value} {base:Heap} {c:Nat→Addr} {ct_Linit pt_Linit ct_order pt_order R CL:Addr}
theorem D_cmoved (T:Txt K mg c R CL ct_Linit pt_Linit ct_order pt_order):Def P w K mg base CX0 1 "cells_moved" ["steps"] sp_cmoved:=by
 refine def_of T.d_cmoved sc_cmoved (fun vs H Q E h=>?_) (fun _ _ _ _ _ _=>el1 fun _=>rfl) (fun f cdv A outer s H vs Q E hr h=>?_)
 ·obtain ⟨l,zs,ss,rfl,_⟩:=h
  rfl
 ·obtain ⟨l,zs,ss,rfl,hl,tp,few,k⟩:=h
  have nd:=sc_cmoved.nd
  refine ⟨_,(pss_one (ps_ret (pe_callB (call_sumL rfl) rfl T.n_sum boot_sum (pa_cons (pe_comp (N:=["step"]) (nt:=1) (fr:=[]) (pi_list (pv 0)) (fun _ _ _ _=>(pg_name (i:=0) (show (["step"]:List Str).Nodup from by decide +kernel) rfl (Or.inl rfl))) (fun _ _ _ _=>pif_nil) (fun _ _ _ _=>(pe_ix (ix_tupK (K:=K) rfl) (pv 0) pe_int (fun _ _=>rfl)))) pa_nil)))),?_⟩
  clear nd 
  rw [show start ["steps"] [.ref l]=[some (.ref l)] from rfl]
  try dsimp only [cx_K,cx_K2]
  have iL_many:FldOk K CL "many" := ⟨T.clL,T.aL_many⟩
  have iL_rows:FldOk K CL "rows" := ⟨T.clL,T.aL_rows⟩
  have o_hl:=Old.mk (M:=[]) hl nm0
  have o_tp:=OldP.mk tp
  have F:SH H [] H [] []:=SH.nil
  have zl:zs.length=ss.length:=by rw [tp.1,stepsV_len]
  have few1:=few.1
  repeat k_meth
  refine comp_rows (F:=fun r=>r.getD 2 .non) hatC (TpA.e (rs:=stepsV ss)) (by lia) rfl (fun q r H1 R hr s1 e1 kk=>?_) ?_
  ·clear F
   have F:SH H1 [] H1 [] []:=SH.nil
   obtain ⟨s,_,rfl⟩:=List.mem_map.mp hr
   have o_e1:=Old.mk (M:=[]) e1 nm0
   repeat k_meth
   exact kk _ (Same.refl _)
  ·have e5:(stepsV ss).map (fun r=>r.getD 2 V.non)=(ss.map fun s=>((s.1.sz:Nat):Int)).map V.int:=by
    unfold stepsV
    rw [List.map_map,List.map_map]
    rfl
   rw [e5]
   have side:(∀n∈ss.map fun s=>((s.1.sz:Nat):Int),0≤n∧n≤1000000)∧(ss.map fun s=>((s.1.sz:Nat):Int)).length≤1000000:=by
    refine ⟨fun n hn=>?_,by rw [List.length_map];lia⟩
    obtain ⟨r,hr,rfl⟩:=List.mem_map.mp hn
    have:=few.2 r hr
    lia
   repeat k_meth
   exact k _ F.sm
theorem D_cheapest (T:Txt K mg c R CL ct_Linit pt_Linit ct_order pt_order):Def P w K mg base CX0 3 "cheapest_joining" ["blocks", "first", "behind"] sp_cheapest:=by
 have D_cmoved:=D_cmoved (P:=P) (w:=w) (base:=base) T
 have D_sdown:=D_sdown (P:=P) (w:=w) (base:=base) T
 have D_sup:=D_sup (P:=P) (w:=w) (base:=base) T
 refine def_of T.d_cheapest sc_cheapest (fun vs H Q E h=>?_) (fun _ _ _ _ _ _=>el3 fun _ _ _=>rfl) (fun f cdv A outer s H vs Q E hr h=>?_)
 ·obtain ⟨l,f,b,zs,A,rfl,_⟩:=h
  rfl
 ·obtain ⟨l,f,b,zs,A,rfl,hl,tp,side,k⟩:=h
  have nd:=sc_cheapest.nd
  refine ⟨_,(pss_cons (ps_set (i:=3) nd rfl (Or.inl rfl) (pe_lstA pa_nil))
   (pss_cons (ps_for PassesOwn.never rfl (pi_range1 rfl T.n_range (pa_cons (pe_op op_add (pe_callB call_lenN rfl T.n_len boot_len (pa_cons (pv 0) pa_nil)) pe_int) pa_nil)) (pg_name (i:=4) nd rfl (Or.inl rfl)) (pss_one (ps_expr (pe_appendA (pv 3) (pe_op op_catA (pe_def D_sdown hr (pa_cons (pe_slice sl_listA (pv 0) po_none (po_some (pv 4))) (pa_cons (pv 1) pa_nil))) (pe_def D_sup hr (pa_cons (pe_slice sl_listA (pv 0) (po_some (pv 4)) po_none) (pa_cons (pv 2) pa_nil))))))))
   (pss_one (ps_ret (pe_minK D_cmoved hr rfl T.n_min (pa_cons (pv 3) pa_nil)))))),?_⟩
  clear nd D_cmoved D_sdown D_sup
  rw [show start ["blocks", "first", "behind", "choices", "gap"] [.ref l,.int f,.int b]=[some (.ref l),some (.int f),some (.int b),none,none] from rfl]
  try dsimp only [cx_K,cx_K2]
  have iL_many:FldOk K CL "many" := ⟨T.clL,T.aL_many⟩
  have iL_rows:FldOk K CL "rows" := ⟨T.clL,T.aL_rows⟩
  have o_hl:=Old.mk (M:=[]) hl nm0
  have o_tp:=OldP.mk tp
  have F:SH H [] H [] []:=SH.nil
  obtain ⟨few,fsz,un⟩:=side
  have zl:zs.length=A.length:=by rw [tp.1,rowsV_len]
  repeat k_meth
  rename Addr=>ch
  rw [show ((zs.length:Int) + 1).toNat=A.length + 1 by lia]
  refine forR0_by (fun i σ' H'=>∃(o4:Option V) (qs:List Addr) (YS:List (List V)),σ'=[some (.ref l),some (.int f),some (.int b),some (.ref ch),o4]∧qs.length=i∧YS.length=i∧SH H [] H' ((ch,.lst (qs.map V.ref))::hsR qs YS) [RowsI YS ((List.range i).map fun g=>stepsV (chc f b g A))]) ⟨_,[],[],rfl,rfl,rfl,F.addF ⟨rfl,fun j ys rs e=>by simp at e⟩⟩ ?_ ?_
  ·clear F
   rintro i σ' H' hi ⟨_,qs,YS,rfl,ql,yl,F⟩
   have c1:CutA zs none (some (i:Int)) (zs.take i):=⟨cut_take2⟩
   have c2:CutA zs (some (i:Int)) none (zs.drop i):=⟨cut_drop⟩
   have o_t1:=OldP.mk (tp_take tp i)
   have o_t2:=OldP.mk (tp_drop tp i)
   have l1:(A.take i).length≤40:=by rw [List.length_take];lia
   have l2:(A.drop i).length≤40:=by rw [List.length_drop];lia
   have d1:=downF_len f (A.take i)
   have d2:=upF_len b (A.drop i).reverse
   rw [List.length_reverse] at d2
   have qll:(qs.map V.ref).length < sizeLine:=by rw [List.length_map,sizeLine_eq];lia
   repeat k_meth
   rename_i y1 _ _ _ _ _ _
   rename List V=>y2
   have t1:TupsAt H_ (y1++y2) (stepsV (chc f b i A)):=by
    have:=(F.tps (ys:=y1) (rs:=stepsV (downF f (A.take i)).1) (by simp)).app (F.tps (ys:=y2) (rs:=stepsV (upF b (A.drop i).reverse).1) (by simp))
    rw [← chc_eq un]
    unfold stepsV at this ⊢
    rw [List.map_append]
    exact this
   have ri:=F.im (RowsI YS ((List.range i).map fun g=>stepsV (chc f b g A))) (by simp)
   have F3:SH H [] H_ ((p_,.lst (y1++y2))::(ch,.lst (qs.map V.ref++[V.ref p_]))::hsR qs YS) []:=F.sub SbC.s SbI.s
   have F4:SH H [] H_ ((ch,.lst ((qs++[p_]).map V.ref))::hsR (qs++[p_]) (YS++[y1++y2])) []:=by
    refine SH.perm F3 ?_
    rw [hsR_snoc (by lia),List.map_append]
    exact (List.Perm.cons _ (List.perm_append_singleton _ _)).trans (List.Perm.swap ..)
   refine ⟨_,qs++[p_],YS++[y1++y2],rfl,by simp [ql],by simp [yl],F4.addF ⟨by simp [yl],fun j ys rs e1 e2=>?_⟩⟩
   rw [List.range_succ,List.map_append] at e2
   by_cases hj:j < i
   ·rw [List.getElem?_append_left (by lia)] at e1
    rw [List.getElem?_append_left (by simpa using hj)] at e2
    exact ri.2 j ys rs e1 e2
   ·have hj2:=(List.getElem?_eq_some_iff.mp e1).1
    rw [List.length_append,List.length_singleton] at hj2
    have:j=i:=by lia
    subst this
    rw [List.getElem?_append_right (by lia),yl,Nat.sub_self] at e1
    rw [List.getElem?_append_right (by simp)] at e2
    simp at e1 e2
    rw [← e1,← e2]
    exact t1
  ·clear F
   rintro σ' H' ⟨_,qs,YS,rfl,ql,yl,F⟩
   repeat k_meth
   have ri:=F.im (RowsI YS ((List.range (A.length + 1)).map fun g=>stepsV (chc f b g A))) (by simp)
   have one:∀i,i < A.length + 1→∃q ys,qs[i]?=some q∧YS[i]?=some ys∧(q,HO.lst ys)∈((ch,HO.lst (qs.map V.ref))::hsR qs YS)∧TupsAt H' ys (stepsV (chc f b i A)):=fun i hi=>by
    have h1:qs[i]?=some (qs[i]'(by lia)):=by simp
    have h2:YS[i]?=some (YS[i]'(by lia)):=by simp
    exact ⟨_,_,h1,h2,List.mem_cons_of_mem _ (hsR_at h1 h2),ri.2 i _ _ h2 (by rw [List.getElem?_map,List.getElem?_range hi];rfl)⟩
   have side:∀g,(chc f b g A).length≤40∧∀s∈chc f b g A,s.1.sz≤240:=fun g=>⟨by have:=chc_len f b g A;lia,fun s hs=>fsz _ (chc_mem hs)⟩
   refine ⟨ch,qs.map V.ref,fun i=>pri (jn f b i A),fun H2=>Same H' H2,rfl,by rw [List.length_map];lia,Same.refl _,fun H2 s=>s.seq (SqL.of hatC),fun i v H2 hv s=>?_,fun i v H2 hv best s=>?_⟩
   ·have hi:=(List.getElem?_eq_some_iff.mp hv).1
    rw [List.length_map] at hi
    obtain ⟨q,ys,h1,h2,hm,tq⟩:=one i (by lia)
    rw [List.getElem?_map,h1] at hv
    cases hv
    exact ⟨q,ys,chc f b i A,rfl,s _ _ (F.at' _ hm),tq.same s,side i,fun H3 s3=>⟨by unfold szI;rw [chc_sum],s.trans s3⟩⟩
   ·have hi:=(List.getElem?_eq_some_iff.mp hv).1
    rw [List.length_map] at hi
    obtain ⟨q,ys,h1,h2,hm,tq⟩:=one i (by lia)
    rw [List.getElem?_map,h1] at hv
    cases hv
    have e:i=gp0 f b A:=IsFm.one ⟨by lia,fun j hj=>best j (by rw [List.length_map];lia)⟩ (fm_is _ _)
    have F2:=F.same s
    have tq2:=tq.same s
    rw [e] at tq2
    exact k q ys H2 (F2.nw hm) tq2
end
open M22 M82 M87
theorem rise_g {α:Type} {key:α→Nat}:∀{as bs:List α},as.Perm bs→as.Pairwise (fun r s=>key r≤key s)→bs.Pairwise (fun r s=>key r < key s)→as=bs:=by
 intro as
 induction as with
 | nil=>intro bs p _ _;exact (List.nil_perm.mp p).symm
 | cons a t ih =>
  intro bs p ha hb
  cases bs with
  | nil=>exact absurd p.length_eq (by simp)
  | cons b u =>
   obtain rfl:a=b:=by
    rcases List.mem_cons.mp (p.mem_iff.mp (List.mem_cons_self (a:=a) (l:=t))) with h | h
    ·exact h
    ·have h1:=(List.pairwise_cons.mp hb).1 a h
     rcases List.mem_cons.mp (p.mem_iff.mpr (List.mem_cons_self (a:=b) (l:=u))) with h2 | h2
     ·exact h2.symm
     ·have:=(List.pairwise_cons.mp ha).1 b h2
      lia
   rw [ih (List.perm_cons a |>.mp p) (List.pairwise_cons.mp ha).2 (List.pairwise_cons.mp hb).2]
theorem sort_steps {H:Hp} {rs as:List Stp} {ys zs:List V} (t:TupsAt H ys (stepsV rs)) (p:rs.Perm as) (ha:as.Pairwise fun r s=>r.1.st < s.1.st) (s:SortedBy (rs.map fun r=>((r.1.st:Nat):Int)) ys zs):TupsAt H zs (stepsV as):=by
 obtain ⟨ps,pp,rfl,pw⟩:=s
 have hl:ys.length=rs.length:=by rw [t.1,stepsV_len]
 have ez:(rs.map fun r=>((r.1.st:Nat):Int)).zip ys=(rs.zip ys).map fun p=>(((p.1.1.st:Nat):Int),p.2):=by
  rw [List.zip_map_left]
  rfl
 rw [ez] at pp
 obtain ⟨qs,pq,rfl⟩:=perm_of_map pp
 have pf:(qs.map Prod.fst).Perm rs:=by
  have:=pq.map Prod.fst
  rw [List.map_fst_zip (by lia)] at this
  exact this
 have hq:qs.map Prod.fst=as:=by
  refine rise_g (key:=fun r:Stp=>r.1.st) (pf.trans p) ?_ ha
  rw [List.pairwise_map] at pw ⊢
  exact pw.imp fun h=>by lia
 have each:∀x∈qs,∃q,x.2=.ref q∧H q=some (.tup (stepV x.1)):=fun x hx=>by
  obtain ⟨i,hi,e⟩:=List.getElem_of_mem (pq.mem_iff.mp hx)
  rw [List.length_zip] at hi
  rw [List.getElem_zip] at e
  obtain ⟨q,e3,e4⟩:=t.2 i (stepV rs[i]) (by unfold stepsV;rw [List.getElem?_map,List.getElem?_eq_getElem (by lia)];rfl)
  rw [List.getElem?_eq_getElem (by lia)] at e3
  exact ⟨q,by rw [← e];exact Option.some.inj e3,by rw [← e];exact e4⟩
 refine ⟨by rw [stepsV_len,← hq,List.length_map,List.length_map,List.length_map],fun j r e=>?_⟩
 unfold stepsV at e
 rw [← hq,List.map_map,List.getElem?_map] at e
 cases e5:qs[j]? with
 | none=>rw [e5] at e;cases e
 | some x =>
  rw [e5] at e
  cases e
  obtain ⟨q,e6,e7⟩:=each x (List.mem_of_getElem? e5)
  exact ⟨q,by rw [List.map_map,List.getElem?_map,e5];show some x.2=_;rw [e6],e7⟩
def ltS (r:List V):Bool:=match r with
 | [_,.int s,_,.int t]=>decide (t < s)
 | _=>false
def gtS (r:List V):Bool:=match r with
 | [_,.int s,_,.int t]=>decide (s < t)
 | _=>false
theorem filt_lt (M:List Stp):(stepsV M).filter ltS=stepsV (ml M):=by
 unfold stepsV ml
 rw [List.filter_map]
 rfl
theorem filt_gt (M:List Stp):(stepsV M).filter gtS=stepsV (mr M):=by
 unfold stepsV mr
 rw [List.filter_map]
 rfl
theorem ml_mv (L:List Sp2):ml (mv L)=ml L:=by
 unfold ml mv
 rw [List.filter_filter]
 refine List.filter_congr fun s _=>?_
 by_cases q:s.2 < (s.1.st:Int)
 ·simp [q];lia
 ·simp [q]
theorem mr_mv (L:List Sp2):mr (mv L)=mr L:=by
 unfold mr mv
 rw [List.filter_filter]
 refine List.filter_congr fun s _=>?_
 by_cases q:(s.1.st:Int) < s.2
 ·simp [q];lia
 ·simp [q]
instance go_lrev {K:W.Frag} {ta:TA} {σ:L2.St} {H:Hp} {Q:VK}:Go (tLRev K ta σ H Q) (ta σ H fun vs H1=>∃a xs,vs=[.ref a]∧SqL K H1 a xs∧∀l H',New H1 H' l (.lst xs.reverse)→Q (.ref l) H'):=⟨id⟩
instance go_lrv2 {K:W.Frag} {H:Hp} {Z:Addr→Hp→Prop} {a:Addr} {xs:List V} [h:SqA K H a xs]:Go (∃a' xs',[V.ref a]=[.ref a']∧SqL K H a' xs'∧∀l H',New H H' l (.lst xs'.reverse)→Z l H') (∀l H',New H H' l (.lst xs.reverse)→Z l H'):=⟨fun k=>⟨a,xs,rfl,h.e,k⟩⟩
structure OrdOk (ss:List Stp) (Jl:List Sp2):Prop where
 few:ss.length≤40
 pm:ss.Perm (mv Jl)
 up:(Jl.map (·.1)).Pairwise fun r s=>r.st < s.st
theorem OrdOk.mv_up {ss:List Stp} {Jl:List Sp2} (h:OrdOk ss Jl):(mv Jl).Pairwise fun r s=>r.1.st < s.1.st:=(List.pairwise_map.mp h.up).sublist List.filter_sublist
def sp_order (P:Addr) (pos:Pos) (qual:Str):Sp:=fun vs H Q _=>∃(l:Addr) (zs:List V) (ss:List Stp) (Jl:List Sp2) (ps:Array Value),vs=[.ref l]∧SH H [P] H [(P,.tbl ps)] [TabI pos qual ps]∧l≠P∧H l=some (.lst zs)∧TupsAt H zs (stepsV ss)∧OrdOk ss Jl∧∀q ys ps' H',SH H [P] H' [(q,.lst ys),(P,.tbl ps')] [.tps ys (stepsV (ordJ Jl)),TabI pos qual ps']→Q (.ref q) H'
instance go_sortKS {K:W.Frag} {H:Hp} {Q:VK} {l f:Addr} {ys:List V} {ss:List Stp} {H0:Hp} {M:List Addr} {L:List (Addr×HO)} {I:List Im} [F:SH H0 M H L I] [h:SqA K H l ys] [t:TpA H ys (stepsV ss)] [m:LamA I f]:Go (rSortK K [.ref l] (.ref f) H Q) (Sd (ss.length < 64) (∀D zs H',New H H' D (.lst zs)→SortedBy (ss.map fun r=>((r.1.st:Nat):Int)) ys zs→Q (.ref D) H')):=⟨fun s=>by
 have hl:ys.length=ss.length:=by rw [t.e.1,stepsV_len]
 refine ⟨l,f,ys,ss.map fun r=>((r.1.st:Nat):Int),rfl,rfl,F.im _ m.m,h.e,by rw [List.length_map,hl],by rw [hl];exact s.1,fun i v k hv hk=>?_,s.2⟩
 obtain ⟨r,q,e1,e2,e3⟩:=tups_at t.e hv
 obtain ⟨x,e4,rfl⟩:=map_at e1
 rw [List.getElem?_map,e4] at hk
 cases hk
 exact ⟨q,_,e2,e3,rfl⟩⟩
abbrev lamPos2:Pos:=⟨174,31,174,51⟩
abbrev lamQual2:Str := "in_moving_order.<locals>.<lambda>"
section
variable {P:Program} {w:World} {K:W.Frag} {mg:Str→Option Value} {base:Heap} {c:Nat→Addr} {ct_Linit pt_Linit ct_order pt_order R CL:Addr}
theorem D_order (T:Txt K mg c R CL ct_Linit pt_Linit ct_order pt_order) (B:Bm mg base):Def P w K mg base CX0 1 "in_moving_order" ["steps"] (sp_order pt_order lamPos2 lamQual2):=by
 refine def_ofC T.d_order sc_order (fun vs H Q E h=>?_) (fun _ _ _ _ _ _=>el1 fun _=>rfl) (fun f A outer s H vs Q E hr h=>?_)
 ·obtain ⟨l,zs,ss,Jl,ps,rfl,_⟩:=h
  rfl
 ·obtain ⟨l,zs,ss,Jl,ps,rfl,F,hne,hl,tp,side,k⟩:=h
  have nd:=sc_order.nd
  refine ⟨_,(pss_cons (ps_set (i:=1) nd rfl (Or.inl rfl) (pe_ckw (call_sortK rfl hr) rfl T.n_sorted boot_sorted (pa_cons (pv 0) pa_nil) (pe_lam (qual:=lamQual2) B rfl T.tab_order (by with_unfolding_all rfl) ⟨rfl,rfl,rfl,by with_unfolding_all rfl,by decide +kernel,by decide⟩)))
   (pss_cons (ps_setc (i:=2) nd rfl (Or.inl rfl) (N:=["step"]) (nt:=1) (fr:=[]) (pi_list (pv 1)) (fun _ _ _ _=>(pg_name (i:=0) (show (["step"]:List Str).Nodup from by decide +kernel) rfl (Or.inl rfl))) (fun _ _ _ _=>pif_one (pt_cmpR op_lt (pe_ix (ix_tupK (K:=K) rfl) (pv 0) pe_int (fun _ _=>rfl)) (pe_ix (ix_tupK (K:=K) rfl) (pv 0) pe_int (fun _ _=>rfl)) (nomark _))) (fun _ _ _ _=>(pv 0)))
   (pss_cons (ps_setc (i:=3) nd rfl (Or.inl rfl) (N:=["step"]) (nt:=1) (fr:=[]) (pi_list (pv 1)) (fun _ _ _ _=>(pg_name (i:=0) (show (["step"]:List Str).Nodup from by decide +kernel) rfl (Or.inl rfl))) (fun _ _ _ _=>pif_one (pt_cmpR op_gt (pe_ix (ix_tupK (K:=K) rfl) (pv 0) pe_int (fun _ _=>rfl)) (pe_ix (ix_tupK (K:=K) rfl) (pv 0) pe_int (fun _ _=>rfl)) (nomark _))) (fun _ _ _ _=>(pv 0)))
   (pss_one (ps_ret (pe_op op_catA (pv 2) (pe_listRev rfl rfl T.n_list rfl T.n_reversed (pa_cons (pv 3) pa_nil)))))))),?_⟩
  clear nd 
  rw [show start ["steps", "rising", "lesser", "greater"] [.ref l]=[some (.ref l),none,none,none] from rfl]
  try dsimp only [cx_K,cx_K2]
  have iL_many:FldOk K CL "many" := ⟨T.clL,T.aL_many⟩
  have iL_rows:FldOk K CL "rows" := ⟨T.clL,T.aL_rows⟩
  have o_hl:=Old.mk (M:=[pt_order]) hl (nm1 hne)
  replace F:=F.addP tp
  have few:=side.few
  have ml2:(mv Jl).length=ss.length:=side.pm.length_eq.symm
  repeat k_meth
  intro f_ ps_
  repeat k_meth
  intro D zs2 H8 n8 so
  have t8:=sort_steps (H:=H_) TpA.e side.pm side.mv_up so
  have zl2:zs2.length=ss.length:=by rw [t8.1,stepsV_len,ml2]
  replace F:=F.newR n8 (t8.same n8.s)
  repeat k_meth
  refine comp_G (P:=ltS) (fvs:=[]) hatC (TpA.e (rs:=stepsV (mv Jl))) (by lia) rfl (fun i ys H'=>TupsAt H' ys (((stepsV (mv Jl)).take i).filter ltS)) (fun i ys H1 H2 s t=>tups_st s t) TupsAt.nil (fun i q1 r H' R e1 s1 e2 kk=>?_) (fun i q1 r ys H' R e1 hp s1 e2 g kk=>?_) (fun i r ys H' e1 hp g=>by rw [take_rows e1,List.filter_append,List.filter_cons_of_neg (by simp [hp]),List.filter_nil,List.append_nil];exact g) fun qltS yltS HltS n1 g=>?_
  ·clear F
   have F:SH H' [] H' [] []:=SH.nil
   obtain ⟨s,_,rfl⟩:=List.mem_map.mp (List.mem_of_getElem? e1)
   have o_e2:=Old.mk (M:=[]) e2 nm0
   have kk:∀H2,Same H' H2→R (decide (s.2 < (s.1.st:Int))) H2:=kk
   repeat k_meth
   exact kk _ (Same.refl _)
  ·repeat k_meth
   refine kk _ _ (Same.refl _) ?_
   rw [take_rows e1,List.filter_append,List.filter_cons_of_pos hp,List.filter_nil]
   exact TupsAt.snoc g e2
  rw [List.take_of_length_le (by rw [stepsV_len];lia),filt_lt,ml_mv] at g
  replace F:=F.newR n1 g
  have lltS:yltS.length≤40:=by
   rw [g.1,stepsV_len]
   have:=List.length_filter_le (fun s:Sp2=>decide (s.2 < (s.1.st:Int))) Jl
   have a2:=ml_mv Jl
   have a3:=congrArg List.length a2
   have a4:=List.length_filter_le (fun s:Sp2=>decide (s.2 < (s.1.st:Int))) (mv Jl)
   unfold ml at a3 ⊢
   lia
  repeat k_meth
  refine comp_G (P:=gtS) (fvs:=[]) hatC (TpA.e (rs:=stepsV (mv Jl))) (by lia) rfl (fun i ys H'=>TupsAt H' ys (((stepsV (mv Jl)).take i).filter gtS)) (fun i ys H1 H2 s t=>tups_st s t) TupsAt.nil (fun i q1 r H' R e1 s1 e2 kk=>?_) (fun i q1 r ys H' R e1 hp s1 e2 g kk=>?_) (fun i r ys H' e1 hp g=>by rw [take_rows e1,List.filter_append,List.filter_cons_of_neg (by simp [hp]),List.filter_nil,List.append_nil];exact g) fun qgtS ygtS HgtS n1 g=>?_
  ·clear F
   have F:SH H' [] H' [] []:=SH.nil
   obtain ⟨s,_,rfl⟩:=List.mem_map.mp (List.mem_of_getElem? e1)
   have o_e2:=Old.mk (M:=[]) e2 nm0
   have kk:∀H2,Same H' H2→R (decide ((s.1.st:Int) < s.2)) H2:=kk
   repeat k_meth
   exact kk _ (Same.refl _)
  ·repeat k_meth
   refine kk _ _ (Same.refl _) ?_
   rw [take_rows e1,List.filter_append,List.filter_cons_of_pos hp,List.filter_nil]
   exact TupsAt.snoc g e2
  rw [List.take_of_length_le (by rw [stepsV_len];lia),filt_gt,mr_mv] at g
  replace F:=F.newR n1 g
  have lgtS:ygtS.length≤40:=by
   rw [g.1,stepsV_len]
   have:=List.length_filter_le (fun s:Sp2=>decide ((s.1.st:Int) < s.2)) Jl
   have a2:=mr_mv Jl
   have a3:=congrArg List.length a2
   have a4:=List.length_filter_le (fun s:Sp2=>decide ((s.1.st:Int) < s.2)) (mv Jl)
   unfold mr at a3 ⊢
   lia
  have rl:ygtS.reverse.length≤40:=by rw [List.length_reverse];exact lgtS
  have rl2:yltS.length + ygtS.reverse.length≤sizeLine:=by rw [sizeLine_eq];lia
  repeat k_meth
  have t9:TupsAt H_ (yltS++ygtS.reverse) (stepsV (ordJ Jl)):=by
   have:=(F.tps (ys:=yltS) (rs:=stepsV (ml Jl)) (by simp)).app (F.tps (ys:=ygtS) (rs:=stepsV (mr Jl)) (by simp)).rev
   unfold ordJ stepsV at *
   rw [List.map_append,List.map_reverse]
   exact this
  exact k _ (yltS++ygtS.reverse) ps_ _ ((F.addP t9).sub SbC.s SbI.s)
end
open M22 M82 M87
instance nx_smT {H0 H:Hp} {M:List Addr} {L:List (Addr×HO)} {I:List Im} {r:List V} {Z:Addr→Hp→Prop} [F:SH H0 M H L I]:Go (∀q H',Same H H'→H' q=some (.tup r)→Z q H') (∀H' q,SH H0 M H' L (.tup q r::I)→Z q H'):=⟨fun k q H' s e=>k H' q ((F.same s).addT e)⟩
def chW (w:S3):List Stp:=chc w.1 w.2.1 (gp0 w.1 w.2.1 w.2.2) w.2.2
def allS (n:Nat) (rs:List Rw) (i:Nat):List Stp:=((strB n 0 [] rs).take i).flatMap chW
def Jof (n:Nat) (rs:List Rw):List Sp2:=allJ n 0 [] rs
theorem fm_perm {α β:Type} {f g:α→List β} (h:∀x,(f x).Perm (g x)):∀l:List α,(l.flatMap f).Perm (l.flatMap g)
 | []=>List.Perm.refl _
 | x::l=>by rw [List.flatMap_cons,List.flatMap_cons];exact (h x).append (fm_perm h l)
theorem Jof_fst (n:Nat) (rs:List Rw):(Jof n rs).map (·.1)=rs:=allJ_fst n rs 0 []
theorem Jof_len (n:Nat) (rs:List Rw):(Jof n rs).length=rs.length:=by have:=congrArg List.length (Jof_fst n rs);rwa [List.length_map] at this
theorem all_perm (n:Nat) (rs:List Rw):((strB n 0 [] rs).flatMap chW).Perm (mv (Jof n rs)):=by
 unfold Jof
 rw [allJ_B]
 exact fm_perm (fun w=>chc_perm ..) _
theorem allS_len (n:Nat) (rs:List Rw) (i:Nat):(allS n rs i).length≤rs.length:=by
 have h1:(allS n rs i).length≤((strB n 0 [] rs).flatMap chW).length:=by
  unfold allS
  have:=congrArg (fun l:List S3=>(l.flatMap chW).length) (List.take_append_drop i (strB n 0 [] rs))
  simp only [List.flatMap_append,List.length_append] at this
  lia
 rw [(all_perm n rs).length_eq] at h1
 have:=mv_len (Jof n rs)
 rw [Jof_len] at this
 lia
theorem allS_all (n:Nat) (rs:List Rw) {i:Nat} (h:(strB n 0 [] rs).length≤i):allS n rs i=(strB n 0 [] rs).flatMap chW:=by unfold allS;rw [List.take_of_length_le h]
theorem allS_snoc {n:Nat} {rs:List Rw} {i:Nat} {w:S3} (h:(strB n 0 [] rs)[i]?=some w):allS n rs (i + 1)=allS n rs i++chW w:=by
 unfold allS
 rw [take_snocR h,List.flatMap_append,List.flatMap_singleton]
theorem asc_lt {n:Nat} {rs:List Rw} (ok:OkA 0 n rs):rs.Pairwise fun r s=>r.st < s.st:=ok.asc.imp_of_mem fun {a b} ha hb h=>by have:=ok.bd a ha;lia
theorem ord_ok {n:Nat} {rs:List Rw} (ok:OkA 0 n rs) (few:rs.length≤40):OrdOk ((strB n 0 [] rs).flatMap chW) (Jof n rs):=⟨by
 rw [(all_perm n rs).length_eq]
 have:=mv_len (Jof n rs)
 rw [Jof_len] at this
 lia,all_perm n rs,by rw [Jof_fst];exact asc_lt ok⟩
theorem szI_all (n:Nat) (rs:List Rw):szI ((strB n 0 [] rs).flatMap chW)=pri (Jof n rs):=by
 unfold szI pri
 exact psum (all_perm n rs)
theorem ordJ_len (L:List Sp2):(ordJ L).length≤L.length:=by
 unfold ordJ ml mr
 rw [List.length_append,List.length_reverse]
 induction L with
 | nil=>exact Nat.le_refl _
 | cons s L ih =>
  by_cases q:s.2 < (s.1.st:Int)
  ·rw [List.filter_cons_of_pos (by simpa using q),List.filter_cons_of_neg (by simp;lia)]
   simp only [List.length_cons];lia
  ·by_cases q2:(s.1.st:Int) < s.2
   ·rw [List.filter_cons_of_neg (by simpa using q),List.filter_cons_of_pos (by simpa using q2)]
    simp only [List.length_cons];lia
   ·rw [List.filter_cons_of_neg (by simpa using q),List.filter_cons_of_neg (by simpa using q2)]
    simp only [List.length_cons];lia
theorem chW_mem {n:Nat} {rs:List Rw} (ok:OkA 0 n rs) {i:Nat} {s:Stp} (h:s∈allS n rs i):s.1∈rs:=by
 unfold allS at h
 obtain ⟨w,hw,hs⟩:=List.mem_flatMap.mp h
 have:=strB_ok ok w (List.mem_of_mem_take hw)
 have m:=chc_mem hs
 rw [← this.flt] at m
 exact (List.mem_filter.mp m).1
theorem str_at {n:Nat} {rs:List Rw} (ok:OkA 0 n rs) {i:Nat} {w:W3} (h:(strF n rs)[i]?=some w):∃x:S3,(strB n 0 [] rs)[i]?=some x∧w.1=x.1∧w.2.1=x.2.1∧w.2.2=x.2.1 - x.1 - szs x.2.2∧rs.filter (within x.1 x.2.1)=x.2.2∧StrOk rs n x:=by
 have e:=strB_G n rs 0 []
 rw [szs_nil,← strF_G ok] at e
 rw [← e,List.getElem?_map] at h
 cases e2:(strB n 0 [] rs)[i]? with
 | none=>rw [e2] at h;cases h
 | some x =>
  rw [e2] at h
  cases h
  have so:=strB_ok ok x (List.mem_of_getElem? e2)
  exact ⟨x,rfl,rfl,rfl,rfl,so.flt,so⟩
theorem strF_B {n:Nat} {rs:List Rw} (ok:OkA 0 n rs):(strF n rs).length=(strB n 0 [] rs).length:=by
 have e:=congrArg List.length (strB_G n rs 0 [])
 rw [szs_nil,← strF_G ok,List.length_map] at e
 exact e.symm
def sp_tidied (CL P:Addr) (pos:Pos) (qual:Str):Sp:=fun vs H Q _=>∃(x p dx:Addr) (n:Nat) (zs:List V) (rs:List Rw) (ps:Array Value),vs=[.ref x]∧SH H [P] H [(P,.tbl ps)] [TabI pos qual ps]∧x≠P∧p≠P∧H x=some (.ins CL dx (lF (n:Nat) p))∧H p=some (.lst zs)∧TupsAt H zs (rowsV rs)∧(Lay n rs∧Asc rs∧n≤240) ∧
 ∀t m ys ps' H',SH H [P] H' [(m,.lst ys),(P,.tbl ps')] [.tup t [.int (pri (Jof n rs)),.ref m],.tps ys (movesV (ordJ (Jof n rs))),TabI pos qual ps']→Q (.ref t) H'
section
variable {P:Program} {w:World} {K:W.Frag} {mg:Str→Option Value} {base:Heap} {c:Nat→Addr} {ct_Linit pt_Linit ct_order pt_order R CL:Addr}
theorem D_tidied (T:Txt K mg c R CL ct_Linit pt_Linit ct_order pt_order) (B:Bm mg base):Def P w K mg base CX0 5 "tidied" ["layout"] (sp_tidied CL pt_order lamPos2 lamQual2):=by
 have D_stretches:=D_stretches (P:=P) (w:=w) (base:=base) T
 have D_cmoved:=D_cmoved (P:=P) (w:=w) (base:=base) T
 have D_moves:=D_moves (P:=P) (w:=w) (base:=base) T
 have D_cheapest:=D_cheapest (P:=P) (w:=w) (base:=base) T
 have D_order:=D_order (P:=P) (w:=w) (base:=base) T B
 have D_between:=D_between (P:=P) (w:=w) (base:=base) T
 refine def_of T.d_tidied sc_tidied (fun vs H Q E h=>?_) (fun _ _ _ _ _ _=>el1 fun _=>rfl) (fun f cdv A outer s H vs Q E hr h=>?_)
 ·obtain ⟨x,p,dx,n,zs,rs,ps,rfl,_⟩:=h
  rfl
 ·obtain ⟨x,p,dx,n,zs,rs,ps,rfl,F,hnx,hnp,hx,hp,tp,side,k⟩:=h
  have nd:=sc_tidied.nd
  refine ⟨_,(pss_cons (ps_set (i:=1) nd rfl (Or.inl rfl) (pe_lstA pa_nil))
   (pss_cons (ps_for PassesOwn.never rfl (pi_list (pe_def D_stretches hr (pa_cons (pv 0) pa_nil))) (pg_tup rfl (pgs_cons (pg_name (i:=2) nd rfl (Or.inl rfl)) (pgs_cons (pg_name (i:=3) nd rfl (Or.inl rfl)) (pgs_cons (pg_name (i:=4) nd rfl (Or.inl rfl)) pgs_nil)))) (pss_one (ps_expr (pe_extA (pv 1) (pe_def D_cheapest hr (pa_cons (pe_def D_between hr (pa_cons (pv 0) (pa_cons (pv 2) (pa_cons (pv 3) pa_nil)))) (pa_cons (pv 2) (pa_cons (pv 3) pa_nil))))))))
   (pss_one (ps_ret (pe_tupA (pa_cons (pe_def D_cmoved hr (pa_cons (pv 1) pa_nil)) (pa_cons (pe_def D_moves hr (pa_cons (pe_def D_order hr (pa_cons (pv 1) pa_nil)) pa_nil)) pa_nil))))))),?_⟩
  clear nd D_stretches D_cmoved D_moves D_cheapest D_order D_between
  rw [show start ["layout", "steps", "first", "behind", "free"] [.ref x]=[some (.ref x),none,none,none,none] from rfl]
  try dsimp only [cx_K,cx_K2]
  have iL_many:FldOk K CL "many" := ⟨T.clL,T.aL_many⟩
  have iL_rows:FldOk K CL "rows" := ⟨T.clL,T.aL_rows⟩
  have o_hx:=Old.mk (M:=[pt_order]) hx (nm1 hnx)
  have o_hp:=Old.mk (M:=[pt_order]) hp (nm1 hnp)
  replace F:=F.addP tp
  obtain ⟨ly,as,n240⟩:=side
  have ok:=ok_of ly as
  have few:=ly.few
  have sz240:∀r∈rs,r.sz≤240:=fun r hr=>by have:=(ly.good r hr).le;lia
  have fs:rs.length≤40∧∀r∈rs,r.sz≤240:=⟨few,sz240⟩
  repeat k_meth
  rename_i _ st
  rename List V=>yw
  rename Addr=>sw
  have wl:yw.length=(strF n rs).length:=by assumption
  refine forL_by (xs:=yw) (fun i σ' H'=>∃(o2 o3 o4:Option V) (ys:List V),σ'=[some (.ref x),some (.ref st),o2,o3,o4]∧ys.length=(allS n rs i).length∧SH H [pt_order] H' [(st,.lst ys),(sw,.lst yw),(pt_order,.tbl ps)] [.tps ys (stepsV (allS n rs i)),.tps yw (rows3 (strF n rs)),.tps zs (rowsV rs),TabI lamPos2 lamQual2 ps]) ⟨_,_,_,[],rfl,rfl,(F.addP (ys:=[]) (rs:=stepsV []) TupsAt.nil).sub SbC.s (by simp [allS])⟩ ?_ ?_ ?_
  ·clear F
   rintro i σ' H' _ ⟨_,_,_,ys,rfl,yl,F⟩
   exact SqA.e
  ·clear F
   rintro i v σ' H' hv ⟨_,_,_,ys,rfl,yl,F⟩
   obtain ⟨w,q1,e1,rfl,e2⟩:=row3_at (H:=H') (ws:=strF n rs) (F.tps (by simp)) hv
   replace F:=F.addT e2
   obtain ⟨x3,e3,w1,w2,w3,flt,so⟩:=str_at ok e1
   have al:=allS_len n rs i
   have al2:=allS_len n rs (i + 1)
   rw [allS_snoc e3,List.length_append] at al2
   rw [show row3 w=[V.int x3.1,V.int x3.2.1,V.int w.2.2] by rw [← w1,← w2]] at F
   have sd1:x3.2.2.length≤40∧(∀r∈x3.2.2,r.sz≤240)∧∀r∈x3.2.2,r.pn=0:=by
    refine ⟨?_,fun r hr=>?_,so.un⟩
    ·rw [← flt]
     exact Nat.le_trans (List.length_filter_le _ _) few
    ·rw [← flt] at hr
     exact sz240 r (List.mem_filter.mp hr).1
   repeat k_meth
   rw [flt] at F ⊢
   repeat k_meth
   have yl2:ys_.length=(chW x3).length:=by assumption
   refine sd (by rw [sizeLine_eq];lia) ?_
   repeat k_meth
   have t1:TupsAt H_ (ys++ys_) (stepsV (allS n rs (i + 1))):=by
    have:=(F.tps (ys:=ys) (rs:=stepsV (allS n rs i)) (by simp)).app (F.tps (ys:=ys_) (rs:=stepsV (chW x3)) (by simp [chW]))
    rw [allS_snoc e3]
    unfold stepsV at this ⊢
    rw [List.map_append]
    exact this
   exact ⟨_,_,_,ys++ys_,rfl,by rw [allS_snoc e3,List.length_append,List.length_append,yl,yl2],(F.addP t1).sub SbC.s SbI.s⟩
  ·clear F
   rintro σ' H' ⟨_,_,_,ys,rfl,yl,F⟩
   rw [allS_all n rs (by rw [wl,strF_B ok];exact Nat.le_refl _)] at F yl
   have oo:=ord_ok ok few
   have o1:=oo.few
   have o2:((strB n 0 [] rs).flatMap chW).length≤40∧∀s∈(strB n 0 [] rs).flatMap chW,s.1.sz≤240:=⟨o1,fun s hs=>by
    rw [← allS_all n rs (Nat.le_refl _)] at hs
    exact sz240 _ (chW_mem ok hs)⟩
   have jl:=ordJ_len (Jof n rs)
   rw [Jof_len] at jl
   repeat k_meth
   have F0:SH H [pt_order] H_ [(pt_order,.tbl ps),(st,.lst ys)] [.tps ys (stepsV ((strB n 0 [] rs).flatMap chW)),TabI lamPos2 lamQual2 ps]:=F.sub SbC.s SbI.s
   have F1:SH H [pt_order] H_ ([(pt_order,.tbl ps)]++[(st,.lst ys)]) [.tps ys (stepsV ((strB n 0 [] rs).flatMap chW)),TabI lamPos2 lamQual2 ps]:=F0
   refine ⟨st,ys,(strB n 0 [] rs).flatMap chW,Jof n rs,ps,rfl,(SH.cut F1 rfl).addF (F1.im (TabI lamPos2 lamQual2 ps) (by simp)),SH.neC (F:=F0),hatC,TpA.e,oo,fun q yq ps' H2 G=>?_⟩
   have F2:=SH.over F1 G rfl
   clear F F0 F1
   simp only [List.cons_append,List.nil_append] at F2
   have F:SH H [pt_order] H2 _ _:=F2
   clear F2
   rw [szI_all]
   repeat k_meth
   rename List V=>ym
   rename Addr=>tA
   exact k tA p_ ym ps' _ (F.sub SbC.s SbI.s)
end
open M22
abbrev natsV (ss:List Nat):List V:=ss.map fun s=>V.int (s:Nat)
def sp_sizes:Sp:=fun vs H Q _=>∃(bx:Addr) (x y z:Int) (u m:Nat),vs=[.ref bx,.int (u:Nat),.int (m:Nat)]∧H bx=some (.lst [.int x,.int y,.int z])∧(1≤m∧m≤u∧u≤240∧m≤40)∧∀(x' y' z':Int) (ss:List Nat) (p:Addr) (H':Hp),ss.length=m→(∀s∈ss,1≤s)→ss.sum=u→Kp bx H H'→H' bx=some (.lst [.int x',.int y',.int z'])→H' p=some (.lst (natsV ss))→(∀b u,H b=some u→b≠p)→Q (.ref p) H'
def sp_gaps88:Sp:=fun vs H Q _=>∃(bx:Addr) (x y z:Int) (f m:Nat),vs=[.ref bx,.int (f:Nat),.int (m:Nat)]∧H bx=some (.lst [.int x,.int y,.int z])∧(f≤10∧m≤40)∧∀(x' y' z':Int) (gs:List Nat) (p:Addr) (H':Hp),gs.length=m + 1→gs.sum=f→Kp bx H H'→H' bx=some (.lst [.int x',.int y',.int z'])→H' p=some (.lst (natsV gs))→(∀b u,H b=some u→b≠p)→Q (.ref p) H'
section
variable {bx:Addr} {x y z:Int} {H H0:Hp} {M:List Addr} {L:List (Addr×HO)} {I:List Im} {Q:VK} {E:XK} {u m f:Nat} {Z:Addr→Hp→Prop}
instance go_sizes [h:Hat H bx (.lst [.int x,.int y,.int z])]:Go (sp_sizes [.ref bx,.int (u:Nat),.int (m:Nat)] H Q E) (Sd (1≤m∧m≤u∧u≤240∧m≤40) (∀(x' y' z':Int) (ss:List Nat),ss.length=m→(∀s∈ss,1≤s)→ss.sum=u→∀H1,Kp bx H H1→H1 bx=some (.lst [.int x',.int y',.int z'])→∀p H2,New H1 H2 p (.lst (natsV ss))→Q (.ref p) H2)) :=
 ⟨fun s=>⟨bx,x,y,z,u,m,rfl,h.e,s.1,fun x' y' z' ss p H' h1 h2 h3 f e e2 fr=>two_steps (R:=fun H'=>Q (.ref p) H') ⟨_,h.e⟩ f e e2 fr fun H1 f1 e1 n1=>s.2 x' y' z' ss h1 h2 h3 H1 f1 e1 p H' n1⟩⟩
instance go_gaps88 [h:Hat H bx (.lst [.int x,.int y,.int z])]:Go (sp_gaps88 [.ref bx,.int (f:Nat),.int (m:Nat)] H Q E) (Sd (f≤10∧m≤40) (∀(x' y' z':Int) (gs:List Nat),gs.length=m + 1→gs.sum=f→∀H1,Kp bx H H1→H1 bx=some (.lst [.int x',.int y',.int z'])→∀p H2,New H1 H2 p (.lst (natsV gs))→Q (.ref p) H2)) :=
 ⟨fun s=>⟨bx,x,y,z,f,m,rfl,h.e,s.1,fun x' y' z' gs p H' h1 h2 f e e2 fr=>two_steps (R:=fun H'=>Q (.ref p) H') ⟨_,h.e⟩ f e e2 fr fun H1 f1 e1 n1=>s.2 x' y' z' gs h1 h2 H1 f1 e1 p H' n1⟩⟩
end
theorem sum_set {gs:List Nat} {a g s:Nat} (h:gs[a]?=some g):(gs.set a (g + s)).sum=gs.sum + s:=by
 induction gs generalizing a with
 | nil=>simp at h
 | cons x t ih =>
  cases a with
  | zero=>simp at h;subst h;simp;lia
  | succ a=>simp at h;simp [ih h];lia
theorem sum_take {gs:List Nat} {a g:Nat} (h:gs[a]?=some g):(gs.take (a + 1)).sum=(gs.take a).sum + g:=by rw [List.take_succ,h];simp
theorem sum_take_le (gs:List Nat) (a:Nat):(gs.take a).sum≤gs.sum:=by
 have:=congrArg List.sum (List.take_append_drop a gs)
 rw [List.sum_append] at this
 lia
theorem nats_at {gs:List Nat} {i:Nat} {v:V} (h:(natsV gs)[i]?=some v):∃g:Nat,gs[i]?=some g∧v=.int (g:Nat):=by
 unfold natsV at h
 rw [List.getElem?_map] at h
 cases e:gs[i]? with
 | none=>rw [e] at h;cases h
 | some c=>rw [e] at h;exact ⟨c,rfl,(Option.some.inj h).symm⟩
section
variable {P:Program} {w:World} {K:W.Frag} {mg:Str→Option Value} {base:Heap} {c:Nat→Addr} {ct_Linit pt_Linit ct_order pt_order R CL:Addr}
theorem D_sizes (T:Txt K mg c R CL ct_Linit pt_Linit ct_order pt_order):Def P w K mg base CX0 2 "_law_sizes" ["_law_well_here", "_law_used", "_law_many"] sp_sizes:=by
 have D_take:=D_take (P:=P) (w:=w) (base:=base) T
 refine def_of T.d_sizes sc_sizes (fun vs H Q E h=>?_) (fun _ _ _ _ _ _=>el3 fun _ _ _=>rfl) (fun f cdv A outer s H vs Q E hr h=>?_)
 ·obtain ⟨bx,x,y,z,u,m,rfl,_⟩:=h
  rfl
 ·obtain ⟨bx,x,y,z,u,m,rfl,hbx,side,k⟩:=h
  have nd:=sc_sizes.nd
  refine ⟨_,(pss_cons (ps_set (i:=3) nd rfl (Or.inl rfl) (pe_lstA pa_nil))
   (pss_cons (ps_for PassesOwn.never rfl (pi_range1 rfl T.n_range (pa_cons (pv 2) pa_nil)) (pg_name (i:=4) nd rfl (Or.inl rfl)) (pss_cons (ps_set (i:=5) nd rfl (Or.inl rfl) (pe_op op_sub (pv 1) (pe_op op_sub (pe_op op_sub (pv 2) (pv 4)) pe_int)))
    (pss_cons (ps_set (i:=6) nd rfl (Or.inl rfl) (pe_ix ix_list (pe_lstA (pa_cons pe_int (pa_cons (pe_callB (call_minN rfl) rfl T.n_min boot_min (pa_cons (pv 5) (pa_cons pe_int pa_nil))) (pa_cons (pe_callB (call_minN rfl) rfl T.n_min boot_min (pa_cons (pv 5) (pa_cons pe_int pa_nil))) (pa_cons (pv 5) pa_nil))))) (pe_def D_take hr (pa_cons (pv 0) (pa_cons pe_int pa_nil))) (fun _ _=>rfl)))
    (pss_cons (ps_set (i:=7) nd rfl (Or.inl rfl) (pe_op op_add pe_int (pe_def D_take hr (pa_cons (pv 0) (pa_cons (pv 6) pa_nil)))))
    (pss_cons (ps_if (pt_cmpR op_eq (pv 4) (pe_op op_sub (pv 2) pe_int) (nomark _)) (pss_one (ps_set (i:=7) nd rfl (Or.inl rfl) (pv 5))) pss_nil)
    (pss_cons (ps_expr (pe_appendA (pv 3) (pv 7)))
    (pss_one (ps_set (i:=1) nd rfl (Or.inl rfl) (pe_op op_sub (pv 1) (pv 7))))))))))
   (pss_one (ps_ret (pv 3))))),?_⟩
  clear nd D_take
  rw [show start ["_law_well_here", "_law_used", "_law_many", "_law_found", "_law_k", "_law_left", "_law_wide", "_law_size"] [.ref bx,.int (u:Nat),.int (m:Nat)]=[some (.ref bx),some (.int (u:Nat)),some (.int (m:Nat)),none,none,none,none,none] from rfl]
  try dsimp only [cx_K,cx_K2]
  have iL_many:FldOk K CL "many" := ⟨T.clL,T.aL_many⟩
  have iL_rows:FldOk K CL "rows" := ⟨T.clL,T.aL_rows⟩
  have F:SH H [bx] H [(bx,.lst [.int x,.int y,.int z])] []:=SH.nil.addM List.mem_cons_self hbx rfl (by simp)
  obtain ⟨m1,mu,u240,m40⟩:=side
  repeat k_meth
  rename Addr=>fo
  rw [show ((m:Nat):Int).toNat=m from rfl]
  refine forR0_by (fun i σ' H'=>∃(o4 o5 o6 o7:Option V) (v:Nat) (ss:List Nat) (x y z:Int),σ'=[some (.ref bx),some (.int (v:Nat)),some (.int (m:Nat)),some (.ref fo),o4,o5,o6,o7]∧ss.length=i∧(∀s∈ss,1≤s)∧ss.sum + v=u∧m - i≤v∧(i=m→v=0)∧SH H [bx] H' [(fo,.lst (natsV ss)),(bx,.lst [.int x,.int y,.int z])] []) ⟨_,_,_,_,u,[],x,y,z,rfl,rfl,by simp,by simp,by lia,by lia,F⟩ ?_ ?_
  ·clear F
   rintro i σ' H' hi ⟨_,_,_,_,v,ss,x,y,z,rfl,sl,s1,su,vm,v0,F⟩
   have nl:(natsV ss).length=ss.length:=List.length_map ..
   obtain ⟨lf,hlf⟩:∃lf:Nat,(v:Int) - ((m:Int) - (i:Int) - 1)=(lf:Int):=⟨v - (m - i - 1),by lia⟩
   have lf1:1≤lf:=by lia
   have lf2:lf≤240:=by lia
   repeat k_meth
   rw [hlf] at F ⊢
   refine w_ixM SqA.e lo_ hi_ fun w hw=>?_
   obtain ⟨g,rfl,hg0,hg⟩:=pickL4 (lo:=1) (hi:=241) hw (by lia)
   have hgl:(g:Int)≤(lf:Int):=by
    simp only [List.mem_cons,List.not_mem_nil,or_false,V.int.injEq] at hw
    lia
   clear hw
   repeat k_meth
   obtain ⟨z1,hz1⟩:∃z1:Nat,r_=(z1:Int):=⟨r_.toNat,by lia⟩
   subst hz1
   refine i_dec (fun h5=>?_) (fun h5=>?_)
   ·repeat k_meth
    rw [show natsV ss++[V.int (lf:Int)]=natsV (ss++[lf]) by simp] at F
    rw [show (v:Int) - (lf:Int)=((v - lf:Nat):Int) by lia]
    refine ⟨_,_,_,_,v - lf,ss++[lf],x_,y_,z_,rfl,by simp [sl],fun s hs=>?_,by simp;lia,by lia,by lia,F.sub SbC.s SbI.s⟩
    rcases List.mem_append.mp hs with hs | hs
    ·exact s1 s hs
    ·rw [List.mem_singleton.mp hs];exact lf1
   ·repeat k_meth
    rw [show natsV ss++[V.int (1 + (z1:Int))]=natsV (ss++[1 + z1]) by simp] at F
    rw [show (v:Int) - (1 + (z1:Int))=((v - (1 + z1):Nat):Int) by lia]
    refine ⟨_,_,_,_,v - (1 + z1),ss++[1 + z1],x_,y_,z_,rfl,by simp [sl],fun s hs=>?_,by simp;lia,by lia,by lia,F.sub SbC.s SbI.s⟩
    rcases List.mem_append.mp hs with hs | hs
    ·exact s1 s hs
    ·rw [List.mem_singleton.mp hs];lia
  ·clear F
   rintro σ' H' ⟨_,_,_,_,v,ss,x,y,z,rfl,sl,s1,su,vm,v0,F⟩
   repeat k_meth
   exact k _ _ _ ss _ _ sl s1 (by have:=v0 rfl;lia) F.kpo hatC hatC (F.fresh (LkL.m (o:=.lst _)) (nm1 (SH.neC (F:=F))))
theorem D_lgaps (T:Txt K mg c R CL ct_Linit pt_Linit ct_order pt_order):Def P w K mg base CX0 2 "_law_gaps" ["_law_well_here", "_law_free", "_law_many"] sp_gaps88:=by
 have D_take:=D_take (P:=P) (w:=w) (base:=base) T
 refine def_of T.d_lgaps sc_lgaps (fun vs H Q E h=>?_) (fun _ _ _ _ _ _=>el3 fun _ _ _=>rfl) (fun f cdv A outer s H vs Q E hr h=>?_)
 ·obtain ⟨bx,x,y,z,f,m,rfl,_⟩:=h
  rfl
 ·obtain ⟨bx,x,y,z,f,m,rfl,hbx,side,k⟩:=h
  have nd:=sc_lgaps.nd
  refine ⟨_,(pss_cons (ps_set (i:=3) nd rfl (Or.inl rfl) (pe_op op_repA (pe_lstA (pa_cons pe_int pa_nil)) (pe_op op_add (pv 2) pe_int)))
   (pss_cons (ps_while PassesOwn.never (pt_cmpR op_gt (pv 1) pe_int (nomark _)) (pss_cons (ps_set (i:=4) nd rfl (Or.inl rfl) (pe_op op_add pe_int (pe_def D_take hr (pa_cons (pv 0) (pa_cons (pv 1) pa_nil)))))
    (pss_cons (ps_set (i:=5) nd rfl (Or.inl rfl) (pe_def D_take hr (pa_cons (pv 0) (pa_cons (pe_op op_add (pv 2) pe_int) pa_nil))))
    (pss_cons (ps_asg (pe_op op_add (pe_ix ix_list (pv 3) (pv 5) (fun _ _=>rfl)) (pv 4)) (pg_sub (pv 3) (pv 5) set_listA))
    (pss_one (ps_set (i:=1) nd rfl (Or.inl rfl) (pe_op op_sub (pv 1) (pv 4))))))))
   (pss_one (ps_ret (pv 3))))),?_⟩
  clear nd D_take
  rw [show start ["_law_well_here", "_law_free", "_law_many", "_law_gaps_here", "_law_some", "_law_at"] [.ref bx,.int (f:Nat),.int (m:Nat)]=[some (.ref bx),some (.int (f:Nat)),some (.int (m:Nat)),none,none,none] from rfl]
  try dsimp only [cx_K,cx_K2]
  have iL_many:FldOk K CL "many" := ⟨T.clL,T.aL_many⟩
  have iL_rows:FldOk K CL "rows" := ⟨T.clL,T.aL_rows⟩
  have F:SH H [bx] H [(bx,.lst [.int x,.int y,.int z])] []:=SH.nil.addM List.mem_cons_self hbx rfl (by simp)
  obtain ⟨f10,m40⟩:=side
  repeat k_meth
  rw [show ((m:Int) + 1)=((m + 1:Nat):Int) by lia]
  repeat k_meth
  rename Addr=>ga
  rw [show List.replicate (m + 1) (V.int 0)=natsV (List.replicate (m + 1) 0) by simp [natsV]] at F
  refine while_m (fun q σ' H'=>∃(o4 o5:Option V) (c:Nat) (gs:List Nat) (x y z:Int),σ'=[some (.ref bx),some (.int (c:Nat)),some (.int (m:Nat)),some (.ref ga),o4,o5]∧c=q∧gs.length=m + 1∧gs.sum + c=f∧SH H [bx] H' [(ga,.lst (natsV gs)),(bx,.lst [.int x,.int y,.int z])] []) ⟨f,_,_,f,List.replicate (m + 1) 0,x,y,z,rfl,rfl,by simp,by simp,F.sub SbC.s SbI.s⟩ ?_
  clear F
  rintro q σ' H' ⟨_,_,c,gs,x,y,z,rfl,rfl,gl,gsu,F⟩
  have nl:(natsV gs).length=gs.length:=List.length_map ..
  repeat k_meth
  refine i_dec (fun h=>?_) (fun h=>?_)
  ·refine ⟨fun σ' H'=>∃m',m' < c∧_,fun σ' H' h=>h,?_⟩
   repeat k_meth
   rename_i r1 _ _ _ r1lo r1hi _
   obtain ⟨s1,hs1⟩:∃s1:Nat,r1=(s1:Int):=⟨r1.toNat,by lia⟩
   obtain ⟨a1,ha1⟩:∃a1:Nat,r_=(a1:Int):=⟨r_.toNat,by lia⟩
   subst hs1 ha1
   obtain ⟨g0,hg0⟩:∃g0,gs[a1]?=some g0:=⟨gs[a1]'(by lia),List.getElem?_eq_getElem _⟩
   have at1:AtI (natsV gs) ((a1:Nat):Int) (.int (g0:Nat)):=⟨atI_nat (by unfold natsV;rw [List.getElem?_map,hg0];rfl)⟩
   repeat k_meth
   rw [Int.toNat_natCast,show (natsV gs).set a1 (V.int ((g0:Int) + (1 + (s1:Int))))=natsV (gs.set a1 (g0 + (1 + s1))) by simp [natsV,List.map_set]] at F
   rw [show (c:Int) - (1 + (s1:Int))=((c - (1 + s1):Nat):Int) by lia]
   exact ⟨c - (1 + s1),by lia,_,_,c - (1 + s1),gs.set a1 (g0 + (1 + s1)),x_,y_,z_,rfl,rfl,by rw [List.length_set];exact gl,by rw [sum_set hg0];lia,F.sub SbC.s SbI.s⟩
  ·repeat k_meth
   exact k _ _ _ gs _ _ gl (by lia) F.kpo hatC hatC (F.fresh (LkL.m (o:=.lst _)) (nm1 (SH.neC (F:=F))))
theorem D_rows (T:Txt K mg c R CL ct_Linit pt_Linit ct_order pt_order):Def P w K mg base CX0 3 "_law_rows" ["_law_well_here", "_law_many"] sp_lrows:=by
 have D_take:=D_take (P:=P) (w:=w) (base:=base) T
 have D_sizes:=D_sizes (P:=P) (w:=w) (base:=base) T
 have D_lgaps:=D_lgaps (P:=P) (w:=w) (base:=base) T
 have D_names:=D_names (P:=P) (w:=w) (base:=base) T
 refine def_of T.d_rows sc_rows (fun vs H Q E h=>?_) (fun _ _ _ _ _ _=>el2 fun _ _=>rfl) (fun f cdv A outer s H vs Q E hr h=>?_)
 ·obtain ⟨bx,x,y,z,n,rfl,_⟩:=h
  rfl
 ·obtain ⟨bx,x,y,z,n,rfl,hbx,h16,h240,k⟩:=h
  have nd:=sc_rows.nd
  refine ⟨_,(pss_cons (ps_set (i:=2) nd rfl (Or.inl rfl) (pe_ix ix_list (pe_lstA (pa_cons (pe_op op_add pe_int (pe_def D_take hr (pa_cons (pv 0) (pa_cons pe_int pa_nil)))) (pa_cons (pe_op op_add pe_int (pe_def D_take hr (pa_cons (pv 0) (pa_cons pe_int pa_nil)))) pa_nil))) (pe_callTy call_intN rfl T.n_int boot_int (pa_cons (pe_cmpR op_eq (pe_def D_take hr (pa_cons (pv 0) (pa_cons pe_int pa_nil))) pe_int (nomark _)) pa_nil)) (fun _ _=>rfl)))
   (pss_cons (ps_set (i:=3) nd rfl (Or.inl rfl) (pe_def D_take hr (pa_cons (pv 0) (pa_cons pe_int pa_nil))))
   (pss_cons (ps_set (i:=2) nd rfl (Or.inl rfl) (pe_callB (call_minN rfl) rfl T.n_min boot_min (pa_cons (pv 2) (pa_cons (pe_op op_sub (pv 1) (pv 3)) pa_nil))))
   (pss_cons (ps_set (i:=4) nd rfl (Or.inl rfl) (pe_def D_sizes hr (pa_cons (pv 0) (pa_cons (pe_op op_sub (pv 1) (pv 3)) (pa_cons (pv 2) pa_nil)))))
   (pss_cons (ps_set (i:=5) nd rfl (Or.inl rfl) (pe_def D_lgaps hr (pa_cons (pv 0) (pa_cons (pv 3) (pa_cons (pv 2) pa_nil)))))
   (pss_cons (ps_set (i:=6) nd rfl (Or.inl rfl) (pe_def D_names hr (pa_cons (pv 0) (pa_cons (pv 2) pa_nil))))
   (pss_cons (ps_set (i:=7) nd rfl (Or.inl rfl) (pe_ix ix_list (pe_lstA (pa_cons pe_int (pa_cons pe_int (pa_cons pe_int (pa_cons pe_int pa_nil))))) (pe_def D_take hr (pa_cons (pv 0) (pa_cons pe_int pa_nil))) (fun _ _=>rfl)))
   (pss_cons (ps_set (i:=8) nd rfl (Or.inl rfl) (pe_lstA pa_nil))
   (pss_cons (ps_set (i:=9) nd rfl (Or.inl rfl) pe_int)
   (pss_cons (ps_for PassesOwn.never rfl (pi_zip3 rfl T.n_zip (pa_cons (pv 6) (pa_cons (pv 4) (pa_cons (pv 5) pa_nil)))) (pg_tup rfl (pgs_cons (pg_name (i:=10) nd rfl (Or.inl rfl)) (pgs_cons (pg_name (i:=11) nd rfl (Or.inl rfl)) (pgs_cons (pg_name (i:=12) nd rfl (Or.inl rfl)) pgs_nil)))) (pss_cons (ps_set (i:=13) nd rfl (Or.inl rfl) pe_int)
    (pss_cons (ps_if (PW.pt (pw_and (pt_cmpR op_gt (pv 7) pe_int (nomark _)) (pw_and1 (pt_cmpR op_eq (pe_def D_take hr (pa_cons (pv 0) (pa_cons (pv 7) pa_nil))) pe_int (nomark _))))) (pss_one (ps_set (i:=13) nd rfl (Or.inl rfl) (pe_op op_add pe_int (pe_def D_take hr (pa_cons (pv 0) (pa_cons pe_int pa_nil)))))) pss_nil)
    (pss_cons (ps_expr (pe_appendA (pv 8) (pe_tupA (pa_cons (pv 10) (pa_cons (pe_op op_add (pv 9) (pv 12)) (pa_cons (pv 11) (pa_cons (pv 13) pa_nil)))))))
    (pss_one (ps_set (i:=9) nd rfl (Or.inl rfl) (pe_op op_add (pe_op op_add (pv 9) (pv 12)) (pv 11))))))))
   (pss_one (ps_ret (pv 8))))))))))))),?_⟩
  clear nd D_take D_sizes D_lgaps D_names
  rw [show start ["_law_well_here", "_law_many", "_law_most", "_law_free", "_law_sizes_here", "_law_gaps_here", "_law_names_here", "_law_share", "_law_rows_here", "_law_at", "_law_name", "_law_size", "_law_gap", "_law_pins"] [.ref bx,.int (n:Nat)]=[some (.ref bx),some (.int (n:Nat)),none,none,none,none,none,none,none,none,none,none,none,none] from rfl]
  try dsimp only [cx_K,cx_K2]
  have iL_many:FldOk K CL "many" := ⟨T.clL,T.aL_many⟩
  have iL_rows:FldOk K CL "rows" := ⟨T.clL,T.aL_rows⟩
  have F:SH H [bx] H [(bx,.lst [.int x,.int y,.int z])] []:=SH.nil.addM List.mem_cons_self hbx rfl (by simp)
  repeat k_meth
  refine w_ixM SqA.e (by split <;> lia) (by simp only [List.length_cons,List.length_nil];split <;> lia) fun v hv=>?_
  obtain ⟨g,rfl,hg0,hg⟩:=pickL2 (lo:=1) (hi:=41) hv (by lia)
  clear hv
  repeat k_meth
  obtain ⟨f,hf⟩:∃f:Nat,r_=(f:Int):=⟨r_.toNat,by lia⟩
  subst hf
  obtain ⟨u,hu⟩:∃u:Nat,(n:Int) - (f:Int)=(u:Int):=⟨n - f,by lia⟩
  obtain ⟨m,hm⟩:∃m:Nat,min (g:Int) (u:Int)=(m:Int):=⟨min g u,by lia⟩
  have sd1:1≤m∧m≤u∧u≤240∧m≤40:=by lia
  have sd2:f≤10∧m≤40:=by lia
  have sd3:m≤40:=by lia
  rw [hu,hm]
  repeat k_meth
  intro ss sl s1 su
  repeat k_meth
  obtain ⟨szA,e⟩:∃x,x=p_:=⟨_,rfl⟩
  subst e
  intro gs gl gsu
  repeat k_meth
  obtain ⟨gaA,e⟩:∃x,x=p_:=⟨_,rfl⟩
  subst e
  intro nms nl nk nn
  repeat k_meth
  refine w_ixM SqA.e lo_ hi_ fun v hv=>?_
  obtain ⟨sh,rfl,hs0,hs1⟩:=pickL4 (lo:=0) (hi:=6) hv (by lia)
  clear hv
  repeat k_meth
  rename_i nmA _ _ _
  rename Addr=>rwA
  have ml1:(nms.map fun cs=>V.str (tx cs)).length=nms.length:=List.length_map ..
  have ml2:(natsV ss).length=ss.length:=List.length_map ..
  have ml3:(natsV gs).length=gs.length:=List.length_map ..
  refine for_zip3 (by lia) (by lia) (fun i σ' H'=>∃(o10 o11 o12 o13:Option V) (at_:Nat) (rs:List Rw) (ys:List V) (x y z:Int),σ'=[some (.ref bx),some (.int (n:Nat)),some (.int (m:Nat)),some (.int (f:Nat)),some (.ref szA),some (.ref gaA),some (.ref nmA),some (.int (sh:Nat)),some (.ref rwA),some (.int (at_:Nat)),o10,o11,o12,o13]∧at_=(gs.take i).sum + (ss.take i).sum∧Asc rs∧(∀r∈rs,NameOk r.nm∧1≤r.sz∧r.st + r.sz≤at_)∧(rs.map (·.nm)).Sublist (nms.take i)∧ys.length=rs.length∧SH H [bx] H' [(rwA,.lst ys),(nmA,.lst (nms.map fun cs=>V.str (tx cs))),(gaA,.lst (natsV gs)),(szA,.lst (natsV ss)),(bx,.lst [.int x,.int y,.int z])] [.tps ys (rowsV rs)]) ⟨_,_,_,_,0,[],[],x_,y_,z_,rfl,by simp,List.Pairwise.nil,by simp,List.nil_sublist _,rfl,(F.addP (ys:=[]) (rs:=rowsV []) TupsAt.nil).sub SbC.s SbI.s⟩ ?_ ?_ ?_
  ·clear F
   rintro i σ' H' _ ⟨_,_,_,_,at_,rs,ys,x,y,z,rfl,hat,as,ok,sb,yl,F⟩
   exact ⟨SqA.e,SqA.e,SqA.e⟩
  ·clear F
   rintro i v1 v2 v3 Tq σ' H' H2 hv1 hv2 hv3 ⟨_,_,_,_,at_,rs,ys,x,y,z,rfl,hat,as,ok,sb,yl,F⟩ nw
   clear lo_ hi_
   obtain ⟨nm0,hnm,rfl⟩:∃nm0,nms[i]?=some nm0∧v1=.str (tx nm0):=by
    rw [List.getElem?_map] at hv1
    cases e:nms[i]? with
    | none=>rw [e] at hv1;cases hv1
    | some c=>rw [e] at hv1;exact ⟨c,rfl,(Option.some.inj hv1).symm⟩
   obtain ⟨s0,hs,rfl⟩:=nats_at hv2
   obtain ⟨g0,hgg,rfl⟩:=nats_at hv3
   have s01:=s1 s0 (List.mem_of_getElem? hs)
   have tks:=sum_take hs
   have tkg:=sum_take hgg
   have les:=sum_take_le ss (i + 1)
   have leg:=sum_take_le gs (i + 1)
   have tkn:nms.take (i + 1)=nms.take i++[nm0]:=by rw [List.take_succ,hnm];rfl
   have few:rs.length≤40:=by
    have:=sb.length_le
    rw [List.length_map,List.length_take] at this
    lia
   replace F:=F.newT nw
   repeat k_meth
   refine i_dec (fun hp0=>?_) (fun hp0=>?_)
   ·repeat k_meth
    refine i_dec (fun hd0=>?_) (fun hd0=>?_)
    ·repeat k_meth
     obtain ⟨pn,hpn⟩:∃pn:Nat,1 + r_=(pn:Int):=⟨(1 + r_).toNat,by lia⟩
     rw [hpn] at F
     rw [show [V.str (tx nm0),V.int ((at_:Int) + (g0:Int)),V.int (s0:Int),V.int (pn:Int)]=rowV ⟨nm0,at_ + g0,s0,pn⟩ by simp [rowV]] at F
     have F2:=SH.app (ys:=ys) (rs:=rowsV rs) (q:=p_) (r:=rowV ⟨nm0,at_ + g0,s0,pn⟩) F (LkP.m) (LkI.m)
     rw [← rowsV_snoc] at F2
     rw [show (at_:Int) + (g0:Int) + (s0:Int)=((at_ + g0 + s0:Nat):Int) by lia]
     refine ⟨_,_,_,_,at_ + g0 + s0,rs++[⟨nm0,at_ + g0,s0,pn⟩],ys++[.ref p_],x_,y_,z_,rfl,by lia,asc_snoc as (fun s hs=>(ok s hs).2.2) (by show at_≤at_ + g0;lia),fun s hs=>?_,?_,by simp [yl],F2.sub SbC.s SbI.s⟩
     ·rcases List.mem_append.mp hs with hs | hs
      ·have:=ok s hs
       exact ⟨this.1,this.2.1,by lia⟩
      ·rw [List.mem_singleton.mp hs]
       exact ⟨nk _ (List.mem_of_getElem? hnm),s01,Nat.le_refl _⟩
     ·rw [List.map_append,tkn]
      exact List.Sublist.append sb (List.Sublist.refl _)
    ·repeat k_meth
     rw [show [V.str (tx nm0),V.int ((at_:Int) + (g0:Int)),V.int (s0:Int),V.int 0]=rowV ⟨nm0,at_ + g0,s0,0⟩ by simp [rowV]] at F
     have F2:=SH.app (ys:=ys) (rs:=rowsV rs) (q:=p_) (r:=rowV ⟨nm0,at_ + g0,s0,0⟩) F (LkP.m) (LkI.m)
     rw [← rowsV_snoc] at F2
     rw [show (at_:Int) + (g0:Int) + (s0:Int)=((at_ + g0 + s0:Nat):Int) by lia]
     refine ⟨_,_,_,_,at_ + g0 + s0,rs++[⟨nm0,at_ + g0,s0,0⟩],ys++[.ref p_],x_,y_,z_,rfl,by lia,asc_snoc as (fun s hs=>(ok s hs).2.2) (by show at_≤at_ + g0;lia),fun s hs=>?_,?_,by simp [yl],F2.sub SbC.s SbI.s⟩
     ·rcases List.mem_append.mp hs with hs | hs
      ·have:=ok s hs
       exact ⟨this.1,this.2.1,by lia⟩
      ·rw [List.mem_singleton.mp hs]
       exact ⟨nk _ (List.mem_of_getElem? hnm),s01,Nat.le_refl _⟩
     ·rw [List.map_append,tkn]
      exact List.Sublist.append sb (List.Sublist.refl _)
   ·repeat k_meth
    rw [show [V.str (tx nm0),V.int ((at_:Int) + (g0:Int)),V.int (s0:Int),V.int 0]=rowV ⟨nm0,at_ + g0,s0,0⟩ by simp [rowV]] at F
    have F2:=SH.app (ys:=ys) (rs:=rowsV rs) (q:=p_) (r:=rowV ⟨nm0,at_ + g0,s0,0⟩) F (LkP.m) (LkI.m)
    rw [← rowsV_snoc] at F2
    rw [show (at_:Int) + (g0:Int) + (s0:Int)=((at_ + g0 + s0:Nat):Int) by lia]
    refine ⟨_,_,_,_,at_ + g0 + s0,rs++[⟨nm0,at_ + g0,s0,0⟩],ys++[.ref p_],x,y,z,rfl,by lia,asc_snoc as (fun s hs=>(ok s hs).2.2) (by show at_≤at_ + g0;lia),fun s hs=>?_,?_,by simp [yl],F2.sub SbC.s SbI.s⟩
    ·rcases List.mem_append.mp hs with hs | hs
     ·have:=ok s hs
      exact ⟨this.1,this.2.1,by lia⟩
     ·rw [List.mem_singleton.mp hs]
      exact ⟨nk _ (List.mem_of_getElem? hnm),s01,Nat.le_refl _⟩
    ·rw [List.map_append,tkn]
     exact List.Sublist.append sb (List.Sublist.refl _)
  ·clear F
   rintro σ' H' ⟨_,_,_,_,at_,rs,ys,x,y,z,rfl,hat,as,ok,sb,yl,F⟩
   have les:=sum_take_le ss nms.length
   have leg:=sum_take_le gs nms.length
   repeat k_meth
   exact k _ _ _ rs _ ys _ (lay_of (n:=n) (by rw [hat,ml1];lia) as ok sb (nn.sublist (List.take_sublist _ _)) (by rw [List.length_take];lia)) as F.kpo hatC hatC TpA.e (F.fresh (LkL.m (o:=.lst _)) (nm1 (SH.neC (F:=F))))
end
open M22 M87 M88
theorem rc_len {fr:Int} {rs:List Rw} {e:Int} {h:Nat} {p:Int} (c:Rc fr rs e h p):h≤rs.length:=by
 induction c with
 | nil=>exact Nat.le_refl _
 | _=>first | (rw [List.length_append,List.length_singleton];split <;> lia) | lia
def sp_kept:Sp:=fun vs H Q _=>∃(p:Addr) (y:V) (v:Int) (o:Option Int) (H4:Hp),vs=[.ref p,y,.int v]∧DGet H p y (o.map V.int)∧DPut H p y (.int v) H4∧Q .non (if ∀u,o=some u→v < u then H4 else H)
section
variable {σ:L2.St} {H:Hp} {Q:VK} {E:XK} {D:Ends} {td ty tv:TE}
instance go_dni:Go (tDNotIn ty td σ H Q) (ty σ H fun y H1=>td σ H1 fun x H2=>∃a o,x=.ref a∧DGet H2 a y o∧Q (.bl (!o.isSome)) H2):=⟨id⟩
instance go_dgt:Go (tDGet td ty σ H Q) (td σ H fun x H1=>ty σ H1 fun y H2=>∃a v,x=.ref a∧DGet H2 a y (some v)∧Q v H2):=⟨id⟩
instance go_dpt:Go (sDPut td ty tv D σ H) (tv σ H fun v H1=>td σ H1 fun x H2=>ty σ H2 fun y H3=>∃a H4,x=.ref a∧DPut H3 a y v H4∧D.nx σ H4):=⟨id⟩
theorem not_lt {d:Option Int} {v:Int} (h:¬ ∀u,d=some u→v < u):∃u,d=some u∧¬ v < u:=by
 cases d with
 | none=>exact absurd (fun u e=>nomatch e) h
 | some u=>exact ⟨u,rfl,fun z=>h fun w e=>by cases e;exact z⟩
theorem keptT {p b:Addr} {kvs:List (List Key×V)} {k:Int×Nat} {v:Int} (hd:H p=some (.dT kvs)) (hb:H b=some (.tup [.int k.1,.int (k.2:Int)])) (o:OkD k2 kvs) (hz:kvs.length < sizeLine) (q:∀kvs' H',OkD k2 kvs'→Kpt (dO k2 kvs) k v (dO k2 kvs')→Off p H H'→H' p=some (.dT kvs')→Q .non H'):sp_kept [.ref p,.ref b,.int v] H Q E:=by
 have hb:H b=some (.tup ((k2 k).map kV)):=hb
 refine ⟨p,.ref b,v,dO k2 kvs k,_,rfl,?_,DPut.t hd hb hz,?_⟩
 ·rw [← o.val k];exact DGet.t hd hb
 ·by_cases h:∀u,dO k2 kvs k=some u→v < u
  ·rw [if_pos h];exact q _ _ (o.put k v) (kpt_put k2_inj h) Off.upd upd_same
  ·rw [if_neg h]
   obtain ⟨u,e,l⟩:=not_lt h
   exact q kvs H o (kpt_no e l) (Off.refl _ _) hd
theorem keptK {p:Addr} {kvs:List (Key×V)} {k:Nat} {v:Int} (hd:H p=some (.dK kvs)) (o:OkD k1 kvs) (hz:kvs.length < sizeLine) (q:∀kvs' H',OkD k1 kvs'→Kpt (dO k1 kvs) k v (dO k1 kvs')→Off p H H'→H' p=some (.dK kvs')→Q .non H'):sp_kept [.ref p,.int (k:Nat),.int v] H Q E:=by
 refine ⟨p,.int (k:Nat),v,dO k1 kvs k,_,rfl,?_,DPut.k (k:=k1 k) hd hz,?_⟩
 ·rw [← o.val k];exact DGet.k (k:=k1 k) hd
 ·by_cases h:∀u,dO k1 kvs k=some u→v < u
  ·rw [if_pos h];exact q _ _ (o.put k v) (kpt_put k1_inj h) Off.upd upd_same
  ·rw [if_neg h]
   obtain ⟨u,e,l⟩:=not_lt h
   exact q kvs H o (kpt_no e l) (Off.refl _ _) hd
end
def sp_places:Sp:=fun vs H Q _=>∃(l:Addr) (n:Nat) (zs:List V) (rs:List Rw),vs=[.int (n:Nat),.ref l]∧H l=some (.lst zs)∧TupsAt H zs (rowsV rs)∧(Lay n rs∧Asc rs∧n≤240)∧∀q kvs H',New H H' q (.dK kvs)→OkD k1 kvs→Lst (fun k v=>∃ts,Arr (n:Int) 0 rs ts∧hls n 0 rs ts=k∧prc rs ts=v) (dO k1 kvs)→Q (.ref q) H'
def nm1:Key→Nat
 | .inl a=>a.toNat
 | _=>0
theorem okd_len1 {kvs:List (Key×V)} (o:OkD k1 kvs) (h:∀k p,dO k1 kvs k=some p→k < 64):kvs.length≤64:=by
 have hk:∀x∈kvs,∃a:Nat,x.1=.inl (a:Int)∧a < 64:=fun x m=>by
  obtain ⟨k,p,e⟩:=o.all x m
  exact ⟨k,by rw [e];rfl,h k p (o.mem.1 (e▸m))⟩
 have:=nodup_le 64 (kvs.map fun x=>nm1 x.1) ?_ ?_
 ·rw [List.length_map] at this;exact this
 ·have n:=o.nd
  rw [List.Nodup,List.pairwise_map] at n ⊢
  refine n.imp_of_mem fun {x y} hx hy ne e=>?_
  obtain ⟨a,ea,_⟩:=hk x hx
  obtain ⟨b,eb,_⟩:=hk y hy
  rw [ea,eb] at ne e
  have e:a=b:=e
  exact ne (by rw [e])
 ·intro x m
  obtain ⟨y,my,e⟩:=List.mem_map.1 m
  obtain ⟨a,e1,l1⟩:=hk y my
  rw [e1] at e
  have e:a=x:=e
  lia
theorem one_0 (fr:Int):OkD k2 [(k2 (0,0),V.int 0)]∧Lst (fun k v=>Rc fr [] k.1 k.2 v) (dO k2 [(k2 (0,0),V.int 0)]):=by
 have e:∀j,dO k2 [(k2 (0,0),V.int 0)] j=if j=(0,0) then some 0 else none:=fun j=>by
  have:=dO_put (kvs:=[]) k2_inj (0,0) j 0
  rw [dO_nil] at this
  exact this
 refine ⟨okd_nil.put (0,0) 0,lst_rc0 ?_ fun k hk=>?_⟩
 ·rw [e,if_pos rfl]
 ·rw [e,if_neg hk]
theorem rc_keys {fr:Int} {pre:List Rw} {kvs:List (List Key×V)} (hf:0≤fr) (few:pre.length≤40) (o:OkD k2 kvs) (h:Lst (fun k v=>Rc fr pre k.1 k.2 v) (dO k2 kvs)):∀e q p,(k2 (e,q),V.int p)∈kvs→0≤e∧e≤szs pre + fr∧q≤40:=fun e q p m=>by
 have c:=h.1 (e,q) p (o.mem.1 m)
 have c1:=Rc.le hf c
 have c2:=rc_len c
 exact ⟨c1.1,c1.2,by lia⟩
theorem in_bd {fr us e p:Int} {r:Rw} {kvs:List (List Key×V)} {h j m:Nat} {d:Int×Nat→Option Int} (hk:∀e q p,(k2 (e,q),V.int p)∈kvs→0≤e∧e≤us + fr∧q≤40) (bd:us + fr + r.sz≤240) (he:0≤e) (hh:h≤40) (hm:e + (m:Int)≤us + fr + 1) (x:Lst (InS (OuS fr us r (kvs.take j)) r e h p m) d):∀k v,d k=some v→0≤k.1∧k.1≤300∧k.2 < 64:=fun k v q=>by
 have one:∀{e h p t},0≤e→h≤40→e≤t→t≤us + fr→At r e h p t k v→0≤k.1∧k.1≤300∧k.2 < 64:=fun {e h p t} a1 a2 a3 a4 a5=>by
  rw [a5.2.1]
  refine ⟨by show 0≤t + (r.sz:Int);lia,by show t + (r.sz:Int)≤300;lia,?_⟩
  show (h + if e < t then 1 else 0) < 64
  split <;> lia
 rcases x.1 k v q with ⟨e',h',p',t,a1,a2,a3,a4⟩ | ⟨t,a2,a3,a4⟩
 ·have:=hk e' h' p' (List.mem_of_mem_take a1)
  exact one this.1 this.2.2 a2 a3 a4
 ·exact one he hh a2 (by lia) a4
theorem bs_bd {n:Int} {kvs:List (List Key×V)} {j:Nat} {b:Nat→Option Int} (hk:∀e q p,(k2 (e,q),V.int p)∈kvs→q≤40) (x:Lst (BsS n (kvs.take j)) b):∀k v,b k=some v→k < 64:=fun k v q=>by
 obtain ⟨e,h,a1,a2⟩:=x.1 k v q
 have:=hk e h v (List.mem_of_mem_take a1)
 rw [a2]
 split <;> lia
theorem ent_at {kvs:List (List Key×V)} (o:OkD k2 kvs) {i:Nat} {k:List Key} {v:V} (h:kvs[i]?=some (k,v)):∃e q p,k=k2 (e,q)∧v=.int p∧(k2 (e,q),V.int p)∈kvs∧kvs.take (i + 1)=kvs.take i++[(k2 (e,q),V.int p)]:=by
 obtain ⟨⟨e,q⟩,p,z⟩:=o.all _ (List.mem_of_getElem? h)
 cases z
 exact ⟨e,q,p,rfl,rfl,List.mem_of_getElem? h,by rw [List.take_succ,h];rfl⟩
abbrev FzI (a:Addr) (ob:Obj) (u:HO):Im:=.fct (fun H=>H a=some (.frz ob u)) (fun _ _ t h=>t _ _ rfl h)
theorem SH.freeze {H0 H H':Hp} {M:List Addr} {l:Addr} {o u:HO} {ob:Obj} {L:List (Addr×HO)} {I:List Im} (F:SH H0 M H ((l,o)::L) I) (f:Off l H H') (e:H' l=some (.frz ob u)):SH H0 M H' L (FzI l ob u::I):=by
 have hm:=F.mu (l,o) List.mem_cons_self
 have ha:=F.at' (l,o) List.mem_cons_self
 have nd:=List.nodup_cons.mp F.nd
 have st:∀q w,isTup w=true→H q=some w→H' q=some w:=fun q w hw eq=>by
  rw [f q (fun z=>?_)];exact eq
  rw [z] at eq
  have ha:H l=some o:=ha
  rw [ha] at eq
  cases eq
  rw [hm] at hw
  cases hw
 refine ⟨fun b w nb eb=>?_,fun g hg=>?_,fun c hc=>?_,nd.2,fun c hc=>F.mu c (.tail _ hc),fun c hc=>F.ch c (.tail _ hc)⟩
 ·have ne:b≠l:=fun z=>by
   rcases F.ch (l,o) List.mem_cons_self with h | h
   ·exact nb (z▸h)
   ·exact h b w eb z
  rw [f b ne]
  exact F.fr b w nb eb
 ·rcases List.mem_cons.mp hg with rfl | hg
  ·exact e
  ·exact Im.stay st (F.im g hg)
 ·have ne:c.1≠l:=fun z=>nd.1 (List.mem_map.mpr ⟨c,hc,z⟩)
  rw [f _ ne]
  exact F.at' c (.tail _ hc)
instance go_tup22 {K:W.Frag} {H:Hp} {l q:Addr} {σ:L2.St} {n m i0 i1 i2:Nat} {a b c:V} {R:L2.St→Hp→Prop} [h:SqB K H l [.ref q,a]] [h2:SqB K H q [b,c]]:Go (gTup K n (gCons (gTup K m (gCons (gName i0) (gCons (gName i1) gNil))) (gCons (gName i2) gNil)) (.ref l) σ H R) (Sd (n=2) (Sd (m=2) (gName i0 b σ H fun σ1 H1=>gName i1 c σ1 H1 fun σ2 H2=>gName i2 a σ2 H2 R))):=⟨fun s=>by
 obtain ⟨rfl,rfl,s⟩:=s
 exact ⟨l,[.ref q,a],rfl,h.e,rfl,.ref q,[a],rfl,q,[b,c],rfl,h2.e,rfl,b,_,rfl,c,[],rfl,rfl,a,[],rfl,rfl,s⟩⟩
section
variable {P:Program} {w:World} {K:W.Frag} {mg:Str→Option Value} {base:Heap} {c:Nat→Addr} {ct_Linit pt_Linit ct_order pt_order R CL:Addr}
theorem D_kept (T:Txt K mg c R CL ct_Linit pt_Linit ct_order pt_order):Def P w K mg base CX0 1 "_law_kept" ["_law_states", "_law_key", "_law_price"] sp_kept:=by
 refine def_of T.d_kept sc_kept (fun vs H Q E h=>?_) (fun _ _ _ _ _ _=>el3 fun _ _ _=>rfl) (fun f cdv A outer s H vs Q E hr h=>?_)
 ·obtain ⟨p,y,v,o,H4,rfl,_⟩:=h
  rfl
 ·obtain ⟨p,y,v,o,H4,rfl,hg,hp,k⟩:=h
  have nd:=sc_kept.nd
  refine ⟨_,(pss_one (ps_if (PW.pt (pw_or (pt_cmp (pc_dnotin (hu_of hr) (pv 1) (pv 0))) (pw_or1 (pt_cmpR op_lt (pv 2) (pe_dget (hu_of hr) (pv 0) (pv 1) (fun _ _=>rfl)) (nomark _))))) (pss_one (ps_dput (hu_of hr) (pv 0) (pv 1) (pv 2) rfl)) pss_nil)),?_⟩
  clear nd 
  rw [show start ["_law_states", "_law_key", "_law_price"] [.ref p,y,.int v]=[some (.ref p),some (y),some (.int v)] from rfl]
  try dsimp only [cx_K,cx_K2]
  have iL_many:FldOk K CL "many" := ⟨T.clL,T.aL_many⟩
  have iL_rows:FldOk K CL "rows" := ⟨T.clL,T.aL_rows⟩
  have F:SH H [] H [] []:=SH.nil
  repeat k_meth
  refine ⟨p,_,rfl,hg,?_⟩
  cases o with
  | none =>
   rw [if_pos (fun u e=>nomatch e)] at k
   dsimp only [Option.map,Option.isSome,Bool.not_false]
   repeat k_meth
   exact ⟨p,H4,rfl,hp,k⟩
  | some u =>
   dsimp only [Option.map,Option.isSome,Bool.not_true]
   repeat k_meth
   refine ⟨p,_,rfl,hg,?_⟩
   repeat k_meth
   refine i_dec (fun h=>?_) (fun h=>?_)
   ·repeat k_meth
    rw [if_pos (fun w e=>by cases e;exact h)] at k
    exact ⟨p,H4,rfl,hp,k⟩
   ·repeat k_meth
    rw [if_neg (fun z=>h (z u rfl))] at k
    exact k
end
open M22 M87 M88
section
variable {P:Program} {w:World} {K:W.Frag} {mg:Str→Option Value} {base:Heap} {c:Nat→Addr} {ct_Linit pt_Linit ct_order pt_order R CL:Addr}
theorem D_places (T:Txt K mg c R CL ct_Linit pt_Linit ct_order pt_order):Def P w K mg base CX0 2 "_law_places" ["_law_many", "_law_rows_here"] sp_places:=by
 have D_kept:=D_kept (P:=P) (w:=w) (base:=base) T
 refine def_of T.d_places sc_places (fun vs H Q E h=>?_) (fun _ _ _ _ _ _=>el2 fun _ _=>rfl) (fun f cdv A outer s H vs Q E hr h=>?_)
 ·obtain ⟨l,n,zs,rs,rfl,_⟩:=h
  rfl
 ·obtain ⟨l,n,zs,rs,rfl,hl,tp,side,k⟩:=h
  have nd:=sc_places.nd
  refine ⟨_,(pss_cons (ps_set (i:=2) nd rfl (Or.inl rfl) (pe_op op_sub (pv 0) (pe_callB (call_sumL rfl) rfl T.n_sum boot_sum (pa_cons (pe_comp (N:=["_law_row"]) (nt:=1) (fr:=[]) (pi_list (pv 1)) (fun _ _ _ _=>(pg_name (i:=0) (show (["_law_row"]:List Str).Nodup from by decide +kernel) rfl (Or.inl rfl))) (fun _ _ _ _=>pif_nil) (fun _ _ _ _=>(pe_ix (ix_tupK (K:=K) rfl) (pv 0) pe_int (fun _ _=>rfl)))) pa_nil))))
   (pss_cons (ps_set (i:=3) nd rfl (Or.inl rfl) (pe_dict1T (Nat.lt_of_succ_lt (hu_of hr)) (pe_tupA (pa_cons pe_int (pa_cons pe_int pa_nil))) pe_int))
   (pss_cons (ps_set (i:=4) nd rfl (Or.inl rfl) pe_int)
   (pss_cons (ps_for PassesOwn.never rfl (pi_list (pv 1)) (pg_tup rfl (pgs_cons (pg_name (i:=5) nd rfl (Or.inl rfl)) (pgs_cons (pg_name (i:=6) nd rfl (Or.inl rfl)) (pgs_cons (pg_name (i:=7) nd rfl (Or.inl rfl)) (pgs_cons (pg_name (i:=8) nd rfl (Or.inl rfl)) pgs_nil))))) (pss_cons (ps_set (i:=9) nd rfl (Or.inl rfl) pe_dnewT)
    (pss_cons (ps_for PassesOwn.never rfl (pi_items (pv 3)) (pg_tup rfl (pgs_cons (pg_tup rfl (pgs_cons (pg_name (i:=10) nd rfl (Or.inl rfl)) (pgs_cons (pg_name (i:=11) nd rfl (Or.inl rfl)) pgs_nil))) (pgs_cons (pg_name (i:=12) nd rfl (Or.inl rfl)) pgs_nil))) (pss_one (ps_for PassesOwn.never rfl (pi_range2 rfl T.n_range (pa_cons (pv 10) (pa_cons (pe_op op_add (pe_op op_add (pv 4) (pv 2)) pe_int) pa_nil))) (pg_name (i:=13) nd rfl (Or.inl rfl)) (pss_one (ps_if (pt_cmpR op_eq (pv 13) (pv 6) (nomark _)) (pss_one (ps_expr (pe_def D_kept hr (pa_cons (pv 9) (pa_cons (pe_tupA (pa_cons (pe_op op_add (pv 13) (pv 7)) (pa_cons (pe_op op_add (pv 11) (pe_callTy call_intN rfl T.n_int boot_int (pa_cons (pe_cmpR op_gt (pv 13) (pv 10) (nomark _)) pa_nil))) pa_nil))) (pa_cons (pv 12) pa_nil)))))) (pss_one (ps_if (pt_cmpR op_eq (pv 8) pe_int (nomark _)) (pss_one (ps_expr (pe_def D_kept hr (pa_cons (pv 9) (pa_cons (pe_tupA (pa_cons (pe_op op_add (pv 13) (pv 7)) (pa_cons (pe_op op_add (pv 11) (pe_callTy call_intN rfl T.n_int boot_int (pa_cons (pe_cmpR op_gt (pv 13) (pv 10) (nomark _)) pa_nil))) pa_nil))) (pa_cons (pe_op op_add (pv 12) (pv 7)) pa_nil)))))) pss_nil)))))))
    (pss_cons (ps_set (i:=3) nd rfl (Or.inl rfl) (pv 9))
    (pss_one (ps_set (i:=4) nd rfl (Or.inl rfl) (pe_op op_add (pv 4) (pv 7))))))))
   (pss_cons (ps_set (i:=14) nd rfl (Or.inl rfl) pe_dnewK)
   (pss_cons (ps_for PassesOwn.never rfl (pi_items (pv 3)) (pg_tup rfl (pgs_cons (pg_tup rfl (pgs_cons (pg_name (i:=10) nd rfl (Or.inl rfl)) (pgs_cons (pg_name (i:=11) nd rfl (Or.inl rfl)) pgs_nil))) (pgs_cons (pg_name (i:=12) nd rfl (Or.inl rfl)) pgs_nil))) (pss_one (ps_expr (pe_def D_kept hr (pa_cons (pv 14) (pa_cons (pe_op op_add (pv 11) (pe_callTy call_intN rfl T.n_int boot_int (pa_cons (pe_cmpR op_lt (pv 10) (pv 0) (nomark _)) pa_nil))) (pa_cons (pv 12) pa_nil)))))))
   (pss_one (ps_ret (pv 14))))))))),?_⟩
  clear nd D_kept
  rw [show start ["_law_many", "_law_rows_here", "_law_free", "_law_states", "_law_used", "_law_name", "_law_start", "_law_size", "_law_pins", "_law_further", "_law_end", "_law_holes_here", "_law_price", "_law_to", "_law_best"] [.int (n:Nat),.ref l]=[some (.int (n:Nat)),some (.ref l),none,none,none,none,none,none,none,none,none,none,none,none,none] from rfl]
  try dsimp only [cx_K,cx_K2]
  have iL_many:FldOk K CL "many" := ⟨T.clL,T.aL_many⟩
  have iL_rows:FldOk K CL "rows" := ⟨T.clL,T.aL_rows⟩
  have o_hl:=Old.mk (M:=[]) hl nm0
  have o_tp:=OldP.mk tp
  have F:SH H [] H [] []:=SH.nil
  obtain ⟨ly,as,n240⟩:=side
  have few:=ly.few
  have zl:zs.length=rs.length:=by rw [tp.1,rowsV_len]
  have sz240:∀r∈rs,r.sz≤240:=fun r hr=>by have:=(ly.good r hr).le;lia
  repeat k_meth
  refine comp_rows (F:=fun r=>r.getD 2 .non) hatC (TpA.e (rs:=rowsV rs)) (by lia) rfl (fun q r H1 R hr s1 e1 kk=>?_) ?_
  ·clear F
   have F:SH H1 [] H1 [] []:=SH.nil
   obtain ⟨s,_,rfl⟩:=List.mem_map.mp hr
   have o_e1:=Old.mk (M:=[]) e1 nm0
   repeat k_meth
   exact kk _ (Same.refl _)
  have e5:(rowsV rs).map (fun r=>r.getD 2 V.non)=(rs.map fun s=>((s.sz:Nat):Int)).map V.int:=by
   unfold rowsV
   rw [List.map_map,List.map_map]
   rfl
  rw [e5]
  have sideS:(∀n∈rs.map fun s=>((s.sz:Nat):Int),0≤n∧n≤1000000)∧(rs.map fun s=>((s.sz:Nat):Int)).length≤1000000:=by
   refine ⟨fun n hn=>?_,by rw [List.length_map];lia⟩
   obtain ⟨r,hr,rfl⟩:=List.mem_map.mp hn
   have:=sz240 r hr
   lia
  repeat k_meth
  have ok:=ok_of ly as
  obtain ⟨fr,hfr⟩:∃fr:Int,(n:Int) - (rs.map fun s=>((s.sz:Nat):Int)).sum=fr:=⟨_,rfl⟩
  rw [hfr]
  have hn:szs rs + fr=(n:Int):=by unfold szs;lia
  have hf:0≤fr:=by
   have:=szs_fit rs 0 ok.asc (b:=n) (fun r hr=>by have:=ok.bd r hr;lia) (by lia)
   lia
  clear hfr e5 sideS
  intro st0 H0 n0
  replace F:=F.newO n0 rfl
  repeat k_meth
  refine ⟨p_,k2 (0,0),rfl,(hatC:_=some (.tup [.int 0,.int 0])),hatC,fun H1 off e1=>?_⟩
  replace F:=F.off off e1 .head
  repeat k_meth
  refine forL_by (xs:=zs) (fun i σ' H'=>∃(o5 o6 o7 o8 o9 o10 o11 o12 o13 o14:Option V) (st:Addr) (kvs:List (List Key×V)),σ'=[some (.int (n:Nat)),some (.ref l),some (.int fr),some (.ref st),some (.int (szs (rs.take i))),o5,o6,o7,o8,o9,o10,o11,o12,o13,o14]∧OkD k2 kvs∧Lst (fun (k:Int×Nat) v=>Rc fr (rs.take i) k.1 k.2 v) (dO k2 kvs)∧SH H [] H' [(st,.dT kvs)] []) ⟨_,_,_,_,_,_,_,_,_,_,st0,_,rfl,(one_0 fr).1,(one_0 fr).2,F.sub SbC.s SbI.s⟩ ?_ ?_ ?_
  ·clear F
   rintro i σ' H' _ ⟨_,_,_,_,_,_,_,_,_,_,st,kvs,rfl,okk,ls,F⟩
   exact SqA.e
  ·clear F
   rintro i v σ' H' hv ⟨_,_,_,_,_,_,_,_,_,_,st,kvs,rfl,okk,ls,F⟩
   obtain ⟨r,q1,e1,rfl,e2⟩:=rowsV_at tp hv
   have o_e2:=Old.mk (M:=[]) e2 nm0
   have tkr:=take_snocR e1
   have hk:=rc_keys hf (by rw [List.length_take];lia) okk ls
   have bd:szs (rs.take i) + fr + (r.sz:Int)≤240:=by
    have h1:=szs_take rs (i + 1)
    have h2:=szs_nn (rs.drop (i + 1))
    rw [tkr,szs_snoc] at h1
    lia
   have us0:=szs_nn (rs.take i)
   obtain ⟨us,hus⟩:∃us,us=szs (rs.take i):=⟨_,rfl⟩
   rw [← hus] at hk bd us0 ⊢
   repeat k_meth
   refine w_dnewT fun fu Hf nf=>?_
   replace F:=F.newO nf rfl
   repeat k_meth
   refine itemsT_by hatC fun ob Ho offo eo=>?_
   replace F:=SH.freeze (SH.perm F (List.Perm.swap ..)) offo eo
   refine forDT_by (fun j σ' H'=>∃(o10 o11 o12 o13 o14:Option V) (kv2:List (List Key×V)),σ'=[some (.int (n:Nat)),some (.ref l),some (.int fr),some (.ref st),some (.int us),some (.str (tx r.nm)),some (.int (r.st:Nat)),some (.int (r.sz:Nat)),some (.int (r.pn:Nat)),some (.ref fu),o10,o11,o12,o13,o14]∧OkD k2 kv2∧Lst (OuS fr us r (kvs.take j)) (dO k2 kv2)∧SH H [] H' [(fu,.dT kv2)] [FzI st ob (.dT kvs)]) ⟨_,_,_,_,_,[],rfl,okd_nil,ou_0,F⟩ ?_ ?_ ?_
   ·clear F
    rintro j σ' H' _ ⟨_,_,_,_,_,kv2,rfl,ok2,l2,F⟩
    exact F.im (FzI st ob (.dT kvs)) List.mem_cons_self
   ·clear F
    rintro j b kk v Tq σ' H' H2 hkv ⟨_,_,_,_,_,kv2,rfl,ok2,l2,F⟩ hb nw
    obtain ⟨e,h,p,rfl,rfl,hmem,tkk⟩:=ent_at okk hkv
    have hb:H' b=some (.tup [.int e,.int (h:Int)]):=hb
    obtain ⟨he0,he1,hh⟩:=hk e h p hmem
    replace F:=(F.addT hb).newT nw
    repeat k_meth
    refine forR_by (lo:=e) (fun m σ' H'=>∃(o13 o14:Option V) (kv3:List (List Key×V)),σ'=[some (.int (n:Nat)),some (.ref l),some (.int fr),some (.ref st),some (.int us),some (.str (tx r.nm)),some (.int (r.st:Nat)),some (.int (r.sz:Nat)),some (.int (r.pn:Nat)),some (.ref fu),some (.int e),some (.int (h:Nat)),some (.int p),o13,o14]∧OkD k2 kv3∧Lst (InS (OuS fr us r (kvs.take j)) r e h p m) (dO k2 kv3)∧SH H [] H' [(fu,.dT kv3)] [FzI st ob (.dT kvs)]) ⟨_,_,kv2,rfl,ok2,in_0 l2,F.sub SbC.s SbI.s⟩ ?_ ?_
    ·clear F
     rintro m σ' H' hm ⟨_,_,kv3,rfl,ok3,l3,F⟩
     have ek:((h:Int) + if decide (e < e + (m:Int))=true then 1 else 0)=((h + if e < e + (m:Int) then 1 else 0:Nat):Int):=by
      by_cases c:e < e + (m:Int)
      ·rw [if_pos (decide_eq_true c),if_pos c];rfl
      ·rw [if_neg (fun z=>c (of_decide_eq_true z)),if_neg c];rfl
     have bdk:=okd_len ok3 (in_bd hk bd he0 hh (by lia) l3)
     repeat k_meth
     refine i_dec (fun h1=>?_) (fun h1=>?_)
     ·repeat k_meth
      rw [ek] at F
      refine keptT (k:=(e + (m:Int) + (r.sz:Int),h + if e < e + (m:Int) then 1 else 0)) hatC hatC ok3 (by rw [sizeLine_eq];lia) fun kv4 H4 ok4 kp off4 e4=>?_
      replace F:=F.off off4 e4 .head
      repeat k_meth
      exact ⟨_,_,kv4,rfl,ok4,in_put l3 ⟨fun _=>h1,rfl,by rw [if_pos h1];lia⟩ kp,F.sub SbC.s SbI.s⟩
     ·repeat k_meth
      refine i_dec (fun h2=>?_) (fun h2=>?_)
      ·repeat k_meth
       rw [ek] at F
       refine keptT (k:=(e + (m:Int) + (r.sz:Int),h + if e < e + (m:Int) then 1 else 0)) hatC hatC ok3 (by rw [sizeLine_eq];lia) fun kv4 H4 ok4 kp off4 e4=>?_
       replace F:=F.off off4 e4 .head
       repeat k_meth
       exact ⟨_,_,kv4,rfl,ok4,in_put l3 ⟨fun z=>by lia,rfl,by rw [if_neg h1]⟩ kp,F.sub SbC.s SbI.s⟩
      ·repeat k_meth
       exact ⟨_,_,kv3,rfl,ok3,in_skip l3 (by lia) h1,F.sub SbC.s SbI.s⟩
    ·clear F
     rintro σ' H' ⟨_,_,kv3,rfl,ok3,l3,F⟩
     repeat k_meth
     exact ⟨_,_,_,_,_,kv3,rfl,ok3,by rw [tkk];exact ou_1 (by lia) l3,F⟩
   ·clear F
    rintro σ' H' ⟨_,_,_,_,_,kv2,rfl,ok2,l2,F⟩
    rw [List.take_length] at l2
    repeat k_meth
    refine ⟨_,_,_,_,_,_,_,_,_,_,fu,kv2,by rw [tkr,szs_snoc,hus],ok2,?_,F.sub SbC.s SbI.s⟩
    rw [tkr]
    rw [hus] at l2
    exact lst_rc ls (ou_end okk l2)
  ·clear F
   rintro σ' H' ⟨_,_,_,_,_,_,_,_,_,_,st,kvs,rfl,okk,ls,F⟩
   rw [zl,List.take_length] at ls
   have hk:=rc_keys hf few okk ls
   repeat k_meth
   rename Addr=>be
   refine itemsT_by hatC fun ob Ho offo eo=>?_
   replace F:=SH.freeze (SH.perm F (List.Perm.swap ..)) offo eo
   refine forDT_by (fun j σ' H'=>∃(o4 o5 o6 o7 o8 o9 o10 o11 o12 o13:Option V) (kb:List (Key×V)),σ'=[some (.int (n:Nat)),some (.ref l),some (.int fr),some (.ref st),o4,o5,o6,o7,o8,o9,o10,o11,o12,o13,some (.ref be)]∧OkD k1 kb∧Lst (BsS n (kvs.take j)) (dO k1 kb)∧SH H [] H' [(be,.dK kb)] [FzI st ob (.dT kvs)]) ⟨_,_,_,_,_,_,_,_,_,_,[],rfl,okd_nil,bs_0,F⟩ ?_ ?_ ?_
   ·clear F
    rintro j σ' H' _ ⟨_,_,_,_,_,_,_,_,_,_,kb,rfl,okb,lb,F⟩
    exact F.im (FzI st ob (.dT kvs)) List.mem_cons_self
   ·clear F
    rintro j b kk v Tq σ' H' H2 hkv ⟨_,_,_,_,_,_,_,_,_,_,kb,rfl,okb,lb,F⟩ hb nw
    obtain ⟨e,h,p,rfl,rfl,hmem,tkk⟩:=ent_at okk hkv
    have hb:H' b=some (.tup [.int e,.int (h:Int)]):=hb
    obtain ⟨he0,he1,hh⟩:=hk e h p hmem
    have ek:((h:Int) + if decide (e < (n:Int))=true then 1 else 0)=((h + if e < (n:Int) then 1 else 0:Nat):Int):=by
     by_cases c:e < (n:Int)
     ·rw [if_pos (decide_eq_true c),if_pos c];rfl
     ·rw [if_neg (fun z=>c (of_decide_eq_true z)),if_neg c];rfl
    have bdk:=okd_len1 okb (bs_bd (fun e q p m=>(hk e q p m).2.2) lb)
    replace F:=(F.addT hb).newT nw
    repeat k_meth
    rw [ek]
    refine keptK hatC okb (by rw [sizeLine_eq];lia) fun kb' H4 ok4 kp off4 e4=>?_
    replace F:=F.off off4 e4 .head
    repeat k_meth
    exact ⟨_,_,_,_,_,_,_,_,_,_,kb',rfl,ok4,by rw [tkk];exact bs_1 lb kp,F.sub SbC.s SbI.s⟩
   ·clear F
    rintro σ' H' ⟨_,_,_,_,_,_,_,_,_,_,kb,rfl,okb,lb,F⟩
    rw [List.take_length] at lb
    repeat k_meth
    exact k be kb _ SH.nwC okb (lst_all hf hn ls (bs_end okk lb))
end
open M22 M82 M87
theorem ord_perm (L:List Sp2):(ordJ L).Perm (mv L):=by
 have h:∀L:List Sp2,(ml L++mr L).Perm (mv L):=by
  intro L
  induction L with
  | nil=>exact List.Perm.refl _
  | cons s L ih =>
   unfold ml mr mv at *
   by_cases q:s.2 < (s.1.st:Int)
   ·rw [List.filter_cons_of_pos (by simpa using q),List.filter_cons_of_neg (by simp;lia),List.filter_cons_of_pos (by simp;lia)]
    exact ih.cons s
   ·by_cases q2:(s.1.st:Int) < s.2
    ·rw [List.filter_cons_of_neg (by simpa using q),List.filter_cons_of_pos (by simpa using q2),List.filter_cons_of_pos (by simp;lia)]
     exact List.perm_middle.trans (ih.cons s)
    ·rw [List.filter_cons_of_neg (by simpa using q),List.filter_cons_of_neg (by simpa using q2),List.filter_cons_of_neg (by simp;lia)]
     exact ih
 exact ((List.reverse_perm _).append_left _).trans (h L)
theorem Jof_nn {n:Nat} {rs:List Rw} (ok:OkA 0 n rs):ChS n 0 (Jof n rs)∧∀s∈Jof n rs,0≤s.2:=by
 have h:=allJ_ch ok rs [] [] 0 rfl (fun _ h=>by cases h) (fun s _=>by lia) (by lia)
 exact ⟨h,fun s hs=>(ChS.le h).2 s hs |>.1⟩
theorem Jof_pin (n:Nat) (rs:List Rw):∀s∈Jof n rs,0 < s.1.pn→s.2=(s.1.st:Int):=allJ_pin n rs 0 [] (fun _ h=>by cases h)
theorem mvs_eq {n:Nat} {rs:List Rw} (ok:OkA 0 n rs):movesV (ordJ (Jof n rs))=mvsV (tdyM (Jof n rs)):=by
 have h:=tdy_told (Jof_nn ok).2
 have g:∀ss:List Sp2,movesV ss=(ss.map fun s=>(s.1.nm,s.2)).map fun p:List Nat×Int=>[V.str (tx p.1),V.int p.2]:=fun ss=>by unfold movesV;rw [List.map_map];rfl
 rw [g,← h,List.map_map]
 rfl
theorem tdy_ok {n:Nat} {rs:List Rw} (ly:Lay n rs) (as:Asc rs):WkOk n rs (tdyM (Jof n rs))∧((wPrice rs (tdyM (Jof n rs)):Nat):Int)=pri (Jof n rs):=by
 have ok:=ok_of ly as
 obtain ⟨ch,nn⟩:=Jof_nn ok
 have e:=Jof_fst n rs
 have okJ:OkA 0 n ((Jof n rs).map (·.1)):=by rw [e];exact ok
 have w:=tdy_walk ch okJ (Jof_pin n rs)
 have pr:=tdy_price ch okJ (Jof_pin n rs)
 rw [e] at w pr
 have told:=tdy_told nn
 have hl:(tdyM (Jof n rs)).length=(ordJ (Jof n rs)).length:=by have:=congrArg List.length told;rwa [List.length_map,List.length_map] at this
 have ol:=ordJ_len (Jof n rs)
 rw [Jof_len] at ol
 have nd:=nms_nd ly
 refine ⟨⟨ly.few,by have:=ly.few;lia,w.1,?_,nd⟩,pr⟩
 have en:(tdyM (Jof n rs)).map (·.2.1)=(ordJ (Jof n rs)).map (·.1.nm):=by
  have:=congrArg (List.map Prod.fst) told
  rw [List.map_map,List.map_map] at this
  exact this
 rw [en,((ord_perm (Jof n rs)).map _).nodup_iff]
 refine List.Nodup.sublist (List.filter_sublist.map _) ?_
 rw [show (Jof n rs).map (fun s=>s.1.nm)=((Jof n rs).map (·.1)).map (·.nm) by rw [List.map_map];rfl,e]
 exact nd
theorem dnM_nm (rs:List Rw):∀k e,((dnM k e rs).map (·.2.1)).Sublist (rs.map (·.nm)):=by
 induction rs with
 | nil=>intro k e;exact List.Sublist.slnil
 | cons r rs ih =>
  intro k e
  rw [dnM]
  split
  ·exact (ih _ _).cons _
  ·exact (ih _ _).cons₂ _
theorem upM_nm (rs:List Rw):∀b,((upM b rs).map (·.2.1)).Sublist (rs.map (·.nm)):=by
 induction rs with
 | nil=>intro b;exact List.Sublist.slnil
 | cons r rs ih =>
  intro b
  rw [upM]
  split
  ·exact (ih _).cons _
  ·exact (ih _).cons₂ _
theorem wk_of {n:Nat} {rs:List Rw} (ly:Lay n rs) (as:Asc rs) (d:Bool):WkOk n rs (packM d n rs):=by
 have nd:=nms_nd ly
 have sb:((packM d n rs).map (·.2.1)).Nodup∧((packM d n rs).map (·.2.1)).length≤rs.length:=by
  cases d with
  | true =>
   have:=dnM_nm rs 0 0
   exact ⟨nd.sublist this,by have:=this.length_le;simpa [packM] using this⟩
  | false =>
   have:=upM_nm rs.reverse n
   refine ⟨List.Nodup.sublist this ?_,by have:=this.length_le;simpa [packM] using this⟩
   rw [List.map_reverse]
   exact List.pairwise_reverse.mpr (nd.imp Ne.symm)
 exact ⟨ly.few,by have:=sb.2;rw [List.length_map] at this;have:=ly.few;lia,(pack_walk d (ok_of ly as)).1,sb.1,nd⟩
open M88
section
variable {K:W.Frag} {l:Addr} {H:Hp} {Q:VK} {E:XK} {n:Nat} {zs:List V} {rs:List Rw}
instance go_places [h:Hat H l (.lst zs)] [t:TpA H zs (rowsV rs)]:Go (sp_places [.int (n:Nat),.ref l] H Q E) (Sd (Lay n rs∧Asc rs∧n≤240) (∀q kvs H',New H H' q (.dK kvs)→M88.OkD k1 kvs→Lst (fun k v=>∃ts,Arr (n:Int) 0 rs ts∧hls n 0 rs ts=k∧prc rs ts=v) (dO k1 kvs)→Q (.ref q) H')):=⟨fun s=>⟨l,n,zs,rs,rfl,h.e,t.e,s.1,s.2⟩⟩
end
theorem okd_keys {kb:List (Key×V)} (o:M88.OkD k1 kb):kb.map (·.1)=(kb.map fun x=>((nm1 x.1:Nat):Int)).map Sum.inl∧(∀x∈kb.map (fun x=>((nm1 x.1:Nat):Int)),∃k p,x=((k:Nat):Int)∧dO k1 kb k=some p)∧∀k p,dO k1 kb k=some p→((k:Nat):Int)∈kb.map fun x=>((nm1 x.1:Nat):Int):=by
 refine ⟨?_,fun x hx=>?_,fun k p h=>?_⟩
 ·rw [List.map_map]
  refine List.map_congr_left fun x hx=>?_
  obtain ⟨k,p,rfl⟩:=o.all x hx
  rfl
 ·obtain ⟨y,hy,rfl⟩:=List.mem_map.mp hx
  obtain ⟨k,p,rfl⟩:=o.all y hy
  exact ⟨k,p,rfl,o.mem.1 hy⟩
 ·exact List.mem_map.mpr ⟨_,o.mem.2 h,rfl⟩
theorem minI_is {ns:List Int} {c:Int} (m:c∈ns) (l:∀x∈ns,c≤x):minI (ns.getD 0 0) ns=c:=by
 refine fold_min ns _ l ?_ (.inl m)
 cases ns with
 | nil=>exact nomatch m
 | cons x ns=>exact l x List.mem_cons_self
theorem min_best {H:Hp} {Q:VK} {be:Addr} {n:Nat} {rs:List Rw} {kb:List (Key×V)} (ok:OkA 0 n rs) (hb:H be=some (.dK kb)) (o:M88.OkD k1 kb) (l:Lst (fun k v=>∃ts,Arr (n:Int) 0 rs ts∧hls n 0 rs ts=k∧prc rs ts=v) (dO k1 kb)) (q:Q (.int (cnt (strB n 0 [] rs):Nat)) H):rMinDK [.ref be] H Q:=by
 have op:=lst_opt (fit_of ok) l
 obtain ⟨e1,e2,e3⟩:=okd_keys o
 have hm:=e3 _ _ op.1
 refine ⟨be,kb,_,rfl,hb,e1,List.ne_nil_of_mem hm,?_⟩
 rw [minI_is hm fun x hx=>?_]
 ·exact q
 ·obtain ⟨k,p,rfl,e⟩:=e2 x hx
  have:=op.2 k p e
  lia
theorem best_at {H:Hp} {be:Addr} {n:Nat} {rs:List Rw} {kb:List (Key×V)} (ok:OkA 0 n rs) (hb:H be=some (.dK kb)) (o:M88.OkD k1 kb) (l:Lst (fun k v=>∃ts,Arr (n:Int) 0 rs ts∧hls n 0 rs ts=k∧prc rs ts=v) (dO k1 kb)):DGet H be (.int (cnt (strB n 0 [] rs):Nat)) (some (.int (pri (Jof n rs)))):=by
 have op:=lst_opt (fit_of ok) l
 have e:=o.val (cnt (strB n 0 [] rs))
 rw [op.1] at e
 have g:=DGet.k (k:=k1 (cnt (strB n 0 [] rs))) hb
 rw [e] at g
 exact g
theorem few_cnt {n:Nat} {rs:List Rw} (ok:OkA 0 n rs):fewF n rs=cnt (strB n 0 [] rs):=by
 unfold fewF
 rw [strF_G ok,cnt_str]
def sp_law (P P2:Addr) (K:W.Frag):Sp:=fun vs H Q _=>∃(a:Addr) (ns:List Int),vs=[.ref a]∧SqL K H a (ns.map V.int)∧ns.length≤63∧H P=some (.tbl #[])∧a≠P∧H P2=some (.tbl #[])∧a≠P2∧∀H',Q (.bl true) H'
theorem nm2 {a b x:Addr} (h1:x≠a) (h2:x≠b):x ∉ [a,b]:=fun z=>by
 rcases List.mem_cons.mp z with z | z
 ·exact h1 z
 ·exact h2 (List.mem_singleton.mp z)
section
variable {P:Program} {w:World} {K:W.Frag} {mg:Str→Option Value} {base:Heap} {c:Nat→Addr} {ct_Linit pt_Linit ct_order pt_order R CL:Addr}
theorem ok_law (T:Txt K mg c R CL ct_Linit pt_Linit ct_order pt_order) (B:Bm mg base) {f:Addr} {fd:FuncData} (F:Fun K "law" "law" s_law f fd):FnOk P w K mg base CX0 8 f fd ["_law_script"] (sp_law pt_Linit pt_order K):=by
 have D_box:=D_box (P:=P) (w:=w) (base:=base) T
 have D_rows:=D_rows (P:=P) (w:=w) (base:=base) T
 have MK_Linit:=MK_Linit (P:=P) (w:=w) (base:=base) T B
 have D_places:=D_places (P:=P) (w:=w) (base:=base) T
 have D_fewest:=D_fewest (P:=P) (w:=w) (base:=base) T
 have D_tidied:=D_tidied (P:=P) (w:=w) (base:=base) T B
 have D_walk:=D_walk (P:=P) (w:=w) (base:=base) T
 have D_cell_at:=D_cell_at (P:=P) (w:=w) (base:=base) T
 have D_take:=D_take (P:=P) (w:=w) (base:=base) T
 have D_lwhole:=D_lwhole (P:=P) (w:=w) (base:=base) T
 have D_lholes:=D_lholes (P:=P) (w:=w) (base:=base) T
 obtain ⟨_,D_packed⟩:=D_packed (P:=P) (w:=w) (base:=base) T
 refine fnok_of F sc_law (fun vs H Q E h=>?_) (fun cdv A outer s H vs Q E hr h=>?_)
 ·obtain ⟨a,ns,rfl,_⟩:=h
  rfl
 ·obtain ⟨a,ns,rfl,hS,hl,hP,hne,hP2,hne2,k⟩:=h
  have nd:=sc_law.nd
  refine ⟨_,(pss_cons (ps_for PassesOwn.never rfl (pi_range1 rfl T.n_range (pa_cons (pe_callB (call_maxN rfl) rfl T.n_max boot_max (pa_cons pe_int (pa_cons (pe_callB (call_minN rfl) rfl T.n_min boot_min (pa_cons (pe_callB call_lenN rfl T.n_len boot_len (pa_cons (pv 0) pa_nil)) (pa_cons pe_int pa_nil))) pa_nil))) pa_nil)) (pg_name (i:=1) nd rfl (Or.inl rfl)) (pss_cons (ps_set (i:=2) nd rfl (Or.inl rfl) (pe_def D_box hr (pa_cons (pe_def D_cell_at hr (pa_cons (pv 0) (pa_cons (pv 1) pa_nil))) pa_nil)))
    (pss_cons (ps_set (i:=3) nd rfl (Or.inl rfl) (pe_ix ix_list (pe_lstA (pa_cons pe_int (pa_cons (pe_op op_add pe_int (pe_def D_take hr (pa_cons (pv 2) (pa_cons pe_int pa_nil)))) (pa_cons (pe_op op_add pe_int (pe_def D_take hr (pa_cons (pv 2) (pa_cons pe_int pa_nil)))) pa_nil)))) (pe_def D_take hr (pa_cons (pv 2) (pa_cons pe_int pa_nil))) (fun _ _=>rfl)))
    (pss_cons (ps_set (i:=4) nd rfl (Or.inl rfl) (pe_def D_rows hr (pa_cons (pv 2) (pa_cons (pv 3) pa_nil))))
    (pss_cons (ps_set (i:=5) nd rfl (Or.inl rfl) (pe_makB MK_Linit hr (pa_cons (pv 3) (pa_cons (pv 4) pa_nil))))
    (pss_cons (ps_set (i:=6) nd rfl (Or.inl rfl) (pe_def D_places hr (pa_cons (pv 3) (pa_cons (pv 4) pa_nil))))
    (pss_cons (ps_set (i:=7) nd rfl (Or.inl rfl) (pe_callB (call_minDK rfl) rfl T.n_min boot_min (pa_cons (pv 6) pa_nil)))
    (pss_cons (ps_set (i:=8) nd rfl (Or.inl rfl) (pe_def D_fewest hr (pa_cons (pv 5) pa_nil)))
    (pss_cons (ps_if (PW.pt (pw_or (pt_not (pt_val (pe_def D_lwhole hr (pa_cons (pv 8) pa_nil)))) (pw_or1 (pt_cmpR op_ne (pv 8) (pv 7) (nomark _))))) (pss_one (ps_ret pe_bl)) pss_nil)
    (pss_cons (ps_asg (pe_def D_tidied hr (pa_cons (pv 5) pa_nil)) (pg_tup rfl (pgs_cons (pg_name (i:=9) nd rfl (Or.inl rfl)) (pgs_cons (pg_name (i:=10) nd rfl (Or.inl rfl)) pgs_nil))))
    (pss_cons (ps_set (i:=11) nd rfl (Or.inl rfl) (pe_def D_walk hr (pa_cons (pv 3) (pa_cons (pv 4) (pa_cons (pv 10) pa_nil)))))
    (pss_cons (ps_if (PW.pt (pw_or (pt_not (pt_val (pe_def D_lwhole hr (pa_cons (pv 9) pa_nil)))) (pw_or (pt_cmpR op_ne (pv 9) (pe_dget (hu_of hr) (pv 6) (pv 7) (fun _ _=>rfl)) (nomark _)) (pw_or (pt_cmpR op_isNN (pv 11) pe_non (nomark _)) (pw_or1 (pt_cmpR op_ne (pe_ix ix_tup (pv 11) pe_int (fun _ _=>rfl)) (pv 9) (nomark _))))))) (pss_one (ps_ret pe_bl)) pss_nil)
    (pss_cons (ps_if (pt_cmpR op_ne (pe_callB call_lenN rfl T.n_len boot_len (pa_cons (pe_def D_lholes hr (pa_cons (pv 3) (pa_cons (pe_ix ix_tup (pv 11) pe_int (fun _ _=>rfl)) pa_nil))) pa_nil)) (pv 7) (nomark _)) (pss_one (ps_ret pe_bl)) pss_nil)
    (pss_one (ps_for PassesOwn.never rfl (pi_list (pe_lstA (pa_cons pe_str (pa_cons pe_str pa_nil)))) (pg_name (i:=12) nd rfl (Or.inl rfl)) (pss_cons (ps_set (i:=13) nd rfl (Or.inl rfl) (pe_def D_walk hr (pa_cons (pv 3) (pa_cons (pv 4) (pa_cons (pe_def D_packed.all hr (pa_cons (pv 5) (pa_cons (pv 12) pa_nil))) pa_nil)))))
     (pss_one (ps_if (PW.pt (pw_or (pt_cmpR op_isNN (pv 13) pe_non (nomark _)) (pw_or (pt_cmpR op_lt (pe_ix ix_tup (pv 13) pe_int (fun _ _=>rfl)) (pv 9) (nomark _)) (pw_or1 (pt_cmpR op_ne (pe_callB call_lenN rfl T.n_len boot_len (pa_cons (pe_def D_lholes hr (pa_cons (pv 3) (pa_cons (pe_ix ix_tup (pv 13) pe_int (fun _ _=>rfl)) pa_nil))) pa_nil)) (pv 7) (nomark _)))))) (pss_one (ps_ret pe_bl)) pss_nil))))))))))))))))))
   (pss_one (ps_ret pe_bl))),?_⟩
  clear nd D_box D_rows MK_Linit D_places D_fewest D_tidied D_walk D_cell_at D_take D_lwhole D_lholes
  rw [show start ["_law_script", "_law_k", "_law_well_here", "_law_many", "_law_rows_here", "_law_layout", "_law_best", "_law_few", "_law_told", "_law_price", "_law_moves", "_law_walk_here", "_law_way", "_law_other"] [.ref a]=[some (.ref a),none,none,none,none,none,none,none,none,none,none,none,none,none] from rfl]
  try dsimp only [cx_K,cx_K2]
  have iL_many:FldOk K CL "many" := ⟨T.clL,T.aL_many⟩
  have iL_rows:FldOk K CL "rows" := ⟨T.clL,T.aL_rows⟩
  have tne:=T.tne
  have F:SH H [pt_Linit,pt_order] H [(pt_Linit,.tbl #[]),(pt_order,.tbl #[])] [TabI lamPos lamQual #[],TabI lamPos2 lamQual2 #[]]:=(((SH.nil.addM (List.mem_cons_of_mem _ List.mem_cons_self) hP2 rfl (by simp)).addM List.mem_cons_self hP rfl (by simp [Ne.symm tne])).addF (.inl rfl)).addF (.inl rfl)
  have o_hS:=OldQ.mk (M:=[pt_Linit,pt_order]) hS (nm2 hne hne2)
  have nud:¬ (("up" : Str) = "down"):=by decide
  repeat k_meth
  generalize (max 1 (min ((ns.map V.int).length:Int) 4)).toNat=N
  refine forR0_by (fun i σ' H'=>∃(o1 o2 o3 o4 o5 o6 o7 o8 o9 o10 o11 o12 o13:Option V) (ps po:Array Value),σ'=[some (.ref a),o1,o2,o3,o4,o5,o6,o7,o8,o9,o10,o11,o12,o13]∧SH H [pt_Linit,pt_order] H' [(pt_Linit,.tbl ps),(pt_order,.tbl po)] [TabI lamPos lamQual ps,TabI lamPos2 lamQual2 po]) ⟨_,_,_,_,_,_,_,_,_,_,_,_,_,#[],#[],rfl,F⟩ ?_ ?_
  ·clear F
   rintro i σ' H' hi ⟨_,_,_,_,_,_,_,_,_,_,_,_,_,ps,po,rfl,F⟩
   repeat k_meth
   refine w_ixM SqA.e lo_ hi_ fun v hv=>?_
   obtain ⟨n,rfl,h16,h240⟩:=pickL3 (lo:=16) (hi:=241) hv (by lia)
   clear hv
   have sd0:16≤n∧n≤240:=by lia
   have n240:n≤240:=by lia
   repeat k_meth
   intro rs ly as
   have ok:=ok_of ly as
   have few:=ly.few
   have la:LayA n rs rs:=⟨List.Perm.refl _,ly,as⟩
   repeat k_meth
   obtain ⟨rwA,e⟩:∃x,x=p_:=⟨_,rfl⟩
   subst e
   obtain ⟨yr,e⟩:∃x,x=ys_:=⟨_,rfl⟩
   subst e
   intro ps2
   have sdl:Lay n rs∧Asc rs∧n≤240:=⟨ly,as,n240⟩
   have sdf:rs.length≤40∧∀r∈rs,r.sz≤240:=⟨few,fun r hr=>by have:=(ly.good r hr).le;lia⟩
   repeat k_meth
   obtain ⟨pz,e⟩:∃x,x=p_:=⟨_,rfl⟩
   subst e
   obtain ⟨yz,e⟩:∃x,x=ys_:=⟨_,rfl⟩
   subst e
   intro be kb Hb nb okb lb
   replace F:=F.newO nb rfl
   repeat k_meth
   refine min_best ok hatC okb lb ?_
   have fc:=few_cnt ok
   repeat k_meth
   have F0:SH H [pt_Linit,pt_order] _ [(pt_order,.tbl po),(pz,.lst yz),(x_,.ins CL dx_ (lF n pz)),(rwA,.lst yr),(be,.dK kb),(pt_Linit,.tbl ps2)] [TabI lamPos2 lamQual2 po,.tps yz (rowsV rs),.tps yr (rowsV rs),TabI lamPos lamQual ps2]:=F.sub SbC.s SbI.s
   have F1:SH H [pt_Linit,pt_order] _ ([(pt_order,.tbl po)]++[(pz,.lst yz),(x_,.ins CL dx_ (lF n pz)),(rwA,.lst yr),(be,.dK kb),(pt_Linit,.tbl ps2)]) [TabI lamPos2 lamQual2 po,.tps yz (rowsV rs),.tps yr (rowsV rs),TabI lamPos lamQual ps2]:=F0
   refine ⟨x_,pz,dx_,n,yz,rs,po,rfl,(SH.cut F1 rfl).addF (F1.im (TabI lamPos2 lamQual2 po) (by simp)),SH.neC (F:=F),SH.neC (F:=F),hatC,hatC,TpA.e,sdl,fun t mA ym po' H2 G=>?_⟩
   have F2:=SH.over F1 G rfl
   clear F F0 F1
   simp only [List.cons_append,List.nil_append] at F2
   obtain ⟨wk,pe⟩:=tdy_ok ly as
   have th:(holG n 0 (wEnd rs (tdyM (Jof n rs)))).length=cnt (strB n 0 [] rs):=tdy_holes ok (Jof_nn ok).1 (Jof_pin n rs)
   have wl:=sim_len (sim_end wk.ok)
   have F:SH H [pt_Linit,pt_order] H2 _ _:=F2
   clear F2 G
   rw [mvs_eq ok] at F
   repeat k_meth
   refine ⟨be,_,rfl,best_at ok hatC okb lb,?_⟩
   rw [pe] at F
   repeat k_meth
   obtain ⟨lsA,e⟩:∃x,x=p_:=⟨_,rfl⟩
   subst e
   have low:=fun d=>pack_low ok d
   have pw:=fun d=>(pack_walk d ok).2
   refine forL_by (xs:=[V.str "down", V.str "up"]) (fun j σ' H'=>∃o1 o2 o6 o8 o10 o11 o12 o13:Option V,σ'=[some (.ref a),o1,o2,some (.int (n:Nat)),some (.ref rwA),some (.ref x_),o6,some (.int (cnt (strB n 0 [] rs):Nat)),o8,some (.int (pri (Jof n rs))),o10,o11,o12,o13]∧SH H [pt_Linit,pt_order] H' [(lsA,.lst [V.str "down", V.str "up"]),(pt_order,.tbl po'),(pz,.lst yz),(x_,.ins CL dx_ (lF n pz)),(rwA,.lst yr),(pt_Linit,.tbl ps2)] [TabI lamPos2 lamQual2 po',.tps yz (rowsV rs),.tps yr (rowsV rs),TabI lamPos lamQual ps2]) ⟨_,_,_,_,_,_,_,_,rfl,F.sub SbC.s SbI.s⟩ ?_ ?_ ?_
   ·clear F
    rintro j σ' H' _ ⟨_,_,_,_,_,_,_,_,rfl,F⟩
    exact SqA.e
   ·clear F
    rintro j v σ' H' hv ⟨_,_,_,_,_,_,_,_,rfl,F⟩
    rcases (show v=.str "down" ∨ v=.str "up" from by have:=List.mem_of_getElem? hv;simpa using this) with rfl | rfl
    ·have wk2:=wk_of ly as true
     have lo2:pri (Jof n rs)≤(wPrice rs (packM true n rs):Nat):=(low true).2
     have lo3:(holG n 0 (wEnd rs (packM true n rs))).length=cnt (strB n 0 [] rs):=by rw [pw true];exact (low true).1
     have wl2:=sim_len (sim_end wk2.ok)
     repeat k_meth
     rw [pack_mv true ok] at F
     repeat k_meth
     exact ⟨_,_,_,_,_,_,_,_,rfl,F.sub SbC.s SbI.s⟩
    ·have wk2:=wk_of ly as false
     have lo2:pri (Jof n rs)≤(wPrice rs (packM false n rs):Nat):=(low false).2
     have lo3:(holG n 0 (wEnd rs (packM false n rs))).length=cnt (strB n 0 [] rs):=by rw [pw false];exact (low false).1
     have wl2:=sim_len (sim_end wk2.ok)
     repeat k_meth
     rw [pack_mv false ok] at F
     repeat k_meth
     exact ⟨_,_,_,_,_,_,_,_,rfl,F.sub SbC.s SbI.s⟩
   ·clear F
    rintro σ' H' ⟨_,_,_,_,_,_,_,_,rfl,F⟩
    repeat k_meth
    exact ⟨_,_,_,_,_,_,_,_,_,_,_,_,_,ps2,po',rfl,F.sub SbC.s SbI.s⟩
  ·clear F
   rintro σ' H' ⟨_,_,_,_,_,_,_,_,_,_,_,_,_,ps,po,rfl,F⟩
   repeat k_meth
   exact k _
end
end K88
namespace K88
open PySem L2 PyProof.Rows
abbrev LkH (K:W.Frag) (g:Addr) (m q:Str) (st:Stmt) (xd xn:Option Addr) (xs:Array (Option Value)) (xo xk xe xp xc xt:Value):Prop:=K.lookup g=some ⟨xo,xd,.func (W.fnOf m q (defArgs st) (defBody st) (defScope st) .none xk xe xp xn xc xt),xs⟩∧W.codeIn K xc q=true∧W.keepIn K (.ref g)=true
abbrev DfH (K:W.Frag) (m:Str) (st:Stmt):Prop:=∃g xd xn xs xo xk xe xp xc xt,W.nsIn K mainGlobals m=some (some (.ref g))∧LkH K g m m st xd xn xs xo xk xe xp xc xt
abbrev MeH (K:W.Frag) (C:Addr) (m q:Str) (st:Stmt):Prop:=∃g xd xn xs xo xk xe xp xc xt,W.findIn K (.ref C) m=some (some (.ref g))∧W.isFn K (.ref g)=true∧LkH K g m q st xd xn xs xo xk xe xp xc xt
abbrev CdH (K:W.Frag) (C:Addr) (m q:Str) (st:Stmt):Prop:=∃g xd xn xs xo xk xe xp xc xt,W.specialIn K (.ref C) "__getattribute__" = some (some (.builtin "type.__getattribute__"))∧W.readsIn K C (.type "type")=true∧W.findCls K (.ref C) (.type "type") m=some (.val (.ref g))∧LkH K g m q st xd xn xs xo xk xe xp xc xt
abbrev ClH (K:W.Frag) (C:Addr):Prop:=W.plainGet K C Str.empty=true∧W.hasDictIn K C=true∧W.plainOver K C=true∧W.findIn K (.ref C) "__setattr__" = some (some (.builtin "object.__setattr__"))∧W.makesIn K C=true∧W.keepIn K (.ref C)=true
section
variable {K:W.Frag} {h:Heap} {mg:Str→Option Value} {C:Addr} {m q:Str} {st:Stmt}
theorem DfH.has (d:DfH K m st) (X:K.In h) (G:h.Ns mainGlobals mg):HasDef K mg m st:=let ⟨_,_,_,_,_,_,_,_,_,_,a,l,c,k⟩:=d;HasDef.mk (W.mg_of X G a) l c k
theorem MeH.me (d:MeH K C m q st):∃f,FnAt K m q st f∧Meth K C m f:=let ⟨g,_,_,_,_,_,_,_,_,_,a,f,l,c,k⟩:=d;⟨g,⟨_,fun_mk (st:=st) l c k⟩,⟨a,f,k⟩⟩
theorem MeH.mk (d:MeH K C "__init__" q st) (c:ClH K C):∃f,FnAt K "__init__" q st f∧Mk K C f:=let ⟨g,_,_,_,_,_,_,_,_,_,a,f,l,cd,k⟩:=d;⟨g,⟨_,fun_mk (st:=st) l cd k⟩,⟨c.2.2.2.2.1,a,f,c.2.2.2.2.2⟩⟩
theorem CdH.cd (d:CdH K C m q st):∃f,FnAt K m q st f∧CMeth K C m f:=let ⟨g,_,_,_,_,_,_,_,_,_,a,r,f,l,c,k⟩:=d;⟨g,⟨_,fun_mk (st:=st) l c k⟩,⟨a,r,f,by rfl,k⟩⟩
end
theorem all_mk {ct_Linit pt_Linit ct_order pt_order:Addr} {l:W.OpenLaw} {w:World} {K:W.Frag} {h:Heap} {mg:Str→Option Value} {fa g17_ g21_ g35_:Addr} (X:K.In h) (G:h.Ns mainGlobals mg) (hfa:mg "law" = some (.ref fa))
  {R:Addr}
  (eR:W.nsIn K mainGlobals "RoomError" = some (some (.ref R)))
  (eh:W.specialIn K (.builtin "object.__class__") "__get__" = some (some (.builtin "getset_descriptor.__get__")))
  (et:W.takesIn K (.builtin "object.__class__")=some true)
  {od17_ an17_:Option Addr} {sl17_:Array (Option Value)} {oc17_ kV17_ dc17_ pm17_ cd17_ ct17_:Value}
  {od21_ an21_:Option Addr} {sl21_:Array (Option Value)} {oc21_ kV21_ dc21_ pm21_ ct21_:Value}
  {od35_ an35_:Option Addr} {sl35_:Array (Option Value)} {oc35_ kV35_ dc35_ pm35_ cd35_ ct35_:Value}
  (d0_:DfH K "is_whole" s_is_whole)
  (d1_:DfH K "is_from" s_is_from)
  (d2_:DfH K "is_within" s_is_within)
  (d3_:DfH K "is_many" s_is_many)
  (d4_:DfH K "is_name" s_is_name)
  (d5_:DfH K "end_of" s_end_of)
  (d6_:DfH K "is_row" s_is_row)
  (d7_:DfH K "cells_of" s_cells_of)
  (d8_:DfH K "need_row" s_need_row)
  (d9_:DfH K "need_rows" s_need_rows)
  (d10_:DfH K "share_cells" s_share)
  (d11_:DfH K "blocks_between" s_between)
  (d12_:DfH K "free_between" s_freeb)
  (d13_:DfH K "stretches_of" s_stretches)
  (d14_:DfH K "steps_down" s_sdown)
  (d15_:DfH K "steps_up" s_sup)
  (d16_:DfH K "moves_of" s_moves)
  {dA17:Addr}
  (a17_:W.nsIn K mainGlobals "packed" = some (some (.ref g17_))) (l17_:K.lookup g17_=some ⟨oc17_,od17_,.func (W.fnOf "packed" "packed" (defArgs s_packed) (defBody s_packed) (defScope s_packed) (.ref dA17) kV17_ dc17_ pm17_ an17_ cd17_ ct17_),sl17_⟩) (c17_:W.codeIn K cd17_ "packed" = true) (k17_:W.keepIn K (.ref g17_)=true) {dc17x:Value} {dd17x:Option Addr} {ds17x:Array (Option Value)} {dn17:Nat} {tkd17_0:Tok} (ld17_:K.lookup dA17=some ⟨dc17x,dd17x,.seq #[.str "down" tkd17_0] dn17,ds17x⟩)
  (d18_:DfH K "fewest_holes" s_fewest)
  (d19_:DfH K "cells_moved" s_cmoved)
  (d20_:DfH K "cheapest_joining" s_cheapest)
  (a21_:W.nsIn K mainGlobals "in_moving_order" = some (some (.ref g21_))) (l21_:K.lookup g21_=some ⟨oc21_,od21_,.func (W.fnOf "in_moving_order" "in_moving_order" (defArgs s_order) (defBody s_order) (defScope s_order) .none kV21_ dc21_ pm21_ an21_ (.ref ct_order) ct21_),sl21_⟩) (c21_:W.codeIn K (.ref ct_order) "in_moving_order" = true) (k21_:W.keepIn K (.ref g21_)=true) (tb_order:W.codeHdIn K ct_order pt_order=true) (tn_order:K.lookup pt_order=none)
  (d22_:DfH K "tidied" s_tidied)
  (d23_:DfH K "_law_cell" s_cell_at)
  (d24_:DfH K "_law_well" s_box)
  (d25_:DfH K "_law_draw" s_take)
  (d26_:DfH K "_law_names" s_names)
  (d27_:DfH K "_law_whole" s_lwhole)
  (d28_:DfH K "_law_walk" s_walk)
  (d29_:DfH K "_law_holes" s_lholes)
  (d30_:DfH K "_law_sizes" s_sizes)
  (d31_:DfH K "_law_gaps" s_lgaps)
  (d32_:DfH K "_law_rows" s_rows)
  (d33_:DfH K "_law_kept" s_kept)
  (d34_:DfH K "_law_places" s_places)
  (a35_:W.nsIn K mainGlobals "law" = some (some (.ref g35_))) (l35_:K.lookup g35_=some ⟨oc35_,od35_,.func (W.fnOf "law" "law" (defArgs s_law) (defBody s_law) (defScope s_law) .none kV35_ dc35_ pm35_ an35_ cd35_ ct35_),sl35_⟩) (c35_:W.codeIn K cd35_ "law" = true) (k35_:W.keepIn K (.ref g35_)=true)
  (nb0:W.nsIn K mainGlobals "isinstance" = some none)
  (nb1:W.nsIn K mainGlobals "int" = some none)
  (nb2:W.nsIn K mainGlobals "bool" = some none)
  (nb3:W.nsIn K mainGlobals "str" = some none)
  (nb4:W.nsIn K mainGlobals "list" = some none)
  (nb5:W.nsIn K mainGlobals "tuple" = some none)
  (nb6:W.nsIn K mainGlobals "len" = some none)
  (nb7:W.nsIn K mainGlobals "all" = some none)
  (nb8:W.nsIn K mainGlobals "range" = some none)
  (nb9:W.nsIn K mainGlobals "sorted" = some none)
  (nb10:W.nsIn K mainGlobals "max" = some none)
  (nb11:W.nsIn K mainGlobals "min" = some none)
  (nb12:W.nsIn K mainGlobals "reversed" = some none)
  (nb13:W.nsIn K mainGlobals "sum" = some none)
  (nb14:W.nsIn K mainGlobals "zip" = some none)
  {tk0:Tok} (con0:W.nsIn K mainGlobals "LETTERS" = some (some (.str LET tk0)))
  {tk1:Tok} (con1:W.nsIn K mainGlobals "NAME_SIGNS" = some (some (.str SGN tk1)))
  {tk2:Tok} (con2:W.nsIn K mainGlobals "MOST_SIGNS" = some (some (.int 8 tk2)))
  {tk3:Tok} (con3:W.nsIn K mainGlobals "FEWEST_CELLS" = some (some (.int 16 tk3)))
  {tk4:Tok} (con4:W.nsIn K mainGlobals "MOST_CELLS" = some (some (.int 240 tk4)))
  {tk5:Tok} (con5:W.nsIn K mainGlobals "MOST_BLOCKS" = some (some (.int 40 tk5)))
  (tne_:pt_Linit≠pt_order)
  {nmR qR:Str} {NR:Addr} {bsR bmR:List Value} {hdR:Bool} {snR:List Str} {subR:List Value} {abR:Bool} {colR:Option Bool} {ddR:Option Addr} {k0R k1R k2R k3R k5R:Option Value} {newR:String}
  (zc:K.lookup R=some (excClassObj nmR qR R NR bsR bmR hdR snR subR abR colR ddR k0R k1R k2R k3R k5R newR)) (zt:W.typeIn K (.ref R)=some (.type "type")) (zm:W.mroIn K R (.type "BaseException")=some true)
  {CL g_Linit:Addr}
  (aCL:W.nsIn K mainGlobals "Layout" = some (some (.ref CL)))
  (cl_L:ClH K CL)
  (naL_many:W.findIn K (.ref CL) "many" = some none)
  (naL_rows:W.findIn K (.ref CL) "rows" = some none)
  {xd_Linit xn_Linit:Option Addr} {xs_Linit:Array (Option Value)} {xo_Linit xk_Linit xe_Linit xp_Linit xt_Linit:Value}
  (at_Linit:W.findIn K (.ref CL) "__init__" = some (some (.ref g_Linit))) (fn_Linit:W.isFn K (.ref g_Linit)=true)
  (lk_Linit:K.lookup g_Linit=some ⟨xo_Linit,xd_Linit,.func (W.fnOf "__init__" "Layout.__init__" (defArgs s_Linit) (defBody s_Linit) (defScope s_Linit) .none xk_Linit xe_Linit xp_Linit xn_Linit (.ref ct_Linit) xt_Linit),xs_Linit⟩) (cd_Linit:W.codeIn K (.ref ct_Linit) "Layout.__init__" = true) (kp_Linit:W.keepIn K (.ref g_Linit)=true) (tb_Linit:W.codeHdIn K ct_Linit pt_Linit=true) (tn_Linit:K.lookup pt_Linit=none)
  (h_Lblocks:MeH K CL "blocks" "Layout.blocks" s_Lblocks)
  : (∀p∈[pt_order,pt_Linit],K.lookup p=none∧∃c,W.codeHdIn K c p=true)∧∃fd:FuncData,(∀(s:Shared) (v:Value),BindsTo s fd ⟨[v],[]⟩ [("_law_script", v)])∧∀base:Heap,K.In base→base.Ns mainGlobals mg→Bm mg base→FnOk l.prog w K mg base CX0 8 fa fd ["_law_script"] (sp_law pt_Linit pt_order K):=by
 have e:=hfa.symm.trans (W.mg_of X G a35_)
 cases e
 have T:Txt K mg (fun i=>([]:List Addr).getD i 0) R CL ct_Linit pt_Linit ct_order pt_order:={
  d_is_whole:=d0_.has X G
  d_is_from:=d1_.has X G
  d_is_within:=d2_.has X G
  d_is_many:=d3_.has X G
  d_is_name:=d4_.has X G
  d_end_of:=d5_.has X G
  d_is_row:=d6_.has X G
  d_cells_of:=d7_.has X G
  d_need_row:=d8_.has X G
  d_need_rows:=d9_.has X G
  d_share:=d10_.has X G
  d_between:=d11_.has X G
  d_freeb:=d12_.has X G
  d_stretches:=d13_.has X G
  d_sdown:=d14_.has X G
  d_sup:=d15_.has X G
  d_moves:=d16_.has X G
  d_packed:=⟨tkd17_0,_,_,_,_,_,_,_,_,_,_,_,_,_,l17_,c17_,k17_,W.mg_of X G a17_,ld17_,rfl⟩
  d_fewest:=d18_.has X G
  d_cmoved:=d19_.has X G
  d_cheapest:=d20_.has X G
  tab_order:=tb_order
  d_order:=⟨_,_,fun_mk l21_ c21_ k21_,rfl,W.mg_of X G a21_⟩
  d_tidied:=d22_.has X G
  d_cell_at:=d23_.has X G
  d_box:=d24_.has X G
  d_take:=d25_.has X G
  d_names:=d26_.has X G
  d_lwhole:=d27_.has X G
  d_walk:=d28_.has X G
  d_lholes:=d29_.has X G
  d_sizes:=d30_.has X G
  d_lgaps:=d31_.has X G
  d_rows:=d32_.has X G
  d_kept:=d33_.has X G
  d_places:=d34_.has X G
  n_isinstance:=W.mg_none_of X G nb0
  n_int:=W.mg_none_of X G nb1
  n_bool:=W.mg_none_of X G nb2
  n_str:=W.mg_none_of X G nb3
  n_list:=W.mg_none_of X G nb4
  n_tuple:=W.mg_none_of X G nb5
  n_len:=W.mg_none_of X G nb6
  n_all:=W.mg_none_of X G nb7
  n_range:=W.mg_none_of X G nb8
  n_sorted:=W.mg_none_of X G nb9
  n_max:=W.mg_none_of X G nb10
  n_min:=W.mg_none_of X G nb11
  n_reversed:=W.mg_none_of X G nb12
  n_sum:=W.mg_none_of X G nb13
  n_zip:=W.mg_none_of X G nb14
  g_LETTERS:=⟨_,W.mg_of X G con0,⟨_,rfl⟩⟩
  g_NAME_SIGNS:=⟨_,W.mg_of X G con1,⟨_,rfl⟩⟩
  g_MOST_SIGNS:=⟨_,W.mg_of X G con2,⟨_,rfl⟩⟩
  g_FEWEST_CELLS:=⟨_,W.mg_of X G con3,⟨_,rfl⟩⟩
  g_MOST_CELLS:=⟨_,W.mg_of X G con4,⟨_,rfl⟩⟩
  g_MOST_BLOCKS:=⟨_,W.mg_of X G con5,⟨_,rfl⟩⟩
  tne:=tne_
  g_R:=W.mg_of X G eR
  c_R:=by unfold W.clsIn;rw [zc];rfl
  t_R:=zt
  m_R:=zm
  clL:=⟨cl_L.1,cl_L.2.1,cl_L.2.2.1,cl_L.2.2.2.1⟩
  gc_Layout:=W.mg_of X G aCL
  aL_many:=naL_many
  aL_rows:=naL_rows
  tab_Linit:=tb_Linit
  f_Linit:=⟨g_Linit,⟨_,fun_mk (st:=s_Linit) lk_Linit cd_Linit kp_Linit,rfl⟩,⟨cl_L.2.2.2.2.1,at_Linit,fn_Linit,cl_L.2.2.2.2.2⟩⟩
  f_Lblocks:=h_Lblocks.me }
 refine ⟨fun p hp=>?_,W.fnOf "law" "law" (defArgs s_law) (defBody s_law) (defScope s_law) .none kV35_ dc35_ pm35_ an35_ cd35_ ct35_,fun s v=>.of_eq rfl,fun base _ _ Bb=>?_⟩
 ·simp only [List.mem_cons,List.not_mem_nil,or_false] at hp
  rcases hp with rfl | rfl
  ·exact ⟨tn_order,_,tb_order⟩
  ·exact ⟨tn_Linit,_,tb_Linit⟩
 exact ok_law T Bb (fun_mk (st:=s_law) l35_ c35_ k35_)
theorem walk {l:W.OpenLaw} {q:Program} {loose:List Str} {XP:(Str→Option Value)→Heap→Prop} {YP:World→Heap→Prop} {d:DefRec} {K:Params→W.Frag} {pt_Linit pt_order:Addr} (hn:l.most=some 63) (hdf:d.params.defaults=[])
  (hY:∀(w:World) (h:Heap),YP w h→(K w.params).In h∧∀p∈[pt_order,pt_Linit],h.get? p=some (W.tabObj #[]))
  (F:∀(w:World) (mg:Str→Option Value) (fa:Addr) (h:Heap),(K w.params).In h→h.Ns mainGlobals mg→mg d.name=some (.ref fa)→(∀p∈[pt_order,pt_Linit],(K w.params).lookup p=none∧∃c,W.codeHdIn (K w.params) c p=true) ∧ 
   ∃fd:FuncData,(∀(s:Shared) (u:Value),BindsTo s fd ⟨[u],[]⟩ [("_law_script", u)])∧∀base:Heap,(K w.params).In base→base.Ns mainGlobals mg→Bm mg base→FnOk l.prog w (K w.params) mg base CX0 8 fa fd ["_law_script"] (sp_law pt_Linit pt_order (K w.params))) :
  W.WalkO q loose XP YP l.row.toRowW d [] (fun f vs=>PySem.call f vs) :=
 L2.walk_ofT (ts:=[pt_order,pt_Linit]) (n:=63) (k:=8) (x := "_law_script") (CX:=fun _=>CX0) (sp:=fun w=>sp_law pt_Linit pt_order (K w.params)) hn (by decide) hdf ⟨rfl,by decide,by decide,rfl⟩ hY F (fun _ _ a ns hl hO hn hS=>⟨a,ns,rfl,hS,hl,hO.1 pt_Linit (by simp),(fun z=>hn (by simp [z])),hO.1 pt_order (by simp),(fun z=>hn (by simp [z])),fun _=>rfl⟩) fun _ _ _ _ _ z=>z
end K88
namespace PySem.W.Fast
def tw15036763976145969827:=0
def tw6313335589755051707:=0
def tw8700106838971066940:=0
def tw10018611968660939298:=0
def tw10022971109068530651:=0
def tw10040587785715041480:=0
def tw10066491560434974701:=0
def tw10081045674325909455:=0
def tw10108309481697559450:=0
def tw10168191135804920165:=0
def tw10176889933419259214:=0
def tw10177141037754125245:=0
def tw10225295585348220621:=0
def tw10336418416090331195:=0
def tw10340500359663572399:=0
def tw10412971260222116038:=0
def tw10425326713296420128:=0
def tw10443014217028130241:=0
def tw10465097756627128901:=0
def tw1052133713142025719:=0
def tw10525676234133514346:=0
def tw10564376680132961241:=0
def tw10570716363320873719:=0
def tw10576234558631209651:=0
def tw10700385649243167822:=0
def tw10716650237155208654:=0
def tw10780715102211030221:=0
def tw1080015389491292632:=0
def tw10806213191936296638:=0
def tw10997079955723362515:=0
def tw11011689032213773529:=0
def tw11031235203736701094:=0
def tw11042351281536188629:=0
def tw1104984040884187344:=0
def tw11065670756679263750:=0
def tw11145980653988482834:=0
def tw11149858868491319875:=0
def tw11183073467099328949:=0
def tw11183879168045008895:=0
def tw1123317159046242254:=0
def tw11276792119229289992:=0
def tw11281127081161084672:=0
def tw11296625183238187732:=0
def tw11311859177352091801:=0
def tw11317204135142912093:=0
def tw11343983689796784175:=0
def tw11408021539965867671:=0
def tw11434299834488274030:=0
def tw11438044481719686857:=0
def tw11473038884417546547:=0
def tw11484257083856742443:=0
def tw1149263284828673042:=0
def tw11514968007135823333:=0
def tw11584708364272068302:=0
def tw11589889514715427146:=0
def tw1159116939497098577:=0
def tw11692809260946962342:=0
def tw11714024529629857875:=0
def tw11725090793893526508:=0
def tw11758865021168965303:=0
def tw11765643449302833029:=0
def tw11835467750513242923:=0
def tw11843281615084611654:=0
def tw11861396692061114239:=0
def tw11931755001903205877:=0
def tw12020260932688515975:=0
def tw12065772019616963454:=0
def tw12101389196358701060:=0
def tw1214755063304644920:=0
def tw12206542349092934419:=0
def tw1224351435606915675:=0
def tw12284892893029683019:=0
def tw12304282394285919572:=0
def tw12339863714910784032:=0
def tw12348511609700490907:=0
def tw12359671877008518195:=0
def tw12368017966996131451:=0
def tw1240495021258671873:=0
def tw12433260197365881217:=0
def tw12449610990037888023:=0
def tw1245942826098205462:=0
def tw12468336090749892925:=0
def tw12482088487095203649:=0
def tw12567417512656727843:=0
def tw12609080180333965748:=0
def tw12640103264432572275:=0
def tw12640495914760433509:=0
def tw12658796436782318890:=0
def tw12682219327233643122:=0
def tw12705345231108158438:=0
def tw12752083186592365213:=0
def tw12793649273279503047:=0
def tw12828075251180508022:=0
def tw12831277647097761360:=0
def tw12840290997057669729:=0
def tw12871541287674968338:=0
def tw12883783966060853304:=0
def tw12917794988802133818:=0
def tw12949127117071458054:=0
def tw12954477584026465070:=0
def tw13046968722205404972:=0
def tw13056885985643161899:=0
def tw13062701716926979878:=0
def tw13086110181892156158:=0
def tw13090755653049584834:=0
def tw13097055237786209922:=0
def tw13107734371508326290:=0
def tw13111276724397900990:=0
def tw13129534937655061828:=0
def tw13132030904550349455:=0
def tw1315793422167504190:=0
def tw13189568908037750872:=0
def tw1321868173703828827:=0
def tw13219229041706633042:=0
def tw13231674673467300139:=0
def tw13243786575616692449:=0
def tw13255214207362079305:=0
def tw13287220893234529564:=0
def tw13294058634615216055:=0
def tw13300356463228425853:=0
def tw1335313248177584374:=0
def tw13387152713942851279:=0
def tw13434597107906711739:=0
def tw13446128372509447427:=0
def tw13450554823841182964:=0
def tw13502233299577488867:=0
def tw13524323667672567480:=0
def tw13534950604069163817:=0
def tw1359377708363592486:=0
def tw13611334644031403942:=0
def tw13628347265523819428:=0
def tw13640503158854199380:=0
def tw13656779078052714117:=0
def tw13658264053745830395:=0
def tw13676968101002726067:=0
def tw13688104686664231649:=0
def tw13771200007849359474:=0
def tw13791787945292889177:=0
def tw13799548627082437666:=0
def tw13849851669610013239:=0
def tw13865316888456106705:=0
def tw13885026445709977376:=0
def tw13923388330636060915:=0
def tw13946137265078802800:=0
def tw13946598124310392230:=0
def tw13961028803211729841:=0
def tw14012223728482681170:=0
def tw1404798298995686239:=0
def tw14055016298494611267:=0
def tw14089437081933110726:=0
def tw14089518752959025426:=0
def tw14128282849134906712:=0
def tw14178354622829968838:=0
def tw14191404098593267891:=0
def tw14245627310753813241:=0
def tw14262986731248725834:=0
def tw14266601743856472729:=0
def tw14268974093178439977:=0
def tw14294878156064376407:=0
def tw14311995348609053828:=0
def tw14343206547945056911:=0
def tw14362272967329988283:=0
def tw14462113760697892389:=0
def tw14478141467389723176:=0
def tw14503627780403554262:=0
def tw14504808618041343129:=0
def tw14509923493379547511:=0
def tw1451947048220530710:=0
def tw14528003471619427950:=0
def tw14545584448088152447:=0
def tw14582114792494105128:=0
def tw1464950856472987379:=0
def tw14706738524041836069:=0
def tw14709281016252736137:=0
def tw14746515509933213265:=0
def tw14749368598054437668:=0
def tw14760836262583823903:=0
def tw14773003747721901544:=0
def tw14778444328450964859:=0
def tw14779410005642979851:=0
def tw14825877662640071051:=0
def tw14828709654994971159:=0
def tw14851376657611136296:=0
def tw14864840958058552594:=0
def tw14867931163996474542:=0
def tw14936868113508608964:=0
def tw14945697894552355563:=0
def tw14997285715025706762:=0
def tw14999115973270276295:=0
def tw15003995959742243741:=0
def tw15063170326517269719:=0
def tw1507020533642679376:=0
def tw15112456357007710648:=0
def tw15114761349283370329:=0
def tw15147073470782597153:=0
def tw15158534302394585828:=0
def tw15183592139117773647:=0
def tw15184751032265399691:=0
def tw15220302151399962309:=0
def tw152427129002756711:=0
def tw1524304389841311300:=0
def tw15248320024166966776:=0
def tw15251646632479134189:=0
def tw15254022967938462255:=0
def tw15306106971949486646:=0
def tw15329324707314893133:=0
def tw154165369000052773:=0
def tw15422034661785397469:=0
def tw15448055803420263777:=0
def tw15449782190091718462:=0
def tw15452917913981600822:=0
def tw15455192144894801458:=0
def tw15519616416085265215:=0
def tw15671719916600143907:=0
def tw15703684709541159067:=0
def tw15728351733991602887:=0
def tw15754586642316452728:=0
def tw15846245586982543999:=0
def tw15865757947231733982:=0
def tw15933424669581399215:=0
def tw15945675620386298027:=0
def tw15976732638019907233:=0
def tw1597784013258357863:=0
def tw16015706824468916506:=0
def tw16031635991135256976:=0
def tw16115371875743994913:=0
def tw16133242787077809463:=0
def tw16148950587933628105:=0
def tw16152319343887342493:=0
def tw16174723780799964588:=0
def tw16216162710082993493:=0
def tw16230566821236189022:=0
def tw16230644555203553664:=0
def tw16232052368618940282:=0
def tw16310040462168756444:=0
def tw16406736453138864798:=0
def tw16467141180368849455:=0
def tw16587585183191430414:=0
def tw16594795488460582606:=0
def tw16602343459682523950:=0
def tw16617849568144879378:=0
def tw16624901154002298955:=0
def tw16625248910421925440:=0
def tw16629435223711423935:=0
def tw1663259359670056826:=0
def tw1666112306266856542:=0
def tw16677300293489401569:=0
def tw16781462071792784168:=0
def tw16818362901450401949:=0
def tw16822649926766716191:=0
def tw1686628406588775551:=0
def tw16898780605025503261:=0
def tw16900968096030233604:=0
def tw16904937822890922084:=0
def tw16932864860971014120:=0
def tw16946290459742729427:=0
def tw17032529983822142111:=0
def tw17069260132910824521:=0
def tw17110732998909006614:=0
def tw17132042239705986505:=0
def tw17148787721751187324:=0
def tw17186875185729142434:=0
def tw17248727439740204070:=0
def tw17265096034461625903:=0
def tw17299553573959002104:=0
def tw17351004909664473390:=0
def tw1750711337851751599:=0
def tw17564587490446654873:=0
def tw17573091356120363133:=0
def tw17574694087566795293:=0
def tw17645799358420349106:=0
def tw17646254273540448217:=0
def tw1774777654239010285:=0
def tw17833673503125969582:=0
def tw17841504068184643732:=0
def tw1785739030793485499:=0
def tw17998780860535782596:=0
def tw18020268001385948966:=0
def tw18083661110473111075:=0
def tw18097398454756013577:=0
def tw18106400185894021056:=0
def tw1812070559471260722:=0
def tw18217731169271516556:=0
def tw18273378891024601301:=0
def tw18287604938560246294:=0
def tw18299728182570598006:=0
def tw18302648933646910869:=0
def tw1831378529382906255:=0
def tw18314060825693440525:=0
def tw18341987733996032701:=0
def tw18361019636075732885:=0
def tw18443754563811264856:=0
def tw189336757342609974:=0
def tw192212801585894727:=0
def tw1954040245935797787:=0
def tw1970747849016486535:=0
def tw1971476344059501287:=0
def tw2016793635606366571:=0
def tw2049641034795716373:=0
def tw2107431982182967510:=0
def tw218346140594254359:=0
def tw2209638712368054796:=0
def tw2249870630415174317:=0
def tw2254104201440529757:=0
def tw2271780984051492589:=0
def tw2319127943940222418:=0
def tw2322018659749302367:=0
def tw2342883428519216305:=0
def tw2376451666947246259:=0
def tw2377861230551001952:=0
def tw249785474229890564:=0
def tw2503451914848589565:=0
def tw251742435522347450:=0
def tw2520937208896833503:=0
def tw2540090150890155835:=0
def tw2579621226312961504:=0
def tw2588121961572003099:=0
def tw2603694322111203256:=0
def tw2604005523724947498:=0
def tw2612696312570957160:=0
def tw26703479557396514:=0
def tw269106007246401927:=0
def tw27096019584322310:=0
def tw2760106330221771323:=0
def tw2908355097564079082:=0
def tw294819283766075952:=0
def tw3041672382396157401:=0
def tw3120834194376882986:=0
def tw3121251115730958981:=0
def tw3122592509714796103:=0
def tw3126293131359637814:=0
def tw3207485897010712688:=0
def tw3253857425580772953:=0
def tw3257998200142923000:=0
def tw3286219981945151191:=0
def tw330375477649348429:=0
def tw3325415542671034415:=0
def tw3337175442256648365:=0
def tw3359896962874915678:=0
def tw3367602740527378403:=0
def tw336840963455558244:=0
def tw3396354073080802557:=0
def tw3402262774078025519:=0
def tw3439481627757120064:=0
def tw3456087800250273767:=0
def tw3605802265604900621:=0
def tw3625051431337184473:=0
def tw3692477604398056885:=0
def tw3720658227865971750:=0
def tw3765670682842786277:=0
def tw3777680227902413091:=0
def tw3786355683701733574:=0
def tw3788361893802581150:=0
def tw3797481962488627090:=0
def tw3809804876381546036:=0
def tw3824207942674726279:=0
def tw3840278321360847058:=0
def tw3854374333747083009:=0
def tw3878272680149775430:=0
def tw3881694028484381816:=0
def tw3901829961161385604:=0
def tw3930230724375122528:=0
def tw3974347277701659676:=0
def tw3976918054797921550:=0
def tw3978926759782582328:=0
def tw40042307611835909:=0
def tw4039281114557569577:=0
def tw4133730634790500405:=0
def tw4135228983193747519:=0
def tw4175400157672439916:=0
def tw4179950805464636408:=0
def tw4241849554389463113:=0
def tw4301709439486101756:=0
def tw4366961645593979698:=0
def tw4421880238277526748:=0
def tw4470518241217159142:=0
def tw4496548192866762888:=0
def tw4528304146231282354:=0
def tw4570229959770164734:=0
def tw4605088256457434608:=0
def tw4610152985279539377:=0
def tw4712156591367366241:=0
def tw4766403702640541608:=0
def tw4767309197756342814:=0
def tw4778449438740762243:=0
def tw4781584401674773931:=0
def tw482175755820022427:=0
def tw4840258397468031759:=0
def tw4846523966706926074:=0
def tw4871778719233950524:=0
def tw4882124191821089611:=0
def tw4934674445996120237:=0
def tw4993505699680829096:=0
def tw5007797265992570311:=0
def tw5110979451653470754:=0
def tw5152338881427416437:=0
def tw5186861319803901248:=0
def tw5220581209084088104:=0
def tw5235457523653495607:=0
def tw5240742015594187000:=0
def tw5242842938313293900:=0
def tw525130899677745153:=0
def tw5346337914715492507:=0
def tw5381277149207345008:=0
def tw5394737993486500716:=0
def tw5426189977225273153:=0
def tw5468712300033044315:=0
def tw5479747819857268808:=0
def tw5498885254653864776:=0
def tw5579594061189631181:=0
def tw5599467919608993335:=0
def tw5630191277617456140:=0
def tw5636343270441207220:=0
def tw575973456294117086:=0
def tw5778327251364538184:=0
def tw5781245016284284678:=0
def tw5791343980684376978:=0
def tw5792877128642114448:=0
def tw5812506058776854502:=0
def tw5847427544160489295:=0
def tw5908963589020308856:=0
def tw5928012381189341985:=0
def tw6041933391813948120:=0
def tw610907079696960906:=0
def tw6117396418618233227:=0
def tw6167951490434302333:=0
def tw6183098047833198793:=0
def tw6213939068357788629:=0
def tw6241481907471969579:=0
def tw6282896937945370891:=0
def tw6291153123351168455:=0
def tw6430901247311958540:=0
def tw643586384176087300:=0
def tw6508532038373308967:=0
def tw6593042173637912101:=0
def tw6610893154634655288:=0
def tw6630151658250021189:=0
def tw6634309430257338623:=0
def tw6725289705791306103:=0
def tw6725609225697746742:=0
def tw672690875743655522:=0
def tw674350821848902907:=0
def tw6758455037248203828:=0
def tw6760430068005710692:=0
def tw6790333249906801840:=0
def tw6817093212609203110:=0
def tw6914946082158135278:=0
def tw6995190956218162051:=0
def tw7081830287827421305:=0
def tw713983082656007486:=0
def tw7165836857898166442:=0
def tw7189002096808573112:=0
def tw7297679173217220235:=0
def tw7326600963312148986:=0
def tw7336226782889564668:=0
def tw7340588790430223444:=0
def tw7375288315426486227:=0
def tw7464667128948348713:=0
def tw7484583750544986189:=0
def tw7646335809695286077:=0
def tw7650296040510333786:=0
def tw7727146805955395554:=0
def tw7739563157368401522:=0
def tw7820293353375899675:=0
def tw7824422422651857491:=0
def tw7904770365992436191:=0
def tw7915894796576163078:=0
def tw7917660651153696144:=0
def tw7946652261162471351:=0
def tw7963304493473633630:=0
def tw7986461751773904187:=0
def tw7993775728899337742:=0
def tw8105763821168064314:=0
def tw8162976164236149223:=0
def tw8175357324379120089:=0
def tw8224579042464047824:=0
def tw8231003127482997838:=0
def tw8238720046562556486:=0
def tw8246682349475369232:=0
def tw835827060199388038:=0
def tw8402665806592585671:=0
def tw8406377105411795354:=0
def tw8441458676855451847:=0
def tw8458875771375386939:=0
def tw8535599804719611136:=0
def tw8554979397730019551:=0
def tw8557465648352347216:=0
def tw8561997323554528945:=0
def tw8562881749452806654:=0
def tw8591008195254166244:=0
def tw8606350757589353161:=0
def tw8613916091720771524:=0
def tw8653167470936957039:=0
def tw8711146581934804655:=0
def tw8721782350340974029:=0
def tw8752748848458901369:=0
def tw8781362739481627614:=0
def tw8863137869061020756:=0
def tw8915951321595906004:=0
def tw897389450562432392:=0
def tw8988264009119914798:=0
def tw9073491720704800445:=0
def tw9097053393675326339:=0
def tw9097912582091382716:=0
def tw9105264584239485375:=0
def tw9168884574096903359:=0
def tw9168892720486257174:=0
def tw9174849753980505378:=0
def tw9278556354961896456:=0
def tw9353289945907467217:=0
def tw9456879141441586753:=0
def tw9466474062267418398:=0
def tw9532781306483277484:=0
def tw9662909533521277412:=0
def tw969153915029463447:=0
def tw9701281626499517286:=0
def tw9739432514904787342:=0
def tw9742245285579198921:=0
def tw9782094074768739257:=0
def tw9838969254910463741:=0
def tw9870091439948624099:=0
def tw9904934873719343580:=0
def tw9969446518030935783:=0
def tw9980074884666477094:=0
def tw10262578380331837182:=0
def tw11831835478943940428:=0
def tw1424243071325537234:=0
def tw147802519834977223:=0
def tw15602952855044384716:=0
def tw16114748275517741946:=0
def tw16985439587597052198:=0
def tw2540566986557642705:=0
def tw3073531834487399334:=0
def tw3251403407182515598:=0
def tw4041014609365744601:=0
def tw6000738146709277720:=0
def tw7252843857567127597:=0
def tw8189004713718905323:=0
def tw9740453680403805650:=0
def tw10599793767748972930:=0
def tw10685666135155784458:=0
def tw12625487998535997265:=0
def tw13035764294403916295:=0
def tw15573050091768101019:=0
def tw15690671069359015703:=0
def tw2999363876229218798:=0
def tw3067065118992617488:=0
def tw546448003515207071:=0
def tw5573346627669226629:=0
def tw6927917847440560625:=0
def tw7171019321669510869:=0
def tw8269888215971946441:=0
def tw8735655204558772370:=0
def tw9305780976910802858:=0
def tw9910558779256428382:=0
def tw17919041429546972694:=0
def tw10971122844639467933:=0
def tw15572022192621136949:=0
def tw4346534157863860656:=0
end PySem.W.Fast
open PySem PySem.W PyProof.Rows
set_option maxRecDepth 100000 in
set_option maxHeartbeats 0 in
theorem PySem.Challenge.cw_slideroom_k88_whole_no_cheaper_tidying_holds : PySem.Challenge.rw_slideroom_k88_whole_no_cheaper_tidying.Holds := by
 w_on;o_law;k_head;(case hw=>w_witness2)
 k_fill
 refine K88.walk (l:=PySem.Challenge.rw_slideroom_k88_whole_no_cheaper_tidying) rfl rfl (fun w h Y=>⟨PySem.W.km_in_of Y,PySem.W.km_tabs_of Y⟩) ?F
 case F =>
  intro w mg fa h KX G hmg
  refine' K88.all_mk KX G hmg ?_ ?_ ?_ ?_ ?_ ?_ ?_ ?_ ?_ ?_ ?_ ?_ ?_ ?_ ?_ ?_ ?_ ?_ ?_ ?_ ?_ ?_ ?_ ?_ ?_ ?_ ?_ ?_ ?_ ?_ ?_ ?_ ?tb_order ?tn_order ?_ ?_ ?_ ?_ ?_ ?_ ?_ ?_ ?_ ?_ ?_ ?_ ?_ ?_ ?_ ?_ ?_ ?_ ?_ ?_ ?_ ?_ ?_ ?_ ?_ ?_ ?_ ?_ ?_ ?_ ?_ ?_ ?_ ?_ ?_ ?_ ?_ ?_ ?tne_ ?_ ?_ ?_ ?_ ?_ ?_ ?_ ?_ ?_ ?_ ?_ ?_ ?tb_Linit ?tn_Linit ?_
  all_goals try first
   | k_is
   | exact ⟨_,_,_,_,_,_,_,_,_,_,by k_is,by k_is,by k_is,by k_is⟩
   | exact ⟨_,_,_,_,_,_,_,_,_,_,by k_is,by k_is,by k_is,by k_is,by k_is⟩
   | exact ⟨_,_,_,_,_,_,_,_,_,_,by k_is,by k_is,by k_is,by k_is,by k_is,by k_is⟩
   | exact ⟨by k_is,by k_is,by k_is,by k_is,by k_is,by k_is⟩
  (case tb_Linit=>kernel_rfl)
  (case tn_Linit=>kernel_rfl)
  (case tb_order=>kernel_rfl)
  (case tn_order=>kernel_rfl)
  (case tne_=>decide)

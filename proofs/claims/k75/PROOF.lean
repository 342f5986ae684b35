import PyProof.Rows.All
import Wide.All
import OpenK.AllK
import Wide.FinOn
import Lean
import PyProof.EqAt
import PyProof.EqKinds
import PyProof.TupleCall
import PyProof.NeKinds
import PyProof.ExcInit
import PyProof.StationsW
import PyProof.ExcBaseAll.ValueError
import PyProof.ExcArgs
import KE.KIsAll
import PyProof.ReprRoads
import PyProof.CallFns
import PyProof.ExcClass3
import PyProof.StrBlock2
import PyProof.FitsInt
import PyProof.StrLawsRepr
import KE.KTryMore
import PyProof.RulesAs
import KE.KIntText
import PyProof.StrLawsChain
import PyProof.StrCalls2
import PyProof.ZipIter
import PyProof.Conv_bool
import PyProof.CallStr
import PyProof.TupleIter
import KE.KEqDict
import PyProof.AutoListH
import PyProof.FactsAll.range_2
import KE.IntTextLaws
import PyProof.StrCalls
import PySem.Challenge.RW_slideroom_k75_stuck_papers
-- CHANGE: your row's module here, as the last of these rows
set_option compiler.extract_closed false
set_option Elab.async false
set_option linter.all false
set_option maxRecDepth 100000
namespace L2
open PySem PySem.Spec PyProof.Rows
abbrev Key:=Sum Int Str
def UG:Key->Value->Bool
 | .inl k,v=>Value.isInt k v
 | .inr x,v=>Value.isStrOf x v
def adb(w:World):Key->Int
 | .inl k=>hashInt k
 | .inr x=>hashStr w x
theorem dI:∀{k:Key} {v:Value},UG k v=true->(∃i t,k=Sum.inl i/\v=Value.int i t)\/(∃x t,k=Sum.inr x/\v=Value.str x t)
 | .inl i,v,h=>by
  obtain⟨t,e⟩:=Value.isInt_shape (k:=i) (v:=v) h
  exact .inl ⟨i,t,rfl,e⟩
 | .inr x,v,h=>by
  obtain⟨t,e⟩:=Value.isStrOf_shape (x:=x) (v:=v) h
  exact .inr ⟨x,t,rfl,e⟩
theorem Vq(a b:Int):decide ((Sum.inl a:Key)=Sum.inl b)=(a == b):=by
 by_cases e:a=b
 ·subst e;simp
 ·have h:¬ (Sum.inl a:Key)=Sum.inl b:=λq=>e (Sum.inl.inj q)
  rw[decide_eq_false h]
  exact(beq_eq_false_iff_ne.mpr e).symm
theorem Vr(a b:Str):decide ((Sum.inr a:Key)=Sum.inr b)=decide (a=b):=by
 by_cases e:a=b
 ·subst e;simp
 ·have h:¬ (Sum.inr a:Key)=Sum.inr b:=λq=>e (Sum.inr.inj q)
  rw[decide_eq_false h,decide_eq_false e]
theorem Vs(a:Int)(b:Str):decide ((Sum.inl a:Key)=Sum.inr b)=false:=decide_eq_false (λq=>nomatch q)
theorem Vt(a:Str)(b:Int):decide ((Sum.inr a:Key)=Sum.inl b)=false:=decide_eq_false (λq=>nomatch q)
def sS(prog:Program)(w:World):PySem.KeyKind prog w Key where
 is:=UG
 hash:=adb w
 inj:=λv a b ha hb=>by
  rcases dI ha with⟨i,t,rfl,rfl⟩|⟨x,t,rfl,rfl⟩
  ·rcases dI hb with⟨j,u,rfl,e⟩|⟨y,u,rfl,e⟩
   ·injection e with e1 _;rw[e1]
   ·exact nomatch e
  ·rcases dI hb with⟨j,u,rfl,e⟩|⟨y,u,rfl,e⟩
   ·exact nomatch e
   ·injection e with e1 _;rw[e1]
 byValue:=λk v h=>by
  rcases dI h with⟨i,t,rfl,rfl⟩|⟨x,t,rfl,rfl⟩ <;> rfl
 pyHash:=λhv h=>by
  rcases dI hv with⟨i,t,rfl,rfl⟩|⟨x,t,rfl,rfl⟩
  ·exact wpAny_pyHash_int h
  ·exact wpAny_pyHash_str h
 eqBool:=λhu hv h=>by
  rcases dI hu with⟨i,t,rfl,rfl⟩|⟨x,t,rfl,rfl⟩
  ·rcases dI hv with⟨j,u,rfl,rfl⟩|⟨y,u,rfl,rfl⟩
   ·rw[Vq] at h;exact wpAny_eqBool_int h
   ·rw[Vs] at h;exact SeqAt.EqAt.int_str i t y u _ _ _ _ h
  ·rcases dI hv with⟨j,u,rfl,rfl⟩|⟨y,u,rfl,rfl⟩
   ·rw[Vt] at h;exact SeqAt.EqAt.str_int x t j u _ _ _ _ h
   ·rw[Vr] at h;exact wpAny_eqBool_str h
 «strs»:=λk x t v h=>by
  rcases dI h with⟨i,u,rfl,e⟩|⟨y,u,rfl,e⟩
  ·exact nomatch e
  ·injection e with e1 _
   subst e1
   cases v <;> rfl
inductive V where
 | non|bl (b:Bool)|int (i:Int)|str (x:Str)|byt (b:Array UInt8)|flt (b:UInt64)|ref (a:Addr)|ty (n:String)
 deriving DecidableEq
def RelV:V->Value->Prop
 | .non,u=>u=Value.none
 | .bl b,u=>u=Value.bool b
 | .int i,u=>∃t,u=Value.int i t
 | .str x,u=>∃t,u=Value.str x t
 | .byt b,u=>∃t,u=Value.bytes b t
 | .flt b,u=>∃t,u=Value.float b t
 | .ref a,u=>u=Value.ref a
 | .ty n,u=>u=Value.type n
abbrev Vals:List V->List Value->Prop:=Paired RelV
theorem Vals.length{xs:List V}{us:List Value}(r:Vals xs us):xs.length=us.length:=Paired.length r
theorem Vals.get:∀{xs:List V} {us:List Value} {i:Nat} {x:V},Vals xs us->xs[i]?=some x->∃u,us[i]?=some u/\RelV x u
 | _,_,_,_,.nil,e=>by simp at e
 | _,_,0,_,.cons r _,e=>by simp at e;subst e;exact⟨_,rfl,r⟩
 | _,_,i+1,x,.cons _ t,e=>by
  obtain⟨u,h1,h2⟩:=Vals.get (i:=i) (x:=x) t (by simpa using e)
  exact⟨u,by simpa using h1,h2⟩
theorem Vals.set{x:V}{u:Value}(r:RelV x u):∀{xs:List V} {us:List Value} (i:Nat),Vals xs us->Vals (xs.set i x) (us.set i u)
 | _,_,_,.nil=>.nil
 | _,_,0,.cons _ t=>.cons r t
 | _,_,i+1,.cons q t=>.cons q (Vals.set r i t)
theorem Vals.append:∀{xs ys:List V} {us ws:List Value},Vals xs us->Vals ys ws->Vals (xs++ys) (us++ws)
 | _,_,_,_,.nil,s=>s
 | _,_,_,_,.cons r t,s=>.cons r (Vals.append t s)
theorem Vals.take:∀{xs:List V} {us:List Value} (n:Nat),Vals xs us->Vals (xs.take n) (us.take n)
 | _,_,0,_=>.nil
 | _,_,_+1,.nil=>.nil
 | _,_,n+1,.cons r t=>.cons r (Vals.take n t)
theorem Vals.drop:∀{xs:List V} {us:List Value} (n:Nat),Vals xs us->Vals (xs.drop n) (us.drop n)
 | _,_,0,r=>r
 | _,_,_+1,.nil=>.nil
 | _,_,n+1,.cons _ t=>Vals.drop n t
def mR:Option V->Option Value->Prop
 | some v,some u=>RelV v u
 | none,none=>True
 | _,_=>False
def KV{κ:Type}:List (κ×V)->List (κ×Value)->Prop:=Paired λ(p:κ×V) (q:κ×Value)=>p.1=q.1/\RelV p.2 q.2
def kV:Key->V
 | .inl i=>.int i
 | .inr x=>.str x
inductive HO where
 /-- a list -/
 | lst (xs:List V)
 /-- a tuple (never changes) -/
 | tup (xs:List V)
 /-- a dict whose keys are ints and texts; one whose keys are tuples of ints and texts (the empty one is both) -/
 | dK (kvs:List (Key×V))|dT (kvs:List (List Key×V))
 /-- a set of ints: its members, its size -/
 | set (S:Int->Bool) (n:Nat)
 /-- an instance of the class at C, its dict at dx, its attributes -/
 | ins (C dx:Addr) (fs:List (Str×V))
 /-- the dict of the instance at x -/
 | own (x:Addr)
 /-- the dict of an exception -/
 | xd (fs:List (Str×V))
 /-- a bound method, f of x -/
 | met (f x:Addr)
 /-- a range object lo, lo + 1, .. below hi -/
 | rng (lo hi:Int)
 /-- a thing that is known to the object (the script; a dict while a loop walks it): read, never written while it is so -/
 | frz (o:Obj) (u:HO)
 /-- a code object's table -/
 | tbl (ps:Array Value)
 /-- any other thing, by what is true of its one object (a def of one's own: afw a S n := HO.ext fun h => ..) -/
 | ext (φ:Heap->Prop)
abbrev Hp:=Addr->Option HO
def upd(H:Hp)(a:Addr)(o:HO):Hp:=λb=>if b=a then some o else H b
theorem cA{H:Hp}{a:Addr}{o:HO}:upd H a o a=some o:=by unfold upd;rw[if_pos rfl]
theorem bZ{H:Hp}{a b:Addr}{o:HO}(h:b≠a):upd H a o b=H b:=by unfold upd;rw[if_neg h]
theorem Rj{H:Hp}{a:Addr}{o u:HO}:upd (upd H a o) a u=upd H a u:=by
 funext b;unfold upd;split <;> rfl
theorem cj{H:Hp}{a b:Addr}{o:HO}(h:H a=some o)(h':H b=none):a≠b:=by
 intro e;subst e;rw[h] at h';cases h'
section
variable(P:Program)(w:World)
def dg(H:Hp)(h:Heap)(a:Addr):HO->Prop
 | .lst xs=>xs.length<=sizeLine/\∃(its:List Value) (n:Nat),Vals xs its/\h.get? a=some { cls:=.type "list", data:=.seq its.toArray n }
 | .tup xs=>xs.length<=sizeLine/\∃its:List Value,Vals xs its/\IsTup h a its.toArray
 | .dK kvs=>kvs.length<=sizeLine/\(a == sysModules)=false/\∃vs,KV kvs vs/\h.DictOf (sS P w) a vs
 | .dT kvs=>kvs.length<=sizeLine/\(a == sysModules)=false/\∃xs:List (List Key×Addr×Value),
   Paired (λ(p:List Key×V) (q:List Key×Addr×Value)=>p.1=q.1/\H q.2.1=some (.tup (p.1.map kV))/\RelV p.2 q.2.2) kvs xs /\
   ∃o es ep,h.get? a=some o/\o.ExactDict/\o.data=.dict es ep/\es.toList=xs.map (entryOfKey (tupleKind (sS P w)))/\(xs.map (·.1)).Nodup
 | .set S n=>h.SetOf (intKind P w) a S n
 | .ins C dx fs=>H dx=some (.own a)/\fs.length<=1000/\dx≠a/\h.get? a=some (W.instObj C dx) /\
   ∃mA,h.Ns1 dx mA/\(∀f,mR (fs.lookup f) (mA f))/\PySem.Within mA (fs.map (·.1))
 | .own _=>∃o,h.get? a=some o
 | .xd fs=>∃mA,h.Ns1 a mA/\∀f,mR (fs.lookup f) (mA f)
 | .rng lo hi=>∃t u v,h.get? a=some { cls:=.type "range", data:=.fields #[.int lo t,.int hi u,.int 1 v] }
 | .frz o u=>h.get? a=some o/\dg H h a u
 | .tbl ps=>h.get? a=some { cls:=.none,data:=.fields ps }
 | .met f x=>h.get? a=some (W.methodObj (.ref f) (.ref x))
 | .ext φ=>φ h/\(∃o,h.get? a=some o)/\∀h1 h2:Heap,φ h1->(∀o,h1.get? a=some o->h2.get? a=some o)->φ h2
def HOk(H:Hp)(h:Heap):Prop:=∀a o,H a=some o->dg P w H h a o
end
section
variable{P:Program}{w:World}{H H':Hp}{h h':Heap}{a:Addr}{o:HO}
theorem dg.lt(x:dg P w H h a o):a<h.objs.size:=by
 cases o with
 | lst xs=>obtain⟨_,_,_,_,e⟩:=x;exact Heap.lt_size e
 | tup xs=>obtain⟨_,_,_,p⟩:=x;exact p.lt
 | dK kvs=>obtain⟨_,_,_,_,o,_,_,e,_⟩:=x;exact Heap.lt_size e
 | dT kvs=>obtain⟨_,_,_,_,o,_,_,e,_⟩:=x;exact Heap.lt_size e
 | set S n=>obtain⟨o,_,_,_,e,_⟩:=x;exact Heap.lt_size e
 | ins C dx fs=>obtain⟨_,_,_,e,_⟩:=x;exact Heap.lt_size e
 | own y=>obtain⟨_,e⟩:=x;exact Heap.lt_size e
 | xd fs=>obtain⟨_,⟨_,_,_,e,_⟩,_⟩:=x;exact Heap.lt_size e
 | rng lo hi=>obtain⟨_,_,_,e⟩:=x;exact Heap.lt_size e
 | frz ob u=>obtain⟨e,_⟩:=x;exact Heap.lt_size e
 | tbl ps=>exact Heap.lt_size (show h.get? a=some _ from x)
 | met f y=>exact Heap.lt_size (show h.get? a=some _ from x)
 | ext φ=>obtain⟨_,⟨_,e⟩,_⟩:=x;exact Heap.lt_size e
theorem Paired.Zc{α β:Type}{F G:α->β->Prop}:∀{l₁:List α} {l₂:List β},Paired F l₁ l₂->(∀a b,F a b->G a b)->Paired G l₁ l₂
 | _,_,.nil,_=>.nil
 | _,_,.cons r t,f=>.cons (f _ _ r) (Paired.Zc t f)
theorem dg.stay(x:dg P w H h a o)(k:∀b u,(b=a\/H b=some (.own a))->h.get? b=some u->h'.get? b=some u)
  (ho:∀b,H b=some (.own a)->H' b=some (.own a)) (ht:∀b xs,H b=some (.tup xs)->H' b=some (.tup xs)):dg P w H' h' a o:=by
 induction o with
 | lst xs=>obtain⟨z,its,n,r,e⟩:=x;exact⟨z,its,n,r,k _ _ (.inl rfl) e⟩
 | tup xs=>obtain⟨z,its,r,ob,e,c⟩:=x;exact⟨z,its,r,ob,k _ _ (.inl rfl) e,c⟩
 | dK kvs=>obtain⟨z,y,vs,r,ob,es,ep,e,c⟩:=x;exact⟨z,y,vs,r,ob,es,ep,k _ _ (.inl rfl) e,c⟩
 | dT kvs =>
  obtain⟨z,y,xs,r,ob,es,ep,e,c⟩:=x
  exact⟨z,y,xs,Paired.Zc r λp q z=>⟨z.1,ht _ _ z.2.1,z.2.2⟩,ob,es,ep,k _ _ (.inl rfl) e,c⟩
 | set S n=>obtain⟨ob,es,ep,t,e,c⟩:=x;exact⟨ob,es,ep,t,k _ _ (.inl rfl) e,c⟩
 | ins C dx fs =>
  obtain⟨d,z,ne,e,mA,⟨od,es,ep,e2,c⟩,r⟩:=x
  exact⟨ho _ d,z,ne,k _ _ (.inl rfl) e,mA,⟨od,es,ep,k _ _ (.inr d) e2,c⟩,r⟩
 | own y=>obtain⟨ob,e⟩:=x;exact⟨ob,k _ _ (.inl rfl) e⟩
 | xd fs=>obtain⟨mA,⟨od,es,ep,e,c⟩,r⟩:=x;exact⟨mA,⟨od,es,ep,k _ _ (.inl rfl) e,c⟩,r⟩
 | rng lo hi=>obtain⟨t,u,v,e⟩:=x;exact⟨t,u,v,k _ _ (.inl rfl) e⟩
 | frz ob u ih=>obtain⟨e,q⟩:=x;exact⟨k _ _ (.inl rfl) e,ih q⟩
 | tbl ps =>
  have e:h.get? a=some { cls:=.none,data:=.fields ps }:=x
  show h'.get? a=some { cls:=.none,data:=.fields ps }
  exact k a _ (.inl rfl) e
 | met f y =>
  have e:h.get? a=some (W.methodObj (.ref f) (.ref y)):=x
  show h'.get? a=some (W.methodObj (.ref f) (.ref y))
  exact k a _ (.inl rfl) e
 | ext φ=>obtain⟨p,⟨o,e⟩,st⟩:=x;exact⟨st _ _ p λo q=>k _ _ (.inl rfl) q,⟨o,k _ _ (.inl rfl) e⟩,st⟩
theorem HOk.lt(x:HOk P w H h)(e:H a=some o):a<h.objs.size:=(x a o e).lt
theorem HOk.fresh(x:HOk P w H h)(e:h.objs.size<=a):H a=none:=by
 cases q:H a with
 | none=>rfl
 | some u=>exact absurd (Nat.lt_of_lt_of_le (x.lt q) e) (Nat.lt_irrefl _)
theorem HOk.kept(x:HOk P w H h)(k:∀b u,h.get? b=some u->h'.get? b=some u):HOk P w H h':=λa o e =>
 (x a o e).stay (λb u _ q=>k b u q) (λ_ q=>q) λ_ _ q=>q
theorem HOk.laid(x:HOk P w H h)(k:∀b u,h.get? b=some u->h'.get? b=some u)(hp:h.objs.size<=a)(new:dg P w (upd H a o) h' a o):HOk P w (upd H a o) h':=λb u e=>by
 have hn:=x.fresh hp
 by_cases hb:b=a
 ·subst hb;rw[cA] at e;cases e;exact new
 ·rw[bZ hb] at e
  exact(x b u e).stay (λc v _ q=>k c v q) (λc q=>by rw[bZ (cj q hn)];exact q) λc xs q=>by rw[bZ (cj q hn)];exact q
end
def Rd(H:Hp)(a:Addr)(u:HO):Prop:=H a=some u\/∃o,H a=some (.frz o u)
theorem Rd.of{H:Hp}{a:Addr}{u:HO}(h:H a=some u):Rd H a u:=.inl h
theorem Rd.ok{P:Program}{w:World}{H:Hp}{h:Heap}{a:Addr}{u:HO}(r:Rd H a u)(x:HOk P w H h):dg P w H h a u:=by
 rcases r with r|⟨o,r⟩
 ·exact x a u r
 ·obtain⟨_,q⟩:=x a _ r
  exact q
def Mut:Option HO->Prop
 | some (.lst _)=>True
 | some (.dK _)=>True
 | some (.dT _)=>True
 | some (.set _ _)=>True
 | some (.ins _ _ _)=>True
 | some (.ext _)=>True
 | _=>False
section
variable{P:Program}{w:World}{H:Hp}{h h':Heap}{x e:Addr}{o':HO}
theorem HOk.write(ok:HOk P w H h)(mu:Mut (H x))(he:e=x\/H e=some (.own x))(k:∀b u,b≠e->h.get? b=some u->h'.get? b=some u)(heo:∃u,h'.get? e=some u)
  (new:dg P w (upd H x o') h' x o'):HOk P w (upd H x o') h':=λb u q=>by
 have Zd:∀c y,H c=some (.own y)->c≠x:=λc y r z=>by subst z;rw[r] at mu;exact mu
 have ade:∀c xs,H c=some (.tup xs)->c≠x:=λc xs r z=>by subst z;rw[r] at mu;exact mu
 by_cases hb:b=x
 ·subst hb;rw[cA] at q;cases q;exact new
 ·rw[bZ hb] at q
  by_cases hbe:b=e
  ·have q':H b=some (.own x):=by
    rcases he with z|z
    ·exact absurd (hbe.trans z) hb
    ·rw[hbe];exact z
   rw[q] at q';cases q'
   obtain⟨v,hv⟩:=heo
   exact⟨v,by rw[hbe];exact hv⟩
  ·refine(ok b u q).stay (λc v hc r=>k c v ?_ r) (λc r=>by rw[bZ (Zd c b r)];exact r) λc xs r=>by rw[bZ (ade c xs r)];exact r
   rcases hc with rfl|hc
   ·exact hbe
   ·rintro rfl
    rcases he with z|z
    ·exact Zd c b hc z
    ·rw[hc] at z;cases z;exact hb rfl
end
structure Un(fs ex:List Addr)(H H':Hp)(h h':Heap):Prop where
 keep:∀b o,h.get? b=some o->H b=none->b ∉ fs->b ∉ ex->h'.get? b=some o
 slot:∀b o,h.get? b=some o->H b=none->b∈fs->b ∉ ex->∃sl,h'.get? b=some { o with slots:=sl }
 free:∀b o,h.get? b=some o->H b=none->b ∉ ex->H' b=none
 there:∀b o,h.get? b=some o->b ∉ ex->∃o',h'.get? b=some o'
 tups:∀b xs,H b=some (.tup xs)->H' b=some (.tup xs)
 pY:∀b o u,H b=some (.frz o u)->H' b=some (.frz o u)
 pZ:∀b ps,H b=some (.tbl ps)->∃more,H' b=some (.tbl (ps++more))
section
variable{fs fs' ex ex':List Addr}{H H1 H2:Hp}{h h1 h2 h':Heap}{a x e:Addr}{o:HO}
theorem Un.any(u:Un fs ex H H1 h h1){b:Addr}{ob:Obj}(q:h.get? b=some ob)(n:H b=none)(hx:b ∉ ex):∃sl,h1.get? b=some { ob with slots:=sl }:=by
 by_cases hb:b∈fs
 ·exact u.slot b ob q n hb hx
 ·exact⟨ob.slots,u.keep b ob q n hb hx⟩
theorem Un.trans(a:Un fs ex H H1 h h1)(b:Un fs ex H1 H2 h1 h2):Un fs ex H H2 h h2 where
 keep:=λc ob q n hc hx=>b.keep c ob (a.keep c ob q n hc hx) (a.free c ob q n hx) hc hx
 slot:=λc ob q n hc hx=>by
  obtain⟨sl,e1⟩:=a.slot c ob q n hc hx
  obtain⟨sl',e2⟩:=b.slot c _ e1 (a.free c ob q n hx) hc hx
  exact⟨sl',e2⟩
 free:=λc ob q n hx=>by
  obtain⟨o',e1⟩:=a.there c ob q hx
  exact b.free c o' e1 (a.free c ob q n hx) hx
 there:=λc ob q hx=>by
  obtain⟨o',e1⟩:=a.there c ob q hx
  exact b.there c o' e1 hx
 tups:=λc xs q=>b.tups c xs (a.tups c xs q)
 pY:=λc ob xs q=>b.pY c ob xs (a.pY c ob xs q)
 pZ:=λc ps q=>by
  obtain⟨m1,e1⟩:=a.pZ c ps q
  obtain⟨m2,e2⟩:=b.pZ c _ e1
  exact⟨m1++m2,by rw[e2,Array.append_assoc]⟩
theorem Un.kept(k:∀b u,h.get? b=some u->h'.get? b=some u):Un fs ex H H h h' :=
 ⟨λb ob q _ _ _=>k b ob q,λb ob q _ _ _=>⟨ob.slots,k b ob q⟩,λ_ _ _ n _=>n,λb ob q _=>⟨ob,k b ob q⟩,λ_ _ q=>q,λ_ _ _ q=>q,λ_ ps q=>⟨#[],by rw[q];simp⟩⟩
theorem Un.refl:Un fs ex H H h h:=Un.kept λ_ _ q=>q
theorem Un.laid(k:∀b u,h.get? b=some u->h'.get? b=some u)(hp:h.objs.size<=a)(hn:H a=none):Un fs ex H (upd H a o) h h' where
 keep:=λb u q _ _ _=>k b u q
 slot:=λb u q _ _ _=>⟨u.slots,k b u q⟩
 free:=λb u q n _=>by rw[bZ (Nat.ne_of_lt (Nat.lt_of_lt_of_le (Heap.lt_size q) hp))];exact n
 there:=λb u q _=>⟨u,k b u q⟩
 tups:=λb xs q=>by rw[bZ (cj q hn)];exact q
 pY:=λb u xs q=>by rw[bZ (cj q hn)];exact q
 pZ:=λb ps q=>⟨#[],by rw[bZ (cj q hn),q];simp⟩
theorem Un.write(mu:Mut (H x))(he:e=x\/H e=some (.own x))(k:∀b u,b≠e->h.get? b=some u->h'.get? b=some u)(heo:∃u,h'.get? e=some u):Un fs ex H (upd H x o) h h':=by
 have hx:∀b,H b=none->b≠x:=λb n z=>by subst z;rw[n] at mu;exact mu
 have hb:∀b,H b=none->b≠e:=λb n z=>by
  subst z
  rcases he with r|r
  ·exact hx b n r
  ·rw[n] at r;cases r
 have hm:∀b u,H b=some u->¬ Mut (some u)->b≠x:=λb u q nm z=>by subst z;rw[q] at mu;exact nm mu
 refine⟨λb u q n _ _=>k b u (hb b n) q,λb u q n _ _=>⟨u.slots,k b u (hb b n) q⟩,λb u q n _=>by rw[bZ (hx b n)];exact n,λb u q _=>?_,
  λb xs q=>by rw[bZ (hm b _ q λz=>z)];exact q,λb u xs q=>by rw[bZ (hm b _ q λz=>z)];exact q,λb ps q=>⟨#[],by rw[bZ (hm b _ q λz=>z),q];simp⟩⟩
 by_cases hbe:b=e
 ·subst hbe;exact heo
 ·exact⟨u,k b u hbe q⟩
end
def trk(h:Heap)(H:Hp):List Addr:=(List.range h.objs.size).filter λa=>(H a).isSome
def wG(h:Heap)(H:Hp):Heap:=W.hideAll h (trk h H)
theorem JV(h:Heap)(H:Hp):(wG h H).objs.size=h.objs.size:=W.hideAll_size _ _
theorem Bf{h:Heap}{H:Hp}{b:Addr}{o:Obj}(e:h.get? b=some o)(n:H b=none):(wG h H).get? b=some o :=
 W.hideAll_get _ e λhm=>by
  have q:(H b).isSome=true:=(List.mem_filter.mp hm).2
  rw[n] at q;simp at q
theorem Rk{h:Heap}{H:Hp}{b:Addr}{o:Obj}(e:(wG h H).get? b=some o):h.get? b=some o/\H b=none:=by
 have e':h.get? b=some o:=W.of_hideAll (trk h H) e
 refine⟨e',?_⟩
 cases q:H b with
 | none=>rfl
 | some x =>
  have hm:b∈trk h H:=List.mem_filter.mpr ⟨List.mem_range.mpr (Heap.lt_size e'),by simp[q]⟩
  have z:(wG h H).get? b=none:=W.hideAll_none (trk h H) hm
  rw[z] at e;cases e
structure Mod(K:W.Frag)(mg:Str->Option Value)(base:Heap):Prop where
 kin:K.In base
 glob:base.Ns mainGlobals mg
 blt:∃mb,base.Ns builtinsNs mb/\∀x:Str,x ≠ "__name__" -> mb x=bootBuiltins x
 nolimit:base.NoLimit
/-- the context: a def's body (or a comprehension's block) running. base: fixed through the whole law; s₀, H₀: the entry; outer: the frames whose slots others may change (a def's callers); stack: all frames that run;
   ex: iterators that were made ahead of the entry and are walked here (a comprehension's);fn: the names whose cells were made at the entry (a def: all;a comprehension's block: its own);calm: not within an except suite;pn: pins that every state bears;xe: what is wanted of an exception that leaves the code -/
structure Cx where
 prog:Program
 w:World
 K:W.Frag
 mg:Str->Option Value
 base:Heap
 A:Around
 N:List Str
 s₀:Shared
 H₀:Hp
 env:Env
 outer:List Env
 stack:List Env
 ex:List Addr
 fn:Str->Bool
 calm:Bool
 pn:List (Addr×Obj)
 xe:Value->Shared->Prop
def frs(l:List Env):List Addr:=l.filterMap (·.frame)
abbrev Cx.fs(X:Cx):List Addr:=frs X.outer
def Vis(sc:Scope)(x:Str):Prop:=sc.names.lookup x=some .local\/sc.names.lookup x=some .cell\/sc.names.lookup x=some .free
def Loc(sc:Scope)(x:Str):Prop:=sc.names.lookup x=some .local\/sc.names.lookup x=some .cell
def Look(env:Env)(h:Heap)(m:Str->Option Value)(x:Str)(u:Value):Prop :=
 (env.kindOf x=some .local/\m x=some u)\/((env.kindOf x=some .cell\/env.kindOf x=some .free)/\∃c,env.cells.lookup x=some c/\h.IsCell c (some u))
structure Cx.Ok(X:Cx):Prop where
 mod:Mod X.K X.mg X.base
 kind:X.env.scope.kind=.function
 glob:X.env.globals=mainGlobals
 blt:X.env.builtins=builtinsNs
 above:X.s₀.heap.objs.size<=X.env.locals
 inj:∀x y c,X.env.cells.lookup x=some c->X.env.cells.lookup y=some c->x=y
 has:∀x,(X.env.kindOf x=some .cell\/X.env.kindOf x=some .free)->∃c,X.env.cells.lookup x=some c
 cab:∀x c,X.fn x=true->X.env.cells.lookup x=some c->X.s₀.heap.objs.size<=c
 hd:X.calm=true->X.A.handled=none
 frames:X.A.frames=some X.stack
 stk:X.stack=X.outer\/(X.stack=X.env::X.outer/\X.env.frame=some X.env.locals)
 exf:∀b∈X.ex,b≠X.env.locals/\∀x c,X.env.cells.lookup x=some c->c≠b
 bs:∀b o,X.base.get? b=some o->X.s₀.heap.get? b=some o/\X.H₀ b=none
 bsz:X.base.objs.size<=X.s₀.heap.objs.size
 JW:∀b o,X.base.get? b=some o->b ∉ X.ex
 Ls:∀b∈X.ex,b ∉ X.fs
 p8:X.s₀.heap.FunFrames X.base X.outer
 frf:∀b∈X.fs,X.H₀ b=none
structure Inv(X:Cx)(pins:List (Addr×Obj))(σ:List (Option V))(H:Hp)(s:Shared):Prop where
 ok:X.Ok
 os:s.os=X.s₀.os
 bare:AllBare s.gens
 base:Un X.fs X.ex X.H₀ H X.s₀.heap s.heap
 loc:∃m,s.heap.Ns X.env.locals m/\∀(i:Nat) (x:Str) (v:V),X.N[i]?=some x->σ[i]?=some (some v)->Vis X.env.scope x->∃u,RelV v u/\Look X.env s.heap m x u
 cell:∀x c,X.env.cells.lookup x=some c->∃v,s.heap.IsCell c v
 free:H X.env.locals=none
 mF:∀x c,X.env.cells.lookup x=some c->H c=none
 pin:∀p∈X.pn++pins,s.heap.get? p.1=some p.2/\H p.1=none/\p.1≠X.env.locals/\p.1 ∉ X.fs/\∀v,p.2.data≠.cell v
 hok:HOk X.prog X.w H s.heap
 len:σ.length=X.N.length
section
variable{X:Cx}{pins:List (Addr×Obj)}{σ:List (Option V)}{H H':Hp}{s:Shared}{h':Heap}
theorem Cx.Ok.adf(ok:X.Ok){b:Addr}{o:Obj}(e:X.base.get? b=some o):b ∉ X.fs:=λhb=>by
 have:=(ok.p8.mem hb).1
 rw[e] at this;cases this
theorem Inv.bs(I:Inv X pins σ H s):∀b o,X.base.get? b=some o->s.heap.get? b=some o/\H b=none:=λb o e =>
 ⟨I.base.keep b o (I.ok.bs b o e).1 (I.ok.bs b o e).2 (I.ok.adf e) (I.ok.JW b o e),I.base.free b o (I.ok.bs b o e).1 (I.ok.bs b o e).2 (I.ok.JW b o e)⟩
theorem Inv.bk(I:Inv X pins σ H s):∀b o,X.base.get? b=some o->s.heap.get? b=some o:=λb o e=>(I.bs b o e).1
theorem Inv.mod(I:Inv X pins σ H s):Mod X.K X.mg X.base:=I.ok.mod
theorem Inv.kIn(I:Inv X pins σ H s):X.K.In s.heap:=I.ok.mod.kin.keeps I.bk
theorem Inv.fr(I:Inv X pins σ H s):∃m,Fr X.base X.env.locals s.heap m :=
 let ⟨m,hn,_⟩:=I.loc
 ⟨m,hn,I.bk,Nat.le_trans I.ok.bsz I.ok.above⟩
theorem Inv.lt(I:Inv X pins σ H s):X.env.locals<s.heap.objs.size:=let ⟨_,hn,_⟩:=I.loc;hn.lt
theorem Inv.sz(I:Inv X pins σ H s):X.s₀.heap.objs.size<=s.heap.objs.size:=Nat.le_trans I.ok.above (Nat.le_of_lt I.lt)
theorem Inv.adg(I:Inv X pins σ H s){a:Addr}(h:s.heap.objs.size<=a):a ∉ X.fs:=λhb=>by
 obtain⟨_,o,ho,_⟩:=I.ok.p8.mem hb
 exact absurd (Nat.lt_of_lt_of_le (Heap.lt_size ho) (Nat.le_trans I.sz h)) (Nat.lt_irrefl _)
theorem Inv.cne(I:Inv X pins σ H s):∀x c,X.env.cells.lookup x=some c->c≠X.env.locals:=λx c e z=>by
 obtain⟨v,o,ho,hd⟩:=I.cell x c e
 obtain⟨m,⟨o',es,ep,ho',hd',_⟩,_⟩:=I.loc
 rw[z,ho'] at ho;cases ho;rw[hd'] at hd;cases hd
theorem Inv.p8(I:Inv X pins σ H s):s.heap.FunFrames X.base X.outer:=by
 have all:∀(l:List Env),(∀b∈frs l,b∈X.fs)->X.s₀.heap.FunFrames X.base l->s.heap.FunFrames X.base l:=by
  intro l
  induction l with
  | nil=>intro _ _;trivial
  | cons env r ih =>
   intro hs hl
   obtain⟨hk,⟨L,o,hf,hn,ho,hd⟩,hr⟩:=hl
   have hL:L∈X.fs:=hs L (by unfold frs;rw[List.filterMap_cons,hf];exact List.mem_cons_self)
   obtain⟨sl,e⟩:=I.base.slot L o ho (I.ok.frf L hL) hL λz=>I.ok.Ls L z hL
   exact⟨hk,⟨L,_,hf,hn,e,hd⟩,ih (λb hb=>hs b (by unfold frs;rw[List.filterMap_cons,hf];exact List.mem_cons_of_mem _ hb)) hr⟩
 exact all X.outer (λ_ hb=>hb) I.ok.p8
theorem Inv.stack(I:Inv X pins σ H s):s.heap.FunFrames X.base X.stack:=by
 rcases I.ok.stk with e|⟨e,hf⟩
 ·rw[e];exact I.p8
 ·rw[e]
  obtain⟨m,hn,_⟩:=I.loc
  refine .cons (by rw[I.ok.kind];decide) hf hn ?_ I.p8
  exact Heap.get?_none_of_le (Nat.le_trans I.ok.bsz I.ok.above)
theorem Inv.tU(I:Inv X pins σ H s):∀b∈frs X.stack,b∈X.env.locals::X.fs:=λb hb=>by
 rcases I.ok.stk with e|⟨e,hf⟩
 ·rw[e] at hb;exact List.mem_cons_of_mem _ hb
 ·rw[e] at hb
  unfold frs at hb
  rw[List.filterMap_cons,hf] at hb
  exact hb
theorem Inv.G_(I:Inv X pins σ H s):∀b∈frs X.stack,H b=none:=λb hb=>by
 rcases List.mem_cons.mp (I.tU b hb) with e|hb
 ·rw[e];exact I.free
 ·obtain⟨_,o,ho,_⟩:=I.ok.p8.mem hb
  exact I.base.free b o ho (I.ok.frf b hb) λz=>I.ok.Ls b z hb
theorem Inv.step{g':Array GenState}{t':Nat}{d':Drawn}{ch:List Addr}(I:Inv X pins σ H s)
  (hch:∀b∈ch,(b∈X.ex\/X.s₀.heap.objs.size<=b)/\b≠X.env.locals/\(∀x c,X.env.cells.lookup x=some c->c≠b)/\∀p∈X.pn++pins,p.1≠b)
  (keep:∀b o,b≠X.env.locals->b ∉ X.fs->b ∉ ch->s.heap.get? b=some o->H b=none->h'.get? b=some o)
  (slot:∀b o,b≠X.env.locals->b∈X.fs->b ∉ ch->s.heap.get? b=some o->H b=none->∃sl,h'.get? b=some { o with slots:=sl }) (free:∀b o,b ∉ ch->s.heap.get? b=some o->H b=none->H' b=none)
  (there:∀b o,b ∉ ch->s.heap.get? b=some o->∃o',h'.get? b=some o')
  (tups:∀b xs,H b=some (.tup xs)->H' b=some (.tup xs)) (pY:∀b o u,H b=some (.frz o u)->H' b=some (.frz o u)) (pZ:∀b ps,H b=some (.tbl ps)->∃more,H' b=some (.tbl (ps++more)))
  (ns:∀m,s.heap.Ns X.env.locals m->h'.Ns X.env.locals m) (hok:HOk X.prog X.w H' h') (hg:AllBare g') :
  Inv X pins σ H' { s with heap:=h',gens:=g',drawn:=d',toks:=t' }:=by
 have neL:∀b o,X.s₀.heap.get? b=some o->b≠X.env.locals:=λb o e=>Nat.ne_of_lt (Nat.lt_of_lt_of_le (Heap.lt_size e) I.ok.above)
 have neC:∀b o,X.s₀.heap.get? b=some o->b ∉ X.ex->b ∉ ch:=λb o e hx hb=>by
  rcases(hch b hb).1 with z|z
  ·exact hx z
  ·exact absurd (Nat.lt_of_lt_of_le (Heap.lt_size e) z) (Nat.lt_irrefl _)
 have cellK:∀x c,X.env.cells.lookup x=some c->∀v,s.heap.IsCell c v->h'.IsCell c v:=λx c e v ⟨o,ho,hd⟩=>by
  have nch:c ∉ ch:=λz=>(hch c z).2.2.1 x c e rfl
  by_cases hc:c∈X.fs
  ·obtain⟨sl,q⟩:=slot c o (I.cne x c e) hc nch ho (I.mF x c e)
   exact⟨_,q,hd⟩
  ·exact⟨o,keep c o (I.cne x c e) hc nch ho (I.mF x c e),hd⟩
 refine⟨I.ok,I.os,hg,⟨λb o e n hb hx=>?_,λb o e n hb hx=>?_,λb o e n hx=>?_,λb o e hx=>?_,λb xs e=>tups b xs (I.base.tups b xs e),λb o xs e=>pY b o xs (I.base.pY b o xs e),λb ps e=>?_⟩,?_,λx c e=>?_,?_,λx c e=>?_,λp hp=>?_,hok,I.len⟩
 ·exact keep b o (neL b o e) hb (neC b o e hx) (I.base.keep b o e n hb hx) (I.base.free b o e n hx)
 ·obtain⟨sl,e1⟩:=I.base.slot b o e n hb hx
  obtain⟨sl',e2⟩:=slot b _ (neL b o e) hb (neC b o e hx) e1 (I.base.free b o e n hx)
  exact⟨sl',e2⟩
 ·obtain⟨o',e1⟩:=I.base.there b o e hx
  exact free b o' (neC b o e hx) e1 (I.base.free b o e n hx)
 ·obtain⟨o',e1⟩:=I.base.there b o e hx
  exact there b o' (neC b o e hx) e1
 ·obtain⟨m1,e1⟩:=I.base.pZ b ps e
  obtain⟨m2,e2⟩:=pZ b _ e1
  exact⟨m1++m2,by rw[e2,Array.append_assoc]⟩
 ·obtain⟨m,hn,hl⟩:=I.loc
  refine⟨m,ns m hn,λi x v e1 e2 e3=>?_⟩
  obtain⟨u,r,l⟩:=hl i x v e1 e2 e3
  refine⟨u,r,?_⟩
  rcases l with l|⟨k,c,e,z⟩
  ·exact .inl l
  ·exact .inr ⟨k,c,e,cellK x c e _ z⟩
 ·obtain⟨v,z⟩:=I.cell x c e
  exact⟨v,cellK x c e v z⟩
 ·obtain⟨m,⟨o,_,_,ho,_⟩,_⟩:=I.loc
  exact free _ o (λz=>(hch _ z).2.1 rfl) ho I.free
 ·obtain⟨v,o,ho,hd⟩:=I.cell x c e
  exact free c o (λz=>(hch c z).2.2.1 x c e rfl) ho (I.mF x c e)
 ·obtain⟨e,n,ne,nf,d⟩:=I.pin p hp
  have nch:p.1 ∉ ch:=λz=>(hch p.1 z).2.2.2 p hp rfl
  exact⟨keep p.1 p.2 ne nf nch e n,free p.1 p.2 nch e n,ne,nf,d⟩
theorem Inv.un{t':Nat}(I:Inv X pins σ H s)(u:Un X.fs [] H H' s.heap h')(hok:HOk X.prog X.w H' h'):Inv X pins σ H' { s with heap:=h',toks:=t' }:=by
 obtain⟨m,⟨o,es,ep,ho,r⟩,_⟩:=id I.loc
 obtain⟨sl,hL⟩:=u.any ho I.free (by simp)
 exact I.step (g':=s.gens) (d':=s.drawn) (ch:=[]) (λ_ z=>nomatch z) (λb o _ hb _ e n=>u.keep b o e n hb (by simp)) (λb o _ hb _ e n=>u.slot b o e n hb (by simp)) (λb o _ e n=>u.free b o e n (by simp)) (λb o _ e=>u.there b o e (by simp)) u.tups u.pY u.pZ (λm' hm=>by
  obtain⟨o',es',ep',ho',r'⟩:=hm
  rw[ho] at ho';cases ho'
  exact⟨_,es',ep',hL,r'⟩) hok I.bare
theorem Inv.call{g':Array GenState}{t':Nat}{d':Drawn}{ch:List Addr}(I:Inv X pins σ H s)(u:Un (frs X.stack) ch H H' s.heap h')(hok:HOk X.prog X.w H' h')(hg:AllBare g')
  (hch:∀b∈ch,(b∈X.ex\/X.s₀.heap.objs.size<=b)/\b≠X.env.locals/\(∀x c,X.env.cells.lookup x=some c->c≠b)/\∀p∈X.pn++pins,p.1≠b) :
  Inv X pins σ H' { s with heap:=h',gens:=g',drawn:=d',toks:=t' }:=by
 obtain⟨m,⟨o,es,ep,ho,r⟩,_⟩:=id I.loc
 obtain⟨sl,hL⟩:=u.any ho I.free λz=>(hch _ z).2.1 rfl
 exact I.step (ch:=ch) hch (λb o hL hb hc e n=>u.keep b o e n (λz=>(List.mem_cons.mp (I.tU b z)).elim hL hb) hc) (λb o _ _ hc e n=>u.any e n hc) (λb o hc e n=>u.free b o e n hc) (λb o hc e=>u.there b o e hc) u.tups u.pY u.pZ (λm' hm=>by
  obtain⟨o',es',ep',ho',r'⟩:=hm
  rw[ho] at ho';cases ho'
  exact⟨_,es',ep',hL,r'⟩) hok hg
theorem Inv.turned{t':Nat}{it:Addr}(I:Inv X pins σ H s)(k:∀b o,b≠it->s.heap.get? b=some o->h'.get? b=some o)(hn:H it=none)(hL:it≠X.env.locals)
  (h1:it∈X.ex\/X.s₀.heap.objs.size<=it) (h2:∀x c,X.env.cells.lookup x=some c->c≠it) (h3:∀p∈X.pn++pins,p.1≠it):Inv X pins σ H { s with heap:=h',toks:=t' }:=by
 have nit:∀b u,H b=some u->b≠it:=λb u e z=>by rw[z,hn] at e;cases e
 refine I.step (g':=s.gens) (d':=s.drawn) (ch:=[it]) (λb hb=>?_) (λb o _ _ hc e _=>k b o (λz=>hc (by simp[z])) e) (λb o _ _ hc e _=>⟨o.slots,k b o (λz=>hc (by simp[z])) e⟩) (λ_ _ _ _ n=>n)
  (λb o hc e=>⟨o,k b o (λz=>hc (by simp[z])) e⟩) (λ_ _ e=>e) (λ_ _ _ e=>e) (λb ps e=>⟨#[],by rw[e];simp⟩) (λm hm=>?_) (λb u e=>?_) I.bare
 ·have e:b=it:=by simpa using hb
  subst e
  exact⟨h1,hL,h2,h3⟩
 ·obtain⟨o,es,ep,ho,r⟩:=hm
  exact⟨o,es,ep,k _ o (Ne.symm hL) ho,r⟩
 ·refine(I.hok b u e).stay (λc v hc q=>k c v ?_ q) (λ_ q=>q) λ_ _ q=>q
  rcases hc with z|z
  ·rw[z];exact nit b u e
  ·exact nit c _ z
theorem Inv.tok(I:Inv X pins σ H s)(t:Nat):Inv X pins σ H { s with toks:=t }:=I.un (h':=s.heap) (t':=t) Un.refl I.hok
theorem Inv.kept{t':Nat}(I:Inv X pins σ H s)(k:∀b u,s.heap.get? b=some u->h'.get? b=some u):Inv X pins σ H { s with heap:=h',toks:=t' }:=I.un (Un.kept k) (I.hok.kept k)
theorem Inv.laid{a:Addr}{o:HO}{t':Nat}(I:Inv X pins σ H s)(k:∀b u,s.heap.get? b=some u->h'.get? b=some u)(hp:s.heap.objs.size<=a)(new:dg X.prog X.w (upd H a o) h' a o) :
  Inv X pins σ (upd H a o) { s with heap:=h',toks:=t' }:=I.un (Un.laid k hp (I.hok.fresh hp)) (I.hok.laid k hp new)
theorem Inv.write{x e:Addr}{o:HO}{t':Nat}(I:Inv X pins σ H s)(mu:Mut (H x))(he:e=x\/H e=some (.own x))(k:∀b u,b≠e->s.heap.get? b=some u->h'.get? b=some u)(heo:∃u,h'.get? e=some u)
  (new:dg X.prog X.w (upd H x o) h' x o):Inv X pins σ (upd H x o) { s with heap:=h',toks:=t' }:=I.un (Un.write mu he k heo) (I.hok.write mu he k heo new)
theorem Inv.Hf{UJ:List (Addr×Obj)}(I:Inv X pins σ H s)(h:∀p∈UJ,s.heap.get? p.1=some p.2/\H p.1=none/\p.1≠X.env.locals/\p.1 ∉ X.fs/\∀v,p.2.data≠.cell v):Inv X UJ σ H s :=
 ⟨I.ok,I.os,I.bare,I.base,I.loc,I.cell,I.free,I.mF,λp hp=>(List.mem_append.mp hp).elim (λz=>I.pin p (List.mem_append_left _ z)) (h p),I.hok,I.len⟩
theorem Bg{N:List Str}(hN:N.Nodup){i j:Nat}{x:Str}(a:N[i]?=some x)(b:N[j]?=some x):i=j:=by
 obtain⟨h1,e1⟩:=List.getElem?_eq_some_iff.mp a
 obtain⟨h2,e2⟩:=List.getElem?_eq_some_iff.mp b
 exact(List.getElem_inj hN).mp (e1.trans e2.symm)
theorem wR{M:Model}{A:Around}{E:Value->Shared->Prop}{i:Nat}{x:Str}{v:V}{u:Value}{Q:Unit->Shared->Prop}(I:Inv X pins σ H s)(hN:X.N.Nodup)(hi:X.N[i]?=some x)(hx:Loc X.env.scope x)(r:RelV v u)
  (h:∀s',Inv X pins (σ.set i (some v)) H s'->(∃a,Heap.SameBut a s.heap s'.heap/\(a=X.env.locals\/X.env.cells.lookup x=some a))->Q () s') (hf:X.fn x=true\/X.env.scope.names.lookup x=some .local:=by first|exact .inl rfl|exact .inr rfl|assumption):wpAny M A (storeName X.env x u) Q E s:=by
 obtain⟨m,hn,hl⟩:=id I.loc
 have hcls:(X.env.scope.kind == .class || (X.env.scope.kind == .module && X.env.locals != X.env.globals))=false:=by rw[I.ok.kind];rfl
 have hiσ:i<σ.length:=by rw[I.len];exact(List.getElem?_eq_some_iff.mp hi).1
 have cne:=I.cne
 have tracked:∀{a:Addr} {h':Heap},(∃o,s.heap.get? a=some o/\H a=none)->Heap.SameBut a s.heap h'->HOk X.prog X.w H h':=λ{a h'} ha hs b ob e=>by
  obtain⟨_,_,hfree⟩:=ha
  refine(I.hok b ob e).stay (λc w' hc q=>(hs.2 c ?_).trans q) (λ_ q=>q) λ_ _ q=>q
  rintro rfl
  rcases hc with rfl|hc
  ·rw[hfree] at e;cases e
  ·rw[hfree] at hc;cases hc
 rcases hx with hk|hk
 ·refine wpAny_storeName_local hk hn (λh' hn' hs=>?_) hcls
  obtain⟨oL,_,_,hoL,_⟩:=id hn
  refine h _ ⟨I.ok,I.os,I.bare,⟨λb o e n hb hx=>?_,λb o e n hb hx=>?_,I.base.free,λb o e hx=>?_,I.base.tups,I.base.pY,I.base.pZ⟩,⟨_,hn',λj y v' e1 e2 e3=>?_⟩,λy c e=>?_,I.free,I.mF,λp hp=>?_,tracked ⟨oL,hoL,I.free⟩ hs,by simpa using I.len⟩ ⟨_,hs,.inl rfl⟩
  ·exact(hs.2 b (Nat.ne_of_lt (Nat.lt_of_lt_of_le (Heap.lt_size e) I.ok.above))).trans (I.base.keep b o e n hb hx)
  ·obtain⟨sl,e1⟩:=I.base.slot b o e n hb hx
   exact⟨sl,(hs.2 b (Nat.ne_of_lt (Nat.lt_of_lt_of_le (Heap.lt_size e) I.ok.above))).trans e1⟩
  ·obtain⟨o',e1⟩:=I.base.there b o e hx
   exact⟨o',(hs.2 b (Nat.ne_of_lt (Nat.lt_of_lt_of_le (Heap.lt_size e) I.ok.above))).trans e1⟩
  ·by_cases hj:j=i
   ·subst hj
    rw[hi] at e1;cases e1
    rw[List.getElem?_set_self hiσ] at e2
    cases e2
    exact⟨u,r,.inl ⟨hk,by simp⟩⟩
   ·rw[List.getElem?_set_ne (Ne.symm hj)] at e2
    obtain⟨u',r',q⟩:=hl j y v' e1 e2 e3
    refine⟨u',r',?_⟩
    rcases q with⟨k,e⟩|⟨k,c,e,z⟩
    ·refine .inl ⟨k,?_⟩
     have:y≠x:=λe=>hj (Bg hN e1 (e▸hi))
     simp[this,e]
    ·exact .inr ⟨k,c,e,z.sameBut hs (cne y c e)⟩
  ·obtain⟨w',z⟩:=I.cell y c e
   exact⟨w',z.sameBut hs (cne y c e)⟩
  ·obtain⟨e,n,ne,nf,d⟩:=I.pin p hp
   exact⟨(hs.2 p.1 ne).trans e,n,ne,nf,d⟩
 ·have hfn:X.fn x=true:=by
   rcases hf with z|z
   ·exact z
   ·rw[z] at hk;cases hk
  obtain⟨c,hc⟩:=I.ok.has x (.inl hk)
  obtain⟨w',z⟩:=I.cell x c hc
  refine wpAny_storeName_cell I.ok.kind hk hc z (λh' hc' hs=>?_)
  obtain⟨oc,hoc,adh⟩:=id z
  refine h { s with heap:=h' } ⟨I.ok,I.os,I.bare,⟨λb o e n hb hx=>?_,λb o e n hb hx=>?_,I.base.free,λb o e hx=>?_,I.base.tups,I.base.pY,I.base.pZ⟩,⟨m,hn.sameBut hs (Ne.symm (cne x c hc)),λj y v' e1 e2 e3=>?_⟩,λy c' e=>?_,I.free,I.mF,λp hp=>?_,tracked ⟨oc,hoc,I.mF x c hc⟩ hs,by simpa using I.len⟩ ⟨c,hs,.inr hc⟩
  ·exact(hs.2 b (Nat.ne_of_lt (Nat.lt_of_lt_of_le (Heap.lt_size e) (I.ok.cab x c hfn hc)))).trans (I.base.keep b o e n hb hx)
  ·obtain⟨sl,e1⟩:=I.base.slot b o e n hb hx
   exact⟨sl,(hs.2 b (Nat.ne_of_lt (Nat.lt_of_lt_of_le (Heap.lt_size e) (I.ok.cab x c hfn hc)))).trans e1⟩
  ·obtain⟨o',e1⟩:=I.base.there b o e hx
   exact⟨o',(hs.2 b (Nat.ne_of_lt (Nat.lt_of_lt_of_le (Heap.lt_size e) (I.ok.cab x c hfn hc)))).trans e1⟩
  ·by_cases hj:j=i
   ·subst hj
    rw[hi] at e1;cases e1
    rw[List.getElem?_set_self hiσ] at e2
    cases e2
    exact⟨u,r,.inr ⟨.inl hk,c,hc,hc'⟩⟩
   ·rw[List.getElem?_set_ne (Ne.symm hj)] at e2
    obtain⟨u',r',q⟩:=hl j y v' e1 e2 e3
    refine⟨u',r',?_⟩
    rcases q with q|⟨k,c',e,z'⟩
    ·exact .inl q
    ·refine .inr ⟨k,c',e,z'.sameBut hs ?_⟩
     rintro rfl
     exact hj (Bg hN e1 (I.ok.inj _ _ _ e hc▸hi))
  ·by_cases hcc:c'=c
   ·subst hcc;exact⟨_,hc'⟩
   ·obtain⟨w2,z2⟩:=I.cell y c' e
    exact⟨w2,z2.sameBut hs hcc⟩
  ·obtain⟨e,n,ne,nf,d⟩:=I.pin p hp
   refine⟨(hs.2 p.1 ?_).trans e,n,ne,nf,d⟩
   intro q
   rw[q,hoc] at e
   have q':oc=p.2:=Option.some.inj e
   exact d w' (by rw[<- q'];exact adh)
theorem jX{M:Model}{A:Around}{E:Value->Shared->Prop}{i:Nat}{x:Str}{v:V}{u:Value}{Q:Unit->Shared->Prop}(I:Inv X pins σ H s)(hN:X.N.Nodup)(hi:X.N[i]?=some x)(hx:Loc X.env.scope x)(r:RelV v u)
  (h:∀s',Inv X pins (σ.set i (some v)) H s'->Q () s') (hf:X.fn x=true\/X.env.scope.names.lookup x=some .local:=by first|exact .inl rfl|exact .inr rfl|assumption):wpAny M A (storeName X.env x u) Q E s :=
 wR I hN hi hx r (λs' I' _=>h s' I') hf
theorem Inv.call'{s':Shared}{ch:List Addr}(I:Inv X pins σ H s)(ho:s'.os=s.os)(u:Un (frs X.stack) ch H H' s.heap s'.heap)(hok:HOk X.prog X.w H' s'.heap)(hg:AllBare s'.gens)
  (hch:∀b∈ch,(b∈X.ex\/X.s₀.heap.objs.size<=b)/\b≠X.env.locals/\(∀x c,X.env.cells.lookup x=some c->c≠b)/\∀p∈X.pn++pins,p.1≠b):Inv X pins σ H' s':=by
 obtain⟨h',g',d',t',o'⟩:=s'
 have e:o'=s.os:=ho
 subst e
 exact I.call (g':=g') (t':=t') (d':=d') u hok hg hch
end
abbrev XK:=Value->Option Addr->Hp->Prop
abbrev St:=List (Option V)
abbrev VK:=V->Hp->Prop
abbrev TE:=St->Hp->VK->Prop
abbrev TT:=St->Hp->(Bool->Hp->Prop)->Prop
abbrev TA:=St->Hp->(List V->Hp->Prop)->Prop
structure Ends where
 nx:St->Hp->Prop
 rt:VK
 bk:St->Hp->Prop:=λ_ _=>False
 ct:St->Hp->Prop:=λ_ _=>False
abbrev TS:=Ends->St->Hp->Prop
def EP(X:Cx)(pins:List (Addr×Obj))(σ:St)(Q:VK)(u:Value)(s':Shared):Prop:=∃v H',Inv X pins σ H' s'/\RelV v u/\Q v H'
def TP(X:Cx)(pins:List (Addr×Obj))(σ:St)(Q:Bool->Hp->Prop)(b:Bool)(s':Shared):Prop:=∃H',Inv X pins σ H' s'/\Q b H'
def AP(X:Cx)(pins:List (Addr×Obj))(σ:St)(Q:List V->Hp->Prop)(us:List Value)(s':Shared):Prop:=∃vs H',Inv X pins σ H' s'/\Vals vs us/\Q vs H'
def SP(X:Cx)(pins:List (Addr×Obj))(D:Ends)(f:Flow)(s':Shared):Prop :=
 match f with
 | .next=>∃σ' H',Inv X pins σ' H' s'/\D.nx σ' H'
 | .brk=>∃σ' H',Inv X pins σ' H' s'/\D.bk σ' H'
 | .cont=>∃σ' H',Inv X pins σ' H' s'/\D.ct σ' H'
 | .ret u=>∃v σ' H',Inv X pins σ' H' s'/\RelV v u/\D.rt v H'
def PE(X:Cx)(e:Expr)(t:TE):Prop :=
 ∀(pins:List (Addr×Obj)) (s:Shared) (σ:St) (H:Hp) (Q:VK),Inv X pins σ H s->t σ H Q->wpAny (model X.prog X.w) X.A (eval e X.env) (EP X pins σ Q) X.xe s
def PT(X:Cx)(e:Expr)(t:TT):Prop :=
 ∀(pins:List (Addr×Obj)) (s:Shared) (σ:St) (H:Hp) (Q:Bool->Hp->Prop),Inv X pins σ H s->t σ H Q->wpAny (model X.prog X.w) X.A (isTrue e X.env (eval e X.env)) (TP X pins σ Q) X.xe s
def PW(X:Cx)(e:Expr)(t:TT):Prop :=
 ∀(whole:Sem Value) (pins:List (Addr×Obj)) (s:Shared) (σ:St) (H:Hp) (Q:Bool->Hp->Prop),Inv X pins σ H s->t σ H Q->wpAny (model X.prog X.w) X.A (isTrue e X.env whole) (TP X pins σ Q) X.xe s
theorem PW.pt{X:Cx}{e:Expr}{t:TT}(h:PW X e t):PT X e t:=h _
def PA(X:Cx)(es:List Expr)(t:TA):Prop :=
 ∀(pos:Pos) (pins:List (Addr×Obj)) (s:Shared) (σ:St) (H:Hp) (Q:List V->Hp->Prop),Inv X pins σ H s->t σ H Q->wpAny (model X.prog X.w) X.A (spliced (backTo pos (starEach es X.env))) (AP X pins σ Q) X.xe s
def PS(X:Cx)(st:Stmt)(t:TS):Prop :=
 ∀(pins:List (Addr×Obj)) (s:Shared) (σ:St) (H:Hp) (D:Ends),Inv X pins σ H s->t D σ H->wpAny (model X.prog X.w) X.A (exec st X.env) (SP X pins D) X.xe s
def PSs(X:Cx)(st:List Stmt)(t:TS):Prop :=
 ∀(pins:List (Addr×Obj)) (s:Shared) (σ:St) (H:Hp) (D:Ends),Inv X pins σ H s->t D σ H->wpAny (model X.prog X.w) X.A (execs st X.env) (SP X pins D) X.xe s
theorem thn{α:Type}{t:Sem α}{Q Q':α->Shared->Prop}{M:Model}{A:Around}{E:Value->Shared->Prop}{s:Shared}(h:wpAny M A t Q E s)(hQ:∀a s,Q a s->Q' a s):wpAny M A t Q' E s:=wpAny_mono h hQ λ_ _ x=>x
section
variable{X:Cx}
def eO(i:Nat):TE:=λσ H Q=>∃v,σ[i]?=some (some v)/\Q v H
def tC(v:V):TE:=λ_ H Q=>Q v H
theorem Vu{i:Nat}{x:Str}{pos:Pos}(hN:X.N[i]?=some x)(hv:Vis X.env.scope x)(hd:(x == ("__debug__" : Str))=false:=by decide)(hcd:(x == ("__classdict__" : Str))=false:=by decide):PE X (.Name x pos) (eO i):=by
 intro pins s σ H Q I h
 obtain⟨v,e,h⟩:=h
 obtain⟨m,hn,hl⟩:=I.loc
 obtain⟨u,r,l⟩:=hl i x v hN e hv
 have fin:EP X pins σ Q u s:=⟨v,H,I,r,h⟩
 rcases l with⟨hk,hm⟩|⟨hk,c,hc,hcell⟩
 ·exact wpAny_Name (wpAny_loadName_local I.ok.kind hk hn hm fin) hd
 ·rcases hk with hk|hk
  ·exact wpAny_Name (wpAny_loadName_cell I.ok.kind hk hc hcell fin) hd
  ·exact wpAny_Name (wpAny_loadName_free I.ok.kind hk hc hcell fin hcd) hd
theorem aA{i j pos}:PE X (.Constant (.int i) j pos) (tC (.int i)):=λ_ _ _ H _ I h=>wpAny_Constant_int ⟨.int i,H,I.tok _,⟨_,rfl⟩,h⟩
theorem fH{b j pos}:PE X (.Constant (.bool b) j pos) (tC (.bl b)):=λ_ _ _ H _ I h=>Constant_bool ⟨.bl b,H,I,rfl,h⟩
theorem jz{j pos}:PE X (.Constant .none j pos) (tC .non):=λ_ _ _ H _ I h=>Constant_none ⟨.non,H,I,rfl,h⟩
theorem mU{x j pos}:PE X (.Constant (.str x) j pos) (tC (.str x)):=λ_ _ _ H _ I h=>Calls.Constant_str ⟨.str x,H,I.tok _,⟨_,rfl⟩,h⟩
def Gl(X:Cx)(x:Str):Prop:=X.env.kindOf x=some .globalImplicit
theorem zF{E:Value->Shared->Prop}{pins:List (Addr×Obj)}{s:Shared}{σ:St}{H:Hp}{x:Str}{u:Value}{pos:Pos}{Q:Value->Shared->Prop}(I:Inv X pins σ H s)(hg:Gl X x)(hm:X.mg x=some u)(h:Q u s)
  (hd:(x == ("__debug__" : Str))=false:=by decide):wpAny (model X.prog X.w) X.A (eval (.Name x pos) X.env) Q E s :=
 Calls.Name_function_global I.ok.kind hg (Calls.loadGlobal_global (by rw[I.ok.glob];exact I.mod.glob.keeps I.bk) hm h) hd
theorem iB{E:Value->Shared->Prop}{pins:List (Addr×Obj)}{s:Shared}{σ:St}{H:Hp}{x:Str}{u:Value}{pos:Pos}{Q:Value->Shared->Prop}(I:Inv X pins σ H s)(hg:Gl X x)(hm:X.mg x=none)(hv:bootBuiltins x=some u)(h:Q u s)
  (hn:x ≠ "__name__":=by decide) (hd:(x == ("__debug__" : Str))=false:=by decide):wpAny (model X.prog X.w) X.A (eval (.Name x pos) X.env) Q E s:=by
 obtain⟨mb,h1,h2⟩:=I.mod.blt
 exact Calls.Name_function_global I.ok.kind hg (Calls.loadGlobal_builtin (by rw[I.ok.glob];exact I.mod.glob.keeps I.bk) hm (by rw[I.ok.blt];exact h1.keeps I.bk) ((h2 x hn).trans hv) h) hd
theorem Rm{x:Str}{v:V}{u:Value}{pos:Pos}(hg:Gl X x)(hm:X.mg x=some u)(r:RelV v u)(hd:(x == ("__debug__" : Str))=false:=by decide):PE X (.Name x pos) (tC v) :=
 λ_ _ _ H _ I h=>zF I hg hm ⟨v,H,I,r,h⟩ hd
theorem Rn{x:Str}{v:V}{u:Value}{pos:Pos}(hg:Gl X x)(hm:X.mg x=none)(hv:bootBuiltins x=some u)(r:RelV v u)(hn:x ≠ "__name__":=by decide)(hd:(x == ("__debug__" : Str))=false:=by decide):PE X (.Name x pos) (tC v) :=
 λ_ _ _ H _ I h=>iB I hg hm hv ⟨v,H,I,r,h⟩ hn hd
variable{a b:Expr}{ta tb:TE}{pos:Pos}
def tB(t:TE):TT:=λσ H Q=>t σ H λx H1=>∃c,x=.bl c/\Q c H1
theorem cT{e:Expr}{t:TE}(h:PE X e t)(he:∀whole,isTrue e X.env whole=(do let v <- whole;standAt e.pos;holding [v] (truthy v)):=by intro _;rfl):PT X e (tB t):=by
 intro pins s σ H Q I hw
 refine isTrue_plain (thn (h pins s σ H _ I hw) λv s1 ⟨x,H1,I1,r1,q1⟩=>?_) (he _)
 obtain⟨d,rfl,q⟩:=q1
 cases r1
 exact wpAny_truthy_bool ⟨H1,I1,q⟩
variable{tA tB':TT}{rest:List Expr}
def Vv(t u:TT):TT:=λσ H Q=>t σ H λc H1=>if c=true then u σ H1 Q else Q false H1
def tOr(t u:TT):TT:=λσ H Q=>t σ H λc H1=>if c=true then Q true H1 else u σ H1 Q
def Vw(t:TT):TT:=λσ H Q=>t σ H λc H1=>Q (!c) H1
theorem Hg(ha:PT X a tA):PW X (.BoolOp .And [a] pos) tA:=by
 intro wh pins s σ H Q I h
 refine isTrue_and (thn (ha pins s σ H Q I h) λc s1 e=>?_)
 cases c with
 | true=>exact isTrue_and_nil e
 | false=>exact e
theorem mV(ha:PT X a tA):PW X (.BoolOp .Or [a] pos) tA:=by
 intro wh pins s σ H Q I h
 refine isTrue_or (thn (ha pins s σ H Q I h) λc s1 e=>?_)
 cases c with
 | false=>exact isTrue_or_nil e
 | true=>exact e
theorem Lw(ha:PT X a tA)(hb:PW X (.BoolOp .And (b::rest) pos) tB'):PW X (.BoolOp .And (a::b::rest) pos) (Vv tA tB'):=by
 intro wh pins s σ H Q I h
 refine isTrue_and (thn (ha pins s σ H _ I h) λc s1 ⟨H1,I1,q1⟩=>?_)
 cases c with
 | true=>exact hb wh pins s1 σ H1 Q I1 q1
 | false=>exact⟨H1,I1,q1⟩
theorem rH(ha:PT X a tA)(hb:PW X (.BoolOp .Or (b::rest) pos) tB'):PW X (.BoolOp .Or (a::b::rest) pos) (tOr tA tB'):=by
 intro wh pins s σ H Q I h
 refine isTrue_or (thn (ha pins s σ H _ I h) λc s1 ⟨H1,I1,q1⟩=>?_)
 cases c with
 | true=>exact⟨H1,I1,q1⟩
 | false=>exact hb wh pins s1 σ H1 Q I1 q1
theorem dG(ha:PT X a tA):PT X (.UnaryOp .Not a pos) (Vw tA):=by
 intro pins s σ H Q I h
 exact isTrue_not (ha pins s σ H (λc H1=>Q (!c) H1) I h)
def Lx(ta tb:TE):TE:=λσ H Q=>ta σ H λx H1=>∃c,x=.bl c/\if c=true then tb σ H1 Q else Q (.bl false) H1
def Ly(ta:TE):TE:=λσ H Q=>ta σ H λx H1=>∃c,x=.bl c/\Q (.bl (!c)) H1
theorem gV{op}{t:TE}(h:PE X a t):PE X (.BoolOp op [a] pos) t:=λpins s σ H Q I hw=>BoolOp_one (h pins s σ H Q I hw)
theorem fO(ha:PE X a ta)(hb:PE X (.BoolOp .And (b::rest) pos) tb):PE X (.BoolOp .And (a::b::rest) pos) (Lx ta tb):=by
 intro pins s σ H Q I h
 refine BoolOp_and (thn (ha pins s σ H _ I h) λv s1 ⟨x,H1,I1,r1,q1⟩=>?_)
 obtain⟨c,rfl,q1⟩:=q1
 cases r1
 refine wpAny_truthy_bool ?_
 cases c with
 | true=>exact hb pins s1 σ H1 Q I1 q1
 | false=>exact⟨.bl false,H1,I1,rfl,q1⟩
theorem Lz(ha:PE X a ta):PE X (.UnaryOp .Not a pos) (Ly ta):=by
 intro pins s σ H Q I h
 refine UnaryOp_ (thn (ha pins s σ H _ I h) λv s1 ⟨x,H1,I1,r1,q1⟩=>?_)
 obtain⟨c,rfl,q1⟩:=q1
 cases r1
 exact not_of (wpAny_truthy_bool ⟨.bl (!c),H1,I1,rfl,q1⟩)
def tIf(t:TT)(ta tb:TE):TE:=λσ H Q=>t σ H λc H1=>if c=true then ta σ H1 Q else tb σ H1 Q
theorem tV{c:Expr}(hc:PT X c tA)(ha:PE X a ta)(hb:PE X b tb):PE X (.IfExp c a b pos) (tIf tA ta tb):=by
 intro pins s σ H Q I h
 refine wpAny_IfExp (thn (hc pins s σ H _ I h) λd s1 ⟨H1,I1,q1⟩=>?_)
 cases d with
 | true=>exact ha pins s1 σ H1 Q I1 q1
 | false=>exact hb pins s1 σ H1 Q I1 q1
end
def SqL(K:W.Frag)(H:Hp)(a:Addr)(xs:List V):Prop :=
 Rd H a (.lst xs) \/
  ∃(o:Obj) (its:Array Value) (n:Nat),K.lookup a=some o/\o.cls=.type "list" /\ o.dict=none/\o.data=.seq its n/\its.size<=sizeLine/\Vals xs its.toList
def SqT(K:W.Frag)(H:Hp)(a:Addr)(xs:List V):Prop :=
 Rd H a (.tup xs) \/
  ∃(o:Obj) (its:Array Value) (n:Nat),K.lookup a=some o/\o.cls=.type "tuple" /\ o.data=.seq its n/\its.size<=sizeLine/\Vals xs its.toList
def adi:Value->Option V
 | .none=>some .non
 | .bool b=>some (.bl b)
 | .int i _=>some (.int i)
 | .str x _=>some (.str x)
 | .bytes b _=>some (.byt b)
 | .float b _=>some (.flt b)
 | .ref a=>some (.ref a)
 | .type n=>some (.ty n)
 | _=>none
theorem RelV.abs{x:V}{u:Value}(r:RelV x u):adi u=some x:=by
 cases x with
 | non=>cases r;rfl
 | bl _=>cases r;rfl
 | int _=>obtain⟨t,rfl⟩:=r;rfl
 | str _=>obtain⟨t,rfl⟩:=r;rfl
 | byt _=>obtain⟨t,rfl⟩:=r;rfl
 | flt _=>obtain⟨t,rfl⟩:=r;rfl
 | ref _=>cases r;rfl
 | ty _=>cases r;rfl
theorem RelV.inj{x y:V}{u:Value}(r:RelV x u)(q:RelV y u):x=y:=Option.some.inj (r.abs.symm.trans q.abs)
theorem Vals.inj:∀{xs ys:List V} {us:List Value},Vals xs us->Vals ys us->xs=ys
 | _,_,_,.nil,.nil=>rfl
 | _,_,_,.cons r t,.cons r' t'=>by rw[r.inj r',Vals.inj t t']
section
variable{X:Cx}{pins:List (Addr×Obj)}{σ:St}{H:Hp}{s:Shared}{a:Addr}{xs ys:List V}
theorem SqL.of{K:W.Frag}(h:H a=some (.lst xs)):SqL K H a xs:=.inl (.inl h)
theorem SqT.of{K:W.Frag}(h:H a=some (.tup xs)):SqT K H a xs:=.inl (.inl h)
theorem Inv.list(I:Inv X pins σ H s)(h:SqL X.K H a xs):∃its:List Value,Vals xs its/\PlainL s.heap a its.toArray/\xs.length<=sizeLine:=by
 rcases h with h|⟨o,its,n,hk,hc,hd,hs,hz,r⟩
 ·obtain⟨z,its,n,r,e⟩:=h.ok I.hok
  exact⟨its,r,⟨_,n,e,rfl,rfl,rfl⟩,z⟩
 ·refine⟨its.toList,r,⟨o,n,I.kIn a o hk,hc,hd,by simpa using hs⟩,?_⟩
  have e:=r.length
  simp only[Array.length_toList] at e
  lia
theorem Inv.tuple(I:Inv X pins σ H s)(h:SqT X.K H a xs):∃its:List Value,Vals xs its/\IsTup s.heap a its.toArray/\xs.length<=sizeLine:=by
 rcases h with h|⟨o,its,n,hk,hc,hs,hz,r⟩
 ·obtain⟨z,its,r,p⟩:=h.ok I.hok
  exact⟨its,r,p,z⟩
 ·refine⟨its.toList,r,⟨o,I.kIn a o hk,hc,n,by simpa using hs⟩,?_⟩
  have e:=r.length
  simp only[Array.length_toList] at e
  lia
theorem Inv.tW(I:Inv X pins σ H s)(h:SqL X.K H a xs)(h':SqL X.K H a ys):xs=ys:=by
 obtain⟨its,r,⟨o,n,e,_,_,d⟩,_⟩:=I.list h
 obtain⟨its',r',⟨o',n',e',_,_,d'⟩,_⟩:=I.list h'
 rw[e] at e';cases e'
 rw[d] at d'
 injection d' with d1 _
 have:its=its':=by simpa using congrArg Array.toList d1
 subst this
 exact r.inj r'
theorem Inv.qe(I:Inv X pins σ H s)(h:SqT X.K H a xs)(h':SqT X.K H a ys):xs=ys:=by
 obtain⟨its,r,⟨o,e,_,n,d⟩,_⟩:=I.tuple h
 obtain⟨its',r',⟨o',e',_,n',d'⟩,_⟩:=I.tuple h'
 rw[e] at e';cases e'
 rw[d] at d'
 injection d' with d1 _
 have:its=its':=by simpa using congrArg Array.toList d1
 subst this
 exact r.inj r'
end
abbrev Cx.wish(X:Cx)(E:Value->Shared->Prop):Cx:={ X with xe:=E }
abbrev Cx.nox(X:Cx):Cx:=X.wish λ_ _=>False
theorem Cx.Ok.wish{X:Cx}(ok:X.Ok)(E:Value->Shared->Prop):(X.wish E).Ok :=
 ⟨ok.mod,ok.kind,ok.glob,ok.blt,ok.above,ok.inj,ok.has,ok.cab,ok.hd,ok.frames,ok.stk,ok.exf,ok.bs,ok.bsz,ok.JW,ok.Ls,ok.p8,ok.frf⟩
theorem Cx.Ok.jc{X:Cx}{E:Value->Shared->Prop}(ok:(X.wish E).Ok):X.Ok :=
 ⟨ok.mod,ok.kind,ok.glob,ok.blt,ok.above,ok.inj,ok.has,ok.cab,ok.hd,ok.frames,ok.stk,ok.exf,ok.bs,ok.bsz,ok.JW,ok.Ls,ok.p8,ok.frf⟩
section
variable{X:Cx}{pins:List (Addr×Obj)}{σ:St}{H:Hp}{s:Shared}{E:Value->Shared->Prop}
theorem Inv.wish(I:Inv X pins σ H s)(E:Value->Shared->Prop):Inv (X.wish E) pins σ H s:=⟨I.ok.wish E,I.os,I.bare,I.base,I.loc,I.cell,I.free,I.mF,I.pin,I.hok,I.len⟩
theorem Inv.jc(I:Inv (X.wish E) pins σ H s):Inv X pins σ H s:=⟨I.ok.jc,I.os,I.bare,I.base,I.loc,I.cell,I.free,I.mF,I.pin,I.hok,I.len⟩
theorem SP.jc{D:Ends}{f:Flow}{s':Shared}(h:SP (X.wish E) pins D f s'):SP X pins D f s':=by
 cases f with
 | next=>obtain⟨σ',H',I,q⟩:=h;exact⟨σ',H',I.jc,q⟩
 | brk=>obtain⟨σ',H',I,q⟩:=h;exact⟨σ',H',I.jc,q⟩
 | cont=>obtain⟨σ',H',I,q⟩:=h;exact⟨σ',H',I.jc,q⟩
 | ret u=>obtain⟨v,σ',H',I,r,q⟩:=h;exact⟨v,σ',H',I.jc,r,q⟩
theorem PE.nox{e:Expr}{t:TE}(h:PE X.nox e t):PE X e t:=λpins s σ H Q I hw =>
 wpAny_mono (h pins s σ H Q (I.wish _) hw) (λ_ _ ⟨v,H',I',r,q⟩=>⟨v,H',I'.jc,r,q⟩) λ_ _ z=>False.elim z
theorem PT.nox{e:Expr}{t:TT}(h:PT X.nox e t):PT X e t:=λpins s σ H Q I hw =>
 wpAny_mono (h pins s σ H Q (I.wish _) hw) (λ_ _ ⟨H',I',q⟩=>⟨H',I'.jc,q⟩) λ_ _ z=>False.elim z
theorem PSs.nox{st:List Stmt}{t:TS}(h:PSs X.nox st t):PSs X st t:=λpins s σ H D I hw =>
 wpAny_mono (h pins s σ H D (I.wish _) hw) (λ_ _ q=>q.jc) λ_ _ z=>False.elim z
end
section
variable{X:Cx}{st:Stmt}{rest:List Stmt}{t u:TS}{e:Expr}{te:TE}{pos:Pos}
def LC:TS:=λD σ H=>D.nx σ H
def Vx(t u:TS):TS:=λD σ H=>t { D with nx:=u D } σ H
theorem bI:PSs X [] LC:=λ_ _ σ H _ I h=>wpAny_execs_nil ⟨σ,H,I,h⟩
theorem au(h1:PS X st t)(h2:PSs X rest u):PSs X (st::rest) (Vx t u):=by
 intro pins s σ H D I h
 refine wpAny_execs_cons (thn (h1 pins s σ H { D with nx:=u D } I h) λf s1 q=>?_)
 cases f with
 | next =>
  obtain⟨σ',H',I',q⟩:=q
  exact h2 pins s1 σ' H' D I' q
 | ret v=>exact q
 | brk=>exact q
 | cont=>exact q
theorem aB(h1:PS X st t):PSs X [st] t:=by
 intro pins s σ H D I h
 refine wpAny_execs_cons (thn (h1 pins s σ H D I h) λf s1 q=>?_)
 cases f with
 | next=>exact wpAny_execs_nil q
 | ret v=>exact q
 | brk=>exact q
 | cont=>exact q
theorem Inv.quiet{pins:List (Addr×Obj)}{σ:St}{H:Hp}{s:Shared}(I:Inv X pins σ H s):interactive X.env=false:=by simp[interactive,I.ok.kind]
def LK(te:TE):TS:=λD σ H=>te σ H λ_ H1=>D.nx σ H1
theorem dw(he:PE X e te)(hs:swapsWith e none pos.line X.env=pure false:=by rfl):PS X (.Expr e pos) (LK te):=by
 intro pins s σ H D I h
 exact wpAny_Expr_any (thn (he pins s σ H _ I h) λv s1 ⟨x,H1,I1,r1,q1⟩=>⟨σ,H1,I1,q1⟩) I.quiet hs
def Vy(te:TE):TS:=λD σ H=>te σ H D.rt
theorem aV(he:PE X e te):PS X (.Return (some e) pos) (Vy te):=by
 intro pins s σ H D I h
 exact wpAny_Return_some (thn (he pins s σ H _ I h) λv s1 ⟨x,H1,I1,r1,q1⟩=>⟨x,σ,H1,I1,r1,q1⟩)
def Vz(c:TT)(t u:TS):TS:=λD σ H=>c σ H λb H1=>if b=true then t D σ H1 else u D σ H1
theorem cF{c:Expr}{a b:List Stmt}{tc:TT}(hc:PT X c tc)(ha:PSs X a t)(hb:PSs X b u):PS X (.If c a b pos) (Vz tc t u):=by
 intro pins s σ H D I h
 refine wpAny_If (thn (hc pins s σ H _ I h) λd s1 ⟨H1,I1,q1⟩=>?_)
 cases d with
 | true=>exact ha pins s1 σ H1 D I1 q1
 | false=>exact hb pins s1 σ H1 D I1 q1
def VB:TS:=λ_ _ _=>False
theorem cW{sts:List Stmt}:PSs X sts VB:=λ_ _ _ _ _ _ h=>h.elim
end
abbrev TG:=V->St->Hp->(St->Hp->Prop)->Prop
abbrev TGs:=List V->St->Hp->(St->Hp->Prop)->Prop
def PG(X:Cx)(target:Expr)(t:TG):Prop :=
 ∀(pins:List (Addr×Obj)) (s:Shared) (σ:St) (H:Hp) (v:V) (u:Value) (Q:St->Hp->Prop),Inv X pins σ H s->RelV v u->t v σ H Q ->
  wpAny (model X.prog X.w) X.A (assign target X.env u) (λ_ s'=>∃σ' H',Inv X pins σ' H' s'/\Q σ' H') X.xe s
def PGs(X:Cx)(ts:List Expr)(t:TGs):Prop :=
 ∀(pins:List (Addr×Obj)) (s:Shared) (σ:St) (H:Hp) (vs:List V) (us:List Value) (Q:St->Hp->Prop),Inv X pins σ H s->Vals vs us->t vs σ H Q ->
  wpAny (model X.prog X.w) X.A (assignInOrder ((assignEach ts X.env).map (·.2)) us) (λ_ s'=>∃σ' H',Inv X pins σ' H' s'/\Q σ' H') X.xe s
abbrev LQ:=V->V->V->Hp->(Hp->Prop)->Prop
def VD(X:Cx)(t:LQ):Prop :=
 ∀(pins:List (Addr×Obj)) (s:Shared) (σ:St) (H:Hp) (o i v:V) (ov iv u:Value) (Q:Hp->Prop),Inv X pins σ H s->RelV o ov->RelV i iv->RelV v u->t o i v H Q ->
  wpAny (model X.prog X.w) X.A (setItem ov iv u) (λ_ s'=>∃H',Inv X pins σ H' s'/\Q H') X.xe s
section
variable{X:Cx}{pos:Pos}
def bK(i:Nat):TG:=λv σ H Q=>Q (σ.set i (some v)) H
theorem bN{i:Nat}{x:Str}(hN:X.N.Nodup)(hi:X.N[i]?=some x)(hx:Loc X.env.scope x)(hf:X.fn x=true\/X.env.scope.names.lookup x=some .local:=by first|exact .inl rfl|exact .inr rfl|assumption):PG X (.Name x pos) (bK i):=by
 intro pins s σ H v u Q I r h
 exact wpAny_assign_Name (jX I hN hi hx r (λs' I'=>⟨_,H,I',h⟩) hf)
def JX:TGs:=λvs σ H Q=>vs=[]/\Q σ H
def iC(t:TG)(u:TGs):TGs:=λvs σ H Q=>∃v r,vs=v::r/\t v σ H λσ' H'=>u r σ' H' Q
theorem nQ:PGs X [] JX:=by
 intro pins s σ H vs us Q I r h
 obtain⟨e,h⟩:=h
 subst e
 cases r
 exact assignInOrder_nil ⟨σ,H,I,h⟩
theorem eG{e:Expr}{es:List Expr}{t:TG}{u:TGs}(h1:PG X e t)(h2:PGs X es u)
  (hs:(assignEach (e::es) X.env).map (·.2)=assign e X.env::(assignEach es X.env).map (·.2):=by rfl):PGs X (e::es) (iC t u):=by
 intro pins s σ H vs us Q I r h
 obtain⟨v,vr,e1,h⟩:=h
 subst e1
 cases r with
 | cons r rr =>
  rw[hs]
  refine assignInOrder_cons (thn (h1 pins s σ H _ _ _ I r h) λ_ s1 ⟨σ1,H1,I1,q1⟩=>?_)
  exact h2 pins s1 σ1 H1 _ _ Q I1 rr q1
def JZ(K:W.Frag)(n:Nat)(t:TGs):TG:=λv σ H Q=>∃a xs,v=.ref a/\SqT K H a xs/\xs.length=n/\t xs σ H Q
theorem tX{es:List Expr}{k:Nat}{t:TGs}{n:Nat}(hc:X.calm=true)(h:PGs X es t)
  (hn:(assignEach es X.env).length=n:=by rfl) (hst:(assignEach es X.env).findIdx? (·.1)=none:=by rfl):PG X (.Tuple es k pos) (JZ X.K n t):=by
 intro pins s σ H v u Q I r hw
 obtain⟨a,xs,e1,hq,hl,hw⟩:=hw
 subst e1
 cases r
 obtain⟨its,rv,ht,hz⟩:=I.tuple hq
 refine assign_Tuple_tuple (I.ok.hd hc) ht (by simp[hn,<- hl,rv.length]) hst λh' hx=>?_
 have I1:Inv X pins σ H { s with heap:=h' }:=I.kept (t':=s.toks) λb o e=>hx b o (Nat.ne_of_lt (Heap.lt_size e)) e
 exact h pins _ σ H xs _ Q I1 (by simpa using rv) hw
def VF(to ti:TE)(t:LQ):TG:=λv σ H Q=>to σ H λo H1=>ti σ H1 λi H2=>t o i v H2 λH3=>Q σ H3
theorem Fb{o i:Expr}{to ti:TE}{t:LQ}(ho:PE X o to)(hi:PE X i ti)(hs:VD X t)
  (ha:∀v,assign (.Subscript o i pos) X.env v=(do
   let ov <- holding [v] (eval o X.env)
   let iv <- holding [v,ov] (eval i X.env)
   standAt pos
   holding [v,ov,iv] (setItem ov iv v)
   release [v,ov,iv] []):=by intro _;rfl):PG X (.Subscript o i pos) (VF to ti t):=by
 intro pins s σ H v u Q I r h
 rw[ha]
 refine wpAny_bind (wpAny_holding (thn (ho pins s σ H _ I h) λov s1 ⟨x,H1,I1,r1,q1⟩=>?_))
 refine wpAny_bind (wpAny_holding (thn (hi pins s1 σ H1 _ I1 q1) λiv s2 ⟨y,H2,I2,r2,q2⟩=>?_))
 refine wpAny_bind (wpAny_standAt (wpAny_bind (wpAny_holding (thn (hs pins s2 σ H2 x y v ov iv u _ I2 r1 r2 r q2) λ_ s3 ⟨H3,I3,q3⟩=>?_))))
 exact wpAny_release ⟨σ,H3,I3,q3⟩
def LR(te:TE)(g:TG):TS:=λD σ H=>te σ H λx H1=>g x σ H1 D.nx
theorem Fd{tg e:Expr}{te:TE}{g:TG}(he:PE X e te)(hg:PG X tg g)(hs:swapsWithSole [tg] e pos.line X.env=pure false:=by rfl)(hw:swappedStores [tg] e X.env=pure none:=by rfl)
  (h1:(assignEach [tg] X.env).map (·.2)=[assign tg X.env]:=by rfl):PS X (.Assign [tg] e pos) (LR te g):=by
 intro pins s σ H D I h
 refine wpAny_Assign_stores (thn (he pins s σ H _ I h) λv s1 ⟨x,H1,I1,r1,q1⟩=>?_) hs hw
 rw[h1]
 exact thn (hg pins s1 σ H1 x v _ I1 r1 q1) λ_ s2 q=>q
theorem aP{i:Nat}{x:Str}{e:Expr}{te:TE}{pos':Pos}(hN:X.N.Nodup)(hi:X.N[i]?=some x)(hx:Loc X.env.scope x)(he:PE X e te)(hs:swapsWith e (some (.Name x pos')) pos.line X.env=pure false:=by rfl)(hf:X.fn x=true\/X.env.scope.names.lookup x=some .local:=by first|exact .inl rfl|exact .inr rfl|assumption) :
  PS X (.Assign [.Name x pos'] e pos) (LR te (bK i)):=by
 intro pins s σ H D I h
 refine wpAny_Assign_Name (thn (he pins s σ H _ I h) λv s1 ⟨y,H1,I1,r1,q1⟩=>?_) hs
 exact jX I1 hN hi hx r1 (λs2 I2=>⟨_,H1,I2,q1⟩) hf
end
section
variable{X:Cx}{pos:Pos}
def L_(c:TT)(tb:TS):TS:=λD σ H=>∃W:Nat->St->Hp->Prop,(∃m,W m σ H)/\∀m σ H,W m σ H ->
 c σ H λb H1=>if b=true then ∃N:St->Hp->Prop,(∀σ' H',N σ' H'->∃m',m'<m/\W m' σ' H')/\tb { D with nx:=N,ct:=N,bk:=D.nx } σ H1 else D.nx σ H1
theorem tY{c:Expr}{body:List Stmt}{tc:TT}{tb:TS}(hp:PassesOwn (model X.prog X.w) X.A X.env X.xe)(hc:PT X c tc)(hb:PSs X body tb):PS X (.While c body [] pos) (L_ tc tb):=by
 intro pins s σ H D I h
 obtain⟨W,⟨m0,w0⟩,turn⟩:=h
 refine wpAny_While (codeAny_whileLoop (λn s'=>∃σ' H',Inv X pins σ' H' s'/\W n σ' H') ?_ m0 ⟨σ,H,I,w0⟩)
 rintro n s1 ⟨σ1,H1,I1,w1⟩
 refine wpAny_passesOwn hp (thn (hc pins s1 σ1 H1 _ I1 (turn n σ1 H1 w1)) λb s2 ⟨H2,I2,q2⟩=>?_)
 cases b with
 | true =>
  obtain⟨N,hN,q2⟩:=q2
  rw[if_pos rfl]
  refine wpAny_passesOwn hp (thn (hb pins s2 σ1 H2 _ I2 q2) λf s3 q3=>?_)
  cases f with
  | next =>
   obtain⟨σ3,H3,I3,n3⟩:=q3
   obtain⟨m',hm,w3⟩:=hN σ3 H3 n3
   exact⟨m',hm,σ3,H3,I3,w3⟩
  | cont =>
   obtain⟨σ3,H3,I3,n3⟩:=q3
   obtain⟨m',hm,w3⟩:=hN σ3 H3 n3
   exact⟨m',hm,σ3,H3,I3,w3⟩
  | brk=>exact q3
  | ret v=>exact q3
 | false =>
  rw[if_neg Bool.false_ne_true]
  exact wpAny_execs_nil ⟨σ1,H2,I2,q2⟩
end
structure It where
 go:Nat->Hp->Prop
 yld:Nat->Hp->V->Hp->Prop
 stop:Nat->Hp->Prop
def jk(X:Cx)(pins:List (Addr×Obj))(H:Hp)(b:Addr):Prop :=
 H b=none/\b≠X.env.locals/\b ∉ X.fs/\(b∈X.ex\/X.s₀.heap.objs.size<=b)/\(∀x c,X.env.cells.lookup x=some c->c≠b)/\∀p∈X.pn++pins,p.1≠b
theorem Inv.Bh{X:Cx}{pins:List (Addr×Obj)}{σ:St}{H H':Hp}{s:Shared}{b:Addr}(I:Inv X pins σ H s)(hb:s.heap.objs.size<=b)(hn:H' b=none):jk X pins H' b:=by
 refine⟨hn,Nat.ne_of_gt (Nat.lt_of_lt_of_le I.lt hb),I.adg hb,.inr (Nat.le_trans I.sz hb),λx c e z=>?_,λp hp z=>?_⟩
 ·obtain⟨v,q⟩:=I.cell x c e
  exact absurd (Nat.lt_of_lt_of_le q.lt (by rw[z];exact hb)) (Nat.lt_irrefl _)
 ·exact absurd (Nat.lt_of_lt_of_le (Heap.lt_size (I.pin p hp).1) (by rw[z];exact hb)) (Nat.lt_irrefl _)
structure Turn(P:Program)(w:World)(K:W.Frag)(tg:Expr)(J:It)(fp:List Addr)(it:Addr)(tn:Nat->Heap->Prop):Prop where
 mem:it∈fp
 obj:∀i h,tn i h->∀b∈fp,∃o,h.get? b=some o/\∀v,o.data≠.cell v
 keep:∀i h h',tn i h->(∀b∈fp,∀o,h.get? b=some o->h'.get? b=some o)->tn i h'
 item:∀(X:Cx),X.prog=P->X.w=w->X.K=K->X.calm=true->∀(i:Nat) (pins:List (Addr×Obj)) (s:Shared) (σ:St) (H:Hp) (E:Value->Shared->Prop),Inv X pins σ H s->(∀b∈fp,jk X pins H b)->tn i s.heap->J.go i H ->
  wpAny (model P w) X.A (pyNext (.ref it)) (λr s1=>∃u,r=some u /\
   wpAny (model P w) X.A (letOwnedTupleGo tg (.ref it) u) (λ_ s2=>∃x H',Inv X pins σ H' s2/\RelV x u/\J.yld i H x H'/\tn (i+1) s2.heap/\∀b∈fp,H' b=none) E s1) E s
 done:∀(X:Cx),X.prog=P->X.w=w->X.K=K->X.calm=true->∀(i:Nat) (pins:List (Addr×Obj)) (s:Shared) (σ:St) (H:Hp) (E:Value->Shared->Prop),Inv X pins σ H s->(∀b∈fp,jk X pins H b)->tn i s.heap->J.stop i H ->
  wpAny (model P w) X.A (pyNext (.ref it)) (λr s1=>r=none/\Inv X pins σ H s1) E s
 self:∀(A:Around) (i:Nat) (s:Shared) (Q:Value->Shared->Prop) (E:Value->Shared->Prop),tn i s.heap->Q (.ref it) s->wpAny (model P w) A (pyIter (.ref it)) Q E s
abbrev TI:=St->Hp->(It->Hp->Prop)->Prop
def PIE(X:Cx)(pins:List (Addr×Obj))(σ:St)(tg:Expr)(R:It->Hp->Prop)(itv:Value)(s2:Shared):Prop :=
 ∃(it:Addr) (fp:List Addr) (tn:Nat->Heap->Prop) (J:It) (H':Hp),itv=.ref it/\Inv X pins σ H' s2/\Turn X.prog X.w X.K tg J fp it tn/\tn 0 s2.heap/\(∀b∈fp,jk X pins H' b)/\R J H'
def PI(X:Cx)(tg iter:Expr)(wi:TI):Prop :=
 ∀(pins:List (Addr×Obj)) (s:Shared) (σ:St) (H:Hp) (R:It->Hp->Prop),Inv X pins σ H s->wi σ H R ->
  wpAny (model X.prog X.w) X.A (eval iter X.env) (λv s1=>wpAny (model X.prog X.w) X.A (pyIter v) (PIE X pins σ tg R) X.xe s1) X.xe s
theorem wU{M:Model}{A:Around}{E:Value->Shared->Prop}{s:Shared}{tg:Expr}{it:Addr}{u:Value}{o:Obj}{n:String}{vs:Array Value}{Q:Unit->Shared->Prop}(ho:s.heap.get? it=some o)(hc:o.cls=.type n)(hd:o.data=.fields vs)
  (hn:["enumerate","zip","dict_itemiterator","dict_reverseitemiterator","odict_iterator","itertools.zip_longest","itertools.pairwise"].contains n=false) (hQ:Q () s):wpAny M A (letOwnedTupleGo tg (.ref it) u) Q E s:=by
 unfold letOwnedTupleGo
 cases tg <;> first
  | exact wpAny_pure hQ
  | (cases u <;> first
    | exact wpAny_pure hQ
    | (refine wpAny_bind (wpAny_load ho ?_)
       rw[hc,hd]
       show wpAny M A (if (["enumerate","zip","dict_itemiterator","dict_reverseitemiterator","odict_iterator","itertools.zip_longest","itertools.pairwise"].contains n && vs[0]? == some (rawInt _))=true then _ else _) Q E s
       rw[if_neg (by intro h;rw[hn,Bool.false_and] at h;cases h)]
       exact wpAny_pure hQ))
def Itl(K:W.Frag)(a:Addr):It :=
 ⟨λi H=>∃xs x,SqL K H a xs/\xs[i]?=some x,λi H x H'=>H'=H/\∀xs,SqL K H a xs->xs[i]?=some x,λi H=>∃xs,SqL K H a xs/\xs.length<=i⟩
def Itt(K:W.Frag)(a:Addr):It :=
 ⟨λi H=>∃xs x,SqT K H a xs/\xs[i]?=some x,λi H x H'=>H'=H/\∀xs,SqT K H a xs->xs[i]?=some x,λi H=>∃xs,SqT K H a xs/\xs.length<=i⟩
def Itr(lo:Int)(n:Nat):It:=⟨λi _=>i<n,λi H x H'=>H'=H/\x=.int (lo+i),λi _=>n<=i⟩
theorem J0{P:Program}{w:World}{K:W.Frag}{tg:Expr}(a it:Addr):Turn P w K tg (Itl K a) [it] it (λi h=>h.IsListIter it a i) where
 mem:=by simp
 obj:=λi h st b hb=>by
  have e:b=it:=by simpa using hb
  subst e
  obtain⟨o,e,c,d⟩:=st
  exact⟨o,e,λv z=>by rw[d] at z;cases z⟩
 keep:=λi h h' st k=>st.at λo e=>k it (by simp) o e
 item:=by
  intro X hP hw hK hc i pins s σ H E I hf st hg
  subst hP hw hK
  obtain⟨xs,x,hq,hx⟩:=hg
  obtain⟨its,rv,p,hz⟩:=I.list hq
  obtain⟨u,hu,ru⟩:=rv.get hx
  obtain⟨f0,f1,f2,f3,f4,f5⟩:=hf it (by simp)
  refine wpAny_pyNext_list_item st p.isList (x:=u) (by simpa using hu) λh' st' sb=>?_
  have I1:Inv X pins σ H { s with heap:=h' }:=I.turned (t':=s.toks) (λb o hb e=>(sb.2 b hb).trans e) f0 f1 f3 f4 f5
  obtain⟨o,e,c,d⟩:=id st'
  exact⟨u,rfl,wU (s:={ s with heap:=h' }) e c d (by decide) ⟨x,H,I1,ru,⟨rfl,λys hy=>by rw[I.tW hy hq];exact hx⟩,st',λb hb=>(hf b hb).1⟩⟩
 done:=by
  intro X hP hw hK hc i pins s σ H E I hf st hg
  subst hP hw hK
  obtain⟨xs,hq,hx⟩:=hg
  obtain⟨its,rv,p,hz⟩:=I.list hq
  obtain⟨f0,f1,f2,f3,f4,f5⟩:=hf it (by simp)
  have hl:=rv.length
  exact wpAny_pyNext_list_end (I.ok.hd hc) st p.isList (by simp;lia) λh' eb=>⟨rfl,I.turned (t':=s.toks) (λb o hb e=>eb b o hb e) f0 f1 f3 f4 f5⟩
 self:=λ_ _ _ _ _ st h=>wpAny_pyIter_listiter st h
theorem Fe{P:Program}{w:World}{K:W.Frag}{tg:Expr}(a it:Addr):Turn P w K tg (Itt K a) [it] it (λi h=>h.IsTupleIter it a i) where
 mem:=by simp
 obj:=λi h st b hb=>by
  have e:b=it:=by simpa using hb
  subst e
  obtain⟨o,e,c,d⟩:=st
  exact⟨o,e,λv z=>by rw[d] at z;cases z⟩
 keep:=λi h h' st k=>st.at λo e=>k it (by simp) o e
 item:=by
  intro X hP hw hK hc i pins s σ H E I hf st hg
  subst hP hw hK
  obtain⟨xs,x,hq,hx⟩:=hg
  obtain⟨its,rv,p,hz⟩:=I.tuple hq
  obtain⟨u,hu,ru⟩:=rv.get hx
  obtain⟨f0,f1,f2,f3,f4,f5⟩:=hf it (by simp)
  refine wpAny_pyNext_tuple_item st (show s.heap.IsTuple a its.toArray from p) (x:=u) (by simpa using hu) λh' st' sb=>?_
  have I1:Inv X pins σ H { s with heap:=h' }:=I.turned (t':=s.toks) (λb o hb e=>(sb.2 b hb).trans e) f0 f1 f3 f4 f5
  obtain⟨o,e,c,d⟩:=id st'
  exact⟨u,rfl,wU (s:={ s with heap:=h' }) e c d (by decide) ⟨x,H,I1,ru,⟨rfl,λys hy=>by rw[I.qe hy hq];exact hx⟩,st',λb hb=>(hf b hb).1⟩⟩
 done:=by
  intro X hP hw hK hc i pins s σ H E I hf st hg
  subst hP hw hK
  obtain⟨xs,hq,hx⟩:=hg
  obtain⟨its,rv,p,hz⟩:=I.tuple hq
  obtain⟨f0,f1,f2,f3,f4,f5⟩:=hf it (by simp)
  have hl:=rv.length
  exact wpAny_pyNext_tuple_end (I.ok.hd hc) st (show s.heap.IsTuple a its.toArray from p) (by simp;lia) λh' eb=>⟨rfl,I.turned (t':=s.toks) (λb o hb e=>eb b o hb e) f0 f1 f3 f4 f5⟩
 self:=λ_ _ _ _ _ st h=>wpAny_pyIter_tupleiter st h
theorem Fg{P:Program}{w:World}{K:PySem.W.Frag}{tg:Expr}(it:Addr)(lo:Int)(n:Nat):Turn P w K tg (Itr lo n) [it] it (λi h=>IsRangeIter h it (lo+(i:Nat)*1) ((n:Int)-(i:Nat)) 1) where
 mem:=by simp
 obj:=λi h st b hb=>by
  have e:b=it:=by simpa using hb
  subst e
  exact⟨_,st,λv z=>by
   have z':Data.fields _=Data.cell v:=z
   cases z'⟩
 keep:=λi h h' st k=>k it (by simp) _ st
 item:=by
  intro X hP hw hK hc i pins s σ H E I hf st hg
  subst hP hw hK
  obtain⟨f0,f1,f2,f3,f4,f5⟩:=hf it (by simp)
  have W:=Walks.range (prog:=X.prog) (w:=X.w) (I.ok.hd hc) it lo 1 n
  refine W.item i s _ _ hg st λv h' tk hv st' kk=>?_
  obtain⟨t,rfl⟩:=hv
  have I1:Inv X pins σ H { s with heap:=h',toks:=tk }:=I.turned (λb o hb e=>kk b o (by simpa using hb) e) f0 f1 f3 f4 f5
  refine⟨_,rfl,wU (s:={ s with heap:=h',toks:=tk }) (n := "range_iterator") st' rfl rfl (by decide) ⟨.int (lo+i),H,I1,⟨t,?_⟩,⟨rfl,rfl⟩,st',λb hb=>(hf b hb).1⟩⟩
  rw[Int.mul_one]
 done:=by
  intro X hP hw hK hc i pins s σ H E I hf st hg
  subst hP hw hK
  obtain⟨f0,f1,f2,f3,f4,f5⟩:=hf it (by simp)
  exact wpAny_pyNext_range_end (I.ok.hd hc) st (by have:n<=i:=hg;lia) λh' eb=>⟨rfl,I.turned (t':=s.toks) (λb o hb e=>eb b o hb e) f0 f1 f3 f4 f5⟩
 self:=λ_ _ _ _ _ st h=>wpAny_pyIter_rangeiter st h
section
variable{X:Cx}{tg:Expr}
def Bj(K:W.Frag)(tl:TE):TI:=λσ H R=>tl σ H λx H1=>∃a,x=.ref a/\(∃xs,SqL K H1 a xs)/\R (Itl K a) H1
def Ze(K:W.Frag)(tl:TE):TI:=λσ H R=>tl σ H λx H1=>∃a,x=.ref a/\(∃xs,SqT K H1 a xs)/\R (Itt K a) H1
theorem dh{l:Expr}{tl:TE}(hl:PE X l tl):PI X tg l (Bj X.K tl):=by
 intro pins s σ H R I h
 refine thn (hl pins s σ H _ I h) λv s1 ⟨x,H1,I1,r1,q1⟩=>?_
 obtain⟨a,e,⟨xs,hq⟩,q⟩:=q1
 subst e
 cases r1
 obtain⟨its,rv,p,hz⟩:=I1.list hq
 refine wpAny_pyIter_list p.isList ?_
 refine⟨s1.heap.objs.size,[s1.heap.objs.size],_,_,H1,rfl,I1.kept (t':=s1.toks) λb o e=>Heap.get?_push_of_some _ e,J0 a _,⟨_,Heap.get?_push_size _ rfl,rfl,rfl⟩,λb hb=>?_,q⟩
 have e:b=s1.heap.objs.size:=by simpa using hb
 subst e
 exact I1.Bh (Nat.le_refl _) (I1.hok.fresh (Nat.le_refl _))
theorem zG{l:Expr}{tl:TE}(hl:PE X l tl):PI X tg l (Ze X.K tl):=by
 intro pins s σ H R I h
 refine thn (hl pins s σ H _ I h) λv s1 ⟨x,H1,I1,r1,q1⟩=>?_
 obtain⟨a,e,⟨xs,hq⟩,q⟩:=q1
 subst e
 cases r1
 obtain⟨its,rv,p,hz⟩:=I1.tuple hq
 refine wpAny_pyIter_tuple (show s1.heap.IsTuple a its.toArray from p) ?_
 refine⟨s1.heap.objs.size,[s1.heap.objs.size],_,_,H1,rfl,I1.kept (t':=s1.toks) λb o e=>Heap.get?_push_of_some _ e,Fe a _,⟨_,Heap.get?_push_size _ rfl,rfl,rfl⟩,λb hb=>?_,q⟩
 have e:b=s1.heap.objs.size:=by simpa using hb
 subst e
 exact I1.Bh (Nat.le_refl _) (I1.hok.fresh (Nat.le_refl _))
theorem Bk{pins:List (Addr×Obj)}{σ:St}{H:Hp}{s:Shared}{R:It->Hp->Prop}{E:Value->Shared->Prop}{lo hi:Int}{t u v:Tok}{tk:Nat}(I:Inv X pins σ H s)(h1:-(2 ^ 62)<=lo)(h2:lo<2 ^ 62)(h3:-(2 ^ 62)<=hi)(h4:hi<2 ^ 62)
  (q:R (Itr lo (hi-lo).toNat) H):wpAny (model X.prog X.w) X.A (pyIter (.ref s.heap.objs.size)) (PIE X pins σ tg R) E { s with heap:=s.heap.push { cls:=.type "range", data:=.fields #[.int lo t,.int hi u,.int 1 v] },toks:=tk }:=by
 refine wpAny_pyIter_range (IsRange.new ..) (small_one h1 h2 h3 h4) ?_
 have I1:Inv X pins σ H { s with heap:=s.heap.push { cls:=.type "range", data:=.fields #[.int lo t,.int hi u,.int 1 v] },toks:=tk }:=I.kept λb o e=>Heap.get?_push_of_some _ e
 refine⟨(s.heap.push { cls:=.type "range", data:=.fields #[.int lo t,.int hi u,.int 1 v] }).objs.size,[(s.heap.push { cls:=.type "range", data:=.fields #[.int lo t,.int hi u,.int 1 v] }).objs.size],_,_,H,rfl,
  I1.kept (t':=tk) λb o e=>Heap.get?_push_of_some _ e,Fg _ lo (hi-lo).toNat,?_,λb hb=>?_,q⟩
 ·have e1:lo+((0:Nat):Int)*1=lo:=by simp
  have e2:(((hi-lo).toNat:Nat):Int)-((0:Nat):Int)=Builtin.Range.rangeSize lo hi 1:=by rw[rangeSize_one];split <;> lia
  show IsRangeIter _ _ (lo+((0:Nat):Int)*1) ((((hi-lo).toNat:Nat):Int)-((0:Nat):Int)) 1
  rw[e1,e2]
  exact Heap.get?_push_size _ rfl
 ·have e:b=(s.heap.push { cls:=.type "range", data:=.fields #[.int lo t,.int hi u,.int 1 v] }).objs.size:=by simpa using hb
  subst e
  exact I1.Bh (Nat.le_refl _) (I1.hok.fresh (Nat.le_refl _))
def Bl(ta:TA):TI:=λσ H R=>ta σ H λvs H1=>∃j:Int,vs=[.int j]/\-(2 ^ 62)<=j/\j<2 ^ 62/\R (Itr 0 j.toNat) H1
def Ma(ta:TA):TI:=λσ H R=>ta σ H λvs H1=>∃i j:Int,vs=[.int i,.int j]/\(-(2 ^ 62)<=i/\i<2 ^ 62/\-(2 ^ 62)<=j/\j<2 ^ 62)/\R (Itr i (j-i).toNat) H1
theorem fQ{a:Expr}{ta:TA}{p pos:Pos}(hg:Gl X "range")(hm:X.mg "range" = none)(ha:PA X [a] ta)(hs:starEach [a] X.env=[(false,eval a X.env)]:=by rfl):PI X tg (.Call (.Name "range" p) [a] [] pos) (Bl ta):=by
 intro pins s σ H R I h
 refine Call_ (iB I hg hm boot_range (PyProof.Rows.callWith_type1 (thn (ha pos pins s σ H _ I h) λus s1 ⟨vs,H1,I1,r1,q1⟩=>?_) hs rfl))
 obtain⟨j,e,q1,q2,q⟩:=q1
 subst e
 cases r1 with
 | cons r rr =>
  cases rr
  obtain⟨t,rfl⟩:=r
  exact call_range_1 (Bk I1 (by lia) (by lia) q1 q2 (by simpa using q))
theorem J1{a b:Expr}{ta:TA}{p pos:Pos}(hg:Gl X "range")(hm:X.mg "range" = none)(ha:PA X [a,b] ta)(hs:starEach [a,b] X.env=[(false,eval a X.env),(false,eval b X.env)]:=by rfl)(hs2:starEach [b] X.env=[(false,eval b X.env)]:=by rfl) :
  PI X tg (.Call (.Name "range" p) [a,b] [] pos) (Ma ta):=by
 intro pins s σ H R I h
 refine Call_ (iB I hg hm boot_range (PyProof.Rows.callWith_type1 (thn (ha pos pins s σ H _ I h) λus s1 ⟨vs,H1,I1,r1,q1⟩=>?_) (by rw[hs,hs2]) (by rw[hs2];rfl)))
 obtain⟨i,j,e,⟨q1,q2,q3,q4⟩,q⟩:=q1
 subst e
 cases r1 with
 | cons r rr =>
  cases rr with
  | cons r' rr =>
   cases rr
   obtain⟨t,rfl⟩:=r
   obtain⟨t',rfl⟩:=r'
   exact call_range_2 (Bk I1 q1 q2 q3 q4 q)
def tZ(wi:TI)(g:TG)(tb:TS):TS:=λD σ H=>wi σ H λJ H1=>∃W:Nat->Nat->St->Hp->Prop,(∃m,W 0 m σ H1)/\∀i m σ H,W i m σ H ->
 (J.stop i H/\D.nx σ H)\/(J.go i H/\∃N:St->Hp->Prop,(∀σ' H',N σ' H'->∃m',m'<m/\W (i+1) m' σ' H')/\∀x H',J.yld i H x H'->g x σ H' λσ2 H2=>tb { D with nx:=N,ct:=N,bk:=D.nx } σ2 H2)
def t_(fp:List Addr)(h:Heap):List (Addr×Obj):=fp.filterMap λb=>(h.get? b).map λo=>(b,o)
theorem jA{fp:List Addr}{h:Heap}{b:Addr}{o:Obj}(hb:b∈fp)(e:h.get? b=some o):(b,o)∈t_ fp h:=List.mem_filterMap.mpr ⟨b,hb,by rw[e];rfl⟩
theorem J2{fp:List Addr}{h:Heap}{p:Addr×Obj}(hp:p∈t_ fp h):p.1∈fp/\h.get? p.1=some p.2:=by
 obtain⟨b,hb,e⟩:=List.mem_filterMap.mp hp
 cases q:h.get? b with
 | none=>rw[q] at e;cases e
 | some o =>
  rw[q] at e
  have e':(b,o)=p:=Option.some.inj e
  subst e'
  exact⟨hb,q⟩
theorem Inv.pinned{pins:List (Addr×Obj)}{σ:St}{H:Hp}{s:Shared}{fp:List Addr}(I:Inv X pins σ H s)(hf:∀b∈fp,jk X pins H b)(ho:∀b∈fp,∃o,s.heap.get? b=some o/\∀v,o.data≠.cell v):Inv X (pins++t_ fp s.heap) σ H s :=
 I.Hf λp hp=>(List.mem_append.mp hp).elim (λz=>I.pin p (List.mem_append_right _ z)) λz=>by
  obtain⟨hb,e⟩:=J2 z
  obtain⟨f0,f1,f2,_⟩:=hf p.1 hb
  obtain⟨o,e',d⟩:=ho p.1 hb
  rw[e] at e';cases e'
  exact⟨e,f0,f1,f2,d⟩
theorem Inv.jY{pins pl:List (Addr×Obj)}{σ:St}{H:Hp}{s:Shared}(I:Inv X (pins++pl) σ H s):Inv X pins σ H s:=I.Hf λp hp=>I.pin p (List.mem_append_right _ (List.mem_append_left _ hp))
theorem dX{iter:Expr}{body:List Stmt}{wi:TI}{g:TG}{tb:TS}{pos:Pos}(hp:PassesOwn (model X.prog X.w) X.A X.env X.xe)(hc:X.calm=true)(hi:PI X tg iter wi)(hg:PG X tg g)(hb:PSs X body tb)
  (hs:∀x,foldedSetIterable iter X.env x=pure x:=by intro _;rfl):PS X (.For tg iter body [] pos) (tZ wi g tb):=by
 intro pins s σ H D I h
 refine wpAny_For (thn (hi pins s σ H _ I h) λv s1 h1=>thn h1 λitv s2 h2=>?_) hs
 obtain⟨it,fp,tn,J,H2,e,I2,T,st2,f2,W,⟨m0,w0⟩,turn⟩:=h2
 subst e
 -- what stays true of the iterator's objects through the loop
 have stat:∀{H':Hp},(∀b∈fp,H' b=none)->∀b∈fp,jk X pins H' b:=λhn b hb=>⟨hn b hb,(f2 b hb).2⟩
 refine codeAny_forLoop_any (λn s'=>∃i σ' H',Inv X pins σ' H' s'/\tn i s'.heap/\(∀b∈fp,H' b=none)/\W i n σ' H') ?_ m0 ⟨0,σ,H2,I2,st2,λb hb=>(f2 b hb).1,w0⟩
 rintro n s3 ⟨i,σ3,H3,I3,st3,fr3,w3⟩
 rcases turn i n σ3 H3 w3 with⟨stop,qn⟩|⟨go,N,hN,step⟩
 ·refine wpAny_passesOwn hp (thn (T.done X rfl rfl rfl hc i pins s3 σ3 H3 X.xe I3 (stat fr3) st3 stop) λr s4 ⟨hr,I4⟩=>?_)
  subst hr
  exact wpAny_execs_nil ⟨σ3,H3,I4,qn⟩
 ·refine wpAny_passesOwn hp (thn (T.item X rfl rfl rfl hc i pins s3 σ3 H3 X.xe I3 (stat fr3) st3 go) λr s4 ⟨u,hr,h4⟩=>?_)
  subst hr
  refine wpAny_passesOwn hp (thn h4 λ_ s5 ⟨x,H5,I5,r5,y5,st5,fr5⟩=>?_)
  have I5':=I5.pinned (stat fr5) (T.obj _ _ st5)
  refine wpAny_passesOwn hp (thn (hg _ s5 σ3 H5 x u _ I5' r5 (step x H5 y5)) λ_ s6 ⟨σ6,H6,I6,q6⟩=>?_)
  refine wpAny_passesOwn hp (thn (hb _ s6 σ6 H6 _ I6 q6) λf s7 q7=>?_)
  have again:∀{σ7:St} {H7:Hp},Inv X (pins++t_ fp s5.heap) σ7 H7 s7->N σ7 H7->∃m,m<n/\∃i σ' H',Inv X pins σ' H' s7/\tn i s7.heap/\(∀b∈fp,H' b=none)/\W i m σ' H':=λ{σ7 H7} I7 n7=>by
   obtain⟨m',hm,w7⟩:=hN σ7 H7 n7
   refine⟨m',hm,i+1,σ7,H7,I7.jY,T.keep _ _ _ st5 λb hb o e=>(I7.pin (b,o) (List.mem_append_right _ (List.mem_append_right _ (jA hb e)))).1,λb hb=>?_,w7⟩
   obtain⟨o,e,d⟩:=T.obj _ _ st5 b hb
   exact(I7.pin (b,o) (List.mem_append_right _ (List.mem_append_right _ (jA hb e)))).2.1
  cases f with
  | next=>obtain⟨σ7,H7,I7,n7⟩:=q7;exact again I7 n7
  | cont=>obtain⟨σ7,H7,I7,n7⟩:=q7;exact again I7 n7
  | brk=>obtain⟨σ7,H7,I7,q7⟩:=q7;exact⟨σ7,H7,I7.jY,q7⟩
  | ret v=>obtain⟨x7,σ7,H7,I7,r7,q7⟩:=q7;exact⟨x7,σ7,H7,I7.jY,r7,q7⟩
end
theorem Mf{K:PySem.W.Frag}{a:Addr}{xs:List V}{g:TG}{tb:TS}{D:Ends}{σ:St}{H:Hp}(Pv:Nat->St->Hp->Prop)(h0:Pv 0 σ H)(hl:∀i σ H,i<=xs.length->Pv i σ H->SqL K H a xs)
  (hs:∀i x σ H,xs[i]?=some x->Pv i σ H->g x σ H λσ2 H2=>tb { D with nx:=Pv (i+1),ct:=Pv (i+1),bk:=D.nx } σ2 H2) (hd:∀σ H,Pv xs.length σ H->D.nx σ H) :
  ∃W:Nat->Nat->St->Hp->Prop,(∃m,W 0 m σ H)/\∀i m σ H,W i m σ H ->
   ((Itl K a).stop i H/\D.nx σ H)\/((Itl K a).go i H/\∃N:St->Hp->Prop,(∀σ' H',N σ' H'->∃m',m'<m/\W (i+1) m' σ' H')/\∀x H',(Itl K a).yld i H x H'->g x σ H' λσ2 H2=>tb { D with nx:=N,ct:=N,bk:=D.nx } σ2 H2):=by
 refine⟨λi m σ H=>m=xs.length-i/\i<=xs.length/\Pv i σ H,⟨xs.length,by simp,Nat.zero_le _,h0⟩,?_⟩
 rintro i m σ H ⟨rfl,hi,p⟩
 have q:=hl i σ H hi p
 by_cases hlt:i<xs.length
 ·refine .inr ⟨⟨xs,xs[i],q,by simp[hlt]⟩,Pv (i+1),λσ' H' p'=>⟨xs.length-(i+1),by lia,rfl,hlt,p'⟩,λx H' y=>?_⟩
  obtain⟨e,y⟩:=y
  subst e
  exact hs i x σ _ (y xs q) p
 ·have e:i=xs.length:=by lia
  subst e
  exact .inl ⟨⟨xs,q,Nat.le_refl _⟩,hd σ H p⟩
theorem wV{lo:Int}{n:Nat}{g:TG}{tb:TS}{D:Ends}{σ:St}{H:Hp}(Pv:Nat->St->Hp->Prop)(h0:Pv 0 σ H)
  (hs:∀i σ H,i<n->Pv i σ H->g (.int (lo+i)) σ H λσ2 H2=>tb { D with nx:=Pv (i+1),ct:=Pv (i+1),bk:=D.nx } σ2 H2) (hd:∀σ H,Pv n σ H->D.nx σ H) :
  ∃W:Nat->Nat->St->Hp->Prop,(∃m,W 0 m σ H)/\∀i m σ H,W i m σ H ->
   ((Itr lo n).stop i H/\D.nx σ H)\/((Itr lo n).go i H/\∃N:St->Hp->Prop,(∀σ' H',N σ' H'->∃m',m'<m/\W (i+1) m' σ' H')/\∀x H',(Itr lo n).yld i H x H'->g x σ H' λσ2 H2=>tb { D with nx:=N,ct:=N,bk:=D.nx } σ2 H2):=by
 refine⟨λi m σ H=>m=n-i/\i<=n/\Pv i σ H,⟨n,by simp,Nat.zero_le _,h0⟩,?_⟩
 rintro i m σ H ⟨rfl,hi,p⟩
 by_cases hlt:i<n
 ·refine .inr ⟨hlt,Pv (i+1),λσ' H' p'=>⟨n-(i+1),by lia,rfl,hlt,p'⟩,λx H' y=>?_⟩
  obtain⟨e,y⟩:=y
  subst e y
  exact hs i σ _ hlt p
 ·have e:i=n:=by lia
  subst e
  exact .inl ⟨Nat.le_refl _,hd σ H p⟩
abbrev R2:=V->V->Hp->VK->Prop
def OpR(X:Cx)(f:Value->Value->Sem Value)(r:R2):Prop :=
 ∀(pins:List (Addr×Obj)) (s:Shared) (σ:St) (H:Hp) (x y:V) (v u:Value) (Q:VK),Inv X pins σ H s->RelV x v->RelV y u->r x y H Q ->
  wpAny (model X.prog X.w) X.A (f v u) (EP X pins σ Q) X.xe s
def UnR(X:Cx)(f:Value->Sem Value)(r:V->Hp->VK->Prop):Prop :=
 ∀(pins:List (Addr×Obj)) (s:Shared) (σ:St) (H:Hp) (x:V) (v:Value) (Q:VK),Inv X pins σ H s->RelV x v->r x H Q ->
  wpAny (model X.prog X.w) X.A (f v) (EP X pins σ Q) X.xe s
def eH(X:Cx)(f:Value)(r:List V->Hp->VK->Prop):Prop :=
 ∀(pins:List (Addr×Obj)) (s:Shared) (σ:St) (H:Hp) (xs:List V) (us:List Value) (Q:VK),Inv X pins σ H s->Vals xs us->r xs H Q ->
  wpAny (model X.prog X.w) X.A (call f us) (EP X pins σ Q) X.xe s
def tOp(r:R2)(ta tb:TE):TE:=λσ H Q=>ta σ H λx H1=>tb σ H1 λy H2=>r x y H2 Q
def tUn(r:V->Hp->VK->Prop)(ta:TE):TE:=λσ H Q=>ta σ H λx H1=>r x H1 Q
def rI(C:Int->Int->Prop)(g:Int->Int->V):R2:=λx y H Q=>∃i j,x=.int i/\y=.int j/\C i j/\Q (g i j) H
def rI0(g:Int->Int->V):R2:=λx y H Q=>∃i j,x=.int i/\y=.int j/\Q (g i j) H
def rU(g:Int->V):V->Hp->VK->Prop:=λx H Q=>∃i,x=.int i/\Q (g i) H
section
variable{X:Cx}{a b c:Expr}{ta tb tc:TE}{pos:Pos}
theorem VG(ha:PE X a ta)(hb:PE X b tb){pins:List (Addr×Obj)}{s:Shared}{σ:St}{H:Hp}{R:V->V->Hp->Prop}(I:Inv X pins σ H s)
  (h:ta σ H λx H1=>tb σ H1 λy H2=>R x y H2) {Q:Value->Shared->Prop} {f:Value->Value->Sem Value}
  (hf:∀v u s2 x y H2,Inv X pins σ H2 s2->RelV x v->RelV y u->R x y H2->wpAny (model X.prog X.w) X.A (f v u) Q X.xe s2) :
  wpAny (model X.prog X.w) X.A (eval a X.env) (λv s₁=>wpAny (model X.prog X.w) X.A (eval b X.env) (λu s₂=>wpAny (model X.prog X.w) X.A (f v u) Q X.xe s₂) X.xe s₁) X.xe s:=by
 refine thn (ha pins s σ H _ I h) λv s1 ⟨x,H1,I1,r1,q1⟩=>?_
 refine thn (hb pins s1 σ H1 _ I1 q1) λu s2 ⟨y,H2,I2,r2,q2⟩=>?_
 exact hf v u s2 x y H2 I2 r1 r2 q2
theorem aR{op:Operator}{r:R2}(ho:OpR X (binaryOp op) r)(ha:PE X a ta)(hb:PE X b tb):PE X (.BinOp a op b pos) (tOp r ta tb):=by
 intro pins s σ H Q I h
 exact wpAny_BinOp (VG ha hb I h λv u s2 x y H2 I2 rx ry q=>ho pins s2 σ H2 x y v u Q I2 rx ry q)
theorem Hh{op:UnaryOp}{r:V->Hp->VK->Prop}(ho:UnR X (unaryOp op) r)(ha:PE X a ta):PE X (.UnaryOp op a pos) (tUn r ta):=by
 intro pins s σ H Q I h
 exact UnaryOp_ (thn (ha pins s σ H _ I h) λv s1 ⟨x,H1,I1,r1,q1⟩=>ho pins s1 σ H1 x v Q I1 r1 q1)
theorem opI{f:Value->Value->Sem Value}{C:Int->Int->Prop}{g:Int->Int->Int}
  (rule:∀(i j:Int) (t u:Tok) (s:Shared) (Q:Value->Shared->Prop) (E:Value->Shared->Prop),C i j->Q (.int (g i j) s.toks) { s with toks:=s.toks+1 }->wpAny (model X.prog X.w) X.A (f (.int i t) (.int j u)) Q E s) :
  OpR X f (rI C λi j=>.int (g i j)):=by
 intro pins s σ H x y v u Q I rx ry h
 obtain⟨i,j,rfl,rfl,hc,q⟩:=h
 obtain⟨t,rfl⟩:=rx
 obtain⟨t',rfl⟩:=ry
 exact rule i j t t' s _ _ hc ⟨.int (g i j),H,I.tok _,⟨_,rfl⟩,q⟩
theorem Zf{f:Value->Value->Sem Value}{g:Int->Int->Int}
  (rule:∀(i j:Int) (t u:Tok) (s:Shared) (Q:Value->Shared->Prop) (E:Value->Shared->Prop),Q (.int (g i j) s.toks) { s with toks:=s.toks+1 }->wpAny (model X.prog X.w) X.A (f (.int i t) (.int j u)) Q E s) :
  OpR X f (rI0 λi j=>.int (g i j)):=by
 intro pins s σ H x y v u Q I rx ry h
 obtain⟨i,j,rfl,rfl,q⟩:=h
 obtain⟨t,rfl⟩:=rx
 obtain⟨t',rfl⟩:=ry
 exact rule i j t t' s _ _ ⟨.int (g i j),H,I.tok _,⟨_,rfl⟩,q⟩
theorem Ro{f:Value->Value->Sem Value}{g:Int->Int->Bool}
  (rule:∀(i j:Int) (t u:Tok) (s:Shared) (Q:Value->Shared->Prop) (E:Value->Shared->Prop),Q (.bool (g i j)) s->wpAny (model X.prog X.w) X.A (f (.int i t) (.int j u)) Q E s) :
  OpR X f (rI0 λi j=>.bl (g i j)):=by
 intro pins s σ H x y v u Q I rx ry h
 obtain⟨i,j,rfl,rfl,q⟩:=h
 obtain⟨t,rfl⟩:=rx
 obtain⟨t',rfl⟩:=ry
 exact rule i j t t' s _ _ ⟨.bl (g i j),H,I,rfl,q⟩
def VH(i j:Int):Prop:=0<j/\j<1073741824
def VJ(i j:Int):Prop:=0<=j/\j<=1000000/\i.natAbs<2 ^ 64
def J3(i j:Int):Prop:=(-(2 ^ 64)<i/\i<2 ^ 64)\/(-(2 ^ 64)<j/\j<2 ^ 64)
theorem J3.ok{i j:Int}(h:J3 i j):IntMulOk i j:=by
 rcases h with⟨h1,h2⟩|⟨h1,h2⟩
 ·exact .of_left (intBits_le_64 h1 h2)
 ·exact .of_right (intBits_le_64 h1 h2)
theorem cG:OpR X (binaryOp .Add) (rI0 λi j=>.int (i+j)):=Zf λ_ _ _ _ _ _ _ q=>add_int q
theorem cP:OpR X (binaryOp .Sub) (rI0 λi j=>.int (i-j)):=Zf λ_ _ _ _ _ _ _ q=>sub_int q
theorem jZ:OpR X (binaryOp .Mult) (rI J3 λi j=>.int (i*j)):=opI λ_ _ _ _ _ _ _ hc q=>mul_int q hc.ok
theorem nR:OpR X (binaryOp .FloorDiv) (rI VH λi j=>.int (i / j)):=opI λi j _ _ _ _ _ hc q=>by
 have h1:(0:Int)<j:=hc.1
 have h2:j<1073741824:=hc.2
 exact floordiv_int (by lia) (by rw[Int.fdiv_eq_ediv_of_nonneg i (by lia)];exact q) (.inl (PyProof.noPylong_small (by lia)))
theorem jB:OpR X (binaryOp .Mod) (rI (λ_ j=>0<j) λi j=>.int (i % j)):=opI λi j _ _ _ _ _ hc q=>by
 have h1:(0:Int)<j:=hc
 exact mod_int' (by lia) (by rw[Int.fmod_eq_emod_of_nonneg i (by lia)];exact q)
theorem Mg:OpR X (binaryOp .Pow) (rI VJ λi j=>.int (i ^ j.toNat)):=opI λ_ _ _ _ _ _ _ hc q=>pow_int_small hc.1 hc.2.1 hc.2.2 q
theorem unI{f:Value->Sem Value}{g:Int->Int}
  (rule:∀(i:Int) (t:Tok) (s:Shared) (Q:Value->Shared->Prop) (E:Value->Shared->Prop),Q (.int (g i) s.toks) { s with toks:=s.toks+1 }->wpAny (model X.prog X.w) X.A (f (.int i t)) Q E s) :
  UnR X f (rU λi=>.int (g i)):=by
 intro pins s σ H x v Q I rx h
 obtain⟨i,rfl,q⟩:=h
 obtain⟨t,rfl⟩:=rx
 exact rule i t s _ _ ⟨.int (g i),H,I.tok _,⟨_,rfl⟩,q⟩
theorem zH:UnR X (unaryOp .USub) (rU λi=>.int (-i)):=unI λ_ _ _ _ _ q=>neg_int q
end
def Zg:V->V->Bool
 | .non,.non=>true|.non,.int _=>true|.int _,.non=>true|.non,.bl _=>true|.bl _,.non=>true|.non,.str _=>true|.str _,.non=>true
 | .int _,.int _=>true|.bl _,.bl _=>true|.str _,.str _=>true|.byt _,.byt _=>true
 | .int _,.str _=>true|.str _,.int _=>true|.bl _,.str _=>true|.str _,.bl _=>true
 | _,_=>false
def rEq:R2:=λx y H Q=>Zg x y=true/\Q (.bl (decide (x=y))) H
def rNe:R2:=λx y H Q=>Zg x y=true/\Q (.bl (!decide (x=y))) H
theorem Hi{i j:Int}:decide (V.int i=V.int j)=(i == j):=by
 rw[Bool.eq_iff_iff]
 simp
theorem Mh{i j:Bool}:decide (V.bl i=V.bl j)=(i == j):=by
 rw[Bool.eq_iff_iff]
 simp
theorem Hj{i j:Str}:decide (V.str i=V.str j)=(i == j):=by
 rw[Bool.eq_iff_iff]
 simp
theorem Hl{i j:Array UInt8}:decide (V.byt i=V.byt j)=(i.toList == j.toList):=by
 rw[Bool.eq_iff_iff]
 cases i
 cases j
 simp
section
variable{X:Cx}{a b c:Expr}{ta tb tc:TE}{pos:Pos}
theorem cH{pins:List (Addr×Obj)}{σ:St}{H:Hp}{s:Shared}{Q:VK}{k k':Bool}(I:Inv X pins σ H s)(q:Q (.bl k) H)(e:k=k'):EP X pins σ Q (.bool k') s:=by
 subst e
 exact⟨.bl k,H,I,rfl,q⟩
theorem gG:OpR X (compareOp .Eq) rEq:=by
 intro pins s σ H x y v u Q I rx ry h
 obtain⟨hs,q⟩:=h
 cases x with
 | non =>
  cases rx
  cases y with
  | non=>cases ry;exact PySem.EqNone.eq_none_none (cH I q (by simp))
  | bl j=>cases ry;exact PySem.EqNone.eq_none_bool (cH I q (by simp))
  | int j=>obtain⟨t',rfl⟩:=ry;exact PySem.EqNone.eq_none_int (cH I q (by simp))
  | str j=>obtain⟨t',rfl⟩:=ry;exact PySem.EqNone.eq_none_str (cH I q (by simp))
  | _=>exact absurd (show false=true from hs) Bool.false_ne_true
 | bl i =>
  cases rx
  cases y with
  | non=>cases ry;exact PySem.EqNone.eq_bool_none (cH I q (by simp))
  | bl j=>cases ry;exact eq_bool (cH I q Mh)
  | str j=>obtain⟨t',rfl⟩:=ry;exact PySem.EqMixed.eq_bool_str (cH I q (by simp))
  | _=>exact absurd (show false=true from hs) Bool.false_ne_true
 | int i =>
  obtain⟨t,rfl⟩:=rx
  cases y with
  | non=>cases ry;exact PySem.EqNone.eq_int_none (cH I q (by simp))
  | int j=>obtain⟨t',rfl⟩:=ry;exact eq_int (cH I q Hi)
  | str j=>obtain⟨t',rfl⟩:=ry;exact PySem.EqMixed.eq_int_str (cH I q (by simp))
  | _=>exact absurd (show false=true from hs) Bool.false_ne_true
 | str i =>
  obtain⟨t,rfl⟩:=rx
  cases y with
  | non=>cases ry;exact PySem.EqNone.eq_str_none (cH I q (by simp))
  | bl j=>cases ry;exact PySem.EqMixed.eq_str_bool (cH I q (by simp))
  | int j=>obtain⟨t',rfl⟩:=ry;exact PySem.EqMixed.eq_str_int (cH I q (by simp))
  | str j=>obtain⟨t',rfl⟩:=ry;exact eq_str (cH I q Hj)
  | _=>exact absurd (show false=true from hs) Bool.false_ne_true
 | byt i =>
  obtain⟨t,rfl⟩:=rx
  cases y with
  | byt j=>obtain⟨t',rfl⟩:=ry;exact W.eq_bytes (cH I q Hl)
  | _=>exact absurd (show false=true from hs) Bool.false_ne_true
 | _=>cases y <;> exact absurd (show false=true from hs) Bool.false_ne_true
theorem Mi:OpR X (compareOp .NotEq) rNe:=by
 intro pins s σ H x y v u Q I rx ry h
 obtain⟨hs,q⟩:=h
 cases x with
 | non =>
  cases rx
  cases y with
  | non=>cases ry;exact PySem.EqNone.ne_none_none (cH I q (by simp))
  | bl j=>cases ry;exact PySem.EqNone.ne_none_bool (cH I q (by simp))
  | int j=>obtain⟨t',rfl⟩:=ry;exact PySem.EqNone.ne_none_int (cH I q (by simp))
  | str j=>obtain⟨t',rfl⟩:=ry;exact PySem.EqNone.ne_none_str (cH I q (by simp))
  | _=>exact absurd (show false=true from hs) Bool.false_ne_true
 | bl i =>
  cases rx
  cases y with
  | non=>cases ry;exact PySem.EqNone.ne_bool_none (cH I q (by simp))
  | bl j=>cases ry;exact ne_bool (cH I q (congrArg not Mh))
  | str j=>obtain⟨t',rfl⟩:=ry;exact PySem.EqMixed.ne_bool_str (cH I q (by simp))
  | _=>exact absurd (show false=true from hs) Bool.false_ne_true
 | int i =>
  obtain⟨t,rfl⟩:=rx
  cases y with
  | non=>cases ry;exact PySem.EqNone.ne_int_none (cH I q (by simp))
  | int j=>obtain⟨t',rfl⟩:=ry;exact ne_int (cH I q (congrArg not Hi))
  | str j=>obtain⟨t',rfl⟩:=ry;exact PySem.EqMixed.ne_int_str (cH I q (by simp))
  | _=>exact absurd (show false=true from hs) Bool.false_ne_true
 | str i =>
  obtain⟨t,rfl⟩:=rx
  cases y with
  | non=>cases ry;exact PySem.EqNone.ne_str_none (cH I q (by simp))
  | bl j=>cases ry;exact PySem.EqMixed.ne_str_bool (cH I q (by simp))
  | int j=>obtain⟨t',rfl⟩:=ry;exact PySem.EqMixed.ne_str_int (cH I q (by simp))
  | str j=>obtain⟨t',rfl⟩:=ry;exact ne_str (cH I q (congrArg not Hj))
  | _=>exact absurd (show false=true from hs) Bool.false_ne_true
 | byt i =>
  obtain⟨t,rfl⟩:=rx
  cases y with
  | byt j=>obtain⟨t',rfl⟩:=ry;exact W.ne_bytes (cH I q (congrArg not Hl))
  | _=>exact absurd (show false=true from hs) Bool.false_ne_true
 | _=>cases y <;> exact absurd (show false=true from hs) Bool.false_ne_true
theorem rJ:OpR X (compareOp .Lt) (rI0 λi j=>.bl (decide (i<j))):=Ro λ_ _ _ _ _ _ _ q=>lt_int q
theorem wW:OpR X (compareOp .LtE) (rI0 λi j=>.bl (decide (i<=j))):=Ro λ_ _ _ _ _ _ _ q=>le_int q
theorem jU:OpR X (compareOp .Gt) (rI0 λi j=>.bl (decide (j<i))):=Ro λ_ _ _ _ _ _ _ q=>gt_int q
theorem Zh:OpR X (compareOp .GtE) (rI0 λi j=>.bl (decide (j<=i))):=Ro λ_ _ _ _ _ _ _ q=>ge_int q
theorem VL:OpR X (compareOp .Is) (λx y H Q=>y=.non/\Q (.bl (decide (x=.non))) H):=by
 intro pins s σ H x y v u Q I rx ry h
 obtain⟨rfl,q⟩:=h
 cases ry
 refine is_none_gen (cH I q ?_)
 cases x <;> first
  | (cases rx;rfl)
  | (obtain⟨t,rfl⟩:=rx;rfl)
theorem Rp:OpR X (compareOp .IsNot) (λx y H Q=>y=.non/\Q (.bl (!decide (x=.non))) H):=by
 intro pins s σ H x y v u Q I rx ry h
 obtain⟨rfl,q⟩:=h
 cases ry
 refine isnot_none_gen (cH I q ?_)
 cases x <;> first
  | (cases rx;rfl)
  | (obtain⟨t,rfl⟩:=rx;rfl)
theorem OpR.or{f:Value->Value->Sem Value}{r r':R2}(h:OpR X f r)(h':OpR X f r'):OpR X f (λx y H Q=>r x y H Q\/r' x y H Q):=by
 intro pins s σ H x y v u Q I rx ry q
 rcases q with q|q
 ·exact h pins s σ H x y v u Q I rx ry q
 ·exact h' pins s σ H x y v u Q I rx ry q
theorem bR(b:Expr){op:CmpOp}(h:op≠.In:=by decide)(h2:op≠.NotIn:=by decide):behindInMarks op b=false:=by
 have e1:(op == CmpOp.In)=false:=by cases op <;> first|rfl|exact absurd rfl h
 have e2:(op == CmpOp.NotIn)=false:=by cases op <;> first|rfl|exact absurd rfl h2
 cases b <;> simp[behindInMarks,e1,e2]
theorem dJ{op:CmpOp}{r:R2}(ho:OpR X (compareOp op) r)(ha:PE X a ta)(hb:PE X b tb)(hm:behindInMarks op b=false):PE X (.Compare a [op] [b] pos) (tOp r ta tb):=by
 intro pins s σ H Q I h
 exact wpAny_Compare1 (VG ha hb I h λv u s2 x y H2 I2 rx ry q=>ho pins s2 σ H2 x y v u Q I2 rx ry q) hm
def Ho(t:TE):TT:=λσ H Q=>t σ H λx H'=>∃k,x=.bl k/\Q k H'
theorem bU{op:CmpOp}{r:R2}(ho:OpR X (compareOp op) r)(ha:PE X a ta)(hb:PE X b tb)(hm:behindInMarks op b=false):PT X (.Compare a [op] [b] pos) (Ho (tOp r ta tb)):=by
 intro pins s σ H Q I h
 refine wpAny_isTrue_Compare1 (thn (ha pins s σ H _ I h) λv s1 ⟨x,H1,I1,r1,q1⟩=>thn (hb pins s1 σ H1 _ I1 q1) λu s2 ⟨y,H2,I2,r2,q2⟩ =>
  thn (ho pins s2 σ H2 x y v u _ I2 r1 r2 q2) λc s3 ⟨z,H3,I3,r3,k,e,q3⟩=>?_) hm
 subst e
 cases r3
 exact wpAny_truthy_bool ⟨H3,I3,q3⟩
def zJ(r r':R2)(ta tb tc:TE):TE:=λσ H Q=>ta σ H λx H1=>tb σ H1 λy H2=>r x y H2 λz H3=>∃k,z=.bl k /\
 (if k=true then tc σ H3 λw' H4=>r' y w' H4 Q else Q (.bl false) H3)
theorem Mj{op op':CmpOp}{r r':R2}(ho:OpR X (compareOp op) r)(ho':OpR X (compareOp op') r')(ha:PE X a ta)(hb:PE X b tb)(hc:PE X c tc)
  (hm:lastMarks [op,op'] [b,c]=false:=by with_unfolding_all rfl):PE X (.Compare a [op,op'] [b,c] pos) (zJ r r' ta tb tc):=by
 intro pins s σ H Q I h
 refine Compare_chain (thn (ha pins s σ H _ I h) λv s1 ⟨x,H1,I1,r1,q1⟩=>chain_link (thn (hb pins s1 σ H1 _ I1 q1) λu s2 ⟨y,H2,I2,r2,q2⟩ =>
  thn (ho pins s2 σ H2 x y v u _ I2 r1 r2 q2) λd s3 ⟨z,H3,I3,r3,k,e,q3⟩=>?_)) hm
 subst e
 cases r3
 refine wpAny_truthy_bool ?_
 cases k with
 | false=>exact ite_ff ⟨.bl false,H3,I3,rfl,q3⟩
 | true=>exact ite_tt (chain_last (thn (hc pins s3 σ H3 _ I3 q3) λw' s4 ⟨z',H4,I4,r4,q4⟩=>ho' pins s4 σ H4 y z' u w' Q I4 r2 r4 q4))
theorem Bo{op op':CmpOp}{r r':R2}(ho:OpR X (compareOp op) r)(ho':OpR X (compareOp op') r')(ha:PE X a ta)(hb:PE X b tb)(hc:PE X c tc)
  (hm:lastMarks [op,op'] [b,c]=false:=by with_unfolding_all rfl):PT X (.Compare a [op,op'] [b,c] pos) (Ho (zJ r r' ta tb tc)):=by
 intro pins s σ H Q I h
 refine isTrue_chain (thn (ha pins s σ H _ I h) λv s1 ⟨x,H1,I1,r1,q1⟩=>test_link (thn (hb pins s1 σ H1 _ I1 q1) λu s2 ⟨y,H2,I2,r2,q2⟩ =>
  thn (ho pins s2 σ H2 x y v u _ I2 r1 r2 q2) λd s3 ⟨z,H3,I3,r3,k,e,q3⟩=>?_)) hm
 subst e
 cases r3
 refine wpAny_truthy_bool ?_
 cases k with
 | false =>
  obtain⟨k',e',q'⟩:=q3
  cases e'
  exact ite_ff ⟨H3,I3,q'⟩
 | true =>
  refine ite_tt (test_last (thn (hc pins s3 σ H3 _ I3 q3) λw' s4 ⟨z',H4,I4,r4,q4⟩=>thn (ho' pins s4 σ H4 y z' u w' _ I4 r2 r4 q4) λd' s5 ⟨z2,H5,I5,r5,k2,e2,q5⟩=>?_))
  subst e2
  cases r5
  exact wpAny_truthy_bool ⟨H5,I5,q5⟩
theorem uc:(sizeLine:Nat)<2 ^ 63:=by rw[sizeLine_eq];decide
theorem Fi:OpR X (binaryOp .Add) (λx y H Q=>∃i j,x=.str i/\y=.str j/\i.length+j.length<=sizeLine/\Q (.str (i++j)) H):=by
 intro pins s σ H x y v u Q I rx ry h
 obtain⟨i,j,rfl,rfl,hz,q⟩:=h
 obtain⟨t,rfl⟩:=rx
 obtain⟨t',rfl⟩:=ry
 exact add_str (λt' tk=>⟨.str (i++j),H,I.tok _,⟨_,rfl⟩,q⟩) hz
theorem vals1{x:V}{us:List Value}(r:Vals [x] us):∃u,us=[u]/\RelV x u:=by
 cases r with
 | cons r1 r2=>cases r2;exact⟨_,rfl,r1⟩
theorem vals2{x y:V}{us:List Value}(r:Vals [x,y] us):∃u w',us=[u,w']/\RelV x u/\RelV y w':=by
 cases r with
 | cons r1 r2 =>
  cases r2 with
  | cons r3 r4=>cases r4;exact⟨_,_,rfl,r1,r3⟩
theorem J4(hc:X.calm=true):eH X (.builtin "max") (λxs H Q=>∃i j,xs=[.int i,.int j]/\Q (.int (if j > i then j else i)) H):=by
 intro pins s σ H xs us Q I r h
 obtain⟨i,j,rfl,q⟩:=h
 obtain⟨u,w',rfl,⟨t,rfl⟩,⟨t',rfl⟩⟩:=vals2 r
 refine max_two_ints (I.ok.hd hc) λh' tk k=>⟨_,H,I.kept k,?_,q⟩
 by_cases hj:j > i
 ·rw[if_pos hj,if_pos hj];exact⟨_,rfl⟩
 ·rw[if_neg hj,if_neg hj];exact⟨_,rfl⟩
theorem J5(hc:X.calm=true):eH X (.builtin "min") (λxs H Q=>∃i j,xs=[.int i,.int j]/\Q (.int (if j<i then j else i)) H):=by
 intro pins s σ H xs us Q I r h
 obtain⟨i,j,rfl,q⟩:=h
 obtain⟨u,w',rfl,⟨t,rfl⟩,⟨t',rfl⟩⟩:=vals2 r
 refine min_two_ints (I.ok.hd hc) λh' tk k=>⟨_,H,I.kept k,?_,q⟩
 by_cases hj:j<i
 ·rw[if_pos hj,if_pos hj];exact⟨_,rfl⟩
 ·rw[if_neg hj,if_neg hj];exact⟨_,rfl⟩
theorem J6:eH X (.type "int") (λxs H Q=>(∃i,xs=[.int i]/\Q (.int i) H)\/∃k,xs=[.bl k]/\Q (.int (if k then 1 else 0)) H):=by
 intro pins s σ H xs us Q I r h
 rcases h with⟨i,rfl,q⟩|⟨k,rfl,q⟩
 ·obtain⟨u,rfl,t,rfl⟩:=vals1 r
  exact call_int_int ⟨.int i,H,I,⟨_,rfl⟩,q⟩
 ·obtain⟨u,rfl,r1⟩:=vals1 r
  cases r1
  exact call_int_bool ⟨.int (if k then 1 else 0),H,I.tok _,⟨_,rfl⟩,q⟩
def Zi(K:W.Frag)(x:V)(H:Hp)(n:Nat):Prop :=
 match x with
 | .str y=>y.length<=sizeLine/\n=y.length
 | .byt y=>y.size<=sizeLine/\n=y.size
 | .ref p=>(∃xs,SqL K H p xs/\n=xs.length)\/∃xs,SqT K H p xs/\n=xs.length
 | _=>False
theorem Ml:eH X (.builtin "len") (λxs H Q=>∃x n,xs=[x]/\Zi X.K x H n/\Q (.int n) H):=by
 intro pins s σ H xs us Q I r h
 obtain⟨x,n,rfl,e,q⟩:=h
 obtain⟨u,rfl,rx⟩:=vals1 r
 have hl:=uc
 have hs:sizeLine=16777216:=sizeLine_eq
 cases x with
 | str y =>
  obtain⟨t,rfl⟩:=rx
  obtain⟨hy,e'⟩:y.length<=sizeLine/\n=y.length:=e
  subst e'
  exact len_str (by lia) ⟨.int _,H,I.tok _,⟨_,rfl⟩,q⟩
 | byt y =>
  obtain⟨t,rfl⟩:=rx
  obtain⟨hy,e'⟩:y.size<=sizeLine/\n=y.size:=e
  subst e'
  exact W.len_bytes (by lia) ⟨.int _,H,I.tok _,⟨_,rfl⟩,q⟩
 | ref p =>
  cases rx
  have e':(∃xs,SqL X.K H p xs/\n=xs.length)\/∃xs,SqT X.K H p xs/\n=xs.length:=e
  rcases e' with⟨xs,hx,e'⟩|⟨xs,hx,e'⟩
  ·subst e'
   obtain⟨its,r',pl,hz⟩:=I.list hx
   have hlen:=r'.length
   exact Calls.call_len_list pl.isList (by simp only[List.size_toArray];lia) ⟨.int xs.length,H,I.tok _,⟨_,by simp only[List.size_toArray];rw[hlen]⟩,q⟩
  ·subst e'
   obtain⟨its,r',pl,hz⟩:=I.tuple hx
   have hlen:=r'.length
   exact len_tuple pl (by simp only[List.size_toArray];lia) ⟨.int xs.length,H,I.tok _,⟨_,by simp only[List.size_toArray];rw[hlen]⟩,q⟩
 | _=>exact(show False from e).elim
end
structure Fj(h:Heap)(x dx C:Addr)(mA:Str->Option Value):Prop where
 obj:h.get? x=some (W.instObj C dx)
 ns:h.Ns1 dx mA
 ne:dx≠x
theorem J7{h:Heap}{dx:Addr}{mA:Str->Option Value}(n:h.Ns1 dx mA):∃od,h.get? dx=some od/\∀name,W.lookIn name od=some (mA name):=by
 obtain⟨o,es,ep,ho,hd,hk,_,hm⟩:=n
 refine⟨o,ho,λname=>?_⟩
 have e:=hm name
 unfold nsFind findBy at e
 rw[<- Array.find?_toList] at e
 unfold W.lookIn
 rw[hd]
 dsimp only
 split
 ·rename_i y q
  rw[q] at e
  exact congrArg some e
 ·rename_i q
  rw[q] at e
  have a:es.toList.any (·.refKey)=false:=by
   rw[List.any_eq_false]
   intro y hy
   obtain⟨z,t,hkey⟩:=hk y (Array.mem_toList_iff.mp hy)
   simp[DictEntry.refKey,hkey]
  have a':¬ es.toList.any (·.refKey)=true:=by rw[a];exact Bool.false_ne_true
  rw[if_neg a']
  exact congrArg some e
theorem Fj.look{h:Heap}{x dx C:Addr}{mA:Str->Option Value}(I:Fj h x dx C mA):∃od,W.InstAt h x (W.instObj C dx) C (some od)/\∀name,W.lookIn name od=some (mA name) :=
 let ⟨od,ho,hl⟩:=J7 I.ns
 ⟨od,⟨I.obj,rfl,rfl,ho⟩,hl⟩
section
variable{prog:Program}{w:World}{A:Around}{E:Value->Shared->Prop}{s:Shared}{K:W.Frag}{x dx C f:Addr}{mA:Str->Option Value}{name:Str}{v:Value}
theorem get_map{expr:Bool}{Q:Value->Shared->Prop}(X:K.In s.heap)(I:Fj s.heap x dx C mA)(hg:W.plainGet K C name=true)(hh:W.hasDictIn K C=true)
  (ha:W.findIn K (.ref C) name=some none) (hv:mA name=some v) (hv':W.handedIn v=true) (h:Q v { s with toks:=s.toks+1 }) :
  wpAny (model prog w) A (getAttr (.ref x) name expr) Q E s:=by
 obtain⟨od,J,hl⟩:=I.look
 exact W.get_value X J (W.plainGet_of hg).1 (W.findObj_own hh ha rfl (by rw[hl,hv])) hv' h
theorem Mp{pl:Sem Bool}{Q:Value×List Value->Shared->Prop}(X:K.In s.heap)(I:Fj s.heap x dx C mA)(hg:W.plainGet K C name=true)
  (hf:W.findIn K (.ref C) name=some (some (.ref f))) (ht:W.isFn K (.ref f)=true) (hv:mA name=none) (h:Q (.ref f,[.ref x]) s) :
  wpAny (model prog w) A (getMethod (.ref x) name pl) Q E s:=by
 obtain⟨od,J,hl⟩:=I.look
 exact W.method_fn X J (W.plainGet_of hg).1 (W.plainGet_of hg).2 hf (beq_iff_eq.mp ht) (by show (W.lookIn name od).map (·.isSome)=some false;rw[hl,hv];rfl) h
theorem Rq{ns:List Str}{Q:Unit->Shared->Prop}(X:K.In s.heap)(I:Fj s.heap x dx C mA)
  (hs:W.findIn K (.ref C) "__setattr__" = some (some (.builtin "object.__setattr__"))) (hp:W.plainOver K C=true) (ht:W.takerIn K C name=some none) (hh:W.hasDictIn K C=true)
  (hw:PySem.Within mA ns) (hsz:ns.length<=sizeLine)
  (h:∀h',Fj h' x dx C (λy=>if y=name then some v else mA y)->Heap.SameBut dx s.heap h'->Q () { s with heap:=h',toks:=s.toks+2 }) :
  wpAny (model prog w) A (setAttr (.ref x) name v) Q E s:=by
 obtain⟨od,J,hl⟩:=I.look
 refine W.set_plain X J hs (W.osa_open (s:={ s with toks:=s.toks+1 }) (r:=none) X J hp ht λb=>?_)
 obtain⟨cd,hc,hd'⟩:=W.any_some hh
 have hx:s.heap.get? x=some ⟨.ref C,some dx,.plain,#[]⟩:=I.obj
 refine wpAny_bind (wpAny_pure (wpAny_bind (wpAny_bind (wpAny_loadPart hx (wpAny_bind (W.Looks.here (s:={ s with toks:=s.toks+1 }) (W.looks_clsIn X hc) ?_))))))
 rw[hd']
 refine wpAny_pure (a:=some dx) (wpAny_bind (wpAny_pure (wpAny_bind ?_)))
 refine wpAny_nsSet1 (s:={ s with toks:=s.toks+1 }) I.ns λh' hn2 hs2=>?_
 obtain⟨oD,esD,epD,hoD,hdD,hcD⟩:=hn2.count (PySem.Within.cons name v hw)
 refine wpAny_bind (wpAny_lookBehind hoD (by rw[hdD];exact pastItsLine_dict (Nat.le_trans hcD (by rw[List.length_cons];lia))) ?_)
 exact wpAny_pure (h _ ⟨(hs2.2 _ (Ne.symm I.ne)).trans I.obj,hn2,I.ne⟩ hs2)
theorem Mq{R:Result->Shared->Prop}{vs:List Value}{kw:List (Str×Value)}(X:K.In s.heap)(hm:W.makesIn K C=true)
  (hi:W.findIn K (.ref C) "__init__" = some (some (.ref f))) (hf:W.typeIn K (.ref f)=some (.type "function"))
  (h:codeAny (model prog w) (A.under (.builtin "type.__call__" ⟨.ref C::vs,kw⟩)) (.call (.ref f) ⟨.ref (s.heap.objs.size+1)::vs,kw⟩) (W.InitBack (s.heap.objs.size+1) R)
   { s with heap:=(s.heap.push W.emptyDict).push (W.instObj C s.heap.objs.size) }) :
  codeAny (model prog w) A (.call (.ref C) ⟨vs,kw⟩) R s:=by
 obtain⟨hh,g,d,t,os⟩:=s
 exact W.make_core (W.makes_of X hm) (W.looks_findIn X hi) (λself=>W.bind_fn X self hf) (.inl rfl) h
end
def gW(f:Str)(v:V):List (Str×V)->List (Str×V)
 | []=>[(f,v)]
 | (g,x)::r=>if g=f then (g,v)::r else (g,x)::gW f v r
theorem eU(f g:Str)(v:V):∀fs:List (Str×V),(gW f v fs).lookup g=if g=f then some v else fs.lookup g
 | []=>by
  show List.lookup g [(f,v)]=_
  by_cases h:g=f
  ·have hb:(g == f)=true:=beq_iff_eq.mpr h
   simp only[List.lookup,hb,if_pos h]
  ·have hb:(g == f)=false:=beq_eq_false_iff_ne.mpr h
   simp only[List.lookup,hb,if_neg h]
 | (k,x)::r=>by
  have ih:=eU f g v r
  rw[show gW f v ((k,x)::r)=(if k=f then (k,v)::r else (k,x)::gW f v r) from rfl]
  by_cases hk:k=f
  ·rw[if_pos hk]
   by_cases h:g=k
   ·have hb:(g == k)=true:=beq_iff_eq.mpr h
    simp only[List.lookup,hb,if_pos (h.trans hk)]
   ·have hb:(g == k)=false:=beq_eq_false_iff_ne.mpr h
    simp only[List.lookup,hb,if_neg (λe:g=f=>h (e.trans hk.symm))]
  ·rw[if_neg hk]
   by_cases h:g=k
   ·have hb:(g == k)=true:=beq_iff_eq.mpr h
    simp only[List.lookup,hb,if_neg (λe:g=f=>hk (h.symm.trans e))]
   ·have hb:(g == k)=false:=beq_eq_false_iff_ne.mpr h
    simp only[List.lookup,hb]
    exact ih
theorem qj(f:Str)(v:V):∀fs:List (Str×V),f∈(gW f v fs).map (·.1)/\∀g,g∈fs.map (·.1)->g∈(gW f v fs).map (·.1)
 | []=>⟨by simp[gW],λg h=>by simp at h⟩
 | (k,x)::r=>by
  obtain⟨i1,i2⟩:=qj f v r
  rw[show gW f v ((k,x)::r)=(if k=f then (k,v)::r else (k,x)::gW f v r) from rfl]
  by_cases hk:k=f
  ·rw[if_pos hk]
   subst hk
   exact⟨by simp,λg h=>by simpa using h⟩
  ·rw[if_neg hk]
   refine⟨?_,λg h=>?_⟩
   ·rw[List.map_cons]
    exact List.mem_cons_of_mem _ i1
   ·rw[List.map_cons] at h ⊢
    rcases List.mem_cons.mp h with e|e
    ·exact List.mem_cons.mpr (.inl e)
    ·exact List.mem_cons_of_mem _ (i2 g e)
theorem rK(f:Str)(v:V):∀fs:List (Str×V),(gW f v fs).length<=fs.length+1
 | []=>by simp[gW]
 | (k,x)::r=>by
  have ih:=rK f v r
  rw[show gW f v ((k,x)::r)=(if k=f then (k,v)::r else (k,x)::gW f v r) from rfl]
  by_cases hk:k=f
  ·rw[if_pos hk,List.length_cons,List.length_cons];lia
  ·rw[if_neg hk,List.length_cons,List.length_cons];lia
theorem mR.some_of{v:V}{o:Option Value}(r:mR (some v) o):∃u,o=some u/\RelV v u:=by
 cases o with
 | none=>exact(show False from r).elim
 | some u=>exact⟨u,rfl,r⟩
theorem mR.none_of{o:Option Value}(r:mR none o):o=none:=by
 cases o with
 | none=>rfl
 | some u=>exact(show False from r).elim
theorem J8{v:V}{u:Value}(r:RelV v u):W.handedIn u=true:=by
 cases v with
 | non=>cases (show u=Value.none from r);rfl
 | bl b=>cases (show u=Value.bool b from r);rfl
 | int i=>obtain⟨t,e⟩:=(show ∃t,u=Value.int i t from r);cases e;rfl
 | str x=>obtain⟨t,e⟩:=(show ∃t,u=Value.str x t from r);cases e;rfl
 | byt b=>obtain⟨t,e⟩:=(show ∃t,u=Value.bytes b t from r);cases e;rfl
 | flt b=>obtain⟨t,e⟩:=(show ∃t,u=Value.float b t from r);cases e;rfl
 | ref a=>cases (show u=Value.ref a from r);rfl
 | ty n=>cases (show u=Value.type n from r);rfl
section
variable{P:Program}{w:World}{H H':Hp}{h h':Heap}{a C dx:Addr}{fs fs':List (Str×V)}
theorem sU(hok:HOk P w H h)(e:H a=some (.ins C dx fs)):∃mA,Fj h a dx C mA/\(∀f,mR (fs.lookup f) (mA f))/\PySem.Within mA (fs.map (·.1))/\fs.length<=1000/\H dx=some (.own a):=by
 obtain⟨d,z,ne,ob,mA,n,r,q⟩:=(show dg P w H h a (.ins C dx fs) from hok a _ e)
 exact⟨mA,⟨ob,n,ne⟩,r,q,z,d⟩
end
structure Cls(K:W.Frag)(C:Addr):Prop where
 pg:W.plainGet K C Str.empty=true
 hd:W.hasDictIn K C=true
 po:W.plainOver K C=true
 sa:W.findIn K (.ref C) "__setattr__" = some (some (.builtin "object.__setattr__"))
theorem Cls.get{K:W.Frag}{C:Addr}(c:Cls K C)(f:Str):W.plainGet K C f=true:=c.pg
def dO(K:W.Frag)(C:Addr)(f:Str):Prop:=W.findIn K (.ref C) f=some none
theorem dO.taker{K:W.Frag}{C:Addr}{f:Str}(n:dO K C f):W.takerIn K C f=some none:=by
 unfold W.takerIn
 rw[show W.findIn K (.ref C) f=some none from n]
 rfl
structure Meth(K:W.Frag)(C:Addr)(m:Str)(f:Addr):Prop where
 at_:W.findIn K (.ref C) m=some (some (.ref f))
 fn:W.isFn K (.ref f)=true
 kp:W.keepIn K (.ref f)=true
section
variable{X:Cx}{pins:List (Addr×Obj)}{σ:St}{H:Hp}{s:Shared}{a C dx:Addr}{fs:List (Str×V)}{f:Str}{v:V}{A:Around}{E:Value->Shared->Prop}
theorem Fl{b:Bool}{Q:Value->Shared->Prop}(I:Inv X pins σ H s)(e:H a=some (.ins C dx fs))(c:Cls X.K C)(n:dO X.K C f)(l:fs.lookup f=some v)
  (h:∀u s',Inv X pins σ H s'->RelV v u->Q u s'):wpAny (model X.prog X.w) A (getAttr (.ref a) f b) Q E s:=by
 obtain⟨mA,O,r,_,_,_⟩:=sU I.hok e
 obtain⟨u,hu,ru⟩:=mR.some_of (v:=v) (o:=mA f) (by rw[<- l];exact r f)
 exact get_map I.kIn O (c.get f) c.hd n hu (J8 ru) (h u _ (I.tok _) ru)
theorem ud{m:Str}{g:Addr}{pl:Sem Bool}{Q:Value×List Value->Shared->Prop}(I:Inv X pins σ H s)(e:H a=some (.ins C dx fs))(c:Cls X.K C)(k:Meth X.K C m g)(l:fs.lookup m=none)
  (h:Q (.ref g,[.ref a]) s):wpAny (model X.prog X.w) A (getMethod (.ref a) m pl) Q E s:=by
 obtain⟨mA,O,r,_,_,_⟩:=sU I.hok e
 have hn:mA m=none:=mR.none_of (by rw[<- l];exact r m)
 exact Mp I.kIn O (c.get m) k.at_ k.fn hn h
theorem Fp{y:V}{u:Value}{Q:Unit->Shared->Prop}(I:Inv X pins σ H s)(e:H a=some (.ins C dx fs))(c:Cls X.K C)(n:dO X.K C f)(hl:fs.length<1000)(ry:RelV y u)
  (h:∀s',Inv X pins σ (upd H a (.ins C dx (gW f y fs))) s'->Q () s'):wpAny (model X.prog X.w) A (setAttr (.ref a) f u) Q E s:=by
 obtain⟨mA,O,r,wi,_,ho⟩:=sU I.hok e
 have hz:(fs.map (·.1)).length<=sizeLine:=by rw[List.length_map,sizeLine_eq];lia
 refine Rq I.kIn O c.sa c.po n.taker c.hd wi hz λh' O' sb=>h _ ?_
 have hd:∃o,h'.get? dx=some o:=let ⟨o,_,_,e',_⟩:=O'.ns;⟨o,e'⟩
 refine I.write (x:=a) (e:=dx) (by rw[e];exact True.intro) (.inr ho) (λb q hb z=>(sb.2 b hb).trans z) hd ?_
 refine⟨by rw[bZ O.ne];exact ho,?_,O.ne,O'.obj,_,O'.ns,λg=>?_,λg hg=>?_⟩
 ·have:=rK f y fs;lia
 ·show mR ((gW f y fs).lookup g) (if g=f then some u else mA g)
  rw[eU]
  by_cases q:g=f
  ·rw[if_pos q,if_pos q];exact ry
  ·rw[if_neg q,if_neg q];exact r g
 ·by_cases q:g=f
  ·rw[q];exact(qj f y fs).1
  ·refine(qj f y fs).2 g (wi g λz=>hg ?_)
   show (if g=f then some u else mA g)=none
   rw[if_neg q];exact z
theorem Inv.made(I:Inv X pins σ H s):Inv X pins σ (upd (upd H s.heap.objs.size (.own (s.heap.objs.size+1))) (s.heap.objs.size+1) (.ins C s.heap.objs.size []))
  { s with heap:=(s.heap.push W.emptyDict).push (W.instObj C s.heap.objs.size) }:=by
 have e1:(s.heap.push W.emptyDict).get? s.heap.objs.size=some W.emptyDict:=Heap.get?_push_size s.heap rfl
 have e2:((s.heap.push W.emptyDict).push (W.instObj C s.heap.objs.size)).get? (s.heap.objs.size+1)=some (W.instObj C s.heap.objs.size):=by
  have:=Heap.get?_push_size (s.heap.push W.emptyDict) (o:=W.instObj C s.heap.objs.size) rfl
  rwa [Heap.size_push] at this
 have e3:(s.heap.push W.emptyDict).Ns s.heap.objs.size (λ_=>none):=⟨W.emptyDict,#[],_,e1,rfl,(λe he=>absurd he (by simp)),λ_=>rfl⟩
 have I1:=I.laid (a:=s.heap.objs.size) (o:=.own (s.heap.objs.size+1)) (h':=s.heap.push W.emptyDict) (t':=s.toks) (λb u q=>Heap.get?_push_of_some _ q) (Nat.le_refl _) ⟨_,e1⟩
 refine I1.laid (a:=s.heap.objs.size+1) (o:=.ins C s.heap.objs.size []) (t':=s.toks) (λb u q=>Heap.get?_push_of_some _ q) (Nat.le_of_eq (Heap.size_push _ _)) ?_
 have ne:s.heap.objs.size≠s.heap.objs.size+1:=Nat.ne_of_lt (Nat.lt_succ_self _)
 refine⟨by rw[bZ ne,cA],Nat.zero_le _,ne,e2,λ_=>none,(Heap.Ns1.of_empty e3).at λo q=>Heap.get?_push_of_some _ q,λ_=>True.intro,λy hy=>absurd rfl hy⟩
theorem Rr{prog:Program}{w:World}{env:Env}{e:Expr}{f:Str}{pos:Pos}{s:Shared}{Q:Value->Shared->Prop}(hb:attributeBase e f env (eval e env)=eval e env)
  (h:wpAny (model prog w) A (eval e env) (λo s₁=>wpAny (model prog w) A (getAttr o f true) Q E s₁) E s):wpAny (model prog w) A (eval (.Attribute e f pos) env) Q E s :=
 Attribute_any_ h (by rw[arm_eval_Attribute,hb])
end
def VN(K:W.Frag)(ta:TE)(f:Str):TE:=λσ H Q=>ta σ H λx H1=>∃a C dx fs v,x=.ref a/\H1 a=some (.ins C dx fs)/\Cls K C/\dO K C f/\fs.lookup f=some v/\Q v H1
def VP(K:W.Frag)(ta tv:TE)(f:Str):TS:=λD σ H=>tv σ H λy H1=>ta σ H1 λx H2=>∃a C dx fs,x=.ref a/\H2 a=some (.ins C dx fs)/\Cls K C/\dO K C f/\fs.length<1000 /\
 D.nx σ (upd H2 a (.ins C dx (gW f y fs)))
section
variable{X:Cx}{o e value:Expr}{f:Str}{pos pos' tpos:Pos}{ta tv:TE}
theorem iD(he:PE X e ta)(hb:attributeBase e f X.env (eval e X.env)=eval e X.env):PE X (.Attribute e f pos) (VN X.K ta f):=by
 intro pins s σ H Q I h
 refine Rr hb (thn (he pins s σ H _ I h) λu s1 ⟨x,H1,I1,rx,a,C,dx,fs,v,ex,ea,c,n,l,q⟩=>?_)
 subst ex
 obtain rfl:u=Value.ref a:=rx
 exact Fl I1 ea c n l λu' s2 I2 ru=>⟨v,H1,I2,ru,q⟩
theorem mW(ha:PE X o ta)(hv:PE X value tv)(hs:swapsWith value (some (.Attribute o f pos')) pos.line X.env=pure false):PS X (.Assign [.Attribute o f pos'] value pos) (VP X.K ta tv f):=by
 intro pins s σ H D I h
 refine plainObj_wpAny_Assign_Attribute (thn (hv pins s σ H _ I h) λu s1 ⟨y,H1,I1,ry,q⟩=>thn (ha pins s1 σ H1 _ I1 q) λov s2 ⟨x,H2,I2,rx,a,C,dx,fs,ex,ea,c,n,l,q2⟩=>?_) hs
 subst ex
 obtain rfl:ov=Value.ref a:=rx
 exact Fp I2 ea c n l ry λs3 I3=>⟨σ,_,I3,q2⟩
end
section
variable{X:Cx}{pins:List (Addr×Obj)}{σ:St}{H:Hp}{s:Shared}{A:Around}{E:Value->Shared->Prop}{Q:Value->Shared->Prop}{c:Value}{b:Bool}
inductive dR(K:W.Frag)(H:Hp):V->Value->Prop where
 | non:dR K H .non (.type "NoneType")
 | bl (x:Bool):dR K H (.bl x) (.type "bool")
 | int (i:Int):dR K H (.int i) (.type "int")
 | str (x:Str):dR K H (.str x) (.type "str")
 | flt (x:UInt64):dR K H (.flt x) (.type "float")
 | lst {a:Addr} {xs:List V} (e:H a=some (.lst xs)):dR K H (.ref a) (.type "list")
 | frz {a:Addr} {o:Obj} {xs:List V} (e:H a=some (.frz o (.lst xs))):dR K H (.ref a) (.type "list")
 | tup {a:Addr} {xs:List V} (e:H a=some (.tup xs)):dR K H (.ref a) (.type "tuple")
 | dK {a:Addr} {kvs:List (Key×V)} (e:H a=some (.dK kvs)):dR K H (.ref a) (.type "dict")
 | dT {a:Addr} {kvs:List (List Key×V)} (e:H a=some (.dT kvs)):dR K H (.ref a) (.type "dict")
 | ins {a C dx:Addr} {fs:List (Str×V)} (e:H a=some (.ins C dx fs)) (cl:Cls K C) (ha:W.findIn K (.ref C) "__class__" = some (some (.builtin "object.__class__")))
   (hn:W.specialIn K (.builtin "object.__class__") "__get__" = some (some (.builtin "getset_descriptor.__get__"))) (htk:W.takesIn K (.builtin "object.__class__")=some true)
   (hm:W.mroIn K C (.type "object")=some true):dR K H (.ref a) (.ref C)
theorem wX{x:V}{u t:Value}(I:Inv X pins σ H s)(rx:RelV x u)(ty:dR X.K H x t)(e:W.kitOne X.K t c=some b)(h:∀tk,Q (.bool b) { s with toks:=tk }) :
  wpAny (model X.prog X.w) A (call (.builtin "isinstance") [u,c]) Q E s:=by
 cases ty with
 | non=>cases (show u=Value.none from rx);exact W.kia_one W.kitx_none I.kIn True.intro e (λz=>nomatch z) h
 | bl y=>cases (show u=Value.bool y from rx);exact W.kia_one W.kitx_bool I.kIn True.intro e (λz=>nomatch z) h
 | int i=>obtain⟨t,q⟩:=(show ∃t,u=Value.int i t from rx);cases q;exact W.kia_one W.kitx_int I.kIn True.intro e (λz=>nomatch z) h
 | str y=>obtain⟨t,q⟩:=(show ∃t,u=Value.str y t from rx);cases q;exact W.kia_one W.kitx_str I.kIn True.intro e (λz=>nomatch z) h
 | flt y=>obtain⟨t,q⟩:=(show ∃t,u=Value.float y t from rx);cases q;exact W.kia_one W.kitx_float I.kIn True.intro e (λz=>nomatch z) h
 | @lst a xs ea =>
  cases (show u=Value.ref a from rx)
  obtain⟨_,_,n,_,h1⟩:=(show dg X.prog X.w H s.heap a (.lst xs) from I.hok a _ ea)
  exact W.kia_one W.kitx_list I.kIn ⟨_,h1,rfl⟩ e (λz=>nomatch z) h
 | @frz a ob xs ea =>
  cases (show u=Value.ref a from rx)
  obtain⟨_,_,_,n,_,h1⟩:=(show dg X.prog X.w H s.heap a (.frz ob (.lst xs)) from I.hok a _ ea)
  exact W.kia_one W.kitx_list I.kIn ⟨_,h1,rfl⟩ e (λz=>nomatch z) h
 | @tup a xs ea =>
  cases (show u=Value.ref a from rx)
  obtain⟨_,_,_,p⟩:=(show dg X.prog X.w H s.heap a (.tup xs) from I.hok a _ ea)
  obtain⟨o,h1,h2,_⟩:=p
  exact W.kia_one W.kitx_tuple I.kIn ⟨o,h1,h2⟩ e (λz=>nomatch z) h
 | @dK a kvs ea =>
  cases (show u=Value.ref a from rx)
  obtain⟨_,_,vs,_,p⟩:=(show dg X.prog X.w H s.heap a (.dK kvs) from I.hok a _ ea)
  obtain⟨o,es,ep,h1,h2,_⟩:=p
  exact W.kia_one W.kitx_dict I.kIn ⟨o,h1,h2.1⟩ e (λz=>nomatch z) h
 | @dT a kvs ea =>
  cases (show u=Value.ref a from rx)
  obtain⟨_,_,xs,_,o,es,ep,h1,h2,_⟩:=(show dg X.prog X.w H s.heap a (.dT kvs) from I.hok a _ ea)
  exact W.kia_one W.kitx_dict I.kIn ⟨o,h1,h2.1⟩ e (λz=>nomatch z) h
 | @ins a C dx fs ea cl ha hn htk hm =>
  cases (show u=Value.ref a from rx)
  obtain⟨mA,O,_⟩:=sU I.hok ea
  obtain⟨od,J,_⟩:=O.look
  exact W.kia_one (W.kitx_own (cl.get _) cl.hd ha hn htk hm) I.kIn J e (λz=>nomatch z) h
end
structure Room(k:Nat)(A:Around):Prop where
 hd:A.handled=none
 dp:A.depth+3*k+5<recursionLimit
 un:A.units+16*k+200<cLine
 gd:A.guards=some []
theorem Room.mono{j k:Nat}{A:Around}(r:Room k A)(h:j<=k):Room j A:=⟨r.hd,by have:=r.dp;lia,by have:=r.un;lia,r.gd⟩
theorem Room.deeper{k:Nat}{A:Around}(r:Room (k+1) A)(env:Env):Room k (A.deeper env) :=
 ⟨r.hd,by have:=r.dp;show A.depth+1+3*k+5<_;lia,by have:=r.un;show A.units+3+16*k+200<_;lia,r.gd⟩
theorem Fq{A:Around}{C:Addr}{us:List Value}{kw:List (Str×Value)}:(A.under (.builtin "type.__call__" ⟨.ref C::us,kw⟩)).depth=A.depth+1:=by
 first|rfl|simp[Around.under,Code.weight,Code.isCreation,Code.isGuard,Code.isCaller,Code.frames,Code.isFrame,guardIds]
theorem Ft{A:Around}{C:Addr}{us:List Value}{kw:List (Str×Value)}:(A.under (.builtin "type.__call__" ⟨.ref C::us,kw⟩)).units=A.units+1:=by
 first|rfl|simp[Around.under,Code.cUnits,Code.frames,Code.isFrame]
theorem Room.make{k:Nat}{A:Around}(r:Room (k+1) A)(C:Addr)(us:List Value)(kw:List (Str×Value)):Room k (A.under (.builtin "type.__call__" ⟨.ref C::us,kw⟩)) :=
 ⟨r.hd,by have:=r.dp;rw[Fq];lia,by have:=r.un;rw[Ft];lia,by first|exact r.gd|(simp[Around.under,Code.guards,Code.isGuard,guardIds,pushGuards];exact r.gd)⟩
theorem Room.depth{k:Nat}{A:Around}(r:Room k A):A.depth<recursionLimit:=by have:=r.dp;lia
def uf:TA:=λ_ H Q=>Q [] H
def nT(ta:TE)(tr:TA):TA:=λσ H Q=>ta σ H λx H1=>tr σ H1 λxs H2=>Q (x::xs) H2
section
variable{X:Cx}{e:Expr}{es:List Expr}{te:TE}{t:TA}{pos:Pos}
theorem ao:PA X [] uf:=λ_ _ _ _ H Q I h=>Calls.spliced_nil ⟨[],H,I,.nil,h⟩
theorem aj(ha:PE X e te)(hr:PA X es t)(hs:starEach (e::es) X.env=(false,eval e X.env)::starEach es X.env:=by rfl):PA X (e::es) (nT te t):=by
 intro pos pins s σ H Q I h
 rw[hs]
 show wpAny _ _ (spliced ((false,eval e X.env)::backTo pos (starEach es X.env))) _ _ s
 refine Calls.spliced_cons (thn (ha pins s σ H _ I h) λu s1 ⟨x,H1,I1,r1,q1⟩=>?_)
 exact thn (hr pos pins s1 σ H1 _ I1 q1) λus s2 ⟨xs,H2,I2,r2,q2⟩=>⟨x::xs,H2,I2,.cons r1 r2,q2⟩
end
abbrev Sp:=List V->Hp->VK->XK->Prop
abbrev CXT:=List Env->Hp->Shared->XK->Value->Shared->Prop
structure Fv(P:Program)(w:World)(K:W.Frag)(mg:Str->Option Value)(base:Heap)(A:Around)(outer:List Env)(s:Shared)(H:Hp):Prop where
 frames:A.frames=some outer
 mod:Mod K mg base
 bs:∀b o,base.get? b=some o->s.heap.get? b=some o/\H b=none
 bsz:base.objs.size<=s.heap.objs.size
 p8:s.heap.FunFrames base outer
 frf:∀b∈frs outer,H b=none
 hok:HOk P w H s.heap
 bare:AllBare s.gens
def CE(outer:List Env)(P:Program)(w:World)(H:Hp)(s:Shared)(Q:VK)(u:Value)(s':Shared):Prop :=
 ∃v H',s'.os=s.os/\AllBare s'.gens/\Un (frs outer) [] H H' s.heap s'.heap/\HOk P w H' s'.heap/\RelV v u/\Q v H'
def CR(CX:CXT)(outer:List Env)(P:Program)(w:World)(H:Hp)(s:Shared)(Q:VK)(E:XK)(r:Result)(s':Shared):Prop :=
 match r with
 | .ok (.ret u)=>CE outer P w H s Q u s'
 | .ok _=>False
 | .error e=>CX outer H s E e s'
structure jd(P:Program)(w:World)(K:W.Frag)(mg:Str->Option Value)(base:Heap)(CX:CXT)(k:Nat)(f:Addr)(fd:FuncData)(ps:List Str)(sp:Sp):Prop where
 len:∀vs H Q E,sp vs H Q E->vs.length=ps.length
 run:∀(A:Around) (outer:List Env) (s:Shared) (H:Hp) (args:Args) (us:List Value) (vs:List V) (Q:VK) (E:XK),Room k A->Fv P w K mg base A outer s H->BindsTo s fd args (ps.zip us)->Vals vs us->sp vs H Q E ->
  codeAny (model P w) A (.call (.ref f) args) (CR CX outer P w H s Q E) s
theorem jd.imp{P:Program}{w:World}{K:W.Frag}{mg:Str->Option Value}{base:Heap}{CX:CXT}{k:Nat}{f:Addr}{fd:FuncData}{ps:List Str}{sp sp':Sp}(F:jd P w K mg base CX k f fd ps sp)
  (h:∀vs H Q E,sp' vs H Q E->sp vs H Q E):jd P w K mg base CX k f fd ps sp' :=
 ⟨λvs H Q E q=>F.len vs H Q E (h _ _ _ _ q),λA outer s H args us vs Q E hr he hb hv hs=>F.run A outer s H args us vs Q E hr he hb hv (h _ _ _ _ hs)⟩
theorem Fv.make{P:Program}{w:World}{K:W.Frag}{mg:Str->Option Value}{base:Heap}{A:Around}{outer:List Env}{s:Shared}{H:Hp}(e:Fv P w K mg base A outer s H)(C:Addr)(us:List Value)(kw:List (Str×Value)) :
  Fv P w K mg base (A.under (.builtin "type.__call__" ⟨.ref C::us,kw⟩)) outer s H:=⟨by first|exact e.frames|(simpa[Around.under,Code.envs,Code.isFrame,pushEnvs] using e.frames),e.mod,e.bs,e.bsz,e.p8,e.frf,e.hok,e.bare⟩
section
variable{X:Cx}{pins:List (Addr×Obj)}{σ:St}{H:Hp}{s s':Shared}
theorem Inv.env0(I:Inv X pins σ H s):Fv X.prog X.w X.K X.mg X.base X.A X.stack s H :=
 ⟨I.ok.frames,I.ok.mod,I.bs,Nat.le_trans I.ok.bsz I.sz,I.stack,I.G_,I.hok,I.bare⟩
theorem Inv.after{Q:VK}{u:Value}(I:Inv X pins σ H s)(h:CE X.stack X.prog X.w H s Q u s'):EP X pins σ Q u s':=by
 obtain⟨v,H',os,bare,un,hok,r,q⟩:=h
 obtain⟨hh,g,d,t,os'⟩:=s'
 obtain rfl:os'=s.os:=os
 exact⟨v,H',I.call (h':=hh) (g':=g) (d':=d) (t':=t) (ch:=[]) un hok bare (λb z=>absurd z (by simp)),r,q⟩
end
def Hq(sp:Sp)(dvs:List V)(E:XK)(t:TA):TE:=λσ H Q=>t σ H λvs H1=>sp (vs++dvs) H1 Q E
def wY(C:Addr)(m:Str)(sp:Sp)(dvs:List V)(E:XK)(ta:TE)(t:TA):TE:=λσ H Q=>ta σ H λx H1=>∃a dx fs,x=.ref a/\H1 a=some (.ins C dx fs)/\fs.lookup m=none /\
 t σ H1 λvs H2=>sp (x::(vs++dvs)) H2 Q E
def Binds(K:W.Frag)(fd:FuncData)(ps:List Str)(ds:List Value):Prop :=
 ∀(s:Shared) (us:List Value),K.In s.heap->(us++ds).length=ps.length->BindsTo s fd ⟨us,[]⟩ (ps.zip (us++ds))
theorem Binds.all{K:W.Frag}{fd:FuncData}{ps:List Str}(h:∀us:List Value,us.length=ps.length->bindArgs fd ⟨us,[]⟩=pure (ps.zip us)):Binds K fd ps []:=λs us _ hl=>by
 rw[List.append_nil] at hl ⊢
 exact .of_eq (h us hl)
def Passes(CX:CXT)(X:Cx)(E:XK):Prop:=∀(pins:List (Addr×Obj)) (σ:St) (H:Hp) (s:Shared) (e:Value) (s':Shared),Inv X pins σ H s->CX X.stack H s E e s'->X.xe e s'
section
variable{X:Cx}{CX:CXT}{k:Nat}{f C:Addr}{fd:FuncData}{ps:List Str}{sp:Sp}{dvs:List V}{ds:List Value}{E:XK}{x m:Str}{p pos apos:Pos}{e o:Expr}{es:List Expr}{ta:TE}{t:TA}
theorem Fw{pins:List (Addr×Obj)}{σ:St}{H:Hp}{s:Shared}{Q:VK}{us:List Value}{vs:List V}(F:jd X.prog X.w X.K X.mg X.base CX k f fd ps sp)(hr:Room k X.A)(hb:Binds X.K fd ps ds)(hd:Vals dvs ds)(hx:Passes CX X E)
  (I:Inv X pins σ H s) (r:Vals vs us) (h:sp (vs++dvs) H Q E):wpAny (model X.prog X.w) X.A (call (.ref f) us) (EP X pins σ Q) X.xe s:=by
 have r2:Vals (vs++dvs) (us++ds):=r.append hd
 have hl:(us++ds).length=ps.length:=by rw[<- r2.length];exact F.len _ _ _ _ h
 refine wpAny_call (codeAny_mono (F.run X.A X.stack s H ⟨us,[]⟩ (us++ds) (vs++dvs) Q E hr I.env0 (hb s us I.kIn hl) r2 h) λr s' hq=>?_)
 cases r with
 | error e=>exact hx pins σ H s e s' I hq
 | ok fl =>
  cases fl with
  | ret u=>exact I.after hq
  | next=>exact False.elim hq
  | brk=>exact False.elim hq
  | cont=>exact False.elim hq
theorem Rt(F:jd X.prog X.w X.K X.mg X.base CX k f fd ps sp)(hr:Room k X.A)(hg:Gl X x)(hm:X.mg x=some (.ref f))(hk:W.keepIn X.K (.ref f)=true)(hb:Binds X.K fd ps ds)(hd:Vals dvs ds)(hx:Passes CX X E)
  (ha:PA X (e::es) t) (hdb:(x == ("__debug__" : Str))=false:=by decide) (he:starEach (e::es) X.env=(false,eval e X.env)::starEach es X.env:=by rfl) (hpl:(backTo pos (starEach es X.env)).any (·.1)=false:=by rfl) :
  PE X (.Call (.Name x p) (e::es) [] pos) (Hq sp dvs E t):=by
 intro pins s σ H Q I h
 refine wpAny_Call_Name_kw (zF I hg hm ?_ hdb)
 refine W.callWith_K (h₀:=X.base) I.ok.mod.kin hk (thn (ha pos pins s σ H _ I h) λus s1 ⟨vs,H1,I1,r,q⟩=>⟨I1.kIn,?_⟩) he hpl
 exact Fw F hr hb hd hx I1 r q
theorem Ru{pl:Sem Bool}(he:PE X o ta)(c:Cls X.K C)(hm:Meth X.K C m f)(F:jd X.prog X.w X.K X.mg X.base CX k f fd ps sp)(hr:Room k X.A)(hb:Binds X.K fd ps ds)(hd:Vals dvs ds)(hx:Passes CX X E)(ha:PA X (e::es) t)
  (hst:starEach (e::es) X.env=(false,eval e X.env)::starEach es X.env:=by rfl) (hpl:(backTo pos (starEach es X.env)).any (·.1)=false:=by rfl)
  (ht:eval (.Call (.Attribute o m apos) (e::es) [] pos) X.env=(do
   let ov <- eval o X.env
   standAt apos.atName
   let (f,first) <- holding [ov] (getMethod ov m pl)
   callWith pos f first (backTo pos (starEach (e::es) X.env)) (backToKw pos (keywordEach [] X.env))):=by rfl) :
  PE X (.Call (.Attribute o m apos) (e::es) [] pos) (wY C m sp dvs E ta t):=by
 intro pins s σ H Q I h
 refine W.methodCall_KW (pl:=pl) (thn (he pins s σ H _ I h) λu s1 ⟨x,H1,I1,rx,a,dx,fs,ex,ea,l,q⟩=>?_) ht
 subst ex
 obtain rfl:u=Value.ref a:=rx
 refine ud I1 ea c hm l ?_
 refine W.callWith_K (first:=[.ref a]) (h₀:=X.base) I.ok.mod.kin hm.kp (thn (ha pos pins s1 σ H1 _ I1 q) λus s2 ⟨vs,H2,I2,r,q2⟩=>⟨I2.kIn,?_⟩) hst hpl
 exact Fw (us:=.ref a::us) (vs:=.ref a::vs) F hr hb hd hx I2 (.cons rfl r) q2
theorem Mr{pl:Sem Bool}(he:PE X o ta)(c:Cls X.K C)(hm:Meth X.K C m f)(F:jd X.prog X.w X.K X.mg X.base CX k f fd ps sp)(hr:Room k X.A)(hb:Binds X.K fd ps ds)(hd:Vals dvs ds)(hx:Passes CX X E)
  (ht:eval (.Call (.Attribute o m apos) [] [] pos) X.env=(do
   let ov <- eval o X.env
   standAt apos.atName
   let (f,first) <- holding [ov] (getMethod ov m pl)
   callWith pos f first (backTo pos (starEach [] X.env)) (backToKw pos (keywordEach [] X.env))):=by rfl) :
  PE X (.Call (.Attribute o m apos) [] [] pos) (wY C m sp dvs E ta uf):=by
 intro pins s σ H Q I h
 refine W.methodCall_KW (pl:=pl) (thn (he pins s σ H _ I h) λu s1 ⟨x,H1,I1,rx,a,dx,fs,ex,ea,l,q⟩=>?_) ht
 subst ex
 obtain rfl:u=Value.ref a:=rx
 refine ud I1 ea c hm l ?_
 exact W.callWith_K0 (first:=[.ref a]) I1.kIn hm.kp (Fw (us:=[.ref a]) (vs:=[.ref a]) F hr hb hd hx I1 (.cons rfl .nil) q)
structure Mk(K:W.Frag)(C f:Addr):Prop where
 makes:W.makesIn K C=true
 init:W.findIn K (.ref C) "__init__" = some (some (.ref f))
 fn:W.isFn K (.ref f)=true
 kp:W.keepIn K (.ref C)=true
theorem Ms{pins:List (Addr×Obj)}{σ:St}{H:Hp}{s:Shared}{Q:VK}{us:List Value}{vs:List V}(M:Mk X.K C f)(F:jd X.prog X.w X.K X.mg X.base CX k f fd ps sp)(hr:Room (k+1) X.A)(hb:Binds X.K fd ps ds)(hd:Vals dvs ds)
  (hx:Passes CX X E) (I:Inv X pins σ H s) (r:Vals vs us)
  (h:∀x dx,H x=none->H dx=none->dx≠x->sp (.ref x::(vs++dvs)) (upd (upd H dx (.own x)) x (.ins C dx [])) (λv H2=>v=.non/\Q (.ref x) H2) E) :
  wpAny (model X.prog X.w) X.A (call (.ref C) us) (EP X pins σ Q) X.xe s:=by
 have hq:=h (s.heap.objs.size+1) s.heap.objs.size (I.hok.fresh (Nat.le_succ _)) (I.hok.fresh (Nat.le_refl _)) (Nat.ne_of_lt (Nat.lt_succ_self _))
 have I2:=Inv.made (C:=C) I
 have r2:Vals (V.ref (s.heap.objs.size+1)::(vs++dvs)) (Value.ref (s.heap.objs.size+1)::(us++ds)):=.cons rfl (r.append hd)
 have hl:(Value.ref (s.heap.objs.size+1)::us++ds).length=ps.length:=by
  have e:=r2.length
  rw[F.len _ _ _ _ hq] at e
  exact e.symm
 refine wpAny_call (Mq (f:=f) I.kIn M.makes M.init (beq_iff_eq.mp M.fn) (codeAny_mono (F.run _ X.stack _ _ ⟨Value.ref (s.heap.objs.size+1)::us,[]⟩ (Value.ref (s.heap.objs.size+1)::(us++ds)) _ _ E (hr.make C us [])
  (I2.env0.make C us []) (hb _ (Value.ref (s.heap.objs.size+1)::us) I2.kIn hl) r2 hq) λr s' hq'=>?_))
 cases r with
 | error e=>exact hx pins σ _ _ e s' I2 hq'
 | ok fl =>
  cases fl with
  | ret u =>
   obtain⟨v,H',I3,rv,ev,q3⟩:=I2.after hq'
   subst ev
   exact⟨rv,⟨V.ref (s.heap.objs.size+1),H',I3,rfl,q3⟩⟩
  | next=>exact False.elim hq'
  | brk=>exact False.elim hq'
  | cont=>exact False.elim hq'
end
structure aW(N P:List Str)(sc:Scope):Prop where
 kind:sc.kind=.function
 co:sc.isCoroutine=false
 gen:sc.isGenerator=false
 nd:N.Nodup
 pre:N.take P.length=P
 par:∀x∈P,sc.names.lookup x=some .local\/sc.names.lookup x=some .cell
 VR:∀y∈sc.names,y.2≠.free
theorem wZ{kindOf:Str->Option NameKind}{x:Str}:∀{binds:List (Str×Value)} {m:Str->Option Value},(∀v,(x,v) ∉ binds)->bindL kindOf binds m x=m x
 | [],_,_=>rfl
 | (n,v)::r,m,h=>by
  unfold bindL
  rw[wZ λw hw=>h w (List.mem_cons_of_mem _ hw)]
  split
  ·have:x≠n:=by rintro rfl;exact h v List.mem_cons_self
   simp[this]
  ·rfl
theorem w6{kindOf:Str->Option NameKind}{x:Str}:∀{binds:List (Str×Value)} {m:Str->Option Value},(∀v,(x,v) ∉ binds)->bindC kindOf binds m x=m x
 | [],_,_=>rfl
 | (n,v)::r,m,h=>by
  unfold bindC
  rw[w6 λw hw=>h w (List.mem_cons_of_mem _ hw)]
  split
  ·rfl
  ·have:x≠n:=by rintro rfl;exact h v List.mem_cons_self
   simp[this]
theorem xg{kindOf:Str->Option NameKind}{x:Str}{v:Value}:∀{P:List Str} {vs:List Value} {i:Nat} {m:Str->Option Value},P.Nodup->P[i]?=some x->vs[i]?=some v->kindOf x=some .local ->
  bindL kindOf (P.zip vs) m x=some v
 | [],_,_,_,_,h,_,_=>by simp at h
 | _::_,[],_,_,_,_,h,_=>by simp at h
 | p::P,w::vs,0,m,nd,h1,h2,hk=>by
  simp at h1 h2;subst h1;subst h2
  show bindL kindOf ((p,w)::P.zip vs) m p=_
  unfold bindL
  rw[wZ λv hv=>(List.nodup_cons.mp nd).1 (List.of_mem_zip hv).1,if_pos hk]
  simp
 | p::P,w::vs,i+1,m,nd,h1,h2,hk=>by
  show bindL kindOf ((p,w)::P.zip vs) m x=_
  unfold bindL
  exact xg (i:=i) (List.nodup_cons.mp nd).2 (by simpa using h1) (by simpa using h2) hk
theorem xq{kindOf:Str->Option NameKind}{x:Str}{v:Value}:∀{P:List Str} {vs:List Value} {i:Nat} {m:Str->Option Value},P.Nodup->P[i]?=some x->vs[i]?=some v->kindOf x≠some .local ->
  bindC kindOf (P.zip vs) m x=some v
 | [],_,_,_,_,h,_,_=>by simp at h
 | _::_,[],_,_,_,_,h,_=>by simp at h
 | p::P,w::vs,0,m,nd,h1,h2,hk=>by
  simp at h1 h2;subst h1;subst h2
  show bindC kindOf ((p,w)::P.zip vs) m p=_
  unfold bindC
  rw[w6 λv hv=>(List.nodup_cons.mp nd).1 (List.of_mem_zip hv).1,if_neg hk]
  simp
 | p::P,w::vs,i+1,m,nd,h1,h2,hk=>by
  show bindC kindOf ((p,w)::P.zip vs) m x=_
  unfold bindC
  exact xq (i:=i) (List.nodup_cons.mp nd).2 (by simpa using h1) (by simpa using h2) hk
def start(N:List Str)(vs:List V):St:=vs.map some++List.replicate (N.length-vs.length) none
def sI(CX:CXT)(P:Program)(w:World)(K:W.Frag)(mg:Str->Option Value)(base:Heap)(N:List Str)(qual:Str)(scope:Scope)(f:Addr)(cd:Value)(A:Around)(outer:List Env)(s:Shared)(H:Hp)(E:XK):Cx where
 prog:=P
 w:=w
 K:=K
 mg:=mg
 base:=base
 A:=A.deeper (envOfC qual scope s.heap.objs.size f cd)
 N:=N
 s₀:=s
 H₀:=H
 env:=envOfC qual scope s.heap.objs.size f cd
 outer:=outer
 stack:=envOfC qual scope s.heap.objs.size f cd::outer
 ex:=[]
 calm:=true
 fn:=λ_=>true
 pn:=[]
 xe:=λe s'=>wpAny (model P w) (A.deeper (envOfC qual scope s.heap.objs.size f cd)) (leaving (envOfC qual scope s.heap.objs.size f cd) e) (λ_ s''=>CX outer H s E e s'') (λe' s''=>CX outer H s E e' s'') s'
theorem Bp{sc:Scope}{n:Nat}{x:Str}(h:sc.names.lookup x=some .cell):∃c,(cellsFrom n sc.names []).lookup x=some c:=by
 have q:=W.cellsFrom_some sc.names n [] (.inl h)
 exact Option.isSome_iff_exists.mp q
theorem J9{CX:CXT}{P:Program}{w:World}{K:W.Frag}{mg:Str->Option Value}{base:Heap}{N ps:List Str}{qual:Str}{scope:Scope}{f:Addr}{cd:Value}{A:Around}{outer:List Env}{s s1:Shared}{H:Hp}{E:XK}{us:List Value}{vs:List V}
  (S:aW N ps scope) (hd:A.handled=none) (e0:Fv P w K mg base A outer s H) (hl:vs.length=ps.length) (r:Vals vs us)
  (x:InCallC s s.heap.objs.size (bindL (envOfC qual scope s.heap.objs.size f cd).kindOf (ps.zip us) λ_=>none) (cellsFrom (s.heap.objs.size+1) scope.names []) (bindC (envOfC qual scope s.heap.objs.size f cd).kindOf (ps.zip us) λ_=>none) s1) :
  Inv (sI CX P w K mg base N qual scope f cd A outer s H E) [] (start N vs) H s1:=by
 have hpl:ps.length<=N.length:=by have:=congrArg List.length S.pre;rw[List.length_take] at this;lia
 obtain⟨h1,tk,rfl,hk⟩:=x.done
 have noA:∀b:Addr,b ∉ (sI CX P w K mg base N qual scope f cd A outer s H E).ex:=λb z=>absurd (show b∈([]:List Addr) from z) (by simp)
 refine⟨⟨e0.mod,S.kind,rfl,rfl,Nat.le_refl _,λy z c h1 h2=>?_,λy hy=>?_,λy c _ h=>?_,λ_=>hd,Around.frames_deeper e0.frames,.inr ⟨rfl,rfl⟩,λb z=>absurd z (noA b),e0.bs,e0.bsz,λb _ _=>noA b,λb z=>absurd z (noA b),e0.p8,e0.frf⟩,
  rfl,e0.bare,Un.kept hk,⟨_,x.toInCall.ns,λi y v h1 h2 h3=>?_⟩,λy c h=>⟨_,x.cell y c h⟩,e0.hok.fresh (Nat.le_refl _),λy c h=>?_,λp hp=>absurd (show p∈([]:List (Addr×Obj)) from hp) (by simp),e0.hok.kept hk,?_⟩
 ·exact name_of_addr x.apart (PySem.mem_of_lookup h1) (PySem.mem_of_lookup h2)
 ·have hy:scope.names.lookup y=some .cell\/scope.names.lookup y=some .free:=hy
  rcases hy with hy|hy
  ·exact Bp hy
  ·exact absurd rfl (S.VR _ (PySem.mem_of_lookup hy))
 ·exact Nat.le_of_lt (x.above y c (PySem.mem_of_lookup h))
 ·have hi:i<vs.length:=by
   unfold start at h2
   by_cases hi:i<vs.length
   ·exact hi
   ·rw[List.getElem?_append_right (by simpa using hi)] at h2
    rw[List.getElem?_replicate] at h2
    split at h2 <;> cases h2
  have ha:vs[i]?=some v:=by
   unfold start at h2
   rw[List.getElem?_append_left (by simpa using hi),List.getElem?_map] at h2
   cases e:vs[i]? with
   | none=>rw[e] at h2;cases h2
   | some a=>rw[e] at h2;cases h2;rfl
  obtain⟨u,hu,rv⟩:=r.get ha
  have hp:ps[i]?=some y:=by
   rw[<- S.pre,List.getElem?_take_of_lt (by lia)];exact h1
  have ndP:ps.Nodup:=by rw[<- S.pre];exact S.nd.sublist (List.take_sublist _ _)
  refine⟨u,rv,?_⟩
  rcases S.par y (List.mem_of_getElem? hp) with k|k
  ·exact .inl ⟨k,xg ndP hp hu k⟩
  ·obtain⟨c,e⟩:=Bp (n:=s.heap.objs.size+1) k
   refine .inr ⟨.inl k,c,e,?_⟩
   have q:=x.cell y c e
   rw[xq ndP hp hu (by show scope.names.lookup y≠_;rw[k];decide)] at q
   exact q
 ·exact e0.hok.fresh (Nat.le_of_lt (x.above y c (PySem.mem_of_lookup h)))
 ·unfold start
  show _=N.length
  rw[List.length_append,List.length_map,List.length_replicate]
  lia
theorem Bq{CX:CXT}{P:Program}{w:World}{K:W.Frag}{mg:Str->Option Value}{base:Heap}{k:Nat}{f:Addr}{name qual:Str}{params:Arguments}{body:List Stmt}{scope:Scope}{dV kV doc pm cdv ct oc:Value}{an od:Option Addr}
  {osl:Array (Option Value)} {N ps:List Str} {sp:Sp} (lk:K.lookup f=some ⟨oc,od,.func (W.fnOf name qual params body scope dV kV doc pm an cdv ct),osl⟩) (hcd:W.codeIn K cdv qual=true) (S:aW N ps scope)
  (len:∀vs H Q E,sp vs H Q E->vs.length=ps.length)
  (hbody:∀(A:Around) (outer:List Env) (s:Shared) (H:Hp) (vs:List V) (Q:VK) (E:XK),Room k (A.deeper (envOfC qual scope s.heap.objs.size f cdv))->sp vs H Q E ->
   ∃t,PSs (sI CX P w K mg base N qual scope f cdv A outer s H E) body t/\t { nx:=λ_ H'=>Q .non H',rt:=Q } (start N vs) H) :
  jd P w K mg base CX (k+1) f (W.fnOf name qual params body scope dV kV doc pm an cdv ct) ps sp:=by
 refine⟨len,λA outer s H args us vs Q E hr e0 hb r hsp=>?_⟩
 have hl:=len _ _ _ _ hsp
 have KX:K.In s.heap:=e0.mod.kin.keeps λb o e=>(e0.bs b o e).1
 have lim:s.heap.NoLimit:=e0.mod.nolimit.keeps λb o e=>(e0.bs b o e).1
 have hkind:∀y∈ps.zip us,scope.names.lookup y.1=some .local\/(scope.names.lookup y.1=some .cell/\((cellsFrom (s.heap.objs.size+1) scope.names []).lookup y.1).isSome=true):=λ⟨n,v⟩ hy=>by
  rcases S.par n (List.of_mem_zip hy).1 with q|q
  ·exact .inl q
  ·exact .inr ⟨q,W.cellsFrom_some _ _ _ (.inl q)⟩
 refine codeAny_call_function hr.depth (KX _ _ lk) rfl S.co S.gen rfl (W.codeRec_of KX hcd) (hb _ _ _ _ ?_)
 refine wpAny_newFunctionEnv_cells S.kind hkind λenv he s1 x=>?_
 subst he
 refine⟨lim.keeps x.toInCall.keep,codeAny_func ?_⟩
 obtain⟨t,ht,hq⟩:=hbody A outer s H vs Q E (hr.deeper _) hsp
 have I:Inv (sI CX P w K mg base N qual scope f cdv A outer s H E) [] (start N vs) H s1:=J9 S hr.hd e0 hl r x
 refine wpAny_mono (ht [] s1 (start N vs) H _ I hq) (λfl s' hs=>?_) λe s' hs=>hs
 have fin:∀{σ':St} {H':Hp} {v:V} {u:Value},Inv (sI CX P w K mg base N qual scope f cdv A outer s H E) [] σ' H' s'->RelV v u->Q v H'->CE outer P w H s Q u s' :=
  λ{σ' H' v u} J rv q=>⟨v,H',J.os,J.bare,J.base,J.hok,rv,q⟩
 cases fl with
 | ret u =>
  obtain⟨v,σ',H',J,rv,q⟩:=hs
  exact fin J rv q
 | next =>
  obtain⟨σ',H',J,q⟩:=hs
  exact fin (v:=V.non) (u:=Value.none) J rfl q
 | brk =>
  obtain⟨_,_,_,q⟩:=hs
  exact False.elim q
 | cont =>
  obtain⟨_,_,_,q⟩:=hs
  exact False.elim q
section
variable{X:Cx}{x:Str}{p pos:Pos}{e:Expr}{es:List Expr}{t:TA}{id T:String}{r:List V->Hp->VK->Prop}
def tCB(r:List V->Hp->VK->Prop)(t:TA):TE:=λσ H Q=>t σ H λvs H1=>r vs H1 Q
theorem aY(hc:eH X (.builtin id) r)(hg:Gl X x)(hm:X.mg x=none)(hv:bootBuiltins x=some (.builtin id))(ha:PA X (e::es) t)(hn:x ≠ "__name__":=by decide)(hdb:(x == ("__debug__" : Str))=false:=by decide)
  (he:starEach (e::es) X.env=(false,eval e X.env)::starEach es X.env:=by rfl) (hpl:(backTo pos (starEach es X.env)).any (·.1)=false:=by rfl):PE X (.Call (.Name x p) (e::es) [] pos) (tCB r t):=by
 intro pins s σ H Q I h
 refine wpAny_Call_Name_kw (iB I hg hm hv ?_ hn hdb)
 exact PyProof.Rows.callWith_builtin1 (thn (ha pos pins s σ H _ I h) λus s1 ⟨vs,H1,I1,r1,q1⟩=>hc pins s1 σ H1 vs us Q I1 r1 q1) he hpl
theorem eY(hc:eH X (.type T) r)(hg:Gl X x)(hm:X.mg x=none)(hv:bootBuiltins x=some (.type T))(ha:PA X (e::es) t)(hn:x ≠ "__name__":=by decide)(hdb:(x == ("__debug__" : Str))=false:=by decide)
  (he:starEach (e::es) X.env=(false,eval e X.env)::starEach es X.env:=by rfl) (hpl:(backTo pos (starEach es X.env)).any (·.1)=false:=by rfl):PE X (.Call (.Name x p) (e::es) [] pos) (tCB r t):=by
 intro pins s σ H Q I h
 refine wpAny_Call_Name_kw (iB I hg hm hv ?_ hn hdb)
 exact PyProof.Rows.callWith_type1 (thn (ha pos pins s σ H _ I h) λus s1 ⟨vs,H1,I1,r1,q1⟩=>hc pins s1 σ H1 vs us Q I1 r1 q1) he hpl
end
end L2
namespace HT
open PySem PyProof.Rows
def lexLt:List Int->List Int->Bool
 | [],[]=>false
 | [],_::_=>true
 | _::_,[]=>false
 | x::xs,y::ys=>if x=y then lexLt xs ys else decide (x<y)
theorem Fx(x y:Int)(xs ys:List Int):lexLt (x::xs) (y::ys)=if x=y then lexLt xs ys else decide (x<y):=rfl
theorem wH:lexLt [] []=false:=rfl
theorem ug(y:Int)(ys:List Int):lexLt [] (y::ys)=true:=rfl
theorem uh(x:Int)(xs:List Int):lexLt (x::xs) []=false:=rfl
theorem Mt(A:Around)(s:Shared)(a:Int)(t:Tok)(c:Int)(u:Tok):∃e,SeqAt.EqAt A s (.int a t) (.int c u) e/\(e=true ↔ a=c) :=
 ⟨(a == c),SeqAt.EqAt.int_int a t c u,by simp⟩
theorem Mu(A:Around)(s:Shared)(a:Int)(t:Tok)(c:Int)(u:Tok)(prog:Program)(w:World)(E:Value->Shared->Prop)(Q:Value->Shared->Prop)(h:Q (.bool (decide (a<c))) s) :
  wpAny (model prog w) A (richCompare .Lt (.int a t) (.int c u)) Q E s :=
 (PyProof.Rows.lt_int h:wpAny (model prog w) A (compareOp .Lt (.int a t) (.int c u)) Q E s)
section
open PySem.SeqAt
open PySem.AutoSeq1 (wpAny_loadPart')
open PySem.MeetsSeq PySem.MeetsSeq2 PySem.MeetsSeq3
theorem wI(l b:Addr)(items items2:Array Value)(n n2:Nat)(dd dd2:Option Addr)(sl sl2:Array (Option Value))(ns ms:List Int)(hi:IntsAre items.toList ns)(hj:IntsAre items2.toList ms) :
  Meets (Builtin.«tuple.__lt__» ⟨[.ref l,.ref b],[]⟩)
   (λ_ R s=>s.heap.get? l=some { cls:=.type "tuple", dict:=dd,data:=.seq items n,slots:=sl }/\s.heap.get? b=some { cls:=.type "tuple", dict:=dd2,data:=.seq items2 n2,slots:=sl2 } /\
    R (.ok (.ret (.bool (lexLt ns ms)))) s) :=
 .of_wp λprog w A R s h=>by
  obtain⟨hp,g,d,tk,os⟩:=s;obtain⟨hl,hb,h⟩:=h
  have f2:=AutoSeq1.sub_tuple_tuple
  have z1:items.size=ns.length:=by rw[<- hi.length];simp
  have z2:items2.size=ms.length:=by rw[<- hj.length];simp
  wp_walk using wpAny_loadPart' hl,wpAny_loadPart' hb,wpAny_forIn_list _ (λrest b s'=>b.1=none/\s'=⟨hp,g,d,tk,os⟩/\∃(vs ws:List Value) (ns' ms':List Int),rest=vs.zip ws /\
   IntsAre vs ns'/\IntsAre ws ms'/\ns'.length+items2.size=ms'.length+items.size/\R (.ok (.ret (.bool (lexLt ns' ms')))) ⟨hp,g,d,tk,os⟩) _
  case turn =>
   rintro ⟨y,x⟩ rest b s' ⟨hb',rfl,vs,ws,ns',ms',hz,hvi,hwi,hlen,hR⟩
   cases hvi with
   | nil=>rw[List.zip_nil_left] at hz;cases hz
   | cons a t adk =>
    cases hwi with
    | nil=>rw[List.zip_nil_right] at hz;cases hz
    | cons c u adl =>
     rw[List.zip_cons_cons] at hz
     injection hz with hyx hrest
     injection hyx with hy hx
     subst hy hx
     rw[Fx] at hR
     simp only[List.length_cons] at hlen
     obtain⟨e,he,hiff⟩:=Mt A.in1 ⟨hp,g,d,tk,os⟩ a t c u
     refine wpAny_bind (he prog w _ _ ?_)
     cases e with
     | true =>
      rw[if_pos (hiff.mp rfl)] at hR
      wp_walk
      exact⟨rfl,rfl,_,_,_,_,hrest,adk,adl,by lia,hR⟩
     | false =>
      rw[if_neg (λq=>absurd (hiff.mpr q) Bool.false_ne_true)] at hR
      have hri:=Mu A.in1 ⟨hp,g,d,tk,os⟩ a t c u prog w
      wp_walk using hri
      exact⟨_,rfl,by simpa using hR⟩
  case fin =>
   rintro ⟨b1,b2⟩ s' ⟨hb',rfl,vs,ws,ns',ms',hz,hvi,hwi,hlen,hR⟩
   simp only at hb'
   subst hb'
   have hv:lexLt ns' ms'=decide (items.size<items2.size):=by
    cases hvi with
    | nil =>
     cases hwi with
     | nil =>
      simp only[List.length_nil] at hlen
      rw[wH]
      exact(decide_eq_false (by lia)).symm
     | cons c u hw =>
      simp only[List.length_nil,List.length_cons] at hlen
      rw[ug]
      exact(decide_eq_true (by lia)).symm
    | cons a t hv =>
     cases hwi with
     | nil =>
      simp only[List.length_nil,List.length_cons] at hlen
      rw[uh]
      exact(decide_eq_false (by lia)).symm
     | cons c u hw =>
      rw[List.zip_cons_cons] at hz
      cases hz
   rw[hv] at hR
   wp_walk
   exact⟨_,rfl,by simpa[Builtin.Tuple.tupleCompareSizes] using hR⟩
  case h =>
   exact⟨rfl,rfl,items.toList,items2.toList,ns,ms,rfl,hi,hj,by lia,h⟩
end
section
variable{prog:Program}{w:World}{A:Around}{E:Value->Shared->Prop}{s:Shared}
theorem Fy{l b:Addr}{items items2:Array Value}{ns ms:List Int}{Q:Value->Shared->Prop}(hl:IsTup s.heap l items)(hb:IsTup s.heap b items2)(hi:IntsAre items.toList ns)(hj:IntsAre items2.toList ms)
  (hu:A.units<cLine) (h:Q (.bool (lexLt ns ms)) s):wpAny (model prog w) A (compareOp .Lt (.ref l) (.ref b)) Q E s:=by
 obtain⟨⟨cls,dd,data,sl⟩,ho,hc,n,hd⟩:=id hl
 obtain⟨⟨cls2,dd2,data2,sl2⟩,ho2,hc2,n2,hd2⟩:=id hb
 simp only at hc hd hc2 hd2
 subst hc hd hc2 hd2
 exact richCompare_meets_room (op:=.Lt) ⟨_,ho,rfl⟩ ⟨_,ho2,rfl⟩ PySem.F.slot_tuple_lt PySem.F.entry_tuple_lt (PySem.F.args_tuple_lt_2 _ _) (wI l b items items2 n n2 dd dd2 sl sl2 ns ms hi hj)
  ⟨ho,ho2,show Value.bool (lexLt ns ms)≠Value.notImplemented/\Q (.bool (lexLt ns ms)) s from⟨(λx=>nomatch x),h⟩⟩ hu
def sIx(n d:Nat):Option Int->Nat
 | none=>d
 | some v=>if v<0 then (v+(n:Int)).toNat else min v.toNat n
theorem Hr(n d k:Nat):sIx n d (some (k:Int))=min k n:=by
 show (if (k:Int)<0 then ((k:Int)+(n:Int)).toNat else min (k:Int).toNat n)=min k n
 rw[if_neg (by lia),Int.toNat_natCast]
theorem V1(n d:Nat)(hd:d<=n)(o:Option Int):sIx n d o<=n:=by
 cases o with
 | none=>exact hd
 | some v =>
  show (if v<0 then (v+(n:Int)).toNat else min v.toNat n)<=n
  by_cases hv:v<0
  ·rw[if_pos hv];lia
  ·rw[if_neg hv];exact Nat.min_le_right _ _
theorem Ht(v:Int)(n d:Nat):(if v<0 then max (v+(n:Int)) 0 else min v (n:Int))=((sIx n d (some v):Nat):Int):=by
 show (if v<0 then max (v+(n:Int)) 0 else min v (n:Int))=(((if v<0 then (v+(n:Int)).toNat else min v.toNat n):Nat):Int)
 by_cases hv:v<0
 ·simp only[if_pos hv];lia
 ·simp only[if_neg hv];lia
theorem Fz(lo hi:Option Int)(n:Nat):Builtin.Slice.sliceAdjust lo hi 1 (n:Int)=(((sIx n 0 lo:Nat):Int),((sIx n n hi:Nat):Int)):=by
 have h1:¬ ((1:Int)<0):=by lia
 unfold Builtin.Slice.sliceAdjust
 simp only[h1,if_false]
 refine Prod.ext ?_ ?_
 ·cases lo with
  | none=>rfl
  | some v=>exact Ht v n 0
 ·cases hi with
  | none=>rfl
  | some v=>exact Ht v n n
theorem FJ(i j:Nat):Builtin.Slice.slicePlaces (i:Int) (j:Int) 1=j-i:=by
 unfold Builtin.Slice.slicePlaces
 have h1:(1:Int) > 0:=by lia
 simp only[h1,if_true,Int.ediv_one]
 split <;> lia
theorem slicePart_{v:Value}{o:Option Int}{Q:Option Int->Shared->Prop}(p:IsPart v o)(h:Q o s):wpAny (model prog w) A (Builtin.Slice.slicePartIndex v) Q E s:=by
 cases p with
 | none=>exact slicePart_none h
 | int i t=>exact slicePart_int h
theorem qm{sl:Addr}{vl vu:Value}{lo hi:Option Int}{n:Nat}{Q:Int×Int×Nat->Shared->Prop}(hs:s.heap.IsSliceOf sl vl vu .none)(pl:IsPart vl lo)(pu:IsPart vu hi)
  (h:Q (((sIx n 0 lo:Nat):Int),1,sIx n n hi-sIx n 0 lo) s):wpAny (model prog w) A (Builtin.Slice.sliceApplied (.ref sl) (pure (n:Int))) Q E s:=by
 obtain⟨os,hos,hcs,hds⟩:=id hs
 unfold Builtin.Slice.sliceApplied Builtin.Slice.sliceFields
 refine wpAny_bind (wpAny_bind (wpAny_field hos hds (x:=vl) rfl (wpAny_bind (wpAny_field hos hds (x:=vu) rfl (wpAny_bind (wpAny_field hos hds (x:=.none) rfl (wpAny_pure ?_)))))))
 refine wpAny_bind (slicePart_none ?_)
 show wpAny _ _ (if ((1:Int) == 0)=true then _ else _) _ _ s
 rw[if_neg (by decide)]
 refine wpAny_bind (slicePart_ pl (wpAny_bind (slicePart_ pu (wpAny_bind (wpAny_pure ?_)))))
 show wpAny _ _ (match Builtin.Slice.sliceAdjust lo hi 1 (n:Int) with|(lo,hi)=>pure (lo,(1:Int),Builtin.Slice.slicePlaces lo hi 1)) _ _ s
 rw[Fz lo hi n]
 show wpAny _ _ (pure (((sIx n 0 lo:Nat):Int),(1:Int),Builtin.Slice.slicePlaces ((sIx n 0 lo:Nat):Int) ((sIx n n hi:Nat):Int) 1)) _ _ s
 rw[FJ]
 exact wpAny_pure h
theorem Mw(xs:Array Value)(i k:Nat):((List.range k).filterMap λ(m:Nat)=>xs[((i:Int)+(m:Int)*1).toNat]?).toArray=((xs.toList.drop i).take k).toArray:=by
 have e:(λ(m:Nat)=>xs[((i:Int)+(m:Int)*1).toNat]?)=λm=>xs[i+m]?:=by
  funext m
  have:((i:Int)+(m:Int)*1).toNat=i+m:=by lia
  rw[this]
 rw[e]
 have:=pick_run xs i k
 rw[List.filterMap_map] at this
 have e2:((λx=>xs[x]?) ∘ λx=>i+x)=λm=>xs[i+m]?:=rfl
 rw[e2] at this
 rw[this]
theorem nU{t sl:Addr}{items:Array Value}{vl vu:Value}{lo hi:Option Int}{Q:Value->Shared->Prop}(ht:IsTup s.heap t items)(hs:s.heap.IsSliceOf sl vl vu .none)(pl:IsPart vl lo)(pu:IsPart vu hi)
  (hw:¬ (sIx items.size 0 lo=0/\sIx items.size items.size hi=items.size))
  (h:Q (.ref s.heap.objs.size) { s with heap:=s.heap.push { cls:=.type "tuple", data:=.seq ((items.toList.drop (sIx items.size 0 lo)).take (sIx items.size items.size hi-sIx items.size 0 lo)).toArray } })
  (hsz:items.size<=sizeLine):wpAny (model prog w) A (getItem (.ref t) (.ref sl)) Q E s:=by
 have Hu:sizeOk (.seq ((items.toList.drop (sIx items.size 0 lo)).take (sIx items.size items.size hi-sIx items.size 0 lo)).toArray):=by
  show ((items.toList.drop (sIx items.size 0 lo)).take (sIx items.size items.size hi-sIx items.size 0 lo)).toArray.size<=sizeLine
  rw[List.size_toArray,List.length_take,List.length_drop,Array.length_toList]
  lia
 have hj:sIx items.size items.size hi<=items.size:=V1 _ _ (Nat.le_refl _) hi
 obtain⟨os,hos,hcs,hds⟩:=id hs
 have hTs:s.TypeIs (.ref sl) "slice":=⟨os,hos,hcs⟩
 unfold getItem
 try with_reducible refine wpAny_holding ?_
 first|refine wpAny_bind (wpAny_pure ?_)|skip
 refine wpAny_bind (wpAny_sequenceKey ht.typeIs (by decide) ?_)
 refine wpAny_bind (wpAny_callSpecial?_slot (name:=Str.ofString "__getitem__") ht.typeIs PyProof.Rows.slot_tuple_getitem
  (wpAny_call_entry PyProof.Rows.slot_tuple_getitem ht.typeIs entry_tuple_getitem ?_ (args_tuple_getitem _ _)))
 show wpAny _ _ (Builtin.Tuple.tupleItemsOf (.ref t) >>= _) _ _ s
 refine wpAny_bind (tupleItemsOf_ ht ?_)
 refine wpAny_bind (wpAny_typeOf hTs ?_)
 rw[if_pos (by decide)]
 refine wpAny_bind (qm hs pl pu ?_)
 have hno:¬ ((((sIx items.size 0 lo:Nat):Int) == 0 && (1:Int) == 1 && (sIx items.size items.size hi-sIx items.size 0 lo) == items.size)=true):=by
  intro q
  rw[Bool.and_eq_true,Bool.and_eq_true] at q
  have q1:((sIx items.size 0 lo:Nat):Int)=0:=eq_of_beq q.1.1
  have q2:sIx items.size items.size hi-sIx items.size 0 lo=items.size:=eq_of_beq q.2
  exact hw ⟨by lia,by lia⟩
 show wpAny _ _ (if (((sIx items.size 0 lo:Nat):Int) == 0 && (1:Int) == 1 && (sIx items.size items.size hi-sIx items.size 0 lo) == items.size)=true then _ else _) _ _ s
 rw[if_neg hno,Mw]
 first
  | exact wpAny_bind (m:=Builtin.Tuple.tupleExact _) (wpAny_newObj_type (wpAny_pure ⟨_,rfl,wpAny_pure h⟩) Hu)
  | exact wpAny_bind (m:=Builtin.Tuple.tupleExact _) (wpAny_newObj_type (wpAny_bind (wpAny_pure (wpAny_pure ⟨_,rfl,wpAny_pure h⟩))) Hu)
  | exact wpAny_bind (wpAny_bind (m:=Builtin.Tuple.tupleExact _) (wpAny_newObj_type (wpAny_pure (wpAny_pure ⟨_,rfl,wpAny_pure h⟩)) Hu))
  | exact wpAny_bind (wpAny_bind (m:=Builtin.Tuple.tupleExact _) (wpAny_newObj_type (wpAny_pure ⟨_,rfl,wpAny_pure h⟩) Hu))
end
end HT
namespace L2
open PySem PySem.Spec PyProof.Rows
abbrev TO:=St->Hp->(Option Int->Hp->Prop)->Prop
def PO(X:Cx)(e:Option Expr)(t:TO):Prop :=
 ∀(pins:List (Addr×Obj)) (s:Shared) (σ:St) (H:Hp) (Q:Option Int->Hp->Prop),Inv X pins σ H s->t σ H Q ->
  wpAny (model X.prog X.w) X.A (evalPart e X.env) (λu s'=>∃o H',Inv X pins σ H' s'/\IsPart u o/\Q o H') X.xe s
def zK:TO:=λ_ H Q=>Q none H
def Mx(t:TE):TO:=λσ H Q=>t σ H λx H1=>∃i,x=.int i/\Q (some i) H1
theorem intsAre_of{ns:List Int}:∀{us:List Value},Vals (ns.map V.int) us->IntsAre us ns:=by
 induction ns with
 | nil=>intro us r;rw[List.map_nil] at r;cases r;exact .nil
 | cons n ns ih =>
  intro us r
  rw[List.map_cons] at r
  cases r with
  | cons r1 r2 =>
   obtain⟨t,e⟩:=r1
   subst e
   exact .cons n t (ih r2)
section
variable{X:Cx}{e:Expr}{te:TE}{lo hi:Option Expr}{tl th:TO}{pos p2:Pos}
theorem k_:PO X none zK:=by
 intro pins s σ H Q I h
 rw[evalPart_none]
 exact wpAny_pure ⟨none,H,I,.none,h⟩
theorem lB(h:PE X e te):PO X (some e) (Mx te):=by
 intro pins s σ H Q I hw
 rw[evalPart_some]
 refine thn (h pins s σ H _ I hw) λu s1 ⟨x,H1,I1,r1,q1⟩=>?_
 obtain⟨i,rfl,q⟩:=q1
 obtain⟨t,rfl⟩:=r1
 exact⟨some i,H1,I1,.int i t,q⟩
def SlR(X:Cx)(r:V->Option Int->Option Int->Hp->VK->Prop):Prop :=
 ∀(pins:List (Addr×Obj)) (s:Shared) (σ:St) (H:Hp) (x:V) (v vl vu:Value) (lo hi:Option Int) (sl:Addr) (Q:VK),Inv X pins σ H s->RelV x v->s.heap.IsSliceOf sl vl vu .none->IsPart vl lo->IsPart vu hi->r x lo hi H Q ->
  ∃T id,typeLookup (.type T) "__getitem__" = pure (some (.builtin id))/\s.TypeIs v T/\wpAny (model X.prog X.w) X.A (getItem v (.ref sl)) (EP X pins σ Q) X.xe s
theorem SlR.or{r r':V->Option Int->Option Int->Hp->VK->Prop}(h:SlR X r)(h':SlR X r'):SlR X (λx lo hi H Q=>r x lo hi H Q\/r' x lo hi H Q):=by
 intro pins s σ H x v vl vu lo hi sl Q I rx hs pl pu q
 rcases q with q|q
 ·exact h pins s σ H x v vl vu lo hi sl Q I rx hs pl pu q
 ·exact h' pins s σ H x v vl vu lo hi sl Q I rx hs pl pu q
def tSl(r:V->Option Int->Option Int->Hp->VK->Prop)(te:TE)(tl th:TO):TE:=λσ H Q=>te σ H λx H1=>tl σ H1 λl H2=>th σ H2 λu H3=>r x l u H3 Q
theorem jl{r:V->Option Int->Option Int->Hp->VK->Prop}(hr:SlR X r)(he:PE X e te)(hl:PO X lo tl)(hu:PO X hi th):PE X (.Subscript e (.Slice lo hi none p2) pos) (tSl r te tl th):=by
 intro pins s σ H Q I h
 refine Subscript_ (thn (he pins s σ H _ I h) λv s1 ⟨x,H1,I1,r1,q1⟩=>?_)
 refine wpAny_Slice (thn (hl pins s1 σ H1 _ I1 q1) λvl s2 ⟨l,H2,I2,pl,q2⟩=>thn (hu pins s2 σ H2 _ I2 q2) λvu s3 ⟨u,H3,I3,pu,q3⟩=>?_)
 rw[evalPart_none]
 refine wpAny_pure ?_
 have I4:Inv X pins σ H3 { s3 with heap:=s3.heap.push { cls:=.type "slice", data:=.fields #[vl,vu,.none] } }:=I3.kept (t':=s3.toks) λb ob q=>Heap.get?_push_of_some _ q
 obtain⟨T,id,hT,ht,hg⟩:=hr pins { s3 with heap:=s3.heap.push { cls:=.type "slice", data:=.fields #[vl,vu,.none] } } σ H3 x v vl vu l u s3.heap.objs.size Q I4 r1 (Heap.IsSliceOf.new ..) pl pu q3
 show wpAny (model X.prog X.w) X.A (subscriptTail e (.Slice lo hi none p2) v (.ref s3.heap.objs.size)) (EP X pins σ Q) X.xe { s3 with heap:=s3.heap.push { cls:=.type "slice", data:=.fields #[vl,vu,.none] } }
 exact tail_any (ops:=[.ref s3.heap.objs.size,v]) ht hT hg (by with_unfolding_all rfl)
def nW(xs:List V)(lo hi:Option Int):List V:=(xs.drop (HT.sIx xs.length 0 lo)).take (HT.sIx xs.length xs.length hi-HT.sIx xs.length 0 lo)
theorem rM(xs:List V)(lo hi:Option Int):(nW xs lo hi).length<=xs.length:=by
 unfold nW
 rw[List.length_take,List.length_drop]
 lia
def Zj(K:W.Frag):V->Option Int->Option Int->Hp->VK->Prop:=λx lo hi H Q=>∃a xs,x=.ref a/\SqT K H a xs /\
 ¬ (HT.sIx xs.length 0 lo=0/\HT.sIx xs.length xs.length hi=xs.length)/\∀p,H p=none->Q (.ref p) (upd H p (.tup (nW xs lo hi)))
theorem FN:SlR X (Zj X.K):=by
 intro pins s σ H x v vl vu lo hi sl Q I rx hs pl pu h
 obtain⟨a,xs,rfl,hx,hw,q⟩:=h
 cases rx
 obtain⟨its,r,ht,hz⟩:=I.tuple hx
 have hlen:its.toArray.size=xs.length:=by rw[List.size_toArray];exact r.length.symm
 refine⟨"tuple", _,PyProof.Rows.slot_tuple_getitem.lookup,ht.typeIs,?_⟩
 refine HT.nU ht hs pl pu (by rw[hlen];exact hw) ?_ (by rw[hlen];exact hz)
 rw[hlen]
 refine⟨.ref s.heap.objs.size,_,I.laid (t':=s.toks) (o:=.tup (nW xs lo hi)) (λb ob q=>Heap.get?_push_of_some _ q) (Nat.le_refl _) ?_,rfl,q _ (I.hok.fresh (Nat.le_refl _))⟩
 exact⟨Nat.le_trans (rM xs lo hi) hz,_,(r.drop (HT.sIx xs.length 0 lo)).take (HT.sIx xs.length xs.length hi-HT.sIx xs.length 0 lo),IsTup.new _ _⟩
end
def ixN(n:Nat)(i:Int):Option Nat:=if 0<=i then (if i<n then some i.toNat else none) else if -(n:Int)<=i then some (i+n).toNat else none
def atI{α:Type}(xs:List α)(i:Int):Option α:=(ixN xs.length i).bind λj=>xs[j]?
theorem Hv{n:Nat}{i:Int}{j:Nat}(h:ixN n i=some j):seqIndex? i n=some j/\j<n/\-(n:Int)<=i/\i<n:=by
 unfold ixN at h
 by_cases h0:0<=i
 ·rw[if_pos h0] at h
  by_cases h1:i<n
  ·rw[if_pos h1] at h
   have e:i.toNat=j:=Option.some.inj h
   exact⟨by rw[seqIndex_of h0 h1,e],by lia,by lia,h1⟩
  ·rw[if_neg h1] at h;cases h
 ·rw[if_neg h0] at h
  by_cases h1:-(n:Int)<=i
  ·rw[if_pos h1] at h
   have e:(i+n).toNat=j:=Option.some.inj h
   exact⟨by rw[seqIndex_neg (by lia) h1,e],by lia,h1,by lia⟩
  ·rw[if_neg h1] at h;cases h
theorem zL{α:Type}{xs:List α}{i:Int}{v:α}(h:atI xs i=some v):∃j,seqIndex? i xs.length=some j/\xs[j]?=some v/\j<xs.length/\-(xs.length:Int)<=i/\i<xs.length:=by
 unfold atI at h
 cases e:ixN xs.length i with
 | none=>rw[e] at h;cases h
 | some j =>
  rw[e] at h
  obtain⟨h1,h2,h3,h4⟩:=Hv e
  exact⟨j,h1,h,h2,h3,h4⟩
theorem cD{α:Type}{xs:List α}{j:Nat}{v:α}(h:xs[j]?=some v):atI xs (j:Int)=some v:=by
 have hj:j<xs.length:=(List.getElem?_eq_some_iff.mp h).1
 have e:ixN xs.length (j:Int)=some j:=by
  unfold ixN
  rw[if_pos (by lia),if_pos (by lia)];simp
 unfold atI;rw[e];exact h
def Rv(b:Expr):Prop:=∀o i,subscripted b false o i=operate [o,i] (getItem o i)
def IxR(X:Cx)(r:R2):Prop :=
 ∀(value slice:Expr) (pins:List (Addr×Obj)) (s:Shared) (σ:St) (H:Hp) (x y:V) (v u:Value) (Q:VK),Inv X pins σ H s->RelV x v->RelV y u->r x y H Q ->
  subscripted slice false v u=operate [v,u] (getItem v u)->wpAny (model X.prog X.w) X.A (subscriptTail value slice v u) (EP X pins σ Q) X.xe s
def MtR(X:Cx)(id:String)(r:V->List V->Hp->VK->Prop):Prop :=
 ∀(pins:List (Addr×Obj)) (s:Shared) (σ:St) (H:Hp) (x:V) (xs:List V) (v:Value) (us:List Value) (Q:VK),Inv X pins σ H s->RelV x v->Vals xs us->r x xs H Q ->
  wpAny (model X.prog X.w) X.A (call (.builtin id) (v::us)) (EP X pins σ Q) X.xe s
section
variable{X:Cx}{a b:Expr}{ta tb:TE}{pos:Pos}
theorem IxR.or{r r':R2}(h:IxR X r)(h':IxR X r'):IxR X (λx y H Q=>r x y H Q\/r' x y H Q):=by
 intro value slice pins s σ H x y v u Q I rx ry q hs
 rcases q with q|q
 ·exact h value slice pins s σ H x y v u Q I rx ry q hs
 ·exact h' value slice pins s σ H x y v u Q I rx ry q hs
theorem MtR.or{id:String}{r r':V->List V->Hp->VK->Prop}(h:MtR X id r)(h':MtR X id r'):MtR X id (λx xs H Q=>r x xs H Q\/r' x xs H Q):=by
 intro pins s σ H x xs v us Q I rx rs q
 rcases q with q|q
 ·exact h pins s σ H x xs v us Q I rx rs q
 ·exact h' pins s σ H x xs v us Q I rx rs q
theorem aZ{r:R2}(hr:IxR X r)(ha:PE X a ta)(hb:PE X b tb)(hs:Rv b):PE X (.Subscript a b pos) (tOp r ta tb):=by
 intro pins s σ H Q I h
 exact Subscript_ (VG ha hb I h λv u s2 x y H2 I2 rx ry q=>hr a b pins s2 σ H2 x y v u Q I2 rx ry q (hs _ _))
def Rx(K:W.Frag):R2:=λx y H Q=>∃p xs i v,x=.ref p/\y=.int i/\SqL K H p xs/\atI xs i=some v/\Q v H
def Ry(K:W.Frag):R2:=λx y H Q=>∃p xs i v,x=.ref p/\y=.int i/\SqT K H p xs/\atI xs i=some v/\Q v H
def Zk:R2:=λx y H Q=>∃z i c,x=.str z/\y=.int i/\z.length<=sizeLine/\atI z.cps.toList i=some c/\Q (.str ⟨#[c]⟩) H
theorem bO:IxR X (Rx X.K):=by
 intro value slice pins s σ H x y v u Q I rx ry h hs
 obtain⟨p,xs,i,z,rfl,rfl,hq,he,q⟩:=h
 cases rx
 obtain⟨t,rfl⟩:=ry
 obtain⟨its,r,pl,hz⟩:=I.list hq
 obtain⟨j,h1,h2,h3,h4,h5⟩:=zL he
 obtain⟨w,ew,rw'⟩:=r.get h2
 have hl:=r.length
 have hn:=uc
 have fin:EP X pins σ Q w s:=⟨z,H,I,rw',q⟩
 by_cases h0:0<=i
 ·have hj:i.toNat=j:=by
   rw[seqIndex_of h0 h5] at h1
   exact Option.some.inj h1
  exact item_listR pl.isList h0 (by lia) (by rw[hj];simpa using ew) fin hs
 ·have hj:(i+(its.toArray.size:Int)).toNat=j:=by
   rw[seqIndex_neg (by lia) h4] at h1
   rw[List.size_toArray,<- hl]
   exact Option.some.inj h1
  exact subscriptTail_builtinR (x:=w) pl.isList.typeIs slot_list_getitem.lookup
   (wpAny_getItem_list_neg (Q:=λr s'=>r=w/\EP X pins σ Q r s') pl.isList (by lia) (by rw[List.size_toArray] <;> lia) (by lia) (by rw[hj];simpa using ew) ⟨rfl,fin⟩) hs
theorem bT:IxR X (Ry X.K):=by
 intro value slice pins s σ H x y v u Q I rx ry h hs
 obtain⟨p,xs,i,z,rfl,rfl,hq,he,q⟩:=h
 cases rx
 obtain⟨t,rfl⟩:=ry
 obtain⟨its,r,pl,hz⟩:=I.tuple hq
 obtain⟨j,h1,h2,h3,h4,h5⟩:=zL he
 obtain⟨w,ew,rw'⟩:=r.get h2
 have hl:=r.length
 have hn:=uc
 have fin:EP X pins σ Q w s:=⟨z,H,I,rw',q⟩
 exact subscriptTail_builtinR (x:=w) pl.typeIs slot_tuple_getitem.lookup
  (getItem_tuple (j:=j) (Q:=λr s'=>r=w/\EP X pins σ Q r s') pl (by lia) (by lia) (by rw[List.size_toArray,<- hl];exact h1) (by simpa using ew) ⟨rfl,fin⟩) hs
theorem uo:IxR X Zk:=by
 intro value slice pins s σ H x y v u Q I rx ry h hs
 obtain⟨z,i,c,rfl,rfl,hz,he,q⟩:=h
 obtain⟨t,rfl⟩:=rx
 obtain⟨t',rfl⟩:=ry
 obtain⟨j,h1,h2,h3,h4,h5⟩:=zL he
 have hl:z.cps.toList.length=z.length:=by simp[Str.length]
 rw[hl] at h1 h4 h5
 have hn:=uc
 exact tail_any (typeIs_str s z t) slot_str_getitem.lookup (getItem_str (c:=c) (by
  have e1:decide (i < -(2 ^ 63:Int))=false:=decide_eq_false (by lia)
  have e2:decide (i ≥ 2 ^ 63)=false:=decide_eq_false (by lia)
  rw[e1,e2,Bool.or_false]) (by rw[h1];simpa using h2) ⟨.str ⟨#[c]⟩,H,I.tok _,⟨_,rfl⟩,q⟩) hs
theorem FP(its:List Value)(n j:Nat)(u:Value):Obj.mapSeq (·.setIfInBounds j u) { cls:=.type "list", data:=.seq its.toArray n }={ cls:=.type "list", data:=.seq (its.set j u).toArray n }:=by
 simp[Obj.mapSeq]
theorem Inv.lst{pins:List (Addr×Obj)}{σ:St}{H:Hp}{s:Shared}{p:Addr}{xs:List V}(I:Inv X pins σ H s)(h:H p=some (.lst xs)) :
  ∃(its:List Value) (n:Nat),Vals xs its/\s.heap.get? p=some { cls:=.type "list", data:=.seq its.toArray n }/\xs.length<=sizeLine:=by
 obtain⟨z,its,n,r,e⟩:=I.hok p _ h
 exact⟨its,n,r,e,z⟩
theorem Inv.V2{pins:List (Addr×Obj)}{σ:St}{H:Hp}{s:Shared}{p:Addr}{xs ys:List V}{its its':List Value}{n n':Nat}{f:Obj->Obj}(I:Inv X pins σ H s)(h:H p=some (.lst xs))
  (ho:s.heap.get? p=some { cls:=.type "list", data:=.seq its.toArray n }) (hf:f { cls:=.type "list", data:=.seq its.toArray n }={ cls:=.type "list", data:=.seq its'.toArray n' }) (r:Vals ys its') (hz:ys.length<=sizeLine) (t:Nat) :
  Inv X pins σ (upd H p (.lst ys)) { s with heap:=s.heap.update p f,toks:=t }:=by
 have e:(s.heap.update p f).get? p=some { cls:=.type "list", data:=.seq its'.toArray n' }:=by
  rw[Heap.get?_update_self f ho (by rw[hf] <;> rfl),hf]
 refine I.write (x:=p) (e:=p) (by rw[h];trivial) (.inl rfl) (λb u hb q=>(Heap.get?_update_other _ _ (Ne.symm hb)).trans q) ⟨_,e⟩ ?_
 exact⟨hz,its',n',r,e⟩
def Zm:V->V->V->Hp->(Hp->Prop)->Prop:=λo i v H Q=>∃p xs k j,o=.ref p/\i=.int k/\H p=some (.lst xs)/\ixN xs.length k=some j/\Q (upd H p (.lst (xs.set j v)))
theorem set_list:VD X Zm:=by
 intro pins s σ H o i v ov iv u Q I ro ri rv h
 obtain⟨p,xs,k,j,rfl,rfl,hp,hj,q⟩:=h
 cases ro
 obtain⟨t,rfl⟩:=ri
 obtain⟨its,n,r,ho,hz⟩:=I.lst hp
 obtain⟨h1,h2,h3,h4⟩:=Hv hj
 have hl:=r.length
 have hn:=uc
 have I':Inv X pins σ (upd H p (.lst (xs.set j v))) { s with heap:=s.heap.update p (Obj.mapSeq (·.setIfInBounds j u)) } :=
  I.V2 hp ho (FP its n j u) (r.set rv j) (by rw[List.length_set];exact hz) s.toks
 by_cases h0:0<=k
 ·have hk:k.toNat=j:=by
   rw[seqIndex_of h0 h4] at h1
   exact Option.some.inj h1
  exact W.ki_setAt ho h0 (by lia) (by rw[List.size_toArray,<- hl];exact h4) (by rw[hk];exact⟨_,I',q⟩)
 ·have hk:(k+(its.toArray.size:Int)).toNat=j:=by
   rw[seqIndex_neg (by lia) h3] at h1
   rw[List.size_toArray,<- hl]
   exact Option.some.inj h1
  exact W.ki_setBack ho (by lia) (by rw[List.size_toArray,<- hl];exact h3) (by lia) (by rw[hk];exact⟨_,I',q⟩)
theorem zM(lo hi:Option Int)(n:Nat):(sliceBounds lo hi none n).1=((HT.sIx n 0 lo:Nat):Int)/\(sliceBounds lo hi none n).2.1=((HT.sIx n n hi:Nat):Int)/\(sliceBounds lo hi none n).2.2=1:=by
 refine⟨?_,?_,rfl⟩
 ·cases lo with
  | none=>simp[sliceBounds,HT.sIx]
  | some i =>
   simp only[sliceBounds,HT.sIx,Option.getD_none,show (1:Int) > 0 by decide,if_true]
   by_cases h:i<0
   ·simp only[h,if_true] <;> lia
   ·simp only[h,if_false] <;> lia
 ·cases hi with
  | none=>simp[sliceBounds,HT.sIx]
  | some i =>
   simp only[sliceBounds,HT.sIx,Option.getD_none,show (1:Int) > 0 by decide,if_true]
   by_cases h:i<0
   ·simp only[h,if_true] <;> lia
   ·simp only[h,if_false] <;> lia
theorem wJ(its:List Value)(lo hi:Option Int):slicePick its.toArray lo hi none=((its.drop (HT.sIx its.length 0 lo)).take (HT.sIx its.length its.length hi-HT.sIx its.length 0 lo)).toArray:=by
 obtain⟨h1,h2,h3⟩:=zM lo hi its.toArray.size
 unfold slicePick
 rw[h1,h2,h3]
 simp only[sliceRange_one,pick_run,List.size_toArray] <;> rfl
def adn(K:W.Frag):V->Option Int->Option Int->Hp->VK->Prop:=λx lo hi H Q=>∃a xs,x=.ref a/\SqL K H a xs/\∀p,H p=none->Q (.ref p) (upd H p (.lst (nW xs lo hi)))
theorem Rz:SlR X (adn X.K):=by
 intro pins s σ H x v vl vu lo hi sl Q I rx hs pl pu h
 obtain⟨a,xs,rfl,hx,q⟩:=h
 cases rx
 obtain⟨its,r,ht,hz⟩:=I.list hx
 have hlen:=r.length
 refine⟨"list", _,slot_list_getitem.lookup,ht.isList.typeIs,?_⟩
 refine wpAny_getItem_list_slice ht.isList hs pl pu .none (by simp) ?_ (by rw[List.size_toArray] <;> lia)
 rw[wJ,<- hlen]
 refine⟨.ref s.heap.objs.size,_,I.laid (t':=s.toks) (o:=.lst (nW xs lo hi)) (λb ob q=>Heap.get?_push_of_some _ q) (Nat.le_refl _) ?_,rfl,q _ (I.hok.fresh (Nat.le_refl _))⟩
 exact⟨Nat.le_trans (rM xs lo hi) hz,_,0,(r.drop (HT.sIx xs.length 0 lo)).take (HT.sIx xs.length xs.length hi-HT.sIx xs.length 0 lo),Heap.get?_push_size _ rfl⟩
def mG:V->Bool
 | .non=>true
 | .bl _=>true
 | .int _=>true
 | .str _=>true
 | _=>false
def eqV:V->V->Bool
 | .non,.non=>true
 | .bl a,.bl b=>a == b
 | .bl a,.int b=>(if a then 1 else 0) == b
 | .int a,.bl b=>a == (if b then 1 else 0)
 | .int a,.int b=>a == b
 | .str a,.str b=>a == b
 | _,_=>false
theorem V3{A:Around}{s:Shared}{y x:V}{u v:Value}(ry:RelV y u)(rx:RelV x v)(fy:mG y=true)(fx:mG x=true):SeqAt.EqAt A s u v (eqV y x):=by
 cases y with
 | non =>
  cases ry
  cases x with
  | non=>cases rx;exact SeqAt.EqAt.same _
  | bl b=>cases rx;exact SeqAt.EqAt.none_bool b
  | int b=>obtain⟨t,rfl⟩:=rx;exact SeqAt.EqAt.none_int b t
  | str b=>obtain⟨t,rfl⟩:=rx;exact SeqAt.EqAt.none_str b t
  | _=>exact absurd (show false=true from fx) Bool.false_ne_true
 | bl a =>
  cases ry
  cases x with
  | non=>cases rx;exact SeqAt.EqAt.bool_none a
  | bl b=>cases rx;exact SeqAt.EqAt.bool_bool a b
  | int b=>obtain⟨t,rfl⟩:=rx;exact SeqAt.EqAt.bool_int a b t
  | str b=>obtain⟨t,rfl⟩:=rx;exact SeqAt.EqAt.bool_str a b t
  | _=>exact absurd (show false=true from fx) Bool.false_ne_true
 | int a =>
  obtain⟨t',rfl⟩:=ry
  cases x with
  | non=>cases rx;exact SeqAt.EqAt.int_none a t'
  | bl b=>cases rx;exact SeqAt.EqAt.int_bool a t' b
  | int b=>obtain⟨t,rfl⟩:=rx;exact SeqAt.EqAt.int_int a t' b t
  | str b=>obtain⟨t,rfl⟩:=rx;exact SeqAt.EqAt.int_str a t' b t
  | _=>exact absurd (show false=true from fx) Bool.false_ne_true
 | str a =>
  obtain⟨t',rfl⟩:=ry
  cases x with
  | non=>cases rx;exact SeqAt.EqAt.str_none a t'
  | bl b=>cases rx;exact SeqAt.EqAt.str_bool a t' b
  | int b=>obtain⟨t,rfl⟩:=rx;exact SeqAt.EqAt.str_int a t' b t
  | str b=>obtain⟨t,rfl⟩:=rx;exact SeqAt.EqAt.str_str a t' b t
  | _=>exact absurd (show false=true from fx) Bool.false_ne_true
 | _=>exact absurd (show false=true from fy) Bool.false_ne_true
def eqU(x:V)(u:Value):Bool:=match u with
 | .none=>eqV .non x
 | .bool b=>eqV (.bl b) x
 | .int i _=>eqV (.int i) x
 | .str z _=>eqV (.str z) x
 | _=>false
theorem FQ{x y:V}{u:Value}(r:RelV y u)(f:mG y=true):eqU x u=eqV y x:=by
 cases y with
 | non=>cases r;rfl
 | bl b=>cases r;rfl
 | int i=>obtain⟨t,rfl⟩:=r;rfl
 | str z=>obtain⟨t,rfl⟩:=r;rfl
 | _=>exact absurd (show false=true from f) Bool.false_ne_true
theorem zN{x:V}:∀{xs:List V} {us:List Value},Vals xs us->xs.all mG=true->us.any (eqU x)=xs.any λy=>eqV y x
 | _,_,.nil,_=>rfl
 | y::xs,u::us,.cons r t,f=>by
  rw[List.all_cons,Bool.and_eq_true] at f
  rw[List.any_cons,List.any_cons,FQ r f.1,zN t f.2]
theorem nY{A:Around}{s:Shared}{x:V}{v:Value}(rx:RelV x v)(fx:mG x=true):∀{xs:List V} {us:List Value},Vals xs us->xs.all mG=true->∀u∈us,SeqAt.EqAt A s u v (eqU x u)
 | _,_,.nil,_=>λu hu=>by cases hu
 | y::xs,u::us,.cons r t,f=>λu' hu=>by
  rw[List.all_cons,Bool.and_eq_true] at f
  rcases List.mem_cons.mp hu with rfl|hu
  ·rw[FQ r f.1];exact V3 r rx f.1 fx
  ·exact nY rx fx t f.2 u' hu
def inV(x:V)(xs:List V):Bool:=xs.any λy=>eqV y x
def rIn(K:W.Frag)(neg:Bool):R2:=λx y H Q=>∃p xs,y=.ref p/\(SqL K H p xs\/SqT K H p xs)/\mG x=true/\xs.all mG=true/\Q (.bl (if neg then !inV x xs else inV x xs)) H
theorem J_:OpR X (compareOp .In) (rIn X.K false):=by
 intro pins s σ H x y v u Q I rx ry h
 obtain⟨p,xs,rfl,hq,fx,fs,q⟩:=h
 cases ry
 rcases hq with hq|hq
 ·obtain⟨its,r,pl,hz⟩:=I.list hq
  refine SeqAt.in_listAt (eqU x) pl.isList (λw hw=>nY rx fx r fs w (by simpa using hw)) ⟨.bl _,H,I,rfl,?_⟩
  rw[show its.toArray.any (eqU x)=its.any (eqU x) by simp,zN r fs]
  exact q
 ·obtain⟨its,r,pl,hz⟩:=I.tuple hq
  refine SeqAt.in_tupleAt (eqU x) pl (λw hw=>nY rx fx r fs w (by simpa using hw)) ⟨.bl _,H,I,rfl,?_⟩
  rw[show its.toArray.any (eqU x)=its.any (eqU x) by simp,zN r fs]
  exact q
theorem eH.or{f:Value}{r r':List V->Hp->VK->Prop}(h:eH X f r)(h':eH X f r'):eH X f (λxs H Q=>r xs H Q\/r' xs H Q):=by
 intro pins s σ H xs us Q I rs q
 rcases q with q|q
 ·exact h pins s σ H xs us Q I rs q
 ·exact h' pins s σ H xs us Q I rs q
theorem zO:eH X (.type "list") (λxs H Q=>∃p ys,xs=[.ref p]/\(SqL X.K H p ys\/SqT X.K H p ys)/\∀l,H l=none->Q (.ref l) (upd H l (.lst ys))):=by
 intro pins s σ H xs us Q I r h
 obtain⟨p,ys,rfl,hq,q⟩:=h
 obtain⟨u,rfl,rx⟩:=vals1 r
 cases rx
 have fin:∀(its:List Value),Vals ys its->ys.length<=sizeLine->∀(h':Heap) (c':Nat),(∀b o',s.heap.get? b=some o'->h'.get? b=some o') ->
   h'.get? s.heap.objs.size=some { cls:=.type "list", dict:=none,data:=.seq its.toArray c',slots:=#[] }->EP X pins σ Q (.ref s.heap.objs.size) { s with heap:=h' }:=λits r' hz h' c' kp e =>
  ⟨.ref s.heap.objs.size,_,I.laid (t':=s.toks) kp (Nat.le_refl _) (show dg X.prog X.w _ h' _ (.lst ys) from⟨hz,its,c',r',e⟩),rfl,q _ (I.hok.fresh (Nat.le_refl _))⟩
 rcases hq with hq|hq
 ·obtain⟨its,r',pl,hz⟩:=I.list hq
  have hlen:=r'.length
  obtain⟨o,ho,hc,n,hd⟩:=pl.isList
  exact call_list_seq p (.inl rfl) ho hc hd (λh' c' kp e=>fin its r' hz h' c' kp e) (by simp only[List.size_toArray] <;> lia)
 ·obtain⟨its,r',pl,hz⟩:=I.tuple hq
  have hlen:=r'.length
  obtain⟨o,ho,hc,n,hd⟩:=pl
  exact call_list_seq p (.inr rfl) ho hc hd (λh' c' kp e=>fin its r' hz h' c' kp e) (by simp only[List.size_toArray] <;> lia)
theorem wK:eH X (.type "tuple") (λxs H Q=>∃p ys,xs=[.ref p]/\((SqL X.K H p ys/\∀l,H l=none->Q (.ref l) (upd H l (.tup ys)))\/(SqT X.K H p ys/\Q (.ref p) H))):=by
 intro pins s σ H xs us Q I r h
 obtain⟨p,ys,rfl,h⟩:=h
 obtain⟨u,rfl,rx⟩:=vals1 r
 cases rx
 rcases h with⟨hq,q⟩|⟨hq,q⟩
 ·obtain⟨its,r',pl,hz⟩:=I.list hq
  have hlen:=r'.length
  refine call_tuple_list pl.isList (λh' kp=>?_) (by simp only[List.size_toArray] <;> lia)
  have I1:Inv X pins σ H { s with heap:=h' }:=I.kept (t':=s.toks) kp
  have I2:Inv X pins σ (upd H h'.objs.size (.tup ys)) { s with heap:=h'.push { cls:=.type "tuple", data:=.seq its.toArray } } :=
   I1.laid (t':=s.toks) (λb o e=>Heap.get?_push_of_some _ e) (Nat.le_refl _) (show dg X.prog X.w _ _ _ (.tup ys) from⟨hz,its,r',IsTup.new _ _⟩)
  exact⟨.ref h'.objs.size,_,I2,rfl,q _ (I1.hok.fresh (Nat.le_refl _))⟩
 ·obtain⟨its,r',pl,hz⟩:=I.tuple hq
  exact call_tuple_same pl ⟨.ref p,H,I,rfl,q⟩
def tyV(K:W.Frag)(T:String)(x:V)(H:Hp):Prop:=match x with
 | .str _=>T = "str"
 | .int _=>T = "int"
 | .ref p=>(T = "list" /\ ∃xs,SqL K H p xs)\/(T = "tuple" /\ ∃o,K.lookup p=some o/\o.cls=.type "tuple" /\ o.dict=none) \/
   (T = "dict" /\ ((∃kvs,H p=some (.dK kvs))\/∃kvs,H p=some (.dT kvs)))\/(T = "set" /\ ∃S n,H p=some (.set S n))
 | _=>False
theorem Mz{pins:List (Addr×Obj)}{σ:St}{H:Hp}{s:Shared}{T:String}{x:V}{v:Value}(I:Inv X pins σ H s)(r:RelV x v)(ty:tyV X.K T x H) :
  s.TypeIs v T/\∀a,v=.ref a->∃ob,s.heap.get? a=some ob/\ob.dict=none:=by
 cases x with
 | str z =>
  obtain⟨t,rfl⟩:=r
  cases (show T = "str" from ty)
  exact⟨typeIs_str s z t,λ_ e=>nomatch e⟩
 | int i =>
  obtain⟨t,rfl⟩:=r
  cases (show T = "int" from ty)
  exact⟨typeIs_int s i t,λ_ e=>nomatch e⟩
 | ref p =>
  cases r
  rcases ty with⟨rfl,xs,hq⟩|⟨rfl,o,hk,hc,hd⟩|⟨rfl,hk⟩|⟨rfl,S,n,hk⟩
  ·obtain⟨its,_,pl,_⟩:=I.list hq
   refine⟨pl.isList.typeIs,λa e=>?_⟩
   cases e
   obtain⟨o,n,e,c,hd,_⟩:=pl
   exact⟨o,e,hd⟩
  ·refine⟨⟨o,I.kIn p o hk,hc⟩,λa e=>?_⟩
   cases e
   exact⟨o,I.kIn _ o hk,hd⟩
  ·have z:∃o,s.heap.get? p=some o/\o.ExactDict:=by
    rcases hk with⟨kvs,hk⟩|⟨kvs,hk⟩
    ·obtain⟨_,_,_,_,o,_,_,e,ex,_⟩:=I.hok p _ hk
     exact⟨o,e,ex⟩
    ·obtain⟨_,_,_,_,o,_,_,e,ex,_⟩:=I.hok p _ hk
     exact⟨o,e,ex⟩
   obtain⟨o,e,ex⟩:=z
   refine⟨⟨o,e,ex.1⟩,λa e2=>?_⟩
   cases e2
   exact⟨o,e,ex.2.1⟩
  ·obtain⟨o,_,_,_,e,ex,_⟩:=I.hok p _ hk
   refine⟨⟨o,e,ex.1⟩,λa e2=>?_⟩
   cases e2
   exact⟨o,e,ex.2.1⟩
 | _=>exact False.elim ty
def RB(K:W.Frag)(T:String)(r:V->List V->Hp->VK->Prop)(to:TE):TE:=λσ H Q=>to σ H λx H1=>tyV K T x H1/\r x [] H1 Q
def tBM(K:W.Frag)(T:String)(r:V->List V->Hp->VK->Prop)(to:TE)(t:TA):TE:=λσ H Q=>to σ H λx H1=>tyV K T x H1/\t σ H1 λxs H2=>r x xs H2 Q
variable{o e:Expr}{es:List Expr}{to:TE}{t:TA}{name:Str}{apos cpos:Pos}{T id:String}{r:V->List V->Hp->VK->Prop}
theorem V4(pa:PlainAttrs T)(slot:Slot T name id)(hty:typeOf (.builtin id)=pure (.type "method_descriptor"))(hm:MtR X id r)(ho:PE X o to)
  (hbase:attributeBase o name X.env (eval o X.env)=eval o X.env:=by rfl) (hline:(apos.endLine == cpos.line)=true:=by rfl):PE X (.Call (.Attribute o name apos) [] [] cpos) (RB X.K T r to):=by
 intro pins s σ H Q I h
 refine wpAny_Call_method0_late hbase hline (thn (ho pins s σ H _ I h) λv s1 ⟨x,H1,I1,r1,ty,q1⟩=>?_)
 obtain⟨h1,h2⟩:=Mz I1 r1 ty
 exact⟨T,id,pa,slot,hty,h1,h2,Calls.callWith_builtin rfl (PySem.evalArgs_none (hm pins s1 σ H1 x [] v [] Q I1 r1 .nil q1))⟩
theorem Br(pa:PlainAttrs T)(slot:Slot T name id)(hty:typeOf (.builtin id)=pure (.type "method_descriptor"))(hm:MtR X id r)(ho:PE X o to)(ha:PA X (e::es) t)
  (hbase:attributeBase o name X.env (eval o X.env)=eval o X.env:=by rfl)
  (hfew:((backTo cpos (starEach (e::es) X.env)).all (λx=>!x.1) && (backToKw cpos (keywordEach [] X.env)).all (λx=>x.1.isSome)
   && decide ((e::es).length+([]:List Keyword).length+(if ([]:List Keyword).isEmpty then 0 else 1)<30))=true:=by rfl)
  (hline:(apos.endLine == cpos.line)=true:=by rfl) (hs:starEach (e::es) X.env=(false,eval e X.env)::starEach es X.env:=by rfl) (hplain:(backTo cpos (starEach es X.env)).any (·.1)=false:=by rfl) :
  PE X (.Call (.Attribute o name apos) (e::es) [] cpos) (tBM X.K T r to t):=by
 intro pins s σ H Q I h
 refine wpAny_Call_method_late hbase hfew hline rfl (thn (ho pins s σ H _ I h) λv s1 ⟨x,H1,I1,r1,ty,q1⟩=>?_)
 obtain⟨h1,h2⟩:=Mz I1 r1 ty
 refine⟨T,id,pa,slot,hty,h1,h2,?_⟩
 have hA:=ha cpos pins s1 σ H1 _ I1 q1
 rw[hs] at hA ⊢
 refine Calls.callWith_builtin (by show (false || (backTo cpos (starEach es X.env)).any (·.1))=false;rw[hplain] <;> rfl) (Calls.evalArgs_plain ?_)
 exact thn hA λus s2 ⟨vs,H2,I2,r2,q2⟩=>hm pins s2 σ H2 x vs v us Q I2 r1 r2 q2
end
def MtM(X:Cx)(id:String)(r:V->List V->Hp->VK->Prop):Prop :=
 ∀(pins:List (Addr×Obj)) (s:Shared) (σ:St) (H:Hp) (x:V) (xs:List V) (v:Value) (us:List Value) (Q:VK),Inv X pins σ H s->RelV x v->Vals xs us->r x xs H Q ->
  wpAny (model X.prog X.w) X.A (call (.builtin id) (v::us)) (EP X pins σ Q) X.xe s
theorem Vals.one:∀{x:V} {us:List Value},Vals [x] us->∃u,us=[u]/\RelV x u
 | _,_,.cons r .nil=>⟨_,rfl,r⟩
theorem Vals.two:∀{x y:V} {us:List Value},Vals [x,y] us->∃u v,us=[u,v]/\RelV x u/\RelV y v
 | _,_,_,.cons r (.cons q .nil)=>⟨_,_,rfl,r,q⟩
theorem Vals.zero:∀{us:List Value},Vals [] us->us=[]
 | _,.nil=>rfl
theorem Vals.eraseIdx:∀{xs:List V} {us:List Value} (i:Nat),Vals xs us->Vals (xs.eraseIdx i) (us.eraseIdx i)
 | _,_,_,.nil=>.nil
 | _,_,0,.cons _ t=>t
 | _,_,i+1,.cons r t=>.cons r (Vals.eraseIdx i t)
theorem Vals.reverse{xs:List V}{us:List Value}(h:Vals xs us):Vals xs.reverse us.reverse:=by
 induction h with
 | nil=>exact .nil
 | cons r t ih=>rw[List.reverse_cons,List.reverse_cons];exact Vals.append ih (.cons r .nil)
theorem Vals.rep{xs:List V}{us:List Value}(h:Vals xs us):∀k:Nat,Vals (List.replicate k xs).flatten (List.replicate k us).flatten
 | 0=>.nil
 | k+1=>by
  rw[List.replicate_succ,List.replicate_succ,List.flatten_cons,List.flatten_cons]
  exact Vals.append h (Vals.rep h k)
theorem xr{α:Type}:∀(l:List α) (i:Nat),(l.eraseIdx i).length<=l.length
 | [],_=>Nat.le_refl _
 | _::_,0=>Nat.le_succ _
 | _::r,i+1=>Nat.succ_le_succ (xr r i)
theorem foldl_rep(its:List Value):∀(k:Nat) (acc:List Value),
  List.foldl (λx1 x2=>x1++x2) acc.toArray (List.replicate k its.toArray)=(acc++(List.replicate k its).flatten).toArray
 | 0,acc=>by simp
 | k+1,acc=>by
  have e:acc.toArray++its.toArray=(acc++its).toArray:=by simp
  have e2:(acc++its)++(List.replicate k its).flatten=acc++(List.replicate (k+1) its).flatten:=by
   rw[List.replicate_succ,List.flatten_cons,List.append_assoc]
  rw[<- e2,<- foldl_rep its k (acc++its),<- e,List.replicate_succ,List.foldl_cons]
section
variable{X:Cx}{pins:List (Addr×Obj)}{σ:St}{H:Hp}{s:Shared}{l b:Addr}{xs ys zs:List V}
theorem Inv.RD{its its':List Value}{n:Nat}{f:Array Value->Array Value}{t':Nat}(I:Inv X pins σ H s)(hH:H l=some (.lst xs))
  (e:s.heap.get? l=some { cls:=.type "list", data:=.seq its.toArray n }) (hf:f its.toArray=its'.toArray) (hv:Vals ys its') (hz:ys.length<=sizeLine) :
  Inv X pins σ (upd H l (.lst ys)) { s with heap:=s.heap.update l (Obj.mapSeq f),toks:=t' }:=by
 have q:=PySem.IsL.update e f
 rw[hf] at q
 refine I.write (x:=l) (e:=l) (by rw[hH];exact trivial) (.inl rfl) (λb' u hb hu=>(Heap.get?_update_other s.heap (Obj.mapSeq f) (Ne.symm hb)).trans hu) ⟨_,q⟩ ?_
 exact⟨hz,its',_,hv,q⟩
theorem Inv.Zn{its:List Value}{t':Nat}(I:Inv X pins σ H s)(hv:Vals ys its)(hz:ys.length<=sizeLine) :
  Inv X pins σ (upd H s.heap.objs.size (.lst ys)) { s with heap:=s.heap.push { cls:=.type "list", data:=.seq its.toArray },toks:=t' } :=
 I.laid (λ_ _ q=>Heap.get?_push_of_some _ q) (Nat.le_refl _) ⟨hz,its,0,hv,Heap.get?_push_size _ rfl⟩
theorem Inv.fresh(I:Inv X pins σ H s):H s.heap.objs.size=none:=I.hok.fresh (Nat.le_refl _)
theorem Inv.zP(I:Inv X pins σ H s)(hH:H l=some (.lst xs)):xs.length<=sizeLine/\∃(its:List Value) (n:Nat),Vals xs its/\xs.length=its.length/\s.heap.get? l=some { cls:=.type "list", data:=.seq its.toArray n }:=by
 obtain⟨z,its,n,r,e⟩:=I.hok l _ hH
 exact⟨z,its,n,r,r.length,e⟩
theorem Bs{n:Nat}(h:n<=sizeLine):Builtin.List.listTooLong n=false:=by
 unfold Builtin.List.listTooLong
 exact decide_eq_false (by lia)
end
section
variable{X:Cx}
def RG:V->List V->Hp->VK->Prop:=λx vs H Q=>∃l xs y,x=.ref l/\vs=[y]/\H l=some (.lst xs)/\xs.length<sizeLine/\Q .non (upd H l (.lst (xs++[y])))
theorem xu:MtM X "list.append" RG:=by
 intro pins s σ H x vs v us Q I rx rv h
 obtain⟨l,xs,y,rfl,rfl,hH,hz,q⟩:=h
 cases rx
 obtain⟨u,rfl,ru⟩:=rv.one
 obtain⟨z,its,n,r,hl,e⟩:=I.zP hH
 refine call_meets F.slot_list_append ⟨_,e,rfl⟩ F.entry_list_append (F.args_list_append_2 _ _) (PySem.list_append l its.toArray n u (by rw[List.size_toArray];lia)) ⟨e,?_⟩
 refine⟨.non,_,I.RD (its':=its++[u]) hH e (by simp) (r.append (.cons ru .nil)) ?_,rfl,q⟩
 rw[List.length_append,List.length_singleton]
 lia
def RJ:V->List V->Hp->VK->Prop:=λx vs H Q=>∃l b xs zs,x=.ref l/\vs=[.ref b]/\H l=some (.lst xs)/\H b=some (.lst zs)/\xs.length+zs.length<=sizeLine/\Q .non (upd H l (.lst (xs++zs)))
theorem Ka:MtM X "list.extend" RJ:=by
 intro pins s σ H x vs v us Q I rx rv h
 obtain⟨l,b,xs,zs,rfl,rfl,hH,hB,hz,q⟩:=h
 cases rx
 obtain⟨u,rfl,ru⟩:=rv.one
 cases ru
 obtain⟨z,its,n,r,hl,e⟩:=I.zP hH
 obtain⟨z2,its2,n2,r2,hl2,e2⟩:=I.zP hB
 have hsz:its.toArray.size+its2.toArray.size<=sizeLine:=by rw[List.size_toArray,List.size_toArray];lia
 have MF:¬ (!its.toArray.isEmpty && Builtin.List.listTooLong (its.toArray.size+its2.toArray.size))=true:=by
  rw[Bs hsz,Bool.and_false]
  exact Bool.false_ne_true
 refine call_meets F.slot_list_extend ⟨_,e,rfl⟩ F.entry_list_extend (F.args_list_extend_2 _ _)
  (AutoSeq1.list_extend_list_list_0 l its.toArray n b its2.toArray n2 MF (by rw[List.size_toArray];lia) (by lia)) ⟨e,e2,?_⟩
 refine⟨.non,_,I.RD (its':=its++its2) hH e (by simp) (r.append r2) ?_,rfl,q⟩
 rw[List.length_append]
 lia
def V5:V->List V->Hp->VK->Prop:=λx vs H Q=>∃l xs i k y,x=.ref l/\vs=[.int i]/\H l=some (.lst xs)/\-(2 ^ 63)<=i/\i<2 ^ 63/\seqIndex? i xs.length=some k/\xs[k]?=some y/\Q y (upd H l (.lst (xs.eraseIdx k)))
theorem MJ:MtM X "list.pop" V5:=by
 intro pins s σ H x vs v us Q I rx rv h
 obtain⟨l,xs,i,k,y,rfl,rfl,hH,h1,h2,hk,hy,q⟩:=h
 cases rx
 obtain⟨u,rfl,ru⟩:=rv.one
 obtain⟨t,rfl⟩:=ru
 obtain⟨z,its,n,r,hl,e⟩:=I.zP hH
 obtain⟨w,hw,rw'⟩:=r.get hy
 refine call_meets F.slot_list_pop ⟨_,e,rfl⟩ F.entry_list_pop (F.args_list_pop_2 _ _)
  (MeetsSeq.list_pop_at l its.toArray n i t k w (fitsIndex_both h1 h2) (by rw[List.size_toArray,<- hl];exact hk) (by rw[<- Array.getElem?_toList];exact hw) (by rw[List.size_toArray];lia)) ⟨e,?_⟩
 refine⟨y,_,I.RD (its':=its.eraseIdx k) hH e ?_ (r.eraseIdx k) ?_,rw',q⟩
 ·show its.toArray.eraseIdxIfInBounds k=(its.eraseIdx k).toArray
  rw[List.eraseIdxIfInBounds_toArray]
 ·have:=xr xs k
  lia
def V6:V->List V->Hp->VK->Prop:=λx vs H Q=>∃l xs,x=.ref l/\vs=[]/\H l=some (.lst xs)/\Q .non (upd H l (.lst []))
theorem MK:MtM X "list.clear" V6:=by
 intro pins s σ H x vs v us Q I rx rv h
 obtain⟨l,xs,rfl,rfl,hH,q⟩:=h
 cases rx
 have hus:=rv.zero
 subst hus
 obtain⟨z,its,n,r,hl,e⟩:=I.zP hH
 refine call_meets F.slot_list_clear ⟨_,e,rfl⟩ F.entry_list_clear (F.args_list_clear_1 _) (AutoSeq1.list_clear_list_0 l its.toArray n (by rw[List.size_toArray];lia)) ⟨e,?_⟩
 exact⟨.non,_,I.RD (its':=[]) (ys:=[]) hH e rfl .nil (Nat.zero_le _),rfl,q⟩
def ado:R2:=λx y H Q=>∃l b xs zs,x=.ref l/\y=.ref b/\H l=some (.lst xs)/\H b=some (.lst zs)/\xs.length+zs.length<=sizeLine/\∀p,H p=none->Q (.ref p) (upd H p (.lst (xs++zs)))
theorem V7:OpR X (binaryOp .Add) ado:=by
 intro pins s σ H x y v u Q I rx ry h
 obtain⟨l,b,xs,zs,rfl,rfl,hH,hB,hz,q⟩:=h
 cases rx
 cases ry
 obtain⟨z,its,n,r,hl,e⟩:=I.zP hH
 obtain⟨z2,its2,n2,r2,hl2,e2⟩:=I.zP hB
 refine PySem.P.add_list e e2 ?_ (by rw[List.size_toArray,List.size_toArray];lia)
 have ea:its.toArray++its2.toArray=(its++its2).toArray:=by simp
 rw[ea]
 exact⟨.ref _,_,I.Zn (t':=s.toks) (r.append r2) (by rw[List.length_append];lia),rfl,q _ I.fresh⟩
def adp:R2:=λx y H Q=>∃l k xs,x=.ref l/\y=.int k/\H l=some (.lst xs)/\-(2 ^ 63)<=k/\k<2 ^ 63/\xs.length*k.toNat<=sizeLine /\
 ∀p,H p=none->Q (.ref p) (upd H p (.lst (List.replicate k.toNat xs).flatten))
theorem len_rep{α:Type}(xs:List α)(k:Nat):(List.replicate k xs).flatten.length=k*xs.length:=by
 induction k with
 | zero=>simp
 | succ k ih=>rw[List.replicate_succ,List.flatten_cons,List.length_append,ih,Nat.succ_mul,Nat.add_comm]
theorem V8:OpR X (binaryOp .Mult) adp:=by
 intro pins s σ H x y v u Q I rx ry h
 obtain⟨l,k,xs,rfl,rfl,hH,h1,h2,hz,q⟩:=h
 cases rx
 obtain⟨t,rfl⟩:=ry
 obtain⟨z,its,n,r,hl,e⟩:=I.zP hH
 have hlen:its.toArray.size*k.toNat<=sizeLine:=by rw[List.size_toArray,<- hl];exact hz
 have hcap:¬ its.toArray.size*k.toNat > (2 ^ 63-1) / 8:=by
  have:(sizeLine:Nat)<=(2 ^ 63-1) / 8:=by decide
  lia
 have hfit:¬ (!Builtin.List.listFitsIndex k)=true:=by
  rw[fitsIndex_both h1 h2]
  exact Bool.false_ne_true
 have MF:¬ Builtin.List.listTooLong (its.toArray.size*k.toNat)=true:=by
  rw[Bs hlen]
  exact Bool.false_ne_true
 have hnew:List.foldl (λx1 x2=>x1++x2) #[] (List.replicate (if its.toArray.isEmpty=true then 0 else k.toNat) its.toArray)=(List.replicate k.toNat its).flatten.toArray:=by
  have f0:∀m:Nat,List.foldl (λx1 x2=>x1++x2) #[] (List.replicate m its.toArray)=(List.replicate m its).flatten.toArray:=λm=>by
   have:=foldl_rep its m []
   rw[List.nil_append] at this
   exact this
  rw[f0]
  cases its with
  | nil=>simp
  | cons a r'=>rw[if_neg (by simp)]
 refine wpAny_binaryOp_repeat_ref (T := "list") (U := "int") (by decide) ⟨_,e,rfl⟩ (λs'=>typeIs_int s' k t) noFill_list_mul F.fills_int_mul F.slot_int_rmul repeat_list F.slot_int_index.lookup
  (call_meets F.slot_int_rmul (typeIs_int s k t) F.entry_int_rmul (F.args_int_rmul_2 _ _) (int___rmul___int_list k t l its.toArray n)
   ⟨e,rfl,⟨_,e,rfl⟩,call_meets F.slot_list_mul ⟨_,e,rfl⟩ F.entry_list_mul (F.args_list_mul_2 _ _) (AutoListH.list___mul___list_int_3 l its.toArray n k t hfit hcap MF) ⟨e,?_⟩⟩)
 rw[hnew]
 exact⟨.ref _,_,I.Zn (t':=s.toks) (r.rep k.toNat) (by rw[len_rep,Nat.mul_comm];exact hz),rfl,q _ I.fresh⟩
end
end L2
namespace Att
open PySem PySem.W PySem.Calls PyProof.Rows
theorem sJ{P:Params}{h:Heap}:∀(ns:List Int) (vs:List Value),WellAll P h vs (ns.map WData.int)->IntsAre vs ns:=by
 intro ns
 induction ns with
 | nil =>
  intro vs w
  rw[List.map_nil] at w
  cases w
  exact .nil
 | cons n ns ih =>
  intro vs w
  rw[List.map_cons] at w
  cases w with
  | cons a b =>
   cases a
   exact .cons _ _ (ih _ b)
theorem Kc{l:OpenLaw}{n:Nat}(hn:l.most=some n){P:Params}{h:Heap}{args:List WData}{vals:List Value}
  (hpre:l.row.toRowW.claim.pre args=true) (hwl:WellAll P h vals args) :
  ∃a vs ns,vals=[Value.ref a]/\args=[WData.list (ns.map WData.int)]/\h.get? a=some { cls:=.type "list", data:=.seq vs.toArray }/\IntsAre vs ns/\ns.length<=n:=by
 have hsh:WShape.hasAll [] args [.list .int]=true:=(pre_splitW hpre).1
 have hc:l.pre.holds [] { args:=args }=true:=(pre_splitW hpre).2
 obtain⟨d,r,rfl,h1,h2⟩:=hasAllW_cons hsh
 obtain rfl:=hasAllW_nil h2
 obtain⟨xs,rfl,h3⟩:=hasW_list h1
 obtain⟨ns,rfl⟩:=items_int h3
 have hlen:ns.length<=n:=by
  unfold OpenLaw.pre at hc
  have h4:(WTm.not (.lt (.lit (.int (n:Int))) (.len (.arg 0)))).holds [] { args:=[.list (ns.map .int)] }=true:=by
   have h4:=(holds_andW hc).1
   rw[hn] at h4
   exact h4
  have h5:=condW_of h4 (w_not (w_lt w_lit (w_len_list (w_arg rfl))))
  rw[List.length_map] at h5
  refine Nat.le_of_not_lt λq=>?_
  have q':(n:Int)<((ns.length:Nat):Int):=by lia
  first
   | (rw[decide_eq_true q'] at h5;exact absurd h5 (by decide))
   | (simp at h5;lia)
 cases hwl with
 | cons w1 w2 =>
  cases w2
  cases w1 with
  | list ho hall=>exact⟨_,_,ns,rfl,rfl,ho,sJ ns _ hall,hlen⟩
theorem Kd(l:OpenLaw)(args:List WData):l.row.toRowW.claim.post args (.bool true) args=true :=
 postW_of (r:=l.row.toRowW) (X:=(true == true))
  (show WShape.has [] (.bool true) .bool=true by first|rfl|decide|simp[WShape.has,WShape.arms,WShape.armsAll])
  (show (WTm.eq .res (.lit (.bool true))).value [] { args:=args,res:=some (.bool true),after:=args }=some (.bool (true == true)) from w_eq_bool (w_res rfl) w_lit) rfl
theorem Bt{l:OpenLaw}{n:Nat}{q:Program}{loose:List Str}{XP:(Str->Option Value)->Heap->Prop}{YP:World->Heap->Prop}{d:DefRec}
  (hn:l.most=some n) (hdf:d.params.defaults=[])
  (call:∀(w:World) (s₀ s₁:Shared) (mg mb:Str->Option Value) (fa:Addr) (o:Obj) (pm cd doc:Value) (a:Addr) (vs:List Value) (ns:List Int),
   Ground q loose [] XP w s₀ mg mb s₁.heap->YP w s₁.heap ->
   s₁.heap.get? fa=some o->o.data=.func (docDef d.name d.params d.body d.scope pm cd doc)->s₁.heap.CodeRec cd d.name->mg d.name=some (.ref fa) ->
   s₁.heap.get? a=some { cls:=.type "list", data:=.seq vs.toArray }->IntsAre vs ns->ns.length<=n->s₁.gens=#[] ->
   codeAny (model l.prog w) callerA (.call (.ref fa) ⟨[.ref a],[]⟩) (λr s'=>r=.ok (.ret (.bool true))/\OldK s₁.heap s'.heap/\s'.os=s₁.os/\AllBare s'.gens) s₁) :
  WalkO q loose XP YP l.row.toRowW d [] (λf vs=>PySem.call f vs):=by
 intro w s₀ s₁ mg mb G Y fa o pm cd doc dV kV ho hd hcd hD hmg hg args vals as hpre hlay hrd hwl hlo
 obtain rfl:dV=.none:=Dflts.none hD hdf
 obtain rfl:kV=.none:=Dflts.noKw hD
 obtain⟨a,vs,ns,rfl,rfl,hobj,hints,hlen⟩:=Kc hn hpre hwl
 refine enter_call (codeAny_mono (call w s₀ s₁ mg mb fa o pm cd doc a vs ns G Y ho (fd_plain hd) hcd hmg hobj hints hlen hg) λr s' hq=>?_)
 obtain⟨rfl,h2,h3,h4⟩:=hq
 exact⟨.inl ⟨.bool true,.bool true,[],rfl,λ_=>rfl,.bool true,Kd l _,λ_=>⟨List.Pairwise.nil,λ_ hm=>(nomatch hm)⟩⟩,h2,h3,h4⟩
end Att
namespace L2
open PySem PySem.Spec PyProof.Rows
theorem xG:∀{vs:List Value} {ns:List Int},IntsAre vs ns->Vals (ns.map V.int) vs
 | _,_,.nil=>.nil
 | _,_,.cons n t h=>.cons ⟨t,rfl⟩ (xG h)
def inClass(s:Stmt)(j:Nat):Stmt:=match s with
 | .ClassDef _ _ _ body _ _ _ _ _ _ _=>body.getD j (.Pass ⟨0,0,0,0⟩)
 | _=>.Pass ⟨0,0,0,0⟩
def fL(s:Stmt):Arguments:=match s with
 | .FunctionDef _ a _ _ _ _ _ _ _ _=>a
 | _=>{ posonlyargs:=[],args:=[],vararg:=none,kwonlyargs:=[],kw_defaults:=[],kwarg:=none,defaults:=[] }
def dM(s:Stmt):List Stmt:=match s with
 | .FunctionDef _ _ b _ _ _ _ _ _ _=>b
 | _=>[]
def aG(s:Stmt):Scope:=match s with
 | .FunctionDef _ _ _ _ _ _ sc _ _ _=>sc
 | _=>{ kind:=.function,names:=[],isGenerator:=false,isCoroutine:=false }
abbrev CX0:CXT:=λ_ _ _ _ _ _=>False
abbrev E0:XK:=λ_ _ _=>False
theorem Hw{X:Cx}:Passes CX0 X E0:=λ_ _ _ _ _ _ _ h=>h.elim
structure Fun(K:W.Frag)(x qual:Str)(st:Stmt)(f:Addr)(fd:FuncData):Prop where
 ex:∃(oc:Value) (od:Option Addr) (kV doc pm:Value) (an:Option Addr) (cdv ct:Value) (osl:Array (Option Value)),
  fd=W.fnOf x qual (fL st) (dM st) (aG st) .none kV doc pm an cdv ct/\K.lookup f=some ⟨oc,od,.func fd,osl⟩/\W.codeIn K cdv qual=true
 kp:W.keepIn K (.ref f)=true
section
variable{P:Program}{w:World}{K:W.Frag}{mg:Str->Option Value}{base:Heap}
theorem Fun.ok{x qual:Str}{st:Stmt}{f:Addr}{fd:FuncData}{N ps:List Str}{k:Nat}{sp:Sp}(F:Fun K x qual st f fd)(S:aW N ps (aG st))(len:∀vs H Q E,sp vs H Q E->vs.length=ps.length)
  (hbody:∀(cdv:Value) (A:Around) (outer:List Env) (s:Shared) (H:Hp) (vs:List V) (Q:VK) (E:XK),Room k (A.deeper (envOfC qual (aG st) s.heap.objs.size f cdv))->sp vs H Q E ->
   ∃t,PSs (sI CX0 P w K mg base N qual (aG st) f cdv A outer s H E).nox (dM st) t/\t { nx:=λ_ H'=>Q .non H',rt:=Q } (start N vs) H):jd P w K mg base CX0 (k+1) f fd ps sp:=by
 obtain⟨oc,od,kV,doc,pm,an,cdv,ct,osl,rfl,lk,hcd⟩:=F.ex
 refine Bq lk hcd S len λA outer s H vs Q E hr hsp=>?_
 obtain⟨t,h,q⟩:=hbody cdv A outer s H vs Q E hr hsp
 exact⟨t,h.nox,q⟩
theorem Fun.binds{x qual:Str}{st:Stmt}{f:Addr}{fd:FuncData}{ps:List Str}(F:Fun K x qual st f fd)
  (h:∀(kV doc pm:Value) (an:Option Addr) (cdv ct:Value) (us:List Value),us.length=ps.length->bindArgs (W.fnOf x qual (fL st) (dM st) (aG st) .none kV doc pm an cdv ct) ⟨us,[]⟩=pure (ps.zip us)):Binds K fd ps []:=by
 obtain⟨oc,od,kV,doc,pm,an,cdv,ct,osl,rfl,lk,hcd⟩:=F.ex
 exact .all (h kV doc pm an cdv ct)
theorem qp{x qual:Str}{st:Stmt}{f:Addr}{oc:Value}{od an:Option Addr}{osl:Array (Option Value)}{kV doc pm cdv ct:Value}(l:K.lookup f=some ⟨oc,od,.func (W.fnOf x qual (fL st) (dM st) (aG st) .none kV doc pm an cdv ct),osl⟩)
  (c:W.codeIn K cdv qual=true) (k:W.keepIn K (.ref f)=true):Fun K x qual st f (W.fnOf x qual (fL st) (dM st) (aG st) .none kV doc pm an cdv ct):=⟨⟨oc,od,kV,doc,pm,an,cdv,ct,osl,rfl,l,c⟩,k⟩
end
section
variable{X:Cx}
theorem pv(i:Nat){x:Str}{pos:Pos}(hN:X.N[i]?=some x:=by rfl)(hv:Vis X.env.scope x:=by first|exact Or.inl rfl|exact Or.inr (Or.inl rfl)|exact Or.inr (Or.inr rfl))(hd:(x == ("__debug__" : Str))=false:=by decide)
  (hcd:(x == ("__classdict__" : Str))=false:=by decide):PE X (.Name x pos) (eO i):=Vu hN hv hd hcd
end
theorem Zo{A B:Prop}(h:B):if false=true then A else B:=by
 rw[if_neg Bool.false_ne_true]
 exact h
theorem Zq{A B:Prop}(h:A):if true=true then A else B:=by
 rw[if_pos rfl]
 exact h
def Same(H H':Hp):Prop:=∀b o,H b=some o->H' b=some o
theorem Same.refl(H:Hp):Same H H:=λ_ _ h=>h
theorem Same.trans{H H1 H2:Hp}(a:Same H H1)(b:Same H1 H2):Same H H2:=λc o h=>b c o (a c o h)
theorem Same.free{H H':Hp}(e:Same H H'){l:Addr}(h:H' l=Option.none):H l=Option.none:=by
 cases q:H l with
 | none=>rfl
 | some o =>
  rw[e l o q] at h
  cases h
theorem Same.seq{K:W.Frag}{H H':Hp}{a:Addr}{xs:List V}(e:Same H H')(h:SqL K H a xs):SqL K H' a xs:=by
 rcases h with(h|⟨o,h⟩)|h
 ·exact .inl (.inl (e _ _ h))
 ·exact .inl (.inr ⟨o,e _ _ h⟩)
 ·exact .inr h
section
variable{κ:Type}[DecidableEq κ]
def uq(kvs:List (κ×V))(k:κ):Option V:=(kvs.find? λkv=>decide (kv.1=k)).map (·.2)
def putK(kvs:List (κ×V))(k:κ)(v:V):List (κ×V) :=
 if (kvs.any λkv=>decide (kv.1=k))=true then kvs.map (λkv=>if kv.1=k then (kv.1,v) else kv) else kvs++[(k,v)]
def UL(kvs:List (κ×V))(k:κ):List (κ×V):=kvs.filter λkv=>decide (kv.1≠k)
theorem Bu{p:κ×V}{r:List (κ×V)}{k:κ}(e:p.1=k):uq (p::r) k=some p.2:=by simp[uq,List.find?_cons,e]
theorem Bv{p:κ×V}{r:List (κ×V)}{k:κ}(e:¬ p.1=k):uq (p::r) k=uq r k:=by simp[uq,List.find?_cons,e]
theorem mR.getD{o:Option V}{u:Option Value}{d:V}{d':Value}(r:mR o u)(rd:RelV d d'):RelV (o.getD d) (u.getD d'):=by
 cases o with
 | none=>cases u with
  | none=>exact rd
  | some _=>exact(show False from r).elim
 | some _=>cases u with
  | none=>exact(show False from r).elim
  | some _=>exact r
theorem KV.val{kvs:List (κ×V)}{vs:List (κ×Value)}(r:KV kvs vs)(k:κ):mR (uq kvs k) (valueAt vs k):=by
 unfold KV at r
 induction r with
 | nil=>exact True.intro
 | @cons p q ps qs h t ih =>
  obtain⟨h1,h2⟩:=h
  by_cases e:p.1=k
  ·have e':q.1=k:=h1.symm.trans e
   have b:valueAt (q::qs) k=some q.2:=by simp[valueAt,List.find?_cons,e']
   rw[Bu e,b];exact h2
  ·have e':¬ q.1=k:=λz=>e (h1.trans z)
   have b:valueAt (q::qs) k=valueAt qs k:=by simp[valueAt,List.find?_cons,e']
   rw[Bv e,b];exact ih
theorem KV.any{kvs:List (κ×V)}{vs:List (κ×Value)}(r:KV kvs vs)(k:κ):(kvs.any λkv=>decide (kv.1=k))=vs.any λkv=>decide (kv.1=k):=by
 unfold KV at r
 induction r with
 | nil=>rfl
 | cons h t ih=>rw[List.any_cons,List.any_cons,ih,h.1]
theorem KV.drop{kvs:List (κ×V)}{vs:List (κ×Value)}(r:KV kvs vs)(k:κ):KV (UL kvs k) (without vs k):=by
 unfold KV at r ⊢
 unfold UL without
 induction r with
 | nil=>exact .nil
 | @cons p q ps qs h t ih =>
  obtain⟨h1,h2⟩:=h
  rw[List.filter_cons,List.filter_cons]
  by_cases e:p.1=k
  ·have a:¬ decide (p.1≠k)=true:=by simp[e]
   have b:¬ decide (q.1≠k)=true:=by simp[h1.symm.trans e]
   rw[if_neg a,if_neg b];exact ih
  ·have e':¬ q.1=k:=λz=>e (h1.trans z)
   have a:decide (p.1≠k)=true:=by simp[e]
   have b:decide (q.1≠k)=true:=by simp[e']
   rw[if_pos a,if_pos b];exact .cons ⟨h1,h2⟩ ih
theorem KV.keys{kvs:List (κ×V)}{vs:List (κ×Value)}(r:KV kvs vs):kvs.map (·.1)=vs.map (·.1):=by
 unfold KV at r
 induction r with
 | nil=>rfl
 | cons h t ih=>rw[List.map_cons,List.map_cons,ih,h.1]
theorem KV.length{kvs:List (κ×V)}{vs:List (κ×Value)}(r:KV kvs vs):kvs.length=vs.length:=Paired.length r
end
abbrev KT(H:Hp):List (List Key×V)->List (List Key×Addr×Value)->Prop:=Paired λp q=>p.1=q.1/\H q.2.1=some (.tup (p.1.map kV))/\RelV p.2 q.2.2
theorem KT.val{H:Hp}{kvs:List (List Key×V)}{xs:List (List Key×Addr×Value)}(r:KT H kvs xs)(k:List Key):mR (uq kvs k) ((atKey xs k).map (·.2)):=by
 induction r with
 | nil=>exact True.intro
 | @cons p q ps qs h t ih =>
  obtain⟨h1,_,h2⟩:=h
  by_cases e:p.1=k
  ·have e':q.1=k:=h1.symm.trans e
   have b:atKey (q::qs) k=some q.2:=by simp[atKey,List.find?_cons,e']
   rw[Bu e,b];exact h2
  ·have e':¬ q.1=k:=λz=>e (h1.trans z)
   have b:atKey (q::qs) k=atKey qs k:=by simp[atKey,List.find?_cons,e']
   rw[Bv e,b];exact ih
section
variable{P:Program}{w:World}{H:Hp}{h:Heap}{a:Addr}
theorem Zr{u:HO}(ok:HOk P w H h)(e:Rd H a u):dg P w H h a u:=e.ok ok
theorem Zt{kvs:List (Key×V)}(ok:HOk P w H h)(e:Rd H a (.dK kvs)):kvs.length<=sizeLine/\(a == sysModules)=false/\∃vs,KV kvs vs/\h.DictOf (sS P w) a vs :=
 show dg P w H h a (.dK kvs) from Zr ok e
theorem UW{kvs:List (Key×V)}(ok:HOk P w H h)(e:H a=some (.dK kvs)):kvs.length<=sizeLine/\(a == sysModules)=false/\∃vs,KV kvs vs/\h.DictOf (sS P w) a vs:=Zt ok (.inl e)
end
def RK(H:Hp)(a:Addr)(y:V)(r:Option V):Prop :=
 (∃kvs k,Rd H a (.dK kvs)/\y=kV k/\r=uq kvs k)\/∃kvs k b,Rd H a (.dT kvs)/\y=.ref b/\H b=some (.tup (k.map kV))/\r=uq kvs k
def RL(H:Hp)(a:Addr)(y v:V)(H':Hp):Prop :=
 (∃kvs k,H a=some (.dK kvs)/\y=kV k/\kvs.length<sizeLine/\H'=upd H a (.dK (putK kvs k v))) \/
 ∃kvs k b,H a=some (.dT kvs)/\y=.ref b/\H b=some (.tup (k.map kV))/\kvs.length<sizeLine/\H'=upd H a (.dT (putK kvs k v))
theorem RK.k{H:Hp}{a:Addr}{kvs:List (Key×V)}{k:Key}(e:H a=some (.dK kvs)):RK H a (kV k) (uq kvs k):=.inl ⟨kvs,k,.inl e,rfl,rfl⟩
theorem RK.t{H:Hp}{a b:Addr}{kvs:List (List Key×V)}{k:List Key}(e:H a=some (.dT kvs))(eb:H b=some (.tup (k.map kV))):RK H a (.ref b) (uq kvs k):=.inr ⟨kvs,k,b,.inl e,rfl,eb,rfl⟩
theorem RL.k{H:Hp}{a:Addr}{kvs:List (Key×V)}{k:Key}{v:V}(e:H a=some (.dK kvs))(hl:kvs.length<sizeLine):RL H a (kV k) v (upd H a (.dK (putK kvs k v))):=.inl ⟨kvs,k,e,rfl,hl,rfl⟩
theorem RL.t{H:Hp}{a b:Addr}{kvs:List (List Key×V)}{k:List Key}{v:V}(e:H a=some (.dT kvs))(eb:H b=some (.tup (k.map kV)))(hl:kvs.length<sizeLine) :
  RL H a (.ref b) v (upd H a (.dT (putK kvs k v))):=.inr ⟨kvs,k,b,e,rfl,eb,hl,rfl⟩
section
variable{X:Cx}{pins:List (Addr×Obj)}{σ:St}{H:Hp}{s:Shared}{a:Addr}{y v:V}{u r:Value}{o:Option V}{A:Around}{E:Value->Shared->Prop}
theorem Inv.big(I:Inv X pins σ H s):sysModules<s.heap.objs.size:=by
 have h:mainGlobals<s.heap.objs.size:=(I.mod.glob.keeps I.bk).lt
 exact Nat.lt_trans (by decide) h
end
theorem MN{P:Program}{w:World}{H:Hp}(h:Heap)(hb:sysModules<h.objs.size):dg P w H (h.push { cls:=.type "dict", data:=.dict #[] }) h.objs.size (.dK []) :=
 ⟨Nat.zero_le _,beq_eq_false_iff_ne.mpr (Ne.symm (Nat.ne_of_lt hb)),[],.nil,Heap.DictOf.new h⟩
def FT:TE:=λ_ H Q=>∀p,H p=none->Q (.ref p) (upd H p (.dK []))
section
variable{X:Cx}{pos:Pos}
theorem MP:PE X (.Dict [] [] pos) FT:=λpins s σ H Q I h =>
 wpAny_Dict_empty ⟨.ref s.heap.objs.size,_,I.laid (a:=s.heap.objs.size) (o:=.dK []) (t':=s.toks) (λ_ _ q=>Heap.get?_push_of_some _ q) (Nat.le_refl _) (MN s.heap I.big),rfl,h _ (I.hok.fresh (Nat.le_refl _))⟩
end
end L2
set_option maxHeartbeats 4000000
namespace L2
open PySem PySem.Spec PyProof.Rows
section
variable{P:Program}{w:World}{K:W.Frag}{mg:Str->Option Value}{base:Heap}{CX:CXT}{x:Str}{ps:List Str}{sp:Sp}{j k:Nat}
structure Def(P:Program)(w:World)(K:W.Frag)(mg:Str->Option Value)(base:Heap)(CX:CXT)(k:Nat)(x:Str)(ps:List Str)(sp:Sp):Prop where
 ex:∃(f:Addr) (fd:FuncData),jd P w K mg base CX k f fd ps sp/\mg x=some (.ref f)/\W.keepIn K (.ref f)=true/\Binds K fd ps []
def HasDef(K:W.Frag)(mg:Str->Option Value)(x:Str)(st:Stmt):Prop:=∃(f:Addr) (fd:FuncData),Fun K x x st f fd/\mg x=some (.ref f)
theorem HasDef.mk{st:Stmt}{f:Addr}{oc:Value}{od an:Option Addr}{osl:Array (Option Value)}{kV doc pm cdv ct:Value}(m:mg x=some (.ref f))
  (l:K.lookup f=some ⟨oc,od,.func (W.fnOf x x (fL st) (dM st) (aG st) .none kV doc pm an cdv ct),osl⟩)
  (c:W.codeIn K cdv x=true) (k:W.keepIn K (.ref f)=true):HasDef K mg x st:=⟨f,_,qp l c k,m⟩
theorem bQ{st:Stmt}{N:List Str}(h:HasDef K mg x st)(S:aW N ps (aG st))(len:∀vs H Q E,sp vs H Q E->vs.length=ps.length)
  (hb:∀(kV doc pm:Value) (an:Option Addr) (cdv ct:Value) (us:List Value),us.length=ps.length->bindArgs (W.fnOf x x (fL st) (dM st) (aG st) .none kV doc pm an cdv ct) ⟨us,[]⟩=pure (ps.zip us))
  (hbody:∀(f:Addr) (cdv:Value) (A:Around) (outer:List Env) (s:Shared) (H:Hp) (vs:List V) (Q:VK) (E:XK),Room k (A.deeper (envOfC x (aG st) s.heap.objs.size f cdv))->sp vs H Q E ->
   ∃t,PSs (sI CX P w K mg base N x (aG st) f cdv A outer s H E).nox (dM st) t/\t { nx:=λ_ H'=>Q .non H',rt:=Q } (start N vs) H):Def P w K mg base CX (k+1) x ps sp:=by
 obtain⟨f,fd,F,m⟩:=h
 refine⟨f,fd,?_,m,F.kp,F.binds hb⟩
 obtain⟨oc,od,kV,doc,pm,an,cdv,ct,osl,rfl,lk,hcd⟩:=F.ex
 refine Bq lk hcd S len λA outer s H vs Q E hr hsp=>?_
 obtain⟨t,h,q⟩:=hbody f cdv A outer s H vs Q E hr hsp
 exact⟨t,h.nox,q⟩
end
section
variable{X:Cx}{CX:CXT}{k m:Nat}{x:Str}{ps:List Str}{sp:Sp}{E:XK}{p pos:Pos}{e:Expr}{es:List Expr}{t:TA}
theorem aJ(D:Def X.prog X.w X.K X.mg X.base CX k x ps sp)(hr:Room m X.A)(ha:PA X (e::es) t)(hk:k<=m:=by decide)(hx:Passes CX X E:=by exact Hw)(hg:Gl X x:=by rfl)
  (hdb:(x == ("__debug__" : Str))=false:=by decide) (he:starEach (e::es) X.env=(false,eval e X.env)::starEach es X.env:=by rfl) (hpl:(backTo pos (starEach es X.env)).any (·.1)=false:=by rfl) :
  PE X (.Call (.Name x p) (e::es) [] pos) (Hq sp [] E t):=by
 obtain⟨f,fd,F,hm,kp,b⟩:=D.ex
 exact Rt F (hr.mono hk) hg hm kp b .nil hx ha hdb he hpl
end
def mX(mg:Str->Option Value)(x:Str)(v:V):Prop:=∃u,mg x=some u/\RelV v u
theorem nZ{X:Cx}{x:Str}{v:V}{pos:Pos}(h:mX X.mg x v)(hg:Gl X x:=by rfl)(hd:(x == ("__debug__" : Str))=false:=by decide):PE X (.Name x pos) (tC v) :=
 let ⟨_,e,r⟩:=h
 Rm hg e r hd
section
variable{X:Cx}{T:String}{pos:Pos}
theorem fC{x:Str}(hg:Gl X x)(hm:X.mg x=none)(hv:bootBuiltins x=some (.type T))(hn:x ≠ "__name__":=by decide)(hd:(x == ("__debug__" : Str))=false:=by decide):PE X (.Name x pos) (tC (.ty T)) :=
 Rn hg hm hv rfl hn hd
def rN(K:W.Frag)(t:Value):V->Option Bool
 | .ty T=>W.kitOne K t (.type T)
 | .ref C=>W.kitOne K t (.ref C)
 | _=>none
theorem call_isinstance:eH X (.builtin "isinstance") (λxs H Q=>∃x c t b,xs=[x,c]/\dR X.K H x t/\rN X.K t c=some b/\Q (.bl b) H):=by
 intro pins s σ H xs us Q I r h
 obtain⟨x,c,t,b,rfl,ty,e,q⟩:=h
 obtain⟨u,v,rfl,ru,rv⟩:=vals2 r
 cases c with
 | ty T =>
  obtain rfl:v=Value.type T:=rv
  exact wX I ru ty e λtk=>⟨.bl b,H,I.tok _,rfl,q⟩
 | ref C =>
  obtain rfl:v=Value.ref C:=rv
  exact wX I ru ty e λtk=>⟨.bl b,H,I.tok _,rfl,q⟩
 | _=>cases e
end
section
variable{X:Cx}
theorem mY:∀{bs:List Bool} {us:List Value},Vals (bs.map V.bl) us->LSm.BoolsAre us bs
 | [],_,.nil=>.nil
 | b::bs,_,.cons r t=>by
  cases (show _=Value.bool b from r)
  exact .cons b (mY t)
theorem n6(hc:X.calm=true):eH X (.builtin "all") (λxs H Q=>∃(p:Addr) (bs:List Bool),xs=[.ref p]/\SqL X.K H p (bs.map V.bl)/\Q (.bl (bs.all id)) H):=by
 intro pins s σ H xs us Q I r h
 obtain⟨p,bs,rfl,hq,q⟩:=h
 obtain⟨u,rfl,rx⟩:=vals1 r
 cases rx
 obtain⟨its,rv,pl,hz⟩:=I.list hq
 have hb:=mY rv
 have hl:=pl.isList
 have hlt:p<s.heap.objs.size:=by obtain⟨_,e,_⟩:=hl;exact Heap.lt_size e
 refine call_all_walk (wpAny_pyIter_list hl ?_)
 refine⟨s.heap.objs.size,[s.heap.objs.size,p],[s.heap.objs.size],its.toArray.size,_,_,λi=>(bs[i]?).getD true,rfl,Walks.list (A:=X.A.in1) (I.ok.hd hc) _ p (Nat.ne_of_lt hlt) its.toArray,
  ⟨⟨_,Heap.get?_push_size _ rfl,rfl,rfl⟩,hl.push _⟩,λi v s' Q' E' hP hQ=>?_,λh' tk hk=>?_⟩
 ·obtain⟨b,e,rfl⟩:=hb.get i v (by simpa using hP)
  simp only[e,Option.getD_some] at hQ
  exact wpAny_truthy_bool hQ
 ·have e:((List.range its.toArray.size).all λi=>(bs[i]?).getD true)=bs.all id:=by
   rw[List.size_toArray,hb.length];exact LSm.range_all bs
  rw[e]
  exact⟨.bl _,H,I.kept (LSm.kept_iter hk),rfl,q⟩
theorem ur(hc:X.calm=true):eH X (.builtin "any") (λxs H Q=>∃(p:Addr) (bs:List Bool),xs=[.ref p]/\SqL X.K H p (bs.map V.bl)/\Q (.bl (bs.any id)) H):=by
 intro pins s σ H xs us Q I r h
 obtain⟨p,bs,rfl,hq,q⟩:=h
 obtain⟨u,rfl,rx⟩:=vals1 r
 cases rx
 obtain⟨its,rv,pl,hz⟩:=I.list hq
 have hb:=mY rv
 have hl:=pl.isList
 have hlt:p<s.heap.objs.size:=by obtain⟨_,e,_⟩:=hl;exact Heap.lt_size e
 refine call_any_walk (wpAny_pyIter_list hl ?_)
 refine⟨s.heap.objs.size,[s.heap.objs.size,p],[s.heap.objs.size],its.toArray.size,_,_,λi=>(bs[i]?).getD false,rfl,Walks.list (A:=X.A.in1) (I.ok.hd hc) _ p (Nat.ne_of_lt hlt) its.toArray,
  ⟨⟨_,Heap.get?_push_size _ rfl,rfl,rfl⟩,hl.push _⟩,λi v s' Q' E' hP hQ=>?_,λh' tk hk=>?_⟩
 ·obtain⟨b,e,rfl⟩:=hb.get i v (by simpa using hP)
  simp only[e,Option.getD_some] at hQ
  exact wpAny_truthy_bool hQ
 ·have e:((List.range its.toArray.size).any λi=>(bs[i]?).getD false)=bs.any id:=by
   rw[List.size_toArray,hb.length];exact LSm.range_any bs
  rw[e]
  exact⟨.bl _,H,I.kept (LSm.kept_iter hk),rfl,q⟩
end
section
variable{X:Cx}
theorem FW:OpR X (compareOp .In) (λx y H Q=>∃c j,x=.str ⟨#[c]⟩/\y=.str j/\Q (.bl (decide (c∈j.cps.toList))) H):=by
 intro pins s σ H x y v u Q I rx ry h
 obtain⟨c,j,rfl,rfl,q⟩:=h
 obtain⟨t,rfl⟩:=rx
 obtain⟨t',rfl⟩:=ry
 exact in_str (cH I q (PySem.StrLaws.found_one j c).symm)
def Its(z:Str):It:=⟨λi _=>i<z.cps.size,λi H x H'=>H'=H/\∃c,z.cps[i]?=some c/\x=.str ⟨#[c]⟩,λi _=>z.cps.size<=i⟩
section
variable{P:Program}{w:World}{K:W.Frag}{tg:Expr}
theorem Ke(it:Addr)(z:Str)(t:Tok):Turn P w K tg (Its z) [it] it (λi h=>h.IsStrIter it "str_ascii_iterator" z t i) where
 mem:=by simp
 obj:=λi h st b hb=>by
  have e:b=it:=by simpa using hb
  subst e
  obtain⟨o,e,c,d⟩:=st
  exact⟨o,e,λv z=>by rw[d] at z;cases z⟩
 keep:=λi h h' st k=>let ⟨o,e,r⟩:=st;⟨o,k it (by simp) o e,r⟩
 item:=by
  intro X hP hw hK hc i pins s σ H E I hf st hg
  subst hP hw hK
  obtain⟨f0,f1,f2,f3,f4,f5⟩:=hf it (by simp)
  have hi:i<z.cps.size:=hg
  refine wpAny_pyNext_ascii_item st (c:=z.cps[i]) (by simp[hi]) λh' st' sb=>?_
  have I1:Inv X pins σ H { s with heap:=h',toks:=s.toks+1 }:=I.turned (λb o hb e=>sb.extBut b o hb e) f0 f1 f3 f4 f5
  obtain⟨o,e,c,d⟩:=id st'
  exact⟨_,rfl,wU (s:={ s with heap:=h',toks:=s.toks+1 }) e c d (by decide) ⟨.str ⟨#[z.cps[i]]⟩,H,I1,⟨_,rfl⟩,⟨rfl,z.cps[i],by simp[hi],rfl⟩,st',λb hb=>(hf b hb).1⟩⟩
 done:=by
  intro X hP hw hK hc i pins s σ H E I hf st hg
  subst hP hw hK
  obtain⟨f0,f1,f2,f3,f4,f5⟩:=hf it (by simp)
  have hi:z.cps.size<=i:=hg
  exact wpAny_pyNext_ascii_end (I.ok.hd hc) st (by simp[hi]) λh' eb=>⟨rfl,I.turned (t':=s.toks) (λb o hb e=>eb b o hb e) f0 f1 f3 f4 f5⟩
 self:=λ_ _ _ _ _ st h=>wpAny_pyIter_striter_ascii st h
theorem Kf(it:Addr)(z:Str)(t:Tok):Turn P w K tg (Its z) [it] it (λi h=>h.IsStrIter it "str_iterator" z t i) where
 mem:=by simp
 obj:=λi h st b hb=>by
  have e:b=it:=by simpa using hb
  subst e
  obtain⟨o,e,c,d⟩:=st
  exact⟨o,e,λv z=>by rw[d] at z;cases z⟩
 keep:=λi h h' st k=>let ⟨o,e,r⟩:=st;⟨o,k it (by simp) o e,r⟩
 item:=by
  intro X hP hw hK hc i pins s σ H E I hf st hg
  subst hP hw hK
  obtain⟨f0,f1,f2,f3,f4,f5⟩:=hf it (by simp)
  have hi:i<z.cps.size:=hg
  refine wpAny_pyNext_wide_item st (c:=z.cps[i]) (by simp[hi]) λh' st' sb=>?_
  have I1:Inv X pins σ H { s with heap:=h',toks:=s.toks+1 }:=I.turned (λb o hb e=>sb.extBut b o hb e) f0 f1 f3 f4 f5
  obtain⟨o,e,c,d⟩:=id st'
  exact⟨_,rfl,wU (s:={ s with heap:=h',toks:=s.toks+1 }) e c d (by decide) ⟨.str ⟨#[z.cps[i]]⟩,H,I1,⟨_,rfl⟩,⟨rfl,z.cps[i],by simp[hi],rfl⟩,st',λb hb=>(hf b hb).1⟩⟩
 done:=by
  intro X hP hw hK hc i pins s σ H E I hf st hg
  subst hP hw hK
  obtain⟨f0,f1,f2,f3,f4,f5⟩:=hf it (by simp)
  have hi:z.cps.size<=i:=hg
  exact wpAny_pyNext_wide_end (I.ok.hd hc) st (by simp[hi]) λh' eb=>⟨rfl,I.turned (t':=s.toks) (λb o hb e=>eb b o hb e) f0 f1 f3 f4 f5⟩
 self:=λ_ _ _ _ _ st h=>wpAny_pyIter_striter_wide st h
end
def Zu(tl:TE):TI:=λσ H R=>tl σ H λx H1=>∃z,x=.str z/\R (Its z) H1
theorem V9{tg l:Expr}{tl:TE}(hl:PE X l tl):PI X tg l (Zu tl):=by
 intro pins s σ H R I h
 refine thn (hl pins s σ H _ I h) λv s1 ⟨x,H1,I1,r1,q1⟩=>?_
 obtain⟨z,e,q⟩:=q1
 subst e
 obtain⟨t,rfl⟩:=r1
 have fp:∀(b:Addr),b∈[s1.heap.objs.size]->jk X pins H1 b:=λb hb=>by
  have e:b=s1.heap.objs.size:=by simpa using hb
  subst e
  exact I1.Bh (Nat.le_refl _) (I1.hok.fresh (Nat.le_refl _))
 cases ha:z.cps.all (· < 128)
 ·exact wpAny_pyIter_wide ha ⟨s1.heap.objs.size,[s1.heap.objs.size],_,_,H1,rfl,I1.kept (t':=s1.toks) λb o e=>Heap.get?_push_of_some _ e,Kf _ z t,⟨_,Heap.get?_push_size _ rfl,rfl,rfl⟩,fp,q⟩
 ·exact wpAny_pyIter_ascii ha ⟨s1.heap.objs.size,[s1.heap.objs.size],_,_,H1,rfl,I1.kept (t':=s1.toks) λb o e=>Heap.get?_push_of_some _ e,Ke _ z t,⟨_,Heap.get?_push_size _ rfl,rfl,rfl⟩,fp,q⟩
end
def eN(env:Env):List (Str×NameKind)->Option (List (Str×Addr))
 | []=>some []
 | (n,k)::r=>if k=.free then (env.cells.lookup n).bind λc=>(eN env r).map λcl=>cl++[(n,c)] else eN env r
theorem je{env:Env}:∀{names:List (Str×NameKind)} {cl:List (Str×Addr)},eN env names=some cl->∀x c,cl.lookup x=some c->env.cells.lookup x=some c
 | [],cl,h,x,c,e=>by
  cases (Option.some.inj h)
  cases e
 | (n,k)::r,cl,h,x,c,e=>by
  unfold eN at h
  by_cases hk:k=.free
  ·rw[if_pos hk] at h
   cases hc:env.cells.lookup n with
   | none=>rw[hc] at h;cases h
   | some c' =>
    rw[hc] at h
    have h:(eN env r).map (λcl=>cl++[(n,c')])=some cl:=h
    cases hr:eN env r with
    | none=>rw[hr] at h;cases h
    | some cl' =>
     rw[hr] at h
     have h:cl'++[(n,c')]=cl:=Option.some.inj h
     subst h
     rw[List.lookup_append] at e
     cases h2:cl'.lookup x with
     | some c2 =>
      rw[h2] at e
      have e:c2=c:=by simpa using e
      subst e
      exact je hr x c2 h2
     | none =>
      rw[h2] at e
      have e:List.lookup x [(n,c')]=some c:=by simpa using e
      by_cases hx:x=n
      ·subst hx
       have:c'=c:=by simpa using e
       subst this
       exact hc
      ·have hb:(x == n)=false:=by simpa using hx
       simp[List.lookup_cons,hb] at e
  ·rw[if_neg hk] at h
   exact je h x c e
theorem jf{env:Env}:∀(names:List (Str×NameKind)) (acc cl:List (Str×Addr)),eN env names=some cl ->
  (forIn (m:=Sem) names acc λx c=>if x.2 == NameKind.free then (do let a <- cellOf env x.1;pure (ForInStep.yield ((x.1,a)::c))) else pure (ForInStep.yield c))=pure (cl++acc)
 | [],acc,cl,h=>by
  cases (Option.some.inj h)
  rfl
 | (n,k)::r,acc,cl,h=>by
  unfold eN at h
  rw[List.forIn_cons]
  by_cases hk:k=.free
  ·rw[if_pos hk] at h
   cases hc:env.cells.lookup n with
   | none=>rw[hc] at h;cases h
   | some c' =>
    rw[hc] at h
    have h:(eN env r).map (λcl=>cl++[(n,c')])=some cl:=h
    cases hr:eN env r with
    | none=>rw[hr] at h;cases h
    | some cl' =>
     rw[hr] at h
     have h:cl'++[(n,c')]=cl:=Option.some.inj h
     subst h
     have hb:(k == NameKind.free)=true:=by simpa using hk
     have:=jf r ((n,c')::acc) cl' hr
     have ec:cellOf env n=pure c':=by unfold cellOf;rw[hc]
     simp only[hb,if_true,ec,pure_bind,bind_assoc]
     rw[this]
     simp
  ·rw[if_neg hk] at h
   have hb:(k == NameKind.free)=false:=by simpa using hk
   have:=jf r acc cl h
   simp only[hb,Bool.false_eq_true,if_false,pure_bind]
   exact this
theorem mH{env:Env}{scope:Scope}{cl:List (Str×Addr)}(h:eN env scope.names=some cl):closureFor scope env=pure cl:=by
 have:=jf scope.names [] cl h
 rw[List.append_nil] at this
 have key:closureFor scope env=(forIn (m:=Sem) scope.names ([]:List (Str×Addr)) λx c=>if x.2 == NameKind.free then (do let a <- cellOf env x.1;pure (ForInStep.yield ((x.1,a)::c))) else pure (ForInStep.yield c)) >>= λcs=>pure cs:=by
  unfold closureFor
  rfl
 rw[key,this]
 rfl
theorem Kg{prog:Program}{w:World}{A:Around}{R:Result->Shared->Prop}{s:Shared}{elt target iter:Expr}{ifs:List Expr}{scope:Scope}{pos:Pos}{it acc:Value}{env:Env}(I:Nat->Shared->Prop)
  (turn:∀n s,I n s->wpAny (model prog w) A (pyNext it) (λr s₁=>match r with
   | none=>R (.ok .next) s₁
   | some v=>wpAny (model prog w) A (letOwnedTupleGo target it v) (λ_ s₀=>wpAny (model prog w) A (assign target env v) (λ_ s₂ =>
     wpAny (model prog w) A (forIn ifs true λc r=>if r=true then do let ok <- isTrue c env (eval c env);pure (ForInStep.yield ok) else pure (ForInStep.yield r)) (λok s₃ =>
      if ok=true then wpAny (model prog w) A (eval elt env) (λx s₄ =>
       wpAny (model prog w) A (call (.builtin "list.append") [acc,x]) (λ_ s₅=>∃m,m<n/\I m s₅) (λ_ _=>False) s₄) (λ_ _=>False) s₃
      else ∃m,m<n/\I m s₃) (λ_ _=>False) s₂) (λ_ _=>False) s₀) (λ_ _=>False) s₁) (λ_ _=>False) s)
  (n:Nat) (h:I n s) :
  codeAny (model prog w) A (.compLoop (.ListComp elt [⟨target,iter,ifs,0⟩] scope pos) 0 it acc env) R s:=by
 refine codeAny_loop rfl I (λn s hI=>?_) n h
 show wpAny _ A ((compTurn (.ListComp elt [⟨target,iter,ifs,0⟩] scope pos) 0 it acc env).onRaise (λx=>do noteFrame x env;theTreesLotGoes x)) _ _ s
 refine wpAny_noted ?_
 rw[compTurn_list]
 refine wpAny_bind (wpAny_standAt (wpAny_bind (wpAny_mono (turn n s hI) (λr s₁ h₁=>?_) λ_ _ h'=>h'.elim)))
 cases r with
 | none=>exact wpAny_pure h₁
 | some v =>
  refine wpAny_bind (wpAny_mono h₁ (λ_ s₀ h₀=>?_) λ_ _ h'=>h'.elim)
  refine wpAny_bind (wpAny_mono h₀ (λ_ s₂ h₂=>wpAny_bind (wpAny_mono h₂ (λok s₃ h₃=>?_) λ_ _ h'=>h'.elim)) λ_ _ h'=>h'.elim)
  cases ok with
  | false=>exact wpAny_pure ⟨rfl,h₃⟩
  | true =>
   exact wpAny_bind (wpAny_bind (wpAny_mono h₃ (λx s₄ h₄=>wpAny_bind (wpAny_mono h₄ (λ_ s₅ h₅=>wpAny_pure (wpAny_pure ⟨rfl,h₅⟩)) λ_ _ h'=>h'.elim)) λ_ _ h'=>h'.elim))
def dY(X:Cx)(N:List Str)(scope:Scope)(cl:List (Str×Addr))(pins:List (Addr×Obj))(s:Shared)(H:Hp)(fp:List Addr):Cx where
 prog:=X.prog
 w:=X.w
 K:=X.K
 mg:=X.mg
 base:=X.base
 A:=X.A
 N:=N
 s₀:=s
 H₀:=H
 env:=compEnvC scope cl s.heap.objs.size X.env
 outer:=X.stack
 stack:=X.stack
 ex:=fp
 fn:=λ_=>false
 calm:=X.calm
 pn:=X.pn++pins
 xe:=λ_ _=>False
def fP(nt:Nat)(fr:List Nat)(σ:St):St:=List.replicate nt none++fr.map λi=>(σ[i]?).getD none
structure fU(X:Cx)(N:List Str)(nt:Nat)(fr:List Nat)(scope:Scope)(cl:List (Str×Addr)):Prop where
 len:N.length=nt+fr.length
 free:∀(j:Nat) (i:Nat) (x:Str),fr[j]?=some i->N[nt+j]?=some x->X.N[i]?=some x/\(∃c,cl.lookup x=some c)/\(X.env.kindOf x=some .cell\/X.env.kindOf x=some .free) /\
  ((relabel scope X.env).names.lookup x=some .cell\/(relabel scope X.env).names.lookup x=some .free)
 cells:∀x c,cl.lookup x=some c->X.env.cells.lookup x=some c
 has:∀x,((relabel scope X.env).names.lookup x=some .cell\/(relabel scope X.env).names.lookup x=some .free)->∃c,cl.lookup x=some c
 kind:scope.kind=.function
theorem Bw{X:Cx}{x:Str}(h:X.env.kindOf x=some .cell\/X.env.kindOf x=some .free):Vis X.env.scope x:=by
 rcases h with h|h
 ·exact .inr (.inl h)
 ·exact .inr (.inr h)
section
variable{X:Cx}{N:List Str}{nt:Nat}{fr:List Nat}{scope:Scope}{cl:List (Str×Addr)}{pins:List (Addr×Obj)}{σ:St}{H:Hp}{s:Shared}{fp:List Addr}
theorem RM(I:Inv X pins σ H s)(cn:fU X N nt fr scope cl)(hf:∀b∈fp,jk X pins H b)(ho:∀b∈fp,b<s.heap.objs.size):(dY X N scope cl pins s H fp).Ok where
 mod:=I.mod
 kind:=cn.kind
 glob:=I.ok.glob
 blt:=I.ok.blt
 above:=Nat.le_refl _
 inj:=λx y c h1 h2=>I.ok.inj x y c (cn.cells x c h1) (cn.cells y c h2)
 has:=λx hx=>cn.has x hx
 cab:=λx c h _=>by cases (show false=true from h)
 hd:=I.ok.hd
 frames:=I.ok.frames
 stk:=.inl rfl
 exf:=λb hb=>⟨Nat.ne_of_lt (ho b hb),λx c e=>(hf b hb).2.2.2.2.1 x c (cn.cells x c e)⟩
 bs:=I.bs
 bsz:=Nat.le_trans I.ok.bsz I.sz
 JW:=λb o e hb=>by
  rcases(hf b hb).2.2.2.1 with z|z
  ·exact I.ok.JW b o e z
  ·exact absurd (Nat.lt_of_lt_of_le (Heap.lt_size e) (Nat.le_trans I.ok.bsz z)) (Nat.lt_irrefl _)
 Ls:=λb hb z=>(List.mem_cons.mp (I.tU b z)).elim (λe=>(hf b hb).2.1 e) λe=>(hf b hb).2.2.1 e
 p8:=I.stack
 frf:=I.G_
theorem M4{h4:Heap}{t':Nat}(I:Inv X pins σ H s)(cn:fU X N nt fr scope cl)(hf:∀b∈fp,jk X pins H b)(ho:∀b∈fp,b<s.heap.objs.size)
  (k:∀b o,s.heap.get? b=some o->h4.get? b=some o) (hns:∃m,h4.Ns s.heap.objs.size m):Inv (dY X N scope cl pins s H fp) [] (fP nt fr σ) H { s with heap:=h4,toks:=t' }:=by
 have ck:∀{c:Addr} {v:Option Value},s.heap.IsCell c v->h4.IsCell c v:=λ⟨o,e,d⟩=>⟨o,k _ o e,d⟩
 refine⟨RM I cn hf ho,rfl,I.bare,Un.kept k,?_,λx c e=>?_,?_,λx c e=>?_,λp hp=>?_,I.hok.kept k,?_⟩
 ·obtain⟨m,hm⟩:=hns
  refine⟨m,hm,λi x v e1 e2 _=>?_⟩
  have e2:(fP nt fr σ)[i]?=some (some v):=e2
  have e1:N[i]?=some x:=e1
  unfold fP at e2
  by_cases hi:i<nt
  ·rw[List.getElem?_append_left (by simpa using hi),List.getElem?_replicate,if_pos hi] at e2
   cases e2
  ·obtain⟨j,rfl⟩:∃j,i=nt+j:=⟨i-nt,by lia⟩
   rw[List.getElem?_append_right (by simp),List.length_replicate,Nat.add_sub_cancel_left,List.getElem?_map] at e2
   cases hj:fr[j]? with
   | none=>rw[hj] at e2;cases e2
   | some i' =>
    rw[hj] at e2
    have e2:(σ[i']?).getD none=some v:=Option.some.inj e2
    have e3:σ[i']?=some (some v):=by
     cases q:σ[i']? with
     | none=>rw[q] at e2;cases e2
     | some o=>rw[q] at e2;rw[show o=some v from e2]
    obtain⟨hN,⟨c,hc⟩,hk,hk'⟩:=cn.free j i' x hj e1
    obtain⟨m0,_,hl⟩:=I.loc
    obtain⟨u,r,l⟩:=hl i' x v hN e3 (Bw hk)
    refine⟨u,r,.inr ⟨hk',c,hc,?_⟩⟩
    rcases l with⟨hl',_⟩|⟨_,c',hc',hcell⟩
    ·rcases hk with z|z <;> (rw[hl'] at z;cases z)
    ·have hcc:=cn.cells x c hc
     rw[hc'] at hcc;cases hcc
     exact ck hcell
 ·obtain⟨v,hv⟩:=I.cell x c (cn.cells x c e)
  exact⟨v,ck hv⟩
 ·exact I.hok.fresh (Nat.le_refl _)
 ·exact I.mF x c (cn.cells x c e)
 ·have hp:p∈(X.pn++pins)++[]:=hp
  rw[List.append_nil] at hp
  obtain⟨e,n,ne,nf,d⟩:=I.pin p hp
  exact⟨k p.1 p.2 e,n,Nat.ne_of_lt (Heap.lt_size e),λz=>(List.mem_cons.mp (I.tU p.1 z)).elim ne nf,d⟩
 ·show (fP nt fr σ).length=N.length
  unfold fP
  rw[cn.len,List.length_append,List.length_replicate,List.length_map]
theorem comp_back{H':Hp}{s1 s':Shared}{h':Heap}{σ':St}(I:Inv X pins σ H s)(hsz:s.heap.objs.size<=s1.heap.objs.size)(hos:s1.os=s.os){H1:Hp}(hH:Un (frs X.stack) fp H H1 s.heap s1.heap)
  (hf:∀b∈fp,jk X pins H b)
  (J:Inv (dY X N scope cl pins s1 H1 fp) [] σ' H' s') (sb:Heap.SameBut s1.heap.objs.size s'.heap h'):Inv X pins σ H' { s' with heap:=h' }:=by
 have u:Un (frs X.stack) fp H H' s.heap s'.heap:=hH.trans J.base
 have lt:∀b o,s.heap.get? b=some o->b≠s1.heap.objs.size:=λb o e=>Nat.ne_of_lt (Nat.lt_of_lt_of_le (Heap.lt_size e) hsz)
 have kk:∀b o,b≠s1.heap.objs.size->s'.heap.get? b=some o->h'.get? b=some o:=λb o hb e=>sb.extBut b o hb e
 have u':Un (frs X.stack) fp H H' s.heap h':=⟨λb o e n hb hx=>kk b o (lt b o e) (u.keep b o e n hb hx),λb o e n hb hx=>let ⟨sl,z⟩:=u.slot b o e n hb hx;⟨sl,kk b _ (lt b o e) z⟩,u.free,
  λb o e hx=>let ⟨o',z⟩:=u.there b o e hx;⟨o',kk b o' (lt b o e) z⟩,u.tups,u.pY,u.pZ⟩
 have nC:H' s1.heap.objs.size=none:=J.free
 refine I.call' (s':={ s' with heap:=h' }) (ch:=fp) (J.os.trans hos) u' (λa o e=>?_) J.bare λb hb=>⟨(hf b hb).2.2.2.1,(hf b hb).2.1,(hf b hb).2.2.2.2.1,(hf b hb).2.2.2.2.2⟩
 refine(J.hok a o e).stay (λb v hb q=>kk b v ?_ q) (λ_ q=>q) λ_ _ q=>q
 rcases hb with z|z
 ·rintro rfl
  rw[<- z,nC] at e;cases e
 ·rintro rfl
  rw[nC] at z;cases z
end
def dZ(X:Cx)(N:List Str)(nt:Nat)(scope:Scope):List Nat->Nat->Bool
 | [],_=>true
 | i::r,j=>(match N[nt+j]? with
  | some x=>decide (X.N[i]?=some x) && decide (scope.names.lookup x=some .free) && (decide (X.env.kindOf x=some .cell) || decide (X.env.kindOf x=some .free))
  | none=>false) && dZ X N nt scope r (j+1)
theorem Bx{X:Cx}{N:List Str}{nt:Nat}{scope:Scope}:∀{fr:List Nat} {k:Nat},dZ X N nt scope fr k=true->∀(j i:Nat) (x:Str),fr[j]?=some i->N[nt+(k+j)]?=some x ->
  X.N[i]?=some x/\scope.names.lookup x=some .free/\(X.env.kindOf x=some .cell\/X.env.kindOf x=some .free)
 | [],_,_,j,i,x,e,_=>by simp at e
 | i0::r,k,h,j,i,x,e1,e2=>by
  unfold dZ at h
  rw[Bool.and_eq_true] at h
  obtain⟨h1,h2⟩:=h
  cases j with
  | zero =>
   have e1:i0=i:=by simpa using e1
   subst e1
   rw[Nat.add_zero] at e2
   rw[e2] at h1
   simp only[Bool.and_eq_true,Bool.or_eq_true,decide_eq_true_eq] at h1
   exact⟨h1.1.1,h1.1.2,h1.2⟩
  | succ j =>
   exact Bx h2 j i x (by simpa using e1) (by rw[show nt+(k+1+j)=nt+(k+(j+1)) by lia];exact e2)
theorem iG{env:Env}:∀{names:List (Str×NameKind)} {x:Str} {k':NameKind},
  (names.map λ(n,k)=>if (k == NameKind.free && env.scope.kind == .function && env.kindOf n == some .cell) then (n,NameKind.cell) else (n,k)).lookup x=some k' ->
  ∃k,names.lookup x=some k/\(k=k'\/(k=.free/\k'=.cell))
 | [],_,_,h=>by simp at h
 | (n,k)::r,x,k',h=>by
  have h:List.lookup x ((if (k == NameKind.free && env.scope.kind == .function && env.kindOf n == some .cell)=true then (n,NameKind.cell) else (n,k))::r.map _)=some k':=h
  cases hx:x == n with
  | true =>
   by_cases hc:(k == NameKind.free && env.scope.kind == .function && env.kindOf n == some .cell)=true
   ·rw[if_pos hc] at h
    simp only[List.lookup_cons,hx] at h
    have hk:k=.free:=by
     simp only[Bool.and_eq_true,beq_iff_eq] at hc
     exact hc.1.1
    exact⟨k,by simp[List.lookup_cons,hx],.inr ⟨hk,(Option.some.inj h).symm⟩⟩
   ·rw[if_neg hc] at h
    simp only[List.lookup_cons,hx] at h
    exact⟨k,by simp[List.lookup_cons,hx],.inl (Option.some.inj h)⟩
  | false =>
   have h2:List.lookup x (r.map λ(n,k)=>if (k == NameKind.free && env.scope.kind == .function && env.kindOf n == some .cell) then (n,NameKind.cell) else (n,k))=some k':=by
    by_cases hc:(k == NameKind.free && env.scope.kind == .function && env.kindOf n == some .cell)=true
    ·rw[if_pos hc] at h;simpa only[List.lookup_cons,hx] using h
    ·rw[if_neg hc] at h;simpa only[List.lookup_cons,hx] using h
   obtain⟨k2,e2,o2⟩:=iG h2
   exact⟨k2,by simp only[List.lookup_cons,hx];exact e2,o2⟩
theorem n_{env:Env}:∀{names:List (Str×NameKind)} {x:Str},names.lookup x=some .free ->
  (names.map λ(n,k)=>if (k == NameKind.free && env.scope.kind == .function && env.kindOf n == some .cell) then (n,NameKind.cell) else (n,k)).lookup x=some .cell \/
  (names.map λ(n,k)=>if (k == NameKind.free && env.scope.kind == .function && env.kindOf n == some .cell) then (n,NameKind.cell) else (n,k)).lookup x=some .free
 | [],_,h=>by simp at h
 | (n,k)::r,x,h=>by
  show List.lookup x ((if (k == NameKind.free && env.scope.kind == .function && env.kindOf n == some .cell)=true then (n,NameKind.cell) else (n,k))::r.map _)=some .cell\/List.lookup x ((if (k == NameKind.free && env.scope.kind == .function && env.kindOf n == some .cell)=true then (n,NameKind.cell) else (n,k))::r.map _)=some .free
  cases hx:x == n with
  | true =>
   simp only[List.lookup_cons,hx] at h
   cases h
   by_cases hc:(NameKind.free == NameKind.free && env.scope.kind == .function && env.kindOf n == some .cell)=true
   ·rw[if_pos hc];left;simp[List.lookup_cons,hx]
   ·rw[if_neg hc];right;simp[List.lookup_cons,hx]
  | false =>
   simp only[List.lookup_cons,hx] at h
   have ih:=n_ (env:=env) h
   by_cases hc:(k == NameKind.free && env.scope.kind == .function && env.kindOf n == some .cell)=true
   ·rw[if_pos hc];simpa only[List.lookup_cons,hx] using ih
   ·rw[if_neg hc];simpa only[List.lookup_cons,hx] using ih
theorem jC{env:Env}:∀{names:List (Str×NameKind)} {cl:List (Str×Addr)},eN env names=some cl->∀x,names.lookup x=some .free->∃c,cl.lookup x=some c
 | [],_,_,x,e=>by simp at e
 | (n,k)::r,cl,h,x,e=>by
  unfold eN at h
  by_cases hk:k=.free
  ·rw[if_pos hk] at h
   cases hc:env.cells.lookup n with
   | none=>rw[hc] at h;cases h
   | some c' =>
    rw[hc] at h
    have h:(eN env r).map (λcl=>cl++[(n,c')])=some cl:=h
    cases hr:eN env r with
    | none=>rw[hr] at h;cases h
    | some cl' =>
     rw[hr] at h
     have h:cl'++[(n,c')]=cl:=Option.some.inj h
     subst h
     rw[List.lookup_append]
     cases h2:cl'.lookup x with
     | some c2=>exact⟨c2,by simp⟩
     | none =>
      cases hx:x == n with
      | true=>exact⟨c',by simp[List.lookup_cons,hx]⟩
      | false =>
       simp only[List.lookup_cons,hx] at e
       obtain⟨c3,e3⟩:=jC hr x e
       rw[h2] at e3;cases e3
  ·rw[if_neg hk] at h
   cases hx:x == n with
   | true =>
    simp only[List.lookup_cons,hx] at e
    exact absurd (Option.some.inj e) hk
   | false =>
    simp only[List.lookup_cons,hx] at e
    exact jC h x e
theorem fU.of{X:Cx}{N:List Str}{nt:Nat}{fr:List Nat}{scope:Scope}{cl:List (Str×Addr)}(hcl:eN X.env scope.names=some cl)(hlen:N.length=nt+fr.length)(hB:dZ X N nt scope fr 0=true)
  (hcell:∀y∈scope.names,y.2≠.cell) (hkind:scope.kind=.function):fU X N nt fr scope cl where
 len:=hlen
 free:=λj i x e1 e2=>by
  obtain⟨h1,h2,h3⟩:=Bx hB j i x e1 (by rw[Nat.zero_add];exact e2)
  exact⟨h1,jC hcl x h2,h3,n_ h2⟩
 cells:=je hcl
 has:=λx hx=>by
  have:scope.names.lookup x=some .free:=by
   rcases hx with hx|hx
   ·obtain⟨k,e,o⟩:=iG (names:=scope.names) (env:=X.env) hx
    rcases o with rfl|⟨rfl,_⟩
    ·exact absurd rfl (hcell _ (PySem.mem_of_lookup e))
    ·exact e
   ·obtain⟨k,e,o⟩:=iG (names:=scope.names) (env:=X.env) hx
    rcases o with rfl|⟨rfl,_⟩
    ·exact e
    ·exact e
  exact jC hcl x this
 kind:=hkind
def PIf(X:Cx)(ifs:List Expr)(t:TT):Prop :=
 ∀(pins:List (Addr×Obj)) (s:Shared) (σ:St) (H:Hp) (Q:Bool->Hp->Prop),Inv X pins σ H s->t σ H Q ->
  wpAny (model X.prog X.w) X.A (forIn ifs true λc r=>if r=true then do let ok <- isTrue c X.env (eval c X.env);pure (ForInStep.yield ok) else pure (ForInStep.yield r)) (TP X pins σ Q) X.xe s
def mJ:TT:=λ_ H Q=>Q true H
theorem eZ{X:Cx}:PIf X [] mJ:=λ_ _ _ H _ I h=>wpAny_pure ⟨H,I,h⟩
theorem Hx{X:Cx}{c:Expr}{t:TT}(h:PT X c t):PIf X [c] t:=by
 intro pins s σ H Q I hw
 rw[List.forIn_cons]
 simp only[if_true]
 refine wpAny_bind (wpAny_bind (thn (h pins s σ H Q I hw) λb s1 q=>wpAny_pure ?_))
 exact wpAny_pure q
def oh(J:It)(nt:Nat)(fr:List Nat)(g:TG)(c:TT)(te:TE)(σ:St)(H1:Hp)(Q:VK)(acc:Addr):Prop :=
 ∃W:Nat->Nat->St->List V->Hp->Prop,(∃m,W 0 m (fP nt fr σ) [] (upd H1 acc (.lst [])))/\∀i m σ' ys H',W i m σ' ys H'->H' acc=some (.lst ys) /\
  ((J.stop i H'/\Q (.ref acc) H')\/(J.go i H'/\∀x H2,J.yld i H' x H2->g x σ' H2 λσ2 H3=>c σ2 H3 λb H4=>if b=true then
   te σ2 H4 λy H5=>ys.length<sizeLine/\H5 acc=some (.lst ys)/\∃m',m'<m/\W (i+1) m' σ2 (ys++[y]) (upd H5 acc (.lst (ys++[y])))
   else ∃m',m'<m/\W (i+1) m' σ2 ys H4))
def jm(wi:TI)(nt:Nat)(fr:List Nat)(g:TG)(c:TT)(te:TE):TE:=λσ H Q=>wi σ H λJ H1=>∀acc,H1 acc=none->oh J nt fr g c te σ H1 Q acc
section
variable{X:Cx}{target iter elt:Expr}{ifs:List Expr}{scope:Scope}{pos:Pos}{N:List Str}{nt:Nat}{fr:List Nat}{cl:List (Str×Addr)}{wi:TI}{g:TG}{c:TT}{te:TE}
theorem RN{pins:List (Addr×Obj)}{σ:St}{H H1:Hp}{s:Shared}{fp:List Addr}(I:Inv X pins σ H s)(cn:fU X N nt fr scope cl)(hf:∀b∈fp,jk X pins H b)(ho:∀b∈fp,b<s.heap.objs.size){H':Hp}(hn:∀b∈fp,H' b=none) :
  ∀b∈fp,jk (dY X N scope cl pins s H1 fp) [] H' b:=λb hb =>
 ⟨hn b hb,Nat.ne_of_lt (ho b hb),λz=>(List.mem_cons.mp (I.tU b z)).elim (hf b hb).2.1 (hf b hb).2.2.1,.inl hb,λx c e=>(hf b hb).2.2.2.2.1 x c (cn.cells x c e),λp hp=>(hf b hb).2.2.2.2.2 p (by
  have hp:p∈(X.pn++pins)++[]:=hp
  rw[List.append_nil] at hp
  exact hp)⟩
theorem uw{pins:List (Addr×Obj)}{σ:St}{s:Shared}{Q:VK}{itv:Value}{RR:Value->Addr->Result->Shared->Prop}{E:Value->Shared->Prop}
  (hc:X.calm=true) (cn:fU X N nt fr scope cl) (hcell:∀y∈scope.names,y.2≠.cell)
  (hg:∀pins s H fp,PG (dY X N scope cl pins s H fp) target g) (hif:∀pins s H fp,PIf (dY X N scope cl pins s H fp) ifs c) (he:∀pins s H fp,PE (dY X N scope cl pins s H fp) elt te)
  (h:PIE X pins σ target (λJ H1=>∀acc,H1 acc=none->oh J nt fr g c te σ H1 Q acc) itv s)
  (hRR:∀(acc C:Addr) (s':Shared) (H':Hp),(∃m,s'.heap.Ns C m)->Inv X pins σ H' s'->jk X pins H' C->Q (.ref acc) H'->RR (.ref acc) C (.ok .next) s') :
  wpAny (model X.prog X.w) X.A (newList []) (λacc s₃=>wpAny (model X.prog X.w) X.A (newFunctionEnv scope X.env.globals cl [] X.env.qual none .none (some X.env)) (λcenv s₄ =>
   codeAny (model X.prog X.w) X.A (.compStart (.ListComp elt [⟨target,iter,ifs,0⟩] scope pos) 0 itv acc { cenv with scope:=relabel scope X.env }) (RR acc cenv.locals) s₄) E s₃) E s:=by
 obtain⟨it,fp,tn,J,H2,e,I2,T,st2,f2,R⟩:=h
 subst e
 have fo:∀b∈fp,b<s.heap.objs.size:=λb hb=>let ⟨o,e,_⟩:=T.obj 0 _ st2 b hb;Heap.lt_size e
 refine wpAny_newObj_type (wpAny_newFunctionEnv hcell (by intro y hy;simp at hy) (λh₁ hns₁ hsb₁=>?_) cn.kind)
 dsimp only at hns₁ hsb₁ ⊢
 have ha:H2 s.heap.objs.size=none:=I2.hok.fresh (Nat.le_refl _)
 have I3:Inv X pins σ (upd H2 s.heap.objs.size (.lst [])) { s with heap:=s.heap.push { cls:=.type "list", data:=.seq ([]:List Value).toArray } } :=
  I2.laid (t':=s.toks) (λb u e=>Heap.get?_push_of_some _ e) (Nat.le_refl _) ⟨Nat.zero_le _,[],0,.nil,Heap.get?_push_size _ rfl⟩
 generalize hs3:({ s with heap:=s.heap.push { cls:=.type "list", data:=.seq ([]:List Value).toArray } }:Shared)=s3 at I3
 have hh3:s3.heap=s.heap.push { cls:=.type "list", data:=.seq ([]:List Value).toArray }:=by rw[<- hs3]
 have hsz:s3.heap.objs.size=s.heap.objs.size+1:=by rw[hh3,Heap.size_push]
 have fne:∀b∈fp,b≠s.heap.objs.size:=λb hb=>Nat.ne_of_lt (fo b hb)
 have f3:∀b∈fp,jk X pins (upd H2 s.heap.objs.size (.lst [])) b:=λb hb=>⟨by rw[bZ (fne b hb)];exact(f2 b hb).1,(f2 b hb).2⟩
 have fo3:∀b∈fp,b<s3.heap.objs.size:=λb hb=>by rw[hsz];exact Nat.lt_succ_of_lt (fo b hb)
 have k3:∀b o,s3.heap.get? b=some o->h₁.get? b=some o:=λb o e=>hsb₁.extBut b o (by rw[<- hh3];exact Nat.ne_of_lt (Heap.lt_size e)) (by rw[<- hh3];exact Heap.get?_push_of_some _ e)
 have hns:∃m,h₁.Ns s3.heap.objs.size m:=⟨_,by rw[hh3];exact hns₁⟩
 have I4:Inv (dY X N scope cl pins s3 (upd H2 s.heap.objs.size (.lst [])) fp) [] (fP nt fr σ) (upd H2 s.heap.objs.size (.lst [])) { s3 with heap:=h₁,toks:=s3.toks+([]:List (Str×Value)).length }:=M4 I3 cn f3 fo3 k3 hns
 have st4:tn 0 h₁:=T.keep 0 _ _ st2 λb hb o e=>k3 b o (by rw[hh3];exact Heap.get?_push_of_some _ e)
 obtain⟨W,⟨m0,w0⟩,turn⟩:=R s.heap.objs.size ha
 have stat:∀{H':Hp},(∀b∈fp,H' b=none)->∀b∈fp,jk (dY X N scope cl pins s3 (upd H2 s.heap.objs.size (.lst [])) fp) [] H' b:=λhn=>RN I3 cn f3 fo3 hn
 have hH:Un (frs X.stack) fp H2 (upd H2 s.heap.objs.size (.lst [])) s.heap s3.heap:=by
  rw[hh3]
  exact Un.laid (λb u e=>Heap.get?_push_of_some _ e) (Nat.le_refl _) ha
 have back:∀{σ':St} {H':Hp} {s':Shared} {h':Heap},Inv (dY X N scope cl pins s3 (upd H2 s.heap.objs.size (.lst [])) fp) [] σ' H' s'->Heap.SameBut s3.heap.objs.size s'.heap h'->Inv X pins σ H' { s' with heap:=h' }:=λJ' sb =>
  comp_back I2 (by rw[hsz];exact Nat.le_succ _) (by rw[<- hs3]) hH f2 J' sb
 have loop:codeAny (model X.prog X.w) X.A (.compLoop (.ListComp elt [⟨target,iter,ifs,0⟩] scope pos) 0 (.ref it) (.ref s.heap.objs.size) (compEnvC scope cl s3.heap.objs.size X.env)) (RR (.ref s.heap.objs.size) s3.heap.objs.size)
   { s3 with heap:=h₁,toks:=s3.toks+([]:List (Str×Value)).length }:=by
  refine Kg (λn s'=>∃i σ' ys H',Inv (dY X N scope cl pins s3 (upd H2 s.heap.objs.size (.lst [])) fp) [] σ' H' s'/\tn i s'.heap/\(∀b∈fp,H' b=none)/\W i n σ' ys H') ?_ m0
   ⟨0,_,[],_,I4,st4,λb hb=>(f3 b hb).1,w0⟩
  rintro n s5 ⟨i,σ5,ys,H5,I5,st5,fr5,w5⟩
  obtain⟨hacc,step⟩:=turn i n σ5 ys H5 w5
  rcases step with⟨stop,q⟩|⟨go,step⟩
  ·refine thn (T.done (dY X N scope cl pins s3 (upd H2 s.heap.objs.size (.lst [])) fp) rfl rfl rfl hc i [] s5 σ5 H5 (λ_ _=>False) I5 (stat fr5) st5 stop) λr s6 ⟨hr,I6⟩=>?_
   subst hr
   obtain⟨m,hm,_⟩:=I6.loc
   exact hRR _ _ s6 H5 ⟨m,hm⟩ (back I6 (Heap.SameBut.refl _ _)) (I2.Bh (by rw[hsz];exact Nat.le_succ _) I6.free) q
  ·refine thn (T.item (dY X N scope cl pins s3 (upd H2 s.heap.objs.size (.lst [])) fp) rfl rfl rfl hc i [] s5 σ5 H5 (λ_ _=>False) I5 (stat fr5) st5 go) λr s6 ⟨u,hr,h6⟩=>?_
   subst hr
   refine thn h6 λ_ s7 ⟨x,H7,I7,r7,y7,st7,fr7⟩=>?_
   have I7':=I7.pinned (stat fr7) (T.obj _ _ st7)
   refine thn (hg pins s3 _ fp _ s7 σ5 H7 x u _ I7' r7 (step x H7 y7)) λ_ s8 ⟨σ8,H8,I8,q8⟩=>?_
   have Hy:∀{σ':St} {H':Hp} {s':Shared},Inv (dY X N scope cl pins s3 (upd H2 s.heap.objs.size (.lst [])) fp) ([]++t_ fp s7.heap) σ' H' s'->tn (i+1) s'.heap/\∀b∈fp,H' b=none:=λ{σ' H' s'} I' =>
    ⟨T.keep _ _ _ st7 λb hb o e=>(I'.pin (b,o) (List.mem_append_right _ (List.mem_append_right _ (jA hb e)))).1,λb hb=>by
     obtain⟨o,e,d⟩:=T.obj _ _ st7 b hb
     exact(I'.pin (b,o) (List.mem_append_right _ (List.mem_append_right _ (jA hb e)))).2.1⟩
   refine thn (hif pins s3 _ fp _ s8 σ8 H8 _ I8 q8) λok s9 ⟨H9,I9,q9⟩=>?_
   cases ok with
   | false =>
    have q9:∃m',m'<n/\W (i+1) m' σ8 ys H9:=q9
    obtain⟨m',hm,w9⟩:=q9
    exact⟨m',hm,i+1,σ8,ys,H9,I9.jY,(Hy I9).1,(Hy I9).2,w9⟩
   | true =>
    rw[if_pos rfl]
    refine thn (he pins s3 _ fp _ s9 σ8 H9 _ I9 q9) λz s10 ⟨y,H10,I10,r10,hz,adq,m',hm,w10⟩=>?_
    refine thn (xu _ s10 σ8 H10 (.ref s.heap.objs.size) [y] (.ref s.heap.objs.size) [z] (λv H'=>v=.non/\H'=upd H10 s.heap.objs.size (.lst (ys++[y]))) I10 rfl (.cons r10 .nil) ⟨_,ys,y,rfl,rfl,adq,hz,rfl,rfl⟩) λv s11 ⟨_,H11,I11,_,_,e11⟩=>?_
    subst e11
    exact⟨m',hm,i+1,σ8,ys++[y],_,I11.jY,(Hy I11).1,(Hy I11).2,w10⟩
 have fin:codeAny (model X.prog X.w) X.A (.compStart (.ListComp elt [⟨target,iter,ifs,0⟩] scope pos) 0 (.ref it) (.ref s.heap.objs.size) (compEnvC scope cl s3.heap.objs.size X.env)) (RR (.ref s.heap.objs.size) s3.heap.objs.size)
   { s3 with heap:=h₁,toks:=s3.toks+([]:List (Str×Value)).length } :=
  codeAny_compStart_list loop (T.self _ 0 _ _ _ st4 loop)
 rw[<- hs3] at fin
 exact fin
theorem fj(hi:PI X target iter wi)(hg:∀pins s H fp,PG (dY X N scope cl pins s H fp) target g)(hif:∀pins s H fp,PIf (dY X N scope cl pins s H fp) ifs c)(he:∀pins s H fp,PE (dY X N scope cl pins s H fp) elt te)
  (hc:X.calm=true:=by rfl) (hcl:eN X.env scope.names=some cl:=by rfl) (hlen:N.length=nt+fr.length:=by rfl) (hB:dZ X N nt scope fr 0=true:=by rfl)
  (hcell:∀y∈scope.names,y.2≠.cell:=by decide +kernel) (hkind:scope.kind=.function:=by rfl) (hnames:∀y∈scope.names,y.2=.local->scope.names.lookup y.1=some .local:=by decide +kernel)
  (hs:∀x,foldedSetIterable iter X.env x=pure x:=by intro _;rfl):PE X (.ListComp elt [⟨target,iter,ifs,0⟩] scope pos) (jm wi nt fr g c te):=by
 intro pins s σ H Q I h
 rw[eval_ListComp]
 refine wpAny_comprehension_free (use:=none) rfl hs (mH hcl) hkind hnames (thn (hi pins s σ H _ I h) λxv s1 h1=>thn h1 λitv s2 h2=>?_)
 exact uw hc (fU.of hcl hlen hB hcell hkind) hcell hg hif he h2 λacc C s' H' ⟨m,hm⟩ hI hF hq=>⟨m,hm,λh' sb=>⟨.ref acc,H',hI.turned (t':=s'.toks) (λb o hb e=>sb.extBut b o hb e) hF.1 hF.2.1 hF.2.2.2.1 hF.2.2.2.2.1 hF.2.2.2.2.2,rfl,hq⟩⟩
theorem Hz{i:Nat}{y:Str}{py spos:Pos}(hN:X.N.Nodup)(hyi:X.N[i]?=some y)(hy:Loc X.env.scope y)(hi:PI X target iter wi)(hg:∀pins s H fp,PG (dY X N scope cl pins s H fp) target g)(hif:∀pins s H fp,PIf (dY X N scope cl pins s H fp) ifs c)(he:∀pins s H fp,PE (dY X N scope cl pins s H fp) elt te)
  (hsw:swapsWith (.ListComp elt [⟨target,iter,ifs,0⟩] scope pos) (some (.Name y py)) spos.line X.env=pure true:=by rfl)
  (hc:X.calm=true:=by rfl) (hcl:eN X.env scope.names=some cl:=by rfl) (hlen:N.length=nt+fr.length:=by rfl) (hB:dZ X N nt scope fr 0=true:=by rfl)
  (hcell:∀y∈scope.names,y.2≠.cell:=by decide +kernel) (hkind:scope.kind=.function:=by rfl) (hnames:∀y∈scope.names,y.2=.local->scope.names.lookup y.1=some .local:=by decide +kernel)
  (hs:∀x,foldedSetIterable iter X.env x=pure x:=by intro _;rfl) (hf:X.fn y=true\/X.env.scope.names.lookup y=some .local:=by first|exact .inl rfl|exact .inr rfl|assumption) :
  PS X (.Assign [.Name y py] (.ListComp elt [⟨target,iter,ifs,0⟩] scope pos) spos) (LR (jm wi nt fr g c te) (bK i)):=by
 intro pins s σ H D I h
 rw[exec_Assign_Name_used _ _ _ _ hsw]
 refine wpAny_bind (wpAny_standAt (wpAny_bind ?_))
 show wpAny _ X.A (do let _ <- comprehension (.ListComp elt [⟨target,iter,ifs,0⟩] scope pos) scope X.env _ (newList []) false (eval iter X.env) (some (assign (.Name y py) X.env))) _ _ s
 refine wpAny_bind (wpAny_mono (wpAny_comprehension_free (use:=some (assign (.Name y py) X.env)) (Q:=λ_ s'=>SP X pins D .next s') rfl hs (mH hcl) hkind hnames (thn (hi pins s σ H _ I h) λxv s1 h1=>thn h1 λitv s2 h2=>?_)) (λ_ s' hq=>wpAny_pure (wpAny_pure hq)) λ_ _ e=>e)
 refine uw (Q:=λx H1=>bK i x σ H1 D.nx) (RR:=λacc C=>compPost (model X.prog X.w) X.A X.xe (some (assign (.Name y py) X.env)) (λ_ s'=>SP X pins D .next s') acc C) hc (fU.of hcl hlen hB hcell hkind) hcell hg hif he h2 λacc C s' H' ⟨m,hm⟩ hI hF hq=>?_
 show wpAny _ X.A (assign (.Name y py) X.env (.ref acc)) _ _ _
 refine wpAny_assign_Name (wR hI hN hyi hy (v:=.ref acc) rfl (λs3 I3 ⟨a,sb,ha⟩=>?_) hf)
 have hne:C≠a:=by
  rcases ha with rfl|ha
  ·exact hF.2.1
  ·exact λz=>hF.2.2.2.2.1 y a ha z.symm
 refine⟨m,hm.sameBut sb hne,λh' sb'=>⟨_,H',I3.turned (t':=s3.toks) (λb o hb e=>sb'.extBut b o hb e) hF.1 hF.2.1 hF.2.2.2.1 hF.2.2.2.2.1 hF.2.2.2.2.2,hq⟩⟩
end
structure ItemsOf(J:It)(xs:List V)(L:Hp->Prop):Prop where
 go:∀i H,L H->i<xs.length->J.go i H
 yld:∀i H x H',L H->i<xs.length->J.yld i H x H'->H'=H/\xs[i]?=some x
 stop:∀H,L H->J.stop xs.length H
theorem gB{K:W.Frag}{a:Addr}{xs:List V}:ItemsOf (Itl K a) xs (λH=>SqL K H a xs) :=
 ⟨λi H h hi=>⟨xs,xs[i],h,by simp[hi]⟩,λi H x H' h hi y=>⟨y.1,y.2 xs h⟩,λH h=>⟨xs,h,Nat.le_refl _⟩⟩
theorem qt{K:W.Frag}{a:Addr}{xs:List V}:ItemsOf (Itt K a) xs (λH=>SqT K H a xs) :=
 ⟨λi H h hi=>⟨xs,xs[i],h,by simp[hi]⟩,λi H x H' h hi y=>⟨y.1,y.2 xs h⟩,λH h=>⟨xs,h,Nat.le_refl _⟩⟩
def fZ(lo:Int)(n:Nat):List V:=(List.range n).map λi:Nat=>V.int (lo+(i:Int))
theorem rO{lo:Int}{n:Nat}:ItemsOf (Itr lo n) (fZ lo n) (λ_=>True) :=
 ⟨λi H _ hi=>by show i<n;simpa[fZ] using hi,λi H x H' _ hi y=>⟨y.1,by
  have hi:i<n:=by simpa[fZ] using hi
  rw[y.2];simp[fZ,hi]⟩,λH _=>by show n<=_;simp[fZ]⟩
def mZ(z:Str):List V:=z.cps.toList.map λc=>V.str ⟨#[c]⟩
theorem items_str{z:Str}:ItemsOf (Its z) (mZ z) (λ_=>True) :=
 ⟨λi H _ hi=>by show i<z.cps.size;simpa[mZ] using hi,λi H x H' _ hi y=>⟨y.1,by
  obtain⟨_,c,e,rfl⟩:=y
  have hi:i<z.cps.size:=by simpa[mZ] using hi
  have e:z.cps[i]=c:=by simpa[hi] using e
  simp[mZ,hi,e]⟩,λH _=>by show z.cps.size<=_;simp[mZ]⟩
def jV(xs:List V)(nt:Nat)(fvs:St)(Pv:Nat->List V->Hp->Prop):Nat->Nat->St->List V->Hp->Prop:=λi m σ' ys H' =>
 m=xs.length-i/\i<=xs.length/\Pv i ys H'/\∃tv:List (Option V),tv.length=nt/\σ'=tv++fvs
theorem jV.next{xs:List V}{nt:Nat}{fvs:St}{Pv:Nat->List V->Hp->Prop}{i:Nat}{tv:List (Option V)}{ys:List V}{H:Hp}(hi:i<xs.length)(p:Pv (i+1) ys H)(ht:tv.length=nt) :
  ∃m',m'<xs.length-i/\jV xs nt fvs Pv (i+1) m' (tv++fvs) ys H:=⟨xs.length-(i+1),by lia,rfl,hi,p,tv,ht,rfl⟩
theorem ou{J:It}{xs:List V}{L:Hp->Prop}{σ:St}{H1:Hp}{nt:Nat}{fr:List Nat}{g:TG}{c:TT}{te:TE}{Q:VK}{acc:Addr}(it:ItemsOf J xs L)(Pv:Nat->List V->Hp->Prop)
  (h0:Pv 0 [] (upd H1 acc (.lst []))) (hL:∀i ys H',i<=xs.length->Pv i ys H'->L H'/\H' acc=some (.lst ys))
  (turn:∀i x tv ys H',xs[i]?=some x->i<xs.length->Pv i ys H'->tv.length=nt->g x (tv++fr.map λi=>(σ[i]?).getD none) H' λσ2 H3 =>
   c σ2 H3 λb H4=>if b=true then te σ2 H4 λy H5=>ys.length<sizeLine/\H5 acc=some (.lst ys)/\∃m',m'<xs.length-i/\jV xs nt (fr.map λi=>(σ[i]?).getD none) Pv (i+1) m' σ2 (ys++[y]) (upd H5 acc (.lst (ys++[y])))
    else ∃m',m'<xs.length-i/\jV xs nt (fr.map λi=>(σ[i]?).getD none) Pv (i+1) m' σ2 ys H4)
  (hd:∀ys H',Pv xs.length ys H'->Q (.ref acc) H'):oh J nt fr g c te σ H1 Q acc:=by
 refine⟨jV xs nt (fr.map λi=>(σ[i]?).getD none) Pv,⟨xs.length,by simp,Nat.zero_le _,h0,List.replicate nt none,by simp,rfl⟩,?_⟩
 rintro i m σ' ys H' ⟨rfl,hi,p,tv,htv,rfl⟩
 obtain⟨l,ha⟩:=hL i ys H' hi p
 refine⟨ha,?_⟩
 by_cases hlt:i<xs.length
 ·refine .inr ⟨it.go i H' l hlt,λx H2 y=>?_⟩
  obtain⟨rfl,hx⟩:=it.yld i H' x H2 l hlt y
  exact turn i x tv ys H2 hx hlt p htv
 ·have e:i=xs.length:=by lia
  subst e
  exact .inl ⟨it.stop H' l,hd ys H' p⟩
end L2
namespace L2
open PySem PySem.Spec PyProof.Rows PySem.SeqAt
inductive Dt where
 | non|bl (b:Bool)|int (i:Int)|str (x:Str)|lst (xs:List Dt)|tup (xs:List Dt)
mutual
def Rep(K:W.Frag)(H:Hp):Dt->V->Prop
 | .non,v=>v=.non
 | .bl b,v=>v=.bl b
 | .int i,v=>v=.int i
 | .str x,v=>v=.str x
 | .lst ds,v=>∃p xs,v=.ref p/\SqL K H p xs/\dD K H ds xs
 | .tup ds,v=>∃p xs,v=.ref p/\SqT K H p xs/\dD K H ds xs
def dD(K:W.Frag)(H:Hp):List Dt->List V->Prop
 | [],xs=>xs=[]
 | d::ds,xs=>∃x r,xs=x::r/\Rep K H d x/\dD K H ds r
end
mutual
def fD:Dt->Dt->Bool
 | .non,.non=>true
 | .bl a,.bl b=>a == b
 | .bl a,.int b=>(if a then 1 else 0) == b
 | .int a,.bl b=>a == (if b then 1 else 0)
 | .int a,.int b=>a == b
 | .str a,.str b=>a == b
 | .lst xs,.lst ys=>dU xs ys
 | .tup xs,.tup ys=>dU xs ys
 | _,_=>false
def dU:List Dt->List Dt->Bool
 | [],[]=>true
 | x::xs,y::ys=>fD x y && dU xs ys
 | _,_=>false
end
mutual
def dH:Dt->Nat
 | .lst xs=>fJ xs+1
 | .tup xs=>fJ xs+1
 | _=>0
def fJ:List Dt->Nat
 | []=>0
 | x::xs=>max (dH x) (fJ xs)
end
theorem dD.length{K:W.Frag}{H:Hp}:∀{ds:List Dt} {xs:List V},dD K H ds xs->ds.length=xs.length
 | [],xs,h=>by rw[show xs=[] from by simpa[dD] using h];rfl
 | d::ds,xs,h=>by
  obtain⟨x,r,rfl,_,h2⟩:∃x r,xs=x::r/\Rep K H d x/\dD K H ds r:=by simpa[dD] using h
  simp[dD.length h2]
theorem dD.get{K:W.Frag}{H:Hp}:∀{ds:List Dt} {xs:List V} {j:Nat} {d:Dt},dD K H ds xs->ds[j]?=some d->∃x,xs[j]?=some x/\Rep K H d x
 | [],_,_,_,_,e=>by simp at e
 | d0::ds,xs,j,d,h,e=>by
  obtain⟨x,r,rfl,h1,h2⟩:∃x r,xs=x::r/\Rep K H d0 x/\dD K H ds r:=by simpa[dD] using h
  cases j with
  | zero =>
   have e:d0=d:=by simpa using e
   subst e
   exact⟨x,rfl,h1⟩
  | succ j =>
   obtain⟨y,e1,e2⟩:=dD.get (j:=j) h2 (by simpa using e)
   exact⟨y,by simpa using e1,e2⟩
theorem xH:∀{ds:List Dt} {j:Nat} {d:Dt},ds[j]?=some d->dH d<=fJ ds
 | [],_,_,e=>by simp at e
 | d0::ds,j,d,e=>by
  cases j with
  | zero =>
   have e:d0=d:=by simpa using e
   subst e
   simp only[fJ];lia
  | succ j =>
   have:=xH (ds:=ds) (j:=j) (d:=d) (by simpa using e)
   simp only[fJ];lia
theorem qw:∀(ds es:List Dt),ds.length=es.length->((List.range ds.length).all λj=>fD (ds.getD j .non) (es.getD j .non))=dU ds es
 | [],[],_=>rfl
 | [],_::_,h=>by simp at h
 | _::_,[],h=>by simp at h
 | d::ds,e::es,h=>by
  have h:ds.length=es.length:=by simpa using h
  rw[List.length_cons,List.range_succ_eq_map,List.all_cons,List.all_map]
  have:=qw ds es h
  simp only[dU]
  rw[<- this]
  rfl
theorem jD:∀(ds es:List Dt),ds.length≠es.length->dU ds es=false
 | [],[],h=>by simp at h
 | [],_::_,_=>rfl
 | _::_,[],_=>rfl
 | d::ds,e::es,h=>by
  have h:ds.length≠es.length:=λz=>h (by simp[z])
  simp only[dU,jD ds es h,Bool.and_false]
mutual
theorem fV:∀d:Dt,fD d d=true
 | .non=>rfl
 | .bl b=>by simp[fD]
 | .int i=>by simp[fD]
 | .str x=>by simp[fD]
 | .lst xs=>by simp only[fD];exact iH xs
 | .tup xs=>by simp only[fD];exact iH xs
theorem iH:∀ds:List Dt,dU ds ds=true
 | []=>rfl
 | d::ds=>by simp only[dU,fV d,iH ds,Bool.and_true]
end
section
variable{X:Cx}{pins:List (Addr×Obj)}{σ:St}{H:Hp}{s:Shared}
theorem rP{a:Addr}{xs ys:List V}(I:Inv X pins σ H s)(h:SqL X.K H a xs)(h':SqT X.K H a ys):False:=by
 obtain⟨its,_,pl,_⟩:=I.list h
 obtain⟨its',_,pt,_⟩:=I.tuple h'
 obtain⟨o,n,e,c,_,_⟩:=pl
 obtain⟨o',e',c',_⟩:=pt
 rw[e] at e';cases e'
 rw[c] at c'
 exact absurd c' (by decide)
mutual
theorem RP(I:Inv X pins σ H s):∀(d d':Dt) (v:V),Rep X.K H d v->Rep X.K H d' v->d=d'
 | .non,d',v,h,h'=>by
  have h:v=.non:=by simpa[Rep] using h
  subst h
  cases d' <;> simp[Rep] at h' <;> rfl
 | .bl b,d',v,h,h'=>by
  have h:v=.bl b:=by simpa[Rep] using h
  subst h
  cases d' <;> simp[Rep] at h'
  rw[h']
 | .int b,d',v,h,h'=>by
  have h:v=.int b:=by simpa[Rep] using h
  subst h
  cases d' <;> simp[Rep] at h'
  rw[h']
 | .str b,d',v,h,h'=>by
  have h:v=.str b:=by simpa[Rep] using h
  subst h
  cases d' <;> simp[Rep] at h'
  rw[h']
 | .lst ds,d',v,h,h'=>by
  obtain⟨p,xs,rfl,hq,hr⟩:∃p xs,v=.ref p/\SqL X.K H p xs/\dD X.K H ds xs:=by simpa only[Rep] using h
  cases d' with
  | lst es =>
   obtain⟨p',ys,e,hq',hr'⟩:∃p' ys,V.ref p=.ref p'/\SqL X.K H p' ys/\dD X.K H es ys:=by simpa only[Rep] using h'
   cases e
   rw[I.tW hq' hq] at hr'
   rw[j4 I ds es xs hr hr']
  | tup es =>
   obtain⟨p',ys,e,hq',hr'⟩:∃p' ys,V.ref p=.ref p'/\SqT X.K H p' ys/\dD X.K H es ys:=by simpa only[Rep] using h'
   cases e
   exact(rP I hq hq').elim
  | _=>simp[Rep] at h'
 | .tup ds,d',v,h,h'=>by
  obtain⟨p,xs,rfl,hq,hr⟩:∃p xs,v=.ref p/\SqT X.K H p xs/\dD X.K H ds xs:=by simpa only[Rep] using h
  cases d' with
  | tup es =>
   obtain⟨p',ys,e,hq',hr'⟩:∃p' ys,V.ref p=.ref p'/\SqT X.K H p' ys/\dD X.K H es ys:=by simpa only[Rep] using h'
   cases e
   rw[I.qe hq' hq] at hr'
   rw[j4 I ds es xs hr hr']
  | lst es =>
   obtain⟨p',ys,e,hq',hr'⟩:∃p' ys,V.ref p=.ref p'/\SqL X.K H p' ys/\dD X.K H es ys:=by simpa only[Rep] using h'
   cases e
   exact(rP I hq' hq).elim
  | _=>simp[Rep] at h'
theorem j4(I:Inv X pins σ H s):∀(ds es:List Dt) (xs:List V),dD X.K H ds xs->dD X.K H es xs->ds=es
 | [],es,xs,h,h'=>by
  have h:xs=[]:=by simpa[dD] using h
  subst h
  cases es with
  | nil=>rfl
  | cons e es=>simp[dD] at h'
 | d::ds,es,xs,h,h'=>by
  obtain⟨x,r,rfl,h1,h2⟩:∃x r,xs=x::r/\Rep X.K H d x/\dD X.K H ds r:=by simpa only[dD] using h
  cases es with
  | nil=>simp[dD] at h'
  | cons e es =>
   obtain⟨x',r',e',h1',h2'⟩:∃x' r',x::r=x'::r'/\Rep X.K H e x'/\dD X.K H es r':=by simpa only[dD] using h'
   cases e'
   rw[RP I d e x h1 h1',j4 I ds es r h2 h2']
end
structure Eq3(A:Around)(s:Shared)(u v:Value)(b:Bool):Prop where
 eq:EqAt A s u v b
 rc:RcAt A s u v b
 ne:RcNeAt A s u v (!b)
theorem oA(I:Inv X pins σ H s){n:Nat}{A:Around}(ih:∀(d d':Dt) (x y:V) (u v:Value),dH d<=n->Rep X.K H d x->Rep X.K H d' y->RelV x u->RelV y v->Eq3 A.in1 s u v (fD d d'))
  {ds es:List Dt} {xs ys:List V} {us vs:List Value} (hd:fJ ds<=n) (hx:dD X.K H ds xs) (hy:dD X.K H es ys) (ru:Vals xs us) (rv:Vals ys vs) :
  ∀j (h1:j<us.toArray.size) (h2:j<vs.toArray.size),EqAt A.in1 s us.toArray[j] vs.toArray[j] (fD (ds.getD j .non) (es.getD j .non)):=by
 intro j h1 h2
 have l1:j<ds.length:=by rw[hx.length,ru.length];simpa using h1
 have l2:j<es.length:=by rw[hy.length,rv.length];simpa using h2
 have e1:ds[j]?=some ds[j]:=by simp[l1]
 have e2:es[j]?=some es[j]:=by simp[l2]
 obtain⟨x,ex,rx⟩:=hx.get e1
 obtain⟨y,ey,ry⟩:=hy.get e2
 obtain⟨u,eu,qu⟩:=ru.get ex
 obtain⟨v,ev,qv⟩:=rv.get ey
 have h1':j<us.length:=by simpa using h1
 have h2':j<vs.length:=by simpa using h2
 have z1:us.toArray[j]=u:=by
  have:us[j]?=some us[j]:=by simp[h1']
  rw[this] at eu
  simpa using eu
 have z2:vs.toArray[j]=v:=by
  have:vs[j]?=some vs[j]:=by simp[h2']
  rw[this] at ev
  simpa using ev
 rw[z1,z2]
 have g1:ds.getD j .non=ds[j]:=by simp[List.getD,l1]
 have g2:es.getD j .non=es[j]:=by simp[List.getD,l2]
 rw[g1,g2]
 exact(ih _ _ x y u v (Nat.le_trans (xH e1) hd) rx ry qu qv).eq
theorem Kh(I:Inv X pins σ H s){n:Nat}{A:Around}(hu:A.units<cLine)(ih:∀(d d':Dt) (x y:V) (u v:Value),dH d<=n->Rep X.K H d x->Rep X.K H d' y->RelV x u->RelV y v->Eq3 A.in1 s u v (fD d d'))
  {ds es:List Dt} {p q:Addr} (hd:fJ ds<=n) (hp:Rep X.K H (.lst ds) (.ref p)) (hq:Rep X.K H (.lst es) (.ref q)):Eq3 A s (.ref p) (.ref q) (dU ds es):=by
 obtain⟨p',xs,e,lx,hx⟩:∃p' xs,V.ref p=.ref p'/\SqL X.K H p' xs/\dD X.K H ds xs:=by simpa only[Rep] using hp
 cases e
 obtain⟨q',ys,e,ly,hy⟩:∃q' ys,V.ref q=.ref q'/\SqL X.K H q' ys/\dD X.K H es ys:=by simpa only[Rep] using hq
 cases e
 obtain⟨us,ru,pu,_⟩:=I.list lx
 obtain⟨vs,rv,pv',_⟩:=I.list ly
 have both:RcAt A s (.ref p) (.ref q) (dU ds es)/\RcNeAt A s (.ref p) (.ref q) (!dU ds es):=by
  by_cases hl:ds.length=es.length
  ·have hsz:us.toArray.size=vs.toArray.size:=by simp[<- ru.length,<- rv.length,<- hx.length,<- hy.length,hl]
   have hz:us.toArray.size=ds.length:=by simp[<- ru.length,<- hx.length]
   have a:=RcAt.lists pu.isList pv'.isList hsz hu (oA I ih hd hx hy ru rv)
   have b:=RcNeAt.lists pu.isList pv'.isList hsz hu (oA I ih hd hx hy ru rv)
   rw[hz,qw ds es hl] at a b
   exact⟨a,b⟩
  ·have hsz:(us.toArray.size != vs.toArray.size)=true:=by simp[<- ru.length,<- rv.length,<- hx.length,<- hy.length,hl]
   rw[jD ds es hl]
   exact⟨RcAt.lists_lengths pu.isList pv'.isList hsz hu,RcNeAt.lists_lengths pu.isList pv'.isList hsz hu⟩
 refine⟨?_,both.1,both.2⟩
 by_cases hpq:p=q
 ·subst hpq
  have:ds=es:=by
   rw[I.tW ly lx] at hy
   exact j4 I ds es xs hx hy
  subst this
  rw[iH]
  exact EqAt.same _
 ·exact EqAt.of_refs hpq both.1
theorem M5(I:Inv X pins σ H s){n:Nat}{A:Around}(hu:A.units<cLine)(ih:∀(d d':Dt) (x y:V) (u v:Value),dH d<=n->Rep X.K H d x->Rep X.K H d' y->RelV x u->RelV y v->Eq3 A.in1 s u v (fD d d'))
  {ds es:List Dt} {p q:Addr} (hd:fJ ds<=n) (hp:Rep X.K H (.tup ds) (.ref p)) (hq:Rep X.K H (.tup es) (.ref q)):Eq3 A s (.ref p) (.ref q) (dU ds es):=by
 obtain⟨p',xs,e,lx,hx⟩:∃p' xs,V.ref p=.ref p'/\SqT X.K H p' xs/\dD X.K H ds xs:=by simpa only[Rep] using hp
 cases e
 obtain⟨q',ys,e,ly,hy⟩:∃q' ys,V.ref q=.ref q'/\SqT X.K H q' ys/\dD X.K H es ys:=by simpa only[Rep] using hq
 cases e
 obtain⟨us,ru,pu,_⟩:=I.tuple lx
 obtain⟨vs,rv,pv',_⟩:=I.tuple ly
 have hz:us.toArray.size=ds.length:=by simp[<- ru.length,<- hx.length]
 have hz':vs.toArray.size=es.length:=by simp[<- rv.length,<- hy.length]
 have key:((List.range (min us.toArray.size vs.toArray.size)).all (λj=>fD (ds.getD j .non) (es.getD j .non)) && us.toArray.size == vs.toArray.size)=dU ds es:=by
  rw[hz,hz']
  by_cases hl:ds.length=es.length
  ·rw[<- hl,Nat.min_self,qw ds es hl];simp
  ·rw[jD ds es hl];simp[hl]
 have a:=RcAt.tuples pu pv' hu (oA I ih hd hx hy ru rv)
 have b:=RcNeAt.tuples pu pv' hu (oA I ih hd hx hy ru rv)
 rw[key] at a b
 refine⟨?_,a,b⟩
 by_cases hpq:p=q
 ·subst hpq
  have:ds=es:=by
   rw[I.qe ly lx] at hy
   exact j4 I ds es xs hx hy
  subst this
  rw[iH]
  exact EqAt.same _
 ·exact EqAt.of_refs hpq a
end
section
variable{X:Cx}{pins:List (Addr×Obj)}{σ:St}{H:Hp}{s:Shared}
theorem gC{ds:List Dt}{x:V}(h:Rep X.K H (.lst ds) x):∃p xs,x=.ref p/\SqL X.K H p xs:=by
 obtain⟨p,xs,e,l,_⟩:∃p xs,x=.ref p/\SqL X.K H p xs/\dD X.K H ds xs:=by simpa only[Rep] using h
 exact⟨p,xs,e,l⟩
theorem gD{ds:List Dt}{x:V}(h:Rep X.K H (.tup ds) x):∃p xs,x=.ref p/\SqT X.K H p xs:=by
 obtain⟨p,xs,e,l,_⟩:∃p xs,x=.ref p/\SqT X.K H p xs/\dD X.K H ds xs:=by simpa only[Rep] using h
 exact⟨p,xs,e,l⟩
theorem BJ(I:Inv X pins σ H s){n:Nat}{A:Around}(ih:∀(d d':Dt) (x y:V) (u v:Value),dH d<n->Rep X.K H d x->Rep X.K H d' y->RelV x u->RelV y v->Eq3 A.in1 s u v (fD d d'))
  {d d':Dt} {x y:V} {u v:Value} (hu:A.units+n<cLine) (hd:dH d<=n) (hx:Rep X.K H d x) (hy:Rep X.K H d' y) (rx:RelV x u) (ry:RelV y v):Eq3 A s u v (fD d d'):=by
 have hu0:A.units<cLine:=by lia
 cases d with
 | non =>
  have e:x=V.non:=by simpa[Rep] using hx
  subst e
  cases rx
  cases d' with
  | non =>
   have e:y=V.non:=by simpa[Rep] using hy
   subst e
   cases ry
   exact⟨(EqAt.same _),RcAt.none_none , RcNeAt.none_none ⟩
  | bl b =>
   have e:y=V.bl b:=by simpa[Rep] using hy
   subst e
   cases ry
   exact⟨(EqAt.none_bool b),RcAt.none_bool b,RcNeAt.none_bool b⟩
  | int b =>
   have e:y=V.int b:=by simpa[Rep] using hy
   subst e
   obtain⟨u,rfl⟩:=ry
   exact⟨(EqAt.none_int b u),RcAt.none_int b u,RcNeAt.none_int b u⟩
  | str b =>
   have e:y=V.str b:=by simpa[Rep] using hy
   subst e
   obtain⟨u,rfl⟩:=ry
   exact⟨(EqAt.none_str b u),RcAt.none_str b u,RcNeAt.none_str b u⟩
  | lst b =>
   obtain⟨pW,xsW,rfl,lW⟩:=gC hy
   cases ry
   obtain⟨itW,_,plW,_⟩:=I.list lW
   exact⟨EqAt.none_list  plW.isList hu0,RcAt.none_list  plW.isList hu0,RcNeAt.none_list  plW.isList hu0⟩
  | tup b =>
   obtain⟨pW,xsW,rfl,lW⟩:=gD hy
   cases ry
   obtain⟨itW,_,plW,_⟩:=I.tuple lW
   exact⟨EqAt.none_tuple  plW hu0,RcAt.none_tuple  plW hu0,RcNeAt.none_tuple  plW hu0⟩
 | bl a =>
  have e:x=V.bl a:=by simpa[Rep] using hx
  subst e
  cases rx
  cases d' with
  | non =>
   have e:y=V.non:=by simpa[Rep] using hy
   subst e
   cases ry
   exact⟨(EqAt.bool_none a),RcAt.bool_none a,RcNeAt.bool_none a⟩
  | bl b =>
   have e:y=V.bl b:=by simpa[Rep] using hy
   subst e
   cases ry
   exact⟨(EqAt.bool_bool a b),RcAt.bool_bool a b,RcNeAt.bool_bool a b⟩
  | int b =>
   have e:y=V.int b:=by simpa[Rep] using hy
   subst e
   obtain⟨u,rfl⟩:=ry
   exact⟨(EqAt.bool_int a b u),RcAt.bool_int a b u,RcNeAt.bool_int a b u⟩
  | str b =>
   have e:y=V.str b:=by simpa[Rep] using hy
   subst e
   obtain⟨u,rfl⟩:=ry
   exact⟨(EqAt.bool_str a b u),RcAt.bool_str a b u,RcNeAt.bool_str a b u⟩
  | lst b =>
   obtain⟨pW,xsW,rfl,lW⟩:=gC hy
   cases ry
   obtain⟨itW,_,plW,_⟩:=I.list lW
   exact⟨EqAt.bool_list a plW.isList hu0,RcAt.bool_list a plW.isList hu0,RcNeAt.bool_list a plW.isList hu0⟩
  | tup b =>
   obtain⟨pW,xsW,rfl,lW⟩:=gD hy
   cases ry
   obtain⟨itW,_,plW,_⟩:=I.tuple lW
   exact⟨EqAt.bool_tuple a plW hu0,RcAt.bool_tuple a plW hu0,RcNeAt.bool_tuple a plW hu0⟩
 | int a =>
  have e:x=V.int a:=by simpa[Rep] using hx
  subst e
  obtain⟨t,rfl⟩:=rx
  cases d' with
  | non =>
   have e:y=V.non:=by simpa[Rep] using hy
   subst e
   cases ry
   exact⟨(EqAt.int_none a t),RcAt.int_none a t,RcNeAt.int_none a t⟩
  | bl b =>
   have e:y=V.bl b:=by simpa[Rep] using hy
   subst e
   cases ry
   exact⟨(EqAt.int_bool a t b),RcAt.int_bool a t b,RcNeAt.int_bool a t b⟩
  | int b =>
   have e:y=V.int b:=by simpa[Rep] using hy
   subst e
   obtain⟨u,rfl⟩:=ry
   exact⟨(EqAt.int_int a t b u),RcAt.int_int a t b u,RcNeAt.int_int a t b u⟩
  | str b =>
   have e:y=V.str b:=by simpa[Rep] using hy
   subst e
   obtain⟨u,rfl⟩:=ry
   exact⟨(EqAt.int_str a t b u),RcAt.int_str a t b u,RcNeAt.int_str a t b u⟩
  | lst b =>
   obtain⟨pW,xsW,rfl,lW⟩:=gC hy
   cases ry
   obtain⟨itW,_,plW,_⟩:=I.list lW
   exact⟨EqAt.int_list a t plW.isList hu0,RcAt.int_list a t plW.isList hu0,RcNeAt.int_list a t plW.isList hu0⟩
  | tup b =>
   obtain⟨pW,xsW,rfl,lW⟩:=gD hy
   cases ry
   obtain⟨itW,_,plW,_⟩:=I.tuple lW
   exact⟨EqAt.int_tuple a t plW hu0,RcAt.int_tuple a t plW hu0,RcNeAt.int_tuple a t plW hu0⟩
 | str a =>
  have e:x=V.str a:=by simpa[Rep] using hx
  subst e
  obtain⟨t,rfl⟩:=rx
  cases d' with
  | non =>
   have e:y=V.non:=by simpa[Rep] using hy
   subst e
   cases ry
   exact⟨(EqAt.str_none a t),RcAt.str_none a t,RcNeAt.str_none a t⟩
  | bl b =>
   have e:y=V.bl b:=by simpa[Rep] using hy
   subst e
   cases ry
   exact⟨(EqAt.str_bool a t b),RcAt.str_bool a t b,RcNeAt.str_bool a t b⟩
  | int b =>
   have e:y=V.int b:=by simpa[Rep] using hy
   subst e
   obtain⟨u,rfl⟩:=ry
   exact⟨(EqAt.str_int a t b u),RcAt.str_int a t b u,RcNeAt.str_int a t b u⟩
  | str b =>
   have e:y=V.str b:=by simpa[Rep] using hy
   subst e
   obtain⟨u,rfl⟩:=ry
   exact⟨(EqAt.str_str a t b u),RcAt.str_str a t b u,RcNeAt.str_str a t b u⟩
  | lst b =>
   obtain⟨pW,xsW,rfl,lW⟩:=gC hy
   cases ry
   obtain⟨itW,_,plW,_⟩:=I.list lW
   exact⟨EqAt.str_list a t plW.isList hu0,RcAt.str_list a t plW.isList hu0,RcNeAt.str_list a t plW.isList hu0⟩
  | tup b =>
   obtain⟨pW,xsW,rfl,lW⟩:=gD hy
   cases ry
   obtain⟨itW,_,plW,_⟩:=I.tuple lW
   exact⟨EqAt.str_tuple a t plW hu0,RcAt.str_tuple a t plW hu0,RcNeAt.str_tuple a t plW hu0⟩
 | lst a =>
  obtain⟨pU,xsU,rfl,lU⟩:=gC hx
  cases rx
  obtain⟨itU,_,plU,_⟩:=I.list lU
  cases d' with
  | non =>
   have e:y=V.non:=by simpa[Rep] using hy
   subst e
   cases ry
   exact⟨EqAt.list_none  plU.isList hu0,RcAt.list_none  plU.isList hu0,RcNeAt.list_none  plU.isList hu0⟩
  | bl b =>
   have e:y=V.bl b:=by simpa[Rep] using hy
   subst e
   cases ry
   exact⟨EqAt.list_bool b plU.isList hu0,RcAt.list_bool b plU.isList hu0,RcNeAt.list_bool b plU.isList hu0⟩
  | int b =>
   have e:y=V.int b:=by simpa[Rep] using hy
   subst e
   obtain⟨u,rfl⟩:=ry
   exact⟨EqAt.list_int b u plU.isList hu0,RcAt.list_int b u plU.isList hu0,RcNeAt.list_int b u plU.isList hu0⟩
  | str b =>
   have e:y=V.str b:=by simpa[Rep] using hy
   subst e
   obtain⟨u,rfl⟩:=ry
   exact⟨EqAt.list_str b u plU.isList hu0,RcAt.list_str b u plU.isList hu0,RcNeAt.list_str b u plU.isList hu0⟩
  | lst b =>
   obtain⟨pW,xsW,rfl,lW⟩:=gC hy
   cases ry
   obtain⟨itW,_,plW,_⟩:=I.list lW
   have hd:fJ a+1<=n:=by simpa only[dH] using hd
   exact Kh I (n:=n-1) hu0 (λd d' x y u v h=>ih d d' x y u v (by lia)) (by lia) hx hy
  | tup b =>
   obtain⟨pW,xsW,rfl,lW⟩:=gD hy
   cases ry
   obtain⟨itW,_,plW,_⟩:=I.tuple lW
   exact⟨EqAt.list_tuple plU.isList plW hu0,RcAt.list_tuple plU.isList plW hu0,RcNeAt.list_tuple plU.isList plW hu0⟩
 | tup a =>
  obtain⟨pU,xsU,rfl,lU⟩:=gD hx
  cases rx
  obtain⟨itU,_,plU,_⟩:=I.tuple lU
  cases d' with
  | non =>
   have e:y=V.non:=by simpa[Rep] using hy
   subst e
   cases ry
   exact⟨EqAt.tuple_none  plU hu0,RcAt.tuple_none  plU hu0,RcNeAt.tuple_none  plU hu0⟩
  | bl b =>
   have e:y=V.bl b:=by simpa[Rep] using hy
   subst e
   cases ry
   exact⟨EqAt.tuple_bool b plU hu0,RcAt.tuple_bool b plU hu0,RcNeAt.tuple_bool b plU hu0⟩
  | int b =>
   have e:y=V.int b:=by simpa[Rep] using hy
   subst e
   obtain⟨u,rfl⟩:=ry
   exact⟨EqAt.tuple_int b u plU hu0,RcAt.tuple_int b u plU hu0,RcNeAt.tuple_int b u plU hu0⟩
  | str b =>
   have e:y=V.str b:=by simpa[Rep] using hy
   subst e
   obtain⟨u,rfl⟩:=ry
   exact⟨EqAt.tuple_str b u plU hu0,RcAt.tuple_str b u plU hu0,RcNeAt.tuple_str b u plU hu0⟩
  | lst b =>
   obtain⟨pW,xsW,rfl,lW⟩:=gC hy
   cases ry
   obtain⟨itW,_,plW,_⟩:=I.list lW
   exact⟨EqAt.tuple_list plU plW.isList hu0,RcAt.tuple_list plU plW.isList hu0,RcNeAt.tuple_list plU plW.isList hu0⟩
  | tup b =>
   obtain⟨pW,xsW,rfl,lW⟩:=gD hy
   cases ry
   obtain⟨itW,_,plW,_⟩:=I.tuple lW
   have hd:fJ a+1<=n:=by simpa only[dH] using hd
   exact M5 I (n:=n-1) hu0 (λd d' x y u v h=>ih d d' x y u v (by lia)) (by lia) hx hy
end
section
variable{X:Cx}{pins:List (Addr×Obj)}{σ:St}{H:Hp}{s:Shared}
theorem eq3(I:Inv X pins σ H s):∀(n:Nat) (A:Around) (d d':Dt) (x y:V) (u v:Value),A.units+n<cLine->dH d<=n->Rep X.K H d x->Rep X.K H d' y->RelV x u->RelV y v->Eq3 A s u v (fD d d'):=by
 intro n
 induction n with
 | zero=>exact λA d d' x y u v hu hd hx hy rx ry=>BJ I (n:=0) (λ_ _ _ _ _ _ h=>absurd h (Nat.not_lt_zero _)) hu hd hx hy rx ry
 | succ n ih=>exact λA d d' x y u v hu hd hx hy rx ry=>BJ I (n:=n+1) (λd d' x y u v h hx hy rx ry=>ih A.in1 d d' x y u v (by show A.units+1+n<cLine;lia) (Nat.le_of_lt_succ h) hx hy rx ry) hu hd hx hy rx ry
end
section
variable{X:Cx}
theorem RQ{k:Nat}(hr:Room k X.A):OpR X (compareOp .Eq) (λx y H Q=>∃d d',Rep X.K H d x/\Rep X.K H d' y/\dH d<=100/\Q (.bl (fD d d')) H):=by
 intro pins s σ H x y v u Q I rx ry h
 obtain⟨d,d',h1,h2,hd,q⟩:=h
 exact(eq3 I 100 X.A d d' x y v u (by have:=hr.un;lia) hd h1 h2 rx ry).rc X.prog X.w X.xe _ ⟨.bl _,H,I,rfl,q⟩
theorem RT{k:Nat}(hr:Room k X.A):OpR X (compareOp .NotEq) (λx y H Q=>∃d d',Rep X.K H d x/\Rep X.K H d' y/\dH d<=100/\Q (.bl (!fD d d')) H):=by
 intro pins s σ H x y v u Q I rx ry h
 obtain⟨d,d',h1,h2,hd,q⟩:=h
 exact(eq3 I 100 X.A d d' x y v u (by have:=hr.un;lia) hd h1 h2 rx ry).ne X.prog X.w X.xe _ ⟨.bl _,H,I,rfl,q⟩
end
end L2
namespace L2
open PySem PySem.Spec PyProof.Rows
def isW:V->Bool
 | .int _=>true
 | _=>false
def Zv:V->Bool
 | .int _=>true
 | .bl _=>true
 | _=>false
def isB:V->Bool
 | .bl _=>true
 | _=>false
def isS:V->Bool
 | .str _=>true
 | _=>false
theorem M6(x:V):isW x=(Zv x && !isB x):=by cases x <;> rfl
section
variable{K:W.Frag}{H H':Hp}{x:V}{n:String}
theorem M7(h:dR K H x (.type n)):rN K (.type n) (.ty "int")=some (Zv x):=by cases h <;> rfl
theorem oE(h:dR K H x (.type n)):rN K (.type n) (.ty "bool")=some (isB x):=by cases h <;> rfl
theorem V_(h:dR K H x (.type n)):rN K (.type n) (.ty "str")=some (isS x):=by cases h <;> rfl
theorem sV(h:dR K H x (.type n)):rN K (.type n) (.ty "list")=some (n == "list"):=by cases h <;> rfl
theorem oF(h:dR K H x (.type n)):rN K (.type n) (.ty "tuple")=some (n == "tuple"):=by cases h <;> rfl
theorem dR.same{t:Value}(e:Same H H')(h:dR K H x t):dR K H' x t:=by
 cases h with
 | non=>exact .non
 | bl b=>exact .bl b
 | int i=>exact .int i
 | str y=>exact .str y
 | flt y=>exact .flt y
 | lst q=>exact .lst (e _ _ q)
 | frz q=>exact .frz (e _ _ q)
 | tup q=>exact .tup (e _ _ q)
 | dK q=>exact .dK (e _ _ q)
 | dT q=>exact .dT (e _ _ q)
 | ins q c a b d m=>exact .ins (e _ _ q) c a b d m
end
theorem Zw{α:Type}{c:α}{cs:List α}:atI (c::cs) (0:Int)=some c:=cD (j:=0) rfl
theorem M8{α:Type}{xs:List α}{i:Int}(h0:0<=i)(h1:i<xs.length):∃v,atI xs i=some v/\v∈xs:=by
 obtain⟨j,rfl⟩:∃j:Nat,i=(j:Int):=⟨i.toNat,by lia⟩
 have hj:j<xs.length:=by lia
 exact⟨xs[j],cD (by simp[hj]),List.getElem_mem hj⟩
theorem Same.new{H:Hp}{p:Addr}{o:HO}(h:H p=none):Same H (upd H p o):=λb u e=>by
 rw[bZ (cj e h)]
 exact e
theorem Same.tup{K:W.Frag}{H H':Hp}{a:Addr}{xs:List V}(e:Same H H')(h:SqT K H a xs):SqT K H' a xs:=by
 rcases h with(h|⟨o,h⟩)|h
 ·exact .inl (.inl (e _ _ h))
 ·exact .inl (.inr ⟨o,e _ _ h⟩)
 ·exact .inr h
def Off(p:Addr)(H H':Hp):Prop:=∀b,b≠p->H' b=H b
theorem Off.trans{p:Addr}{H H1 H2:Hp}(a:Off p H H1)(b:Off p H1 H2):Off p H H2:=λc h=>(b c h).trans (a c h)
theorem Off.upd{p:Addr}{H:Hp}{o:HO}:Off p H (upd H p o):=λ_ h=>bZ h
theorem cI{n:Nat}(h:n<=1000000):n<=sizeLine:=Nat.le_trans h (by decide)
theorem RV{P:Program}{w:World}{K:W.Frag}{mg:Str->Option Value}{base:Heap}{CX:CXT}{x:Str}{ps:List Str}{sp:Sp}{k:Nat}{st:Stmt}{N:List Str}{f:Addr}{fd:FuncData}
  (F:Fun K x x st f fd) (S:aW N ps (aG st)) (len:∀vs H Q E,sp vs H Q E->vs.length=ps.length)
  (hbody:∀(cdv:Value) (A:Around) (outer:List Env) (s:Shared) (H:Hp) (vs:List V) (Q:VK) (E:XK),Room k (A.deeper (envOfC x (aG st) s.heap.objs.size f cdv))->sp vs H Q E ->
   ∃t,PSs (sI CX P w K mg base N x (aG st) f cdv A outer s H E).nox (dM st) t/\t { nx:=λ_ H'=>Q .non H',rt:=Q } (start N vs) H):jd P w K mg base CX (k+1) f fd ps sp:=by
 obtain⟨oc,od,kV,doc,pm,an,cdv,ct,osl,rfl,lk,hcd⟩:=F.ex
 refine Bq lk hcd S len λA outer s H vs Q E hr hsp=>?_
 obtain⟨t,h,q⟩:=hbody cdv A outer s H vs Q E hr hsp
 exact⟨t,h.nox,q⟩
structure M9(B newId initId:String)(bm:List Value):Prop where
 call:ExcCallFacts B newId initId
 split:splitId newId=some (B, "__new__")
 kind:builtinKind newId=some .builtinFn
 row:Manifest.signature? newId=some ⟨.any,B,B,.cls,[⟨"args", .varPos,false⟩,⟨"kwargs", .varKw,false⟩]⟩
 hasB:bm.contains (.type B)=true
 adt:bm.contains (.type "BaseException")=true
 noA:bm.contains (.type "AttributeError")=false
 noN:bm.contains (.type "NameError")=false
 canon:Manifest.canonical newId=Manifest.canonical "BaseException.__new__"
theorem M9.under{B newId initId:String}{bm:List Value}(F:M9 B newId initId bm)(R:Addr):M9 B newId initId (.ref R::bm) :=
 ⟨F.call,F.split,F.kind,F.row,by rw[List.contains_cons,F.hasB,Bool.or_true],by rw[List.contains_cons,F.adt,Bool.or_true],by rw[List.contains_cons,F.noA];rfl,by rw[List.contains_cons,F.noN];rfl,F.canon⟩
section
variable{prog:Program}{w:World}{M:Model}{A:Around}{E:Value->Shared->Prop}{R:Result->Shared->Prop}{h:Heap}{g:Array GenState}{d:Drawn}{t:Nat}{os:OsState}
variable{nm q:Str}{C N:Addr}{bs bm:List Value}{hdct:Bool}{sn:List Str}{sub:List Value}{ab:Bool}{col:Option Bool}{dd:Option Addr}{k0 k1 k2 k3 k5:Option Value}{B newId initId:String}
theorem M9.has(F:M9 B newId initId bm):(Value.ref C::bm).contains (.type B)=true:=by rw[List.contains_cons,F.hasB,Bool.or_true]
end
def Zx(e C:Addr)(dx:Option Addr):HO:=.ext λh=>∃t sl,h.get? e=some { cls:=.ref C,dict:=dx,data:=.fields #[.ref t,.none,.none,.none,.bool false,.none],slots:=sl }
def Wa(dx:Addr)(fs:List (Str×V)):HO:=.ext λh=>∃mA,h.Ns1 dx mA/\(∀f,mR (fs.lookup f) (mA f))/\PySem.Within mA (fs.map (·.1))/\fs.length<=100
section
variable{X:Cx}{CX:CXT}{k m:Nat}{f C:Addr}{fd:FuncData}{ps:List Str}{sp:Sp}{E:XK}{x:Str}{p pos:Pos}{e:Expr}{es:List Expr}{t:TA}{bm:List Value}
structure adu(K:W.Frag)(C:Addr):Prop where
 ga:W.findIn K (.ref C) "__getattribute__" = some (some (.builtin "BaseException.__getattribute__"))
 gb:W.findIn K (.ref C) "__getattr__" = some none
 mb:W.mroIn K C (.type "BaseException")=some true
 hd:W.hasDictIn K C=true
end
mutual
def pyD:Dt->PyData
 | .non=>.none
 | .bl b=>.bool b
 | .int i=>.int i
 | .str x=>.str x
 | .lst xs=>.list (Wb xs)
 | .tup xs=>.tuple (Wb xs)
def Wb:List Dt->List PyData
 | []=>[]
 | x::xs=>pyD x::Wb xs
end
structure Zy(K:W.Frag)(C R:Addr):Prop where
 g:adu K C
 mro:(W.clsIn K C).map (·.mro)=some [.ref C,.ref R,.type "ValueError", .type "Exception", .type "BaseException", .type "object"]
 ty:W.typeIn K (.ref C)=some (.type "type")
 ha:W.findIn K (.ref C) "__class__" = some (some (.builtin "object.__class__"))
 hn:W.specialIn K (.builtin "object.__class__") "__get__" = some (some (.builtin "getset_descriptor.__get__"))
 tk:W.takesIn K (.builtin "object.__class__")=some true
section
variable{prog:Program}{w:World}{A:Around}{E:Value->Shared->Prop}{s:Shared}{K:W.Frag}{e C R D:Addr}{oe:Obj}{odo:Option Obj}
theorem Zy.in(G:Zy K C R)(b:Value):W.mroIn K C b=some ([Value.ref C,.ref R,.type "ValueError", .type "Exception", .type "BaseException", .type "object"].contains b):=by
 obtain⟨cd,hc,hm⟩:=Option.map_eq_some_iff.mp G.mro
 unfold W.mroIn
 rw[hc,Option.bind_some,hm]
 rfl
end
def ExcAt(H:Hp)(x C:Addr)(fs:List (Str×V)):Prop:=(fs=[]/\H x=some (Zx x C none))\/∃dx,H x=some (Zx x C (some dx))/\H dx=some (Wa dx fs)/\dx≠x
theorem ExcAt.same{H H':Hp}{x C:Addr}{fs:List (Str×V)}(e:Same H H')(h:ExcAt H x C fs):ExcAt H' x C fs:=by
 rcases h with⟨a,b⟩|⟨dx,a,b,c⟩
 ·exact .inl ⟨a,e _ _ b⟩
 ·exact .inr ⟨dx,e _ _ a,e _ _ b,c⟩
section
variable{X:Cx}
theorem FZ:OpR X (binaryOp .Mult) (λx y H Q=>∃z n,x=.str z/\y=.int n/\MulOk z n/\Q (.str (Txt.mul z n)) H):=by
 intro pins s σ H x y v u Q I rx ry h
 obtain⟨z,n,rfl,rfl,ok,q⟩:=h
 obtain⟨t,rfl⟩:=rx
 obtain⟨t',rfl⟩:=ry
 exact SB.mul ok λt'' k=>⟨.str _,H,I.tok _,⟨_,rfl⟩,q⟩
end
structure Shm(m d:Nat)(x:PyData):Prop where
 sh:x.showable=true
 ln:x.shown.length<=m
 dp:x.depth<=d
structure New(H H':Hp)(p:Addr)(o:HO):Prop where
 s:Same H H'
 e:H' p=some o
 n:∀a u,H a=some u->a≠p
theorem New.mk'{H:Hp}{p:Addr}{o:HO}(h:H p=none):New H (upd H p o) p o:=⟨Same.new h,cA,λa u q=>cj q h⟩
section
variable{X:Cx}{es:List Expr}{t:TA}{pos:Pos}
def M_(t:TA):TE:=λσ H Q=>t σ H λxs H1=>xs.length<=sizeLine/\∀p H',New H1 H' p (.tup xs)->Q (.ref p) H'
def Nb(t:TA):TE:=λσ H Q=>t σ H λxs H1=>xs.length<=sizeLine/\∀p H',New H1 H' p (.lst xs)->Q (.ref p) H'
theorem cU{x1}(h:PA X es t):PE X (.Tuple es x1 pos) (M_ t):=by
 intro pins s σ H Q I hq
 refine wpAny_Tuple_spliced (thn (h pos pins s σ H _ I hq) λus s1 ⟨xs,H1,I1,r,z,q⟩=>⟨by rw[<- r.length];exact z,?_⟩)
 have hf:H1 s1.heap.objs.size=none:=I1.hok.fresh (Nat.le_refl _)
 refine⟨.ref s1.heap.objs.size,upd H1 s1.heap.objs.size (.tup xs),I1.laid (t':=s1.toks) (λb u e=>Heap.get?_push_of_some _ e) (Nat.le_refl _) ?_,rfl,q _ _ (.mk' hf)⟩
 exact⟨z,us,r,⟨_,Heap.get?_push_size _ rfl,rfl,_,rfl⟩⟩
theorem bV(h:PA X es t):PE X (.List es pos) (Nb t):=by
 intro pins s σ H Q I hq
 refine wpAny_List_spliced (thn (h pos pins s σ H _ I hq) λus s1 ⟨xs,H1,I1,r,z,q⟩=>⟨by rw[<- r.length];exact z,?_⟩)
 have hf:H1 s1.heap.objs.size=none:=I1.hok.fresh (Nat.le_refl _)
 refine⟨.ref s1.heap.objs.size,upd H1 s1.heap.objs.size (.lst xs),I1.laid (t':=s1.toks) (λb u e=>Heap.get?_push_of_some _ e) (Nat.le_refl _) ?_,rfl,q _ _ (.mk' hf)⟩
 exact⟨z,us,0,r,Heap.get?_push_size _ rfl⟩
def Nf:R2:=λx y H Q=>∃l b xs zs,x=.ref l/\y=.ref b/\H l=some (.lst xs)/\H b=some (.lst zs)/\xs.length+zs.length<=sizeLine/\∀p H',New H H' p (.lst (xs++zs))->Q (.ref p) H'
theorem dW:OpR X (binaryOp .Add) Nf:=by
 intro pins s σ H x y v u Q I rx ry h
 obtain⟨l,b,xs,zs,e1,e2,hH,hB,hz,q⟩:=h
 exact V7 pins s σ H x y v u Q I rx ry ⟨l,b,xs,zs,e1,e2,hH,hB,hz,λp hp=>q p _ (.mk' hp)⟩
def Ng:R2:=λx y H Q=>∃l k xs,x=.ref l/\y=.int k/\H l=some (.lst xs)/\-(2 ^ 63)<=k/\k<2 ^ 63/\xs.length*k.toNat<=sizeLine/\∀p H',New H H' p (.lst (List.replicate k.toNat xs).flatten)->Q (.ref p) H'
theorem RW:OpR X (binaryOp .Mult) Ng:=by
 intro pins s σ H x y v u Q I rx ry h
 obtain⟨l,k,xs,e1,e2,hH,h1,h2,hz,q⟩:=h
 exact V8 pins s σ H x y v u Q I rx ry ⟨l,k,xs,e1,e2,hH,h1,h2,hz,λp hp=>q p _ (.mk' hp)⟩
def HD:V->List V->Hp->VK->Prop:=λx vs H Q=>∃l xs y,x=.ref l/\vs=[y]/\H l=some (.lst xs)/\xs.length<sizeLine/\∀H',Off l H H'->H' l=some (.lst (xs++[y]))->Q .non H'
theorem Ga:MtM X "list.append" HD:=by
 intro pins s σ H x vs v us Q I rx rv h
 obtain⟨l,xs,y,e1,e2,hH,hz,q⟩:=h
 exact xu pins s σ H x vs v us Q I rx rv ⟨l,xs,y,e1,e2,hH,hz,q _ Off.upd cA⟩
theorem cX{o e:Expr}{to te:TE}{apos cpos:Pos}(ho:PE X o to)(he:PE X e te)(hbase:attributeBase o "append" X.env (eval o X.env)=eval o X.env:=by rfl)
  (hfew:((backTo cpos (starEach [e] X.env)).all (λx=>!x.1) && (backToKw cpos (keywordEach [] X.env)).all (λx=>x.1.isSome)
   && decide (([e]:List Expr).length+([]:List Keyword).length+(if ([]:List Keyword).isEmpty then 0 else 1)<30))=true:=by rfl)
  (hline:(apos.endLine == cpos.line)=true:=by rfl) (hs:starEach [e] X.env=(false,eval e X.env)::starEach [] X.env:=by rfl) :
  PE X (.Call (.Attribute o "append" apos) [e] [] cpos) (tBM X.K "list" HD to (nT te uf)) :=
 Br PySem.F.plainAttrs_list PySem.F.slot_list_append PySem.F.type_list_append Ga ho (aj he ao hs) hbase hfew hline hs (by rfl)
end
def Tel(t:TE)(σ:St)(H:Hp)(v:V):Prop:=∀Q:VK,Q v H->t σ H Q
def Nh(t:TA)(σ:St)(H:Hp)(vs:List V):Prop:=∀Q:List V->Hp->Prop,Q vs H->t σ H Q
section
variable{σ σ':St}{H:Hp}{v x y:V}{vs:List V}{t ta tb:TE}{tr:TA}{i j:Nat}{a C:Addr}{f g:Str}{fs:List (Str×V)}{Q:VK}{D:Ends}{s u:TS}{K:W.Frag}{tg:TG}{c:TT}
theorem Wc(h:σ[i]?=some (some v)):Tel (eO i) σ H v:=λQ q=>⟨v,h,q⟩
theorem adv:Tel (tC v) σ H v:=λQ q=>q
theorem HF:Nh uf σ H []:=λQ q=>q
theorem BK(h:Tel t σ H v)(k:Nh tr σ H vs):Nh (nT t tr) σ H (v::vs):=λQ q=>h _ (k _ q)
theorem RX{Q:List V->Hp->Prop}(h:t σ H λx H1=>tr σ H1 λxs H2=>Q (x::xs) H2):nT t tr σ H Q:=h
theorem Wd{Q:List V->Hp->Prop}(h:Q [] H):uf σ H Q:=h
theorem Wf(h:s { D with nx:=u D } σ H):Vx s u D σ H:=h
theorem Zz{nx bk ct:St->Hp->Prop}{rt:VK}(h:nx σ H):(Ends.mk nx rt bk ct).nx σ H:=h
theorem RZ(h:D.nx σ H):LC D σ H:=h
theorem Wg(h:t σ H λx H1=>tg x σ H1 D.nx):LR t tg D σ H:=h
theorem R0(h:tr σ H λxs H1=>xs.length<=sizeLine/\∀p H',New H1 H' p (.tup xs)->Q (.ref p) H'):M_ tr σ H Q:=h
theorem R3(h:tr σ H λxs H1=>xs.length<=sizeLine/\∀p H',New H1 H' p (.lst xs)->Q (.ref p) H'):Nb tr σ H Q:=h
theorem ZC{r:R2}(h:ta σ H λx H1=>tb σ H1 λy H2=>r x y H2 Q):tOp r ta tb σ H Q:=h
theorem Wh(h:t σ H D.rt):Vy t D σ H:=h
theorem R4(h:t σ H λ_ H1=>D.nx σ H1):LK t D σ H:=h
theorem ZD(h:c σ H λb H1=>if b=true then s D σ H1 else u D σ H1):Vz c s u D σ H:=h
theorem R5{Q:Bool->Hp->Prop}(h:t σ H λx H'=>∃k,x=.bl k/\Q k H'):Ho t σ H Q:=h
theorem adw{Q:Bool->Hp->Prop}(h:t σ H λx H'=>∃k,x=.bl k/\Q k H'):tB t σ H Q:=h
theorem ZF{r:List V->Hp->VK->Prop}(h:tr σ H λvs H1=>r vs H1 Q):tCB r tr σ H Q:=h
end
section
variable{σ:St}{H:Hp}{te:TE}{tr:TA}{Q:VK}{c:TT}{fr:List Nat}{fvs:St}{n:Nat}
theorem ux{i:Nat}{x:V}(h:(fZ 0 n)[i]?=some x)(hi:i<n):x=.int i:=by
 have:(fZ 0 n)[i]?=some (V.int (0+(i:Int))):=by simp[fZ,hi]
 rw[this] at h
 have:=Option.some.inj h
 rw[<- this,Int.zero_add]
theorem zQ{F:Nat->V}(hr:Nh tr σ H [.int (n:Int)])(hn:n<2 ^ 62)(hz:n<=1000000)(hf:(fr.map λi=>(σ[i]?).getD none)=fvs)
  (turn:∀i H',i<n->Same H H'->Tel te (some (.int i)::fvs) H' (F i)) (k:∀p H',New H H' p (.lst ((List.range n).map F))->Q (.ref p) H'):jm (Bl tr) 1 fr (bK 0) mJ te σ H Q:=by
 refine hr _ ⟨n,rfl,by lia,by lia,λacc hacc=>?_⟩
 subst hf
 rw[Int.toNat_natCast]
 refine ou rO (λi ys H'=>H'=upd H acc (.lst ys)/\ys=(List.range i).map F) ⟨rfl,rfl⟩ (λi ys H' _ h=>⟨trivial,by rw[h.1];exact cA⟩) ?_ ?_
 ·rintro i x tv ys H' hx hi ⟨rfl,rfl⟩ htv
  obtain⟨tv0,rfl⟩:∃a,tv=[a]:=List.length_eq_one_iff.mp htv
  have hi':i<n:=by simpa[fZ] using hi
  obtain rfl:=ux hx hi'
  unfold bK mJ
  dsimp only
  rw[if_pos rfl]
  refine turn i _ hi' (Same.new hacc) _ ⟨?_,cA,?_⟩
  ·rw[List.length_map,List.length_range]
   exact Nat.lt_of_lt_of_le hi' (cI hz)
  ·exact jV.next (tv:=[some (V.int i)]) hi ⟨Rj,by rw[List.range_succ,List.map_append];rfl⟩ rfl
 ·rintro ys H' ⟨rfl,rfl⟩
  rw[show (fZ 0 n).length=n by simp[fZ]]
  exact k acc _ (.mk' hacc)
end
def Ni(a C:Addr)(dx:Option Addr):HO:=.ext λh=>∃oe vs,h.get? a=some oe/\oe.cls=.ref C/\oe.dict=dx/\oe.data=.fields vs
def Gb(H:Hp)(x C:Addr)(fs:List (Str×V)):Prop:=(fs=[]/\H x=some (Ni x C none))\/∃dx,H x=some (Ni x C (some dx))/\H dx=some (Wa dx fs)/\dx≠x
theorem Gb.same{H H':Hp}{x C:Addr}{fs:List (Str×V)}(e:Same H H')(h:Gb H x C fs):Gb H' x C fs:=by
 rcases h with⟨a,b⟩|⟨dx,a,b,c⟩
 ·exact .inl ⟨a,e _ _ b⟩
 ·exact .inr ⟨dx,e _ _ a,e _ _ b,c⟩
theorem Gb.mk{H:Hp}{a C dx:Addr}{fs:List (Str×V)}(hd:H dx=some (Wa dx fs))(ha:H a=none):Gb (upd H a (Ni a C (some dx))) a C fs :=
 .inr ⟨dx,cA,by rw[bZ (cj hd ha)];exact hd,cj hd ha⟩
structure Nj(X:Cx)(pins:List (Addr×Obj))(σ:St)(H:Hp)(s:Shared)(a C:Addr)(dx:Option Addr):Prop where
 I:Inv X pins σ H s
 ha:H a=some (Ni a C dx)
 tb:∃T oe vs oT ts,s.heap.get? a=some oe/\oe.data=.fields vs/\vs[1]?=some (.ref T)/\s.heap.get? T=some oT/\oT.data=.fields ts/\3<ts.size/\H T=none/\T≠X.env.locals/\(T∈X.ex\/X.s₀.heap.objs.size<=T)/\(∀x c,X.env.cells.lookup x=some c->c≠T)/\∀p∈X.pn++pins,p.1≠T
section
variable{X:Cx}{x n:Str}{d:Addr}{i:Nat}{b₀:Stmt}{suite:List Stmt}{rest:List ExceptHandler}{th:Addr->TS}{tr:THd}{p pos:Pos}
theorem Nj.type{pins:List (Addr×Obj)}{σ:St}{H:Hp}{s:Shared}{a C:Addr}{dx:Option Addr}(c:Nj X pins σ H s a C dx):W.Looks (model X.prog X.w) s.heap (typeOf (.ref a)) (.ref C):=by
 obtain⟨⟨oe,vs,ge,gc,gd,gf⟩,_,_⟩:dg X.prog X.w H s.heap a (Ni a C dx):=c.I.hok a _ c.ha
 exact gc▸(W.Looks.ld ge).andThen .now
end
def jE(K:W.Frag):List V->Hp->VK->Prop:=λxs H Q=>∃x d t b,xs=[x,d]/\dR K H x t/\rN K t d=some b/\Q (.bl b) H
theorem cV{X:Cx}:eH X (.builtin "isinstance") (jE X.K):=call_isinstance
theorem HJ:∀{xs:List V} {us:List Value},xs.length=us.length->(∀(j:Nat) (x:V) (u:Value),xs[j]?=some x->us[j]?=some u->RelV x u)->Vals xs us
 | [],[],_,_=>.nil
 | [],_::_,h,_=>nomatch h
 | _::_,[],h,_=>nomatch h
 | x::xs,u::us,h,f=>.cons (f 0 x u rfl rfl) (HJ (Nat.succ.inj h) λj y z e1 e2=>f (j+1) y z (by simpa using e1) (by simpa using e2))
section
variable{X:Cx}{pins:List (Addr×Obj)}{σ:St}{H:Hp}{s:Shared}{h':Heap}{t':Nat}{ch:List Addr}
theorem Inv.zR(I:Inv X pins σ H s)(hf:∀b∈ch,jk X pins H b)(k:∀b o,b ∉ ch->s.heap.get? b=some o->h'.get? b=some o):Inv X pins σ H { s with heap:=h',toks:=t' }:=by
 have off:∀b u,H b=some u->b ∉ ch:=λb u e z=>by
  rw[(hf b z).1] at e
  cases e
 refine I.step (g':=s.gens) (d':=s.drawn) (ch:=ch) (λb hb=>?_) (λb o _ _ hc e _=>k b o hc e) (λb o _ _ hc e _=>⟨o.slots,k b o hc e⟩) (λ_ _ _ _ n=>n)
  (λb o hc e=>⟨o,k b o hc e⟩) (λ_ _ e=>e) (λ_ _ _ e=>e) (λb ps e=>⟨#[],by rw[e];simp⟩) (λm hm=>?_) (λb u e=>?_) I.bare
 ·obtain⟨_,f1,_,f3,f4,f5⟩:=hf b hb
  exact⟨f3,f1,f4,f5⟩
 ·obtain⟨o,es,ep,ho,r⟩:=hm
  exact⟨o,es,ep,k _ o (λz=>(hf _ z).2.1 rfl) ho,r⟩
 ·refine(I.hok b u e).stay (λc v hc q=>k c v ?_ q) (λ_ q=>q) λ_ _ q=>q
  rcases hc with z|z
  ·rw[z];exact off b u e
  ·exact off c _ z
theorem Inv.uy{a:Addr}{o:HO}(I:Inv X pins σ H s)(hf:∀b∈ch,jk X pins H b)(k:∀b o,b ∉ ch->s.heap.get? b=some o->h'.get? b=some o)(ha:s.heap.objs.size<=a)
  (new:dg X.prog X.w (upd H a o) h' a o):Inv X pins σ (upd H a o) { s with heap:=h',toks:=t' }:=by
 have I1:Inv X pins σ H { s with heap:=h',toks:=t' }:=I.zR hf k
 have hn:H a=none:=I.hok.fresh ha
 refine I.step (g':=s.gens) (d':=s.drawn) (ch:=ch) (λb hb=>?_) (λb u _ _ hc e _=>k b u hc e) (λb u _ _ hc e _=>⟨u.slots,k b u hc e⟩)
  (λb u _ e n=>by rw[bZ (Nat.ne_of_lt (Nat.lt_of_lt_of_le (Heap.lt_size e) ha))];exact n)
  (λb u hc e=>⟨u,k b u hc e⟩) (λb xs e=>by rw[bZ (cj e hn)];exact e) (λb u x e=>by rw[bZ (cj e hn)];exact e)
  (λb ps e=>⟨#[],by rw[bZ (cj e hn),e];simp⟩) (λm hm=>?_) (λb u e=>?_) I.bare
 ·obtain⟨_,f1,_,f3,f4,f5⟩:=hf b hb
  exact⟨f3,f1,f4,f5⟩
 ·obtain⟨u,es,ep,ho,r⟩:=hm
  exact⟨u,es,ep,k _ u (λz=>(hf _ z).2.1 rfl) ho,r⟩
 ·by_cases hb:b=a
  ·subst hb
   rw[cA] at e
   cases e
   exact new
  ·rw[bZ hb] at e
   exact(I1.hok b u e).stay (λ_ _ _ q=>q) (λc q=>by rw[bZ (cj q hn)];exact q) λc xs q=>by rw[bZ (cj q hn)];exact q
end
def Ite(K:W.Frag)(a:Addr)(xs:List V):It :=
 ⟨λi H=>SqL K H a xs/\i<xs.length,λi H x H'=>∃T v,x=.ref T/\xs[i]?=some v/\New H H' T (.tup [.int i,v]),λi H=>SqL K H a xs/\xs.length<=i⟩
theorem Kl{P:Program}{w:World}{K:W.Frag}{elts:List Expr}{x1}{pos:Pos}(a e it:Addr)(xs:List V)(hei:e≠it) :
  Turn P w K (.Tuple elts x1 pos) (Ite K a xs) [e,it] e (λi h=>(∃old,IsEnum h e it i old)/\h.IsListIter it a i) where
 mem:=by simp
 obj:=λi h st b hb=>by
  obtain⟨⟨old,he⟩,o,hi,hc,hd⟩:=st
  rcases List.mem_cons.mp hb with rfl|hb
  ·exact⟨_,he,λv z=>by
    have z':Data.fields _=Data.cell v:=z
    cases z'⟩
  ·rw[List.mem_singleton.mp hb]
   exact⟨o,hi,λv z=>by rw[hd] at z;cases z⟩
 keep:=λi h h' st k=>by
  obtain⟨⟨old,he⟩,hi⟩:=st
  exact⟨⟨old,k e (by simp) _ he⟩,hi.at λo q=>k it (by simp) o q⟩
 item:=by
  intro X hP hw hK hc i pins s σ H E I hf st hg
  subst hP hw hK
  obtain⟨⟨old,he⟩,hi⟩:=st
  obtain⟨hq,hlt⟩:=hg
  obtain⟨its,rv,p,hz⟩:=I.list hq
  have hx:xs[i]?=some xs[i]:=by simp[hlt]
  generalize xs[i]=x at hx
  obtain⟨u,hu,ru⟩:=rv.get hx
  refine wpAny_pyNext_enum_item he hi p.isList (x:=u) (by simpa using hu) hei λh1 ho hi1 hT hsz hk=>?_
  refine⟨_,rfl,wpAny_letOwnedTupleGo_enum ho λh2 he2 hs2=>?_⟩
  have neT:s.heap.objs.size≠e:=Nat.ne_of_gt (Heap.lt_size he)
  have hT2:=(hs2.2 _ neT).trans hT
  have k2:∀b o,b ∉ [e,it]->s.heap.get? b=some o->h2.get? b=some o:=λb o hb q=>by
   simp only[List.mem_cons,List.not_mem_nil,or_false,not_or] at hb
   exact(hs2.2 b hb.1).trans (hk b o hb.1 hb.2 q)
  have new:dg X.prog X.w (upd H s.heap.objs.size (.tup [.int i,x])) h2 s.heap.objs.size (.tup [.int i,x]) :=
   ⟨by show 2<=sizeLine;decide,[.int i s.toks,u],.cons ⟨_,rfl⟩ (.cons ru .nil),⟨_,hT2,rfl,_,rfl⟩⟩
  refine⟨.ref s.heap.objs.size,_,I.uy (t':=s.toks+1) hf k2 (Nat.le_refl _) new,rfl,⟨_,x,rfl,hx,.mk' (I.hok.fresh (Nat.le_refl _))⟩,⟨⟨u,by simpa using he2⟩,hi1.at λo q=>(hs2.2 it hei.symm).trans q⟩,λb hb=>?_⟩
  have hbn:=(hf b hb).1
  have hb':b<s.heap.objs.size:=by
   rcases List.mem_cons.mp hb with rfl|hb
   ·exact Heap.lt_size he
   ·rw[List.mem_singleton.mp hb]
    obtain⟨o,q,_⟩:=hi
    exact Heap.lt_size q
  rw[bZ (Nat.ne_of_lt hb')]
  exact hbn
 done:=by
  intro X hP hw hK hc i pins s σ H E I hf st hg
  subst hP hw hK
  obtain⟨⟨old,he⟩,hi⟩:=st
  obtain⟨hq,hle⟩:=hg
  obtain⟨its,rv,p,hz⟩:=I.list hq
  have hl:=rv.length
  refine wpAny_pyNext_enum_end (I.ok.hd hc) he hi p.isList (by simp;lia) λh' eb=>⟨rfl,I.zR (t':=s.toks) (ch:=[e,it]) hf λb o hb q=>eb b o (λz=>hb (by simp[z])) q⟩
 self:=λ_ _ _ _ _ st h=>by
  obtain⟨⟨old,he⟩,_⟩:=st
  exact wpAny_pyIter_enum he h
theorem Km:bootBuiltins "enumerate" = some (.type "enumerate"):=by decide +kernel
def Nk(K:W.Frag)(ta:TA):TI:=λσ H R=>ta σ H λvs H1=>∃a xs,vs=[.ref a]/\SqL K H1 a xs/\R (Ite K a xs) H1
theorem HN{X:Cx}{elts:List Expr}{x1}{tpos:Pos}{a:Expr}{ta:TA}{p pos:Pos}(hg:Gl X "enumerate")(hm:X.mg "enumerate" = none)(ha:PA X [a] ta)(hs:starEach [a] X.env=[(false,eval a X.env)]:=by rfl) :
  PI X (.Tuple elts x1 tpos) (.Call (.Name "enumerate" p) [a] [] pos) (Nk X.K ta):=by
 intro pins s σ H R I h
 refine Call_ (iB I hg hm Km (PyProof.Rows.callWith_type1 (thn (ha pos pins s σ H _ I h) λus s1 ⟨vs,H1,I1,r1,q1⟩=>?_) hs rfl))
 obtain⟨l,xs,e,hq,q⟩:=q1
 subst e
 obtain⟨u,rfl,r⟩:=vals1 r1
 cases r
 obtain⟨its,rv,pl,hz⟩:=I1.list hq
 refine call_enumerate_list pl.isList λh' he hi hsz hk=>?_
 have I2:Inv X pins σ H1 { s1 with heap:=h' }:=I1.kept (t':=s1.toks) hk
 refine wpAny_pyIter_enum he ?_
 refine⟨s1.heap.objs.size+1,[s1.heap.objs.size+1,s1.heap.objs.size],_,Ite X.K l xs,H1,rfl,I2,Kl l _ _ xs (Nat.succ_ne_self _),⟨⟨.none,he⟩,hi⟩,λb hb=>?_,q⟩
 have hb':s1.heap.objs.size<=b:=by
  rcases List.mem_cons.mp hb with rfl|hb
  ·exact Nat.le_succ _
  ·rw[List.mem_singleton.mp hb]
   exact Nat.le_refl _
 exact I1.Bh hb' (I1.hok.fresh hb')
theorem Nm{K:PySem.W.Frag}{a:Addr}{xs:List V}{g:TG}{tb:TS}{D:Ends}{σ:St}{H:Hp}(Pv:Nat->St->Hp->Prop)(h0:Pv 0 σ H)(hl:∀i σ H,i<=xs.length->Pv i σ H->SqL K H a xs)
  (hs:∀i x T σ H H',xs[i]?=some x->Pv i σ H->New H H' T (.tup [.int i,x])->g (.ref T) σ H' λσ2 H2=>tb { D with nx:=Pv (i+1),ct:=Pv (i+1),bk:=D.nx } σ2 H2) (hd:∀σ H,Pv xs.length σ H->D.nx σ H) :
  ∃W:Nat->Nat->St->Hp->Prop,(∃m,W 0 m σ H)/\∀i m σ H,W i m σ H ->
   ((Ite K a xs).stop i H/\D.nx σ H)\/((Ite K a xs).go i H/\∃N:St->Hp->Prop,(∀σ' H',N σ' H'->∃m',m'<m/\W (i+1) m' σ' H')/\∀x H',(Ite K a xs).yld i H x H'->g x σ H' λσ2 H2=>tb { D with nx:=N,ct:=N,bk:=D.nx } σ2 H2):=by
 refine⟨λi m σ H=>m=xs.length-i/\i<=xs.length/\Pv i σ H,⟨xs.length,by simp,Nat.zero_le _,h0⟩,?_⟩
 rintro i m σ H ⟨rfl,hi,p⟩
 have q:=hl i σ H hi p
 by_cases hlt:i<xs.length
 ·refine .inr ⟨⟨q,hlt⟩,Pv (i+1),λσ' H' p'=>⟨xs.length-(i+1),by lia,rfl,hlt,p'⟩,λx H' y=>?_⟩
  obtain⟨T,v,rfl,hv,n⟩:=y
  exact hs i v T σ H H' hv p n
 ·have e:i=xs.length:=by lia
  subst e
  exact .inl ⟨⟨q,Nat.le_refl _⟩,hd σ H p⟩
theorem boot_reversed:bootBuiltins "reversed" = some (.type "reversed"):=by decide +kernel
theorem Gd:typeLookup (.type "list_reverseiterator") (Str.ofString "__len__")=pure none:=by rw[typeLookup_type,builtinLookup_eq_fast];kernel_rfl
theorem Np:typeLookup (.type "list_reverseiterator") (Str.ofString "__length_hint__")=pure (some (.builtin "list_reverseiterator.__length_hint__")):=by rw[typeLookup_type,builtinLookup_eq_fast];kernel_rfl
theorem Nq{prog:Program}{w:World}{A:Around}{E:Value->Shared->Prop}{s:Shared}{r:Addr}{Q:Bool->Shared->Prop}(hT:s.TypeIs (.ref r) "list_reverseiterator")(h:Q false s) :
  wpAny (model prog w) A (Builtin.List.listLengthHint (.ref r)) Q E s:=by
 unfold Builtin.List.listLengthHint
 refine wpAny_bind (wpAny_specialOf hT Gd ?_)
 show wpAny _ _ (specialOf (Value.ref r) (Str.ofString "__length_hint__") >>= _) _ _ _
 refine wpAny_bind (wpAny_specialOf hT Np ?_)
 generalize hid:("list_reverseiterator.__length_hint__" : String)=id0
 wp_delta
 rw[show splitId id0=some ("list_reverseiterator","__length_hint__") from by subst hid;decide +kernel]
 subst hid
 refine wpAny_bind (wpAny_isInstance (T := "list_reverseiterator") (b:=true) hT (by rw[isSubtype_type];kernel_rfl) ?_)
 refine wpAny_ite_split (λhab=>absurd hab (by decide)) (λ_=>?_)
 refine wpAny_ite_split (λ_=>?_) (λhab=>absurd (by decide +kernel) hab)
 refine wpAny_ite_split (λhab=>absurd hab (by decide +kernel)) (λ_=>?_)
 exact wpAny_pure h
section
variable{prog:Program}{w:World}{A:Around}{E:Value->Shared->Prop}{s:Shared}{I l S:Addr}{items:Array Value}
theorem Ge{R:Result->Shared->Prop}{c₀:Nat}{res:Value}(hh:A.handled=none)(hI:s.heap.IsRevIter I l ((items.size:Int)-1))(hl:s.heap.IsList l items)(hne:l≠I)(hSI:S≠I)(hSl:S≠l)
  (hS:s.heap.get? S=some { cls:=.type "list", data:=.seq #[] c₀ }) (hn:items.size<=sizeLine)
  (hR:∀h' tk acc' c',(∀b o,b≠S->b≠I->s.heap.get? b=some o->h'.get? b=some o)->h'.get? S=some { cls:=.type "list", dict:=none,data:=.seq acc' c',slots:=#[] }->PySem.ItemsOf (λi v=>items[items.size-1-i]?=some v) acc' items.size ->
   R (.ok (.ret res)) { s with heap:=h',toks:=tk }) :
  wpAny (model prog w) A.in1 (Builtin.List.listExtendWith (.ref S) (.ref I) res)
   (λfin s'=>match fin with|.done f=>R (.ok f) s'|.again c'=>c'.quiet=true/\codeAny (model prog w) A c' R s') (λe s'=>R (.error e) s') s:=by
 have W:=Walks.listRev (prog:=prog) (w:=w) (A:=A.in1) hh I l hne items
 have hSf:S ∉ [I,l]:=by simp[hSI,hSl]
 have st:(0:Nat)<=items.size/\s.heap.IsRevIter I l ((items.size:Int)-1-((0:Nat):Int))/\s.heap.IsList l items:=⟨Nat.zero_le _,by simpa using hI,hl⟩
 have fin:codeAny (model prog w) A (.builtin "list.extend.loop" ⟨[.ref S,.ref I,res],[]⟩) R s:=by
  refine codeAny_extend_loopS W.toS hn S hSf res items.size 0 _ #[] c₀ rfl (Nat.zero_le _) st hS (PySem.ItemsOf.nil _) λs' acc' c' hm hS' hacc=>?_
  rw[Moved.eq_with hm]
  exact hR s'.heap s'.toks acc' c' (λb o h1 h2 q=>hm.heap b o (by simp[h1,h2]) q) hS' hacc
 unfold Builtin.List.listExtendWith
 refine wpAny_bind (wpAny_typeOf (T := "list_reverseiterator") hI.typeIs ?_)
 have h1:Builtin.List.listSameRef (.ref S) (.ref I)=false:=by simp[Builtin.List.listSameRef,hSI]
 have h2:(Value.type "list_reverseiterator" == Value.type "list")=false:=by decide
 have h3:(Value.type "list_reverseiterator" == Value.type "tuple")=false:=by decide
 simp only[h1,h2,h3,Bool.or_false,Bool.false_eq_true,if_false]
 refine wpAny_bind (wpAny_pyIter_revIter hI ?_)
 refine wpAny_bind (wpAny_holding (Nq hI.typeIs ?_))
 refine wpAny_ite_split (λhab=>absurd hab (by first|decide|decide +kernel)) (λ_=>?_)
 exact wpAny_pure ⟨plainId_quiet PySem.F.plain_extend_loop _,fin⟩
theorem Nr{R:Result->Shared->Prop}(hh:A.handled=none)(hI:s.heap.IsRevIter I l ((items.size:Int)-1))(hl:s.heap.IsList l items)(hne:l≠I)(hSI:S≠I)(hSl:S≠l)
  (hS:s.heap.get? S=some { cls:=.type "list", data:=.seq #[] }) (hn:items.size<=sizeLine)
  (hR:∀h' tk acc' c',(∀b o,b≠S->b≠I->s.heap.get? b=some o->h'.get? b=some o)->h'.get? S=some { cls:=.type "list", dict:=none,data:=.seq acc' c',slots:=#[] }->PySem.ItemsOf (λi v=>items[items.size-1-i]?=some v) acc' items.size ->
   R (.ok (.ret .none)) { s with heap:=h',toks:=tk }) :
  wpAny (model prog w) A.in1 (Builtin.«list.__init__» ⟨[.ref S,.ref I],[]⟩)
   (λfin s'=>match fin with|.done f=>R (.ok f) s'|.again c'=>c'.quiet=true/\codeAny (model prog w) A c' R s') (λe s'=>R (.error e) s') s:=by
 show wpAny _ _ (Builtin.List.listItems (.ref S) >>= λold=>Builtin.List.listUpdate (.ref S) (λ_=>#[]) >>= λ_=>letGo old.toList.reverse >>= λ_=>Builtin.List.listExtendWith (.ref S) (.ref I) .none) _ _ s
 refine wpAny_bind ?_
 unfold Builtin.List.listItems
 refine wpAny_bind (wpAny_seqItems hS rfl (wpAny_pure (wpAny_bind ?_)))
 show wpAny _ _ (updateSeq S (λ_=>#[])) _ _ _
 refine wpAny_updateSeq hS rfl (wpAny_bind (wpAny_letGo ?_))
 have hS2:=Heap.get?_update_self (Obj.mapSeq (λ_=>(#[]:Array Value))) hS rfl
 have oth:∀b o,b≠S->s.heap.get? b=some o->(s.heap.update S (Obj.mapSeq (λ_=>(#[]:Array Value)))).get? b=some o:=λb o hb q=>by
  rw[Heap.get?_update_other _ _ (Ne.symm hb)]
  exact q
 exact Ge (c₀:=_) hh (hI.at λo q=>oth I o (Ne.symm hSI) q) (hl.at λo q=>oth l o (Ne.symm hSl) q) hne hSI hSl hS2 hn λh' tk acc' c' hk hS' hacc=>hR h' tk acc' c' (λb o h1 h2 q=>hk b o h1 h2 (oth b o h1 q)) hS' hacc
theorem Nt{Q:Value->Shared->Prop}(hh:A.handled=none)(hI:s.heap.IsRevIter I l ((items.size:Int)-1))(hl:s.heap.IsList l items)(hne:l≠I)(hn:items.size<=sizeLine)
  (hQ:∀h' tk acc' c',(∀b o,b≠I->s.heap.get? b=some o->h'.get? b=some o)->h'.get? s.heap.objs.size=some { cls:=.type "list", dict:=none,data:=.seq acc' c',slots:=#[] } ->
   PySem.ItemsOf (λi v=>items[items.size-1-i]?=some v) acc' items.size->Q (.ref s.heap.objs.size) { s with heap:=h',toks:=tk }) :
  wpAny (model prog w) A (call (.type "list") [.ref I]) Q E s:=by
 have hS:(s.heap.push { cls:=.type "list", data:=.seq #[] }).get? s.heap.objs.size=some { cls:=.type "list", data:=.seq #[] }:=Heap.get?_push_size _ rfl
 have up:∀b o,s.heap.get? b=some o->(s.heap.push { cls:=.type "list", data:=.seq #[] }).get? b=some o:=λb o q=>Heap.get?_push_of_some _ q
 have hIlt:I<s.heap.objs.size:=by
  obtain⟨o,q,_⟩:=hI
  exact Heap.lt_size q
 have adx:l<s.heap.objs.size:=by
  obtain⟨o,q,_⟩:=hl
  exact Heap.lt_size q
 refine callType_codes PySem.F.called_list (PySem.F.typeCall_list_1 _) PySem.F.entry_list_init
  (Q₁:=λv z=>v=.ref s.heap.objs.size/\z={ s with heap:=s.heap.push { cls:=.type "list", data:=.seq #[] } }) (code_list_new _ ⟨rfl,rfl⟩) ?_
 rintro _ _ ⟨rfl,rfl⟩
 refine⟨⟨_,hS,rfl⟩,PySem.F.args_list_init_2 _ _,?_⟩
 refine Nr (A:=A.in1) (s:={ s with heap:=s.heap.push { cls:=.type "list", data:=.seq #[] } }) hh (hI.at λo q=>up I o q) (hl.at λo q=>up l o q) hne (Nat.ne_of_gt hIlt) (Nat.ne_of_gt adx) hS hn λh' tk acc' c' hk hS' hacc=>?_
 exact⟨rfl,hQ h' tk acc' c' (λb o hb q=>hk b o (Nat.ne_of_lt (Heap.lt_size q)) hb (up b o q)) hS' hacc⟩
end
def U0(K:W.Frag)(ta:TA):TE:=λσ H Q=>ta σ H λvs H1=>∃a xs,vs=[.ref a]/\SqL K H1 a xs/\∀l H',New H1 H' l (.lst xs.reverse)->Q (.ref l) H'
theorem m5{X:Cx}{e:Expr}{ta:TA}{p1 p2 pos1 pos2:Pos}(hc:X.calm=true)(gl:Gl X "list")(ml:X.mg "list" = none)(gr:Gl X "reversed")(mr:X.mg "reversed" = none)(ha:PA X [e] ta)
  (h1:starEach [.Call (.Name "reversed" p2) [e] [] pos2] X.env=[(false,eval (.Call (.Name "reversed" p2) [e] [] pos2) X.env)]:=by rfl) (h2:starEach [e] X.env=[(false,eval e X.env)]:=by rfl) :
  PE X (.Call (.Name "list" p1) [.Call (.Name "reversed" p2) [e] [] pos2] [] pos1) (U0 X.K ta):=by
 intro pins s σ H Q I h
 refine wpAny_Call_Name_kw (iB I gl ml boot_list (PyProof.Rows.callWith_type1 ?_ h1 rfl))
 rw[h1]
 refine Calls.spliced_cons ?_
 refine Call_ (iB I gr mr boot_reversed (PyProof.Rows.callWith_type1 (thn (ha pos2 pins s σ H _ I h) λus s1 ⟨vs,H1,I1,r1,q1⟩=>?_) h2 rfl))
 obtain⟨a,xs,rfl,hq,q⟩:=q1
 obtain⟨u,rfl,rx⟩:=vals1 r1
 cases rx
 obtain⟨its,rv,pl,hz⟩:=I1.list hq
 have hlen:=rv.length
 refine call_reversed_list pl.isList (Calls.spliced_nil ?_)
 have hlt:a<s1.heap.objs.size:=by
  obtain⟨o,q,_⟩:=pl.isList
  exact Heap.lt_size q
 have hrev:(s1.heap.push (revObj a ((its.toArray.size:Int)-1))).IsRevIter s1.heap.objs.size a ((its.toArray.size:Int)-1):=⟨_,Heap.get?_push_size _ rfl,rfl,rfl⟩
 refine Nt (s:={ s1 with heap:=s1.heap.push (revObj a ((its.toArray.size:Int)-1)) }) (I1.ok.hd hc) hrev (pl.isList.at λo z=>Heap.get?_push_of_some _ z) (Nat.ne_of_lt hlt) (by rw[List.size_toArray,<- hlen];exact hz) λh' tk acc c hk hD hI=>?_
 have hk':∀b o,s1.heap.get? b=some o->h'.get? b=some o:=λb o z=>hk b o (Nat.ne_of_lt (Heap.lt_size z)) (Heap.get?_push_of_some _ z)
 have hsz:(s1.heap.push (revObj a ((its.toArray.size:Int)-1))).objs.size=s1.heap.objs.size+1:=Heap.size_push ..
 have hge:s1.heap.objs.size<=(s1.heap.push (revObj a ((its.toArray.size:Int)-1))).objs.size:=by rw[hsz];exact Nat.le_succ _
 refine⟨.ref (s1.heap.push (revObj a ((its.toArray.size:Int)-1))).objs.size,_,I1.laid (t':=tk) (o:=.lst xs.reverse) hk' hge ?_,rfl,q _ _ (.mk' (I1.hok.fresh hge))⟩
 refine⟨by rw[List.length_reverse];exact hz,acc.toList,c,HJ (by
  have e:=hI.1
  have e2:acc.toList.length=acc.size:=Array.length_toList
  have e3:its.toArray.size=its.length:=List.size_toArray ..
  have e4:xs.reverse.length=xs.length:=List.length_reverse
  lia) λj x u e1 e2=>?_,by simpa using hD⟩
 have e3:=hI.2 j u (by rw[<- Array.getElem?_toList];exact e2)
 have hj:j<xs.length:=by
  have:=(List.getElem?_eq_some_iff.mp e1).1
  rwa [List.length_reverse] at this
 rw[List.getElem?_reverse hj] at e1
 obtain⟨u',e4,r4⟩:=rv.get e1
 have e5:its[xs.length-1-j]?=some u:=by
  rw[List.size_toArray,<- hlen] at e3
  simpa using e3
 rw[e5] at e4
 cases e4
 exact r4
section
variable{X:Cx}
def BL:V->V->V->Hp->(Hp->Prop)->Prop:=λo i v H Q=>∃p xs k j,o=.ref p/\i=.int k/\H p=some (.lst xs)/\ixN xs.length k=some j/\∀H',Off p H H'->H' p=some (.lst (xs.set j v))->Q H'
theorem qx:VD X BL:=by
 intro pins s σ H o i v ov iv u Q I ro ri rv h
 obtain⟨p,xs,k,j,e1,e2,hp,hj,q⟩:=h
 exact set_list pins s σ H o i v ov iv u Q I ro ri rv ⟨p,xs,k,j,e1,e2,hp,hj,q _ Off.upd cA⟩
def Wi(K:W.Frag):V->Option Int->Option Int->Hp->VK->Prop:=λx lo hi H Q=>∃a xs,x=.ref a/\SqL K H a xs/\∀p H',New H H' p (.lst (nW xs lo hi))->Q (.ref p) H'
theorem uz:SlR X (Wi X.K):=by
 intro pins s σ H x v vl vu lo hi sl Q I rx hs pl pu h
 obtain⟨a,xs,e,hx,q⟩:=h
 exact Rz pins s σ H x v vl vu lo hi sl Q I rx hs pl pu ⟨a,xs,e,hx,λp hp=>q p _ (.mk' hp)⟩
def sW:V->List V->Hp->VK->Prop:=λx vs H Q=>∃l xs,x=.ref l/\vs=[]/\H l=some (.lst xs)/\∀H',Off l H H'->H' l=some (.lst [])->Q .non H'
theorem Ko:MtM X "list.clear" sW:=by
 intro pins s σ H x vs v us Q I rx rv h
 obtain⟨l,xs,e1,e2,hH,q⟩:=h
 exact MK pins s σ H x vs v us Q I rx rv ⟨l,xs,e1,e2,hH,q _ Off.upd cA⟩
theorem Kq{o:Expr}{to:TE}{apos cpos:Pos}(ho:PE X o to)(hbase:attributeBase o "clear" X.env (eval o X.env)=eval o X.env:=by rfl)(hline:(apos.endLine == cpos.line)=true:=by rfl) :
  PE X (.Call (.Attribute o "clear" apos) [] [] cpos) (RB X.K "list" sW to) :=
 V4 PySem.F.plainAttrs_list PySem.F.slot_list_clear PySem.F.type_list_clear Ko ho hbase hline
def HS(K:W.Frag):List V->Hp->VK->Prop:=λxs H Q=>∃p ys,xs=[.ref p]/\(SqL K H p ys\/SqT K H p ys)/\∀l H',New H H' l (.lst ys)->Q (.ref l) H'
theorem fK:eH X (.type "list") (HS X.K):=by
 intro pins s σ H xs us Q I r h
 obtain⟨p,ys,e,hq,q⟩:=h
 exact zO pins s σ H xs us Q I r ⟨p,ys,e,hq,λl hl=>q l _ (.mk' hl)⟩
end
section
variable{σ:St}{H:Hp}{Q:VK}{v x y:V}{i j:Int}{K:W.Frag}{t ta tb tc:TE}{tr:TA}{s u:TS}{D:Ends}{c d:TT}
theorem wv0{r:St}(h:Q v H):eO 0 (some v::r) H Q:=⟨v,rfl,h⟩
theorem wn0{o:Option V}{r:St}{R:St->Hp->Prop}(h:R (some v::r) H):bK 0 v (o::r) H R:=h
theorem wv1{o0:Option V}{r:St}(h:Q v H):eO 1 (o0::some v::r) H Q:=⟨v,rfl,h⟩
theorem wn1{o0:Option V}{o:Option V}{r:St}{R:St->Hp->Prop}(h:R (o0::some v::r) H):bK 1 v (o0::o::r) H R:=h
theorem wv2{o0 o1:Option V}{r:St}(h:Q v H):eO 2 (o0::o1::some v::r) H Q:=⟨v,rfl,h⟩
theorem wn2{o0 o1:Option V}{o:Option V}{r:St}{R:St->Hp->Prop}(h:R (o0::o1::some v::r) H):bK 2 v (o0::o1::o::r) H R:=h
theorem wv3{o0 o1 o2:Option V}{r:St}(h:Q v H):eO 3 (o0::o1::o2::some v::r) H Q:=⟨v,rfl,h⟩
theorem wn3{o0 o1 o2:Option V}{o:Option V}{r:St}{R:St->Hp->Prop}(h:R (o0::o1::o2::some v::r) H):bK 3 v (o0::o1::o2::o::r) H R:=h
theorem wv4{o0 o1 o2 o3:Option V}{r:St}(h:Q v H):eO 4 (o0::o1::o2::o3::some v::r) H Q:=⟨v,rfl,h⟩
theorem wn4{o0 o1 o2 o3:Option V}{o:Option V}{r:St}{R:St->Hp->Prop}(h:R (o0::o1::o2::o3::some v::r) H):bK 4 v (o0::o1::o2::o3::o::r) H R:=h
theorem wv5{o0 o1 o2 o3 o4:Option V}{r:St}(h:Q v H):eO 5 (o0::o1::o2::o3::o4::some v::r) H Q:=⟨v,rfl,h⟩
theorem wn5{o0 o1 o2 o3 o4:Option V}{o:Option V}{r:St}{R:St->Hp->Prop}(h:R (o0::o1::o2::o3::o4::some v::r) H):bK 5 v (o0::o1::o2::o3::o4::o::r) H R:=h
theorem wv6{o0 o1 o2 o3 o4 o5:Option V}{r:St}(h:Q v H):eO 6 (o0::o1::o2::o3::o4::o5::some v::r) H Q:=⟨v,rfl,h⟩
theorem wn6{o0 o1 o2 o3 o4 o5:Option V}{o:Option V}{r:St}{R:St->Hp->Prop}(h:R (o0::o1::o2::o3::o4::o5::some v::r) H):bK 6 v (o0::o1::o2::o3::o4::o5::o::r) H R:=h
theorem wv7{o0 o1 o2 o3 o4 o5 o6:Option V}{r:St}(h:Q v H):eO 7 (o0::o1::o2::o3::o4::o5::o6::some v::r) H Q:=⟨v,rfl,h⟩
theorem wn7{o0 o1 o2 o3 o4 o5 o6:Option V}{o:Option V}{r:St}{R:St->Hp->Prop}(h:R (o0::o1::o2::o3::o4::o5::o6::some v::r) H):bK 7 v (o0::o1::o2::o3::o4::o5::o6::o::r) H R:=h
theorem wv8{o0 o1 o2 o3 o4 o5 o6 o7:Option V}{r:St}(h:Q v H):eO 8 (o0::o1::o2::o3::o4::o5::o6::o7::some v::r) H Q:=⟨v,rfl,h⟩
theorem wn8{o0 o1 o2 o3 o4 o5 o6 o7:Option V}{o:Option V}{r:St}{R:St->Hp->Prop}(h:R (o0::o1::o2::o3::o4::o5::o6::o7::some v::r) H):bK 8 v (o0::o1::o2::o3::o4::o5::o6::o7::o::r) H R:=h
theorem wv9{o0 o1 o2 o3 o4 o5 o6 o7 o8:Option V}{r:St}(h:Q v H):eO 9 (o0::o1::o2::o3::o4::o5::o6::o7::o8::some v::r) H Q:=⟨v,rfl,h⟩
theorem wn9{o0 o1 o2 o3 o4 o5 o6 o7 o8:Option V}{o:Option V}{r:St}{R:St->Hp->Prop}(h:R (o0::o1::o2::o3::o4::o5::o6::o7::o8::some v::r) H):bK 9 v (o0::o1::o2::o3::o4::o5::o6::o7::o8::o::r) H R:=h
theorem ady{o0 o1 o2 o3 o4 o5 o6 o7 o8 o9:Option V}{r:St}(h:Q v H):eO 10 (o0::o1::o2::o3::o4::o5::o6::o7::o8::o9::some v::r) H Q:=⟨v,rfl,h⟩
theorem adz{o0 o1 o2 o3 o4 o5 o6 o7 o8 o9:Option V}{o:Option V}{r:St}{R:St->Hp->Prop}(h:R (o0::o1::o2::o3::o4::o5::o6::o7::o8::o9::some v::r) H):bK 10 v (o0::o1::o2::o3::o4::o5::o6::o7::o8::o9::o::r) H R:=h
theorem adA{o0 o1 o2 o3 o4 o5 o6 o7 o8 o9 o10:Option V}{r:St}(h:Q v H):eO 11 (o0::o1::o2::o3::o4::o5::o6::o7::o8::o9::o10::some v::r) H Q:=⟨v,rfl,h⟩
theorem adB{o0 o1 o2 o3 o4 o5 o6 o7 o8 o9 o10:Option V}{o:Option V}{r:St}{R:St->Hp->Prop}(h:R (o0::o1::o2::o3::o4::o5::o6::o7::o8::o9::o10::some v::r) H):bK 11 v (o0::o1::o2::o3::o4::o5::o6::o7::o8::o9::o10::o::r) H R:=h
theorem adC{o0 o1 o2 o3 o4 o5 o6 o7 o8 o9 o10 o11:Option V}{r:St}(h:Q v H):eO 12 (o0::o1::o2::o3::o4::o5::o6::o7::o8::o9::o10::o11::some v::r) H Q:=⟨v,rfl,h⟩
theorem adD{o0 o1 o2 o3 o4 o5 o6 o7 o8 o9 o10 o11:Option V}{o:Option V}{r:St}{R:St->Hp->Prop}(h:R (o0::o1::o2::o3::o4::o5::o6::o7::o8::o9::o10::o11::some v::r) H):bK 12 v (o0::o1::o2::o3::o4::o5::o6::o7::o8::o9::o10::o11::o::r) H R:=h
theorem adE{o0 o1 o2 o3 o4 o5 o6 o7 o8 o9 o10 o11 o12:Option V}{r:St}(h:Q v H):eO 13 (o0::o1::o2::o3::o4::o5::o6::o7::o8::o9::o10::o11::o12::some v::r) H Q:=⟨v,rfl,h⟩
theorem adF{o0 o1 o2 o3 o4 o5 o6 o7 o8 o9 o10 o11 o12:Option V}{o:Option V}{r:St}{R:St->Hp->Prop}(h:R (o0::o1::o2::o3::o4::o5::o6::o7::o8::o9::o10::o11::o12::some v::r) H):bK 13 v (o0::o1::o2::o3::o4::o5::o6::o7::o8::o9::o10::o11::o12::o::r) H R:=h
theorem w_c(h:Q v H):tC v σ H Q:=h
theorem adG{f:Int->Int->V}(h:Q (f i j) H):rI0 f (.int i) (.int j) H Q:=⟨i,j,rfl,rfl,h⟩
theorem w_mod{f:Int->Int->V}(hj:0<j)(h:Q (f i j) H):rI (λ_ j=>0<j) f (.int i) (.int j) H Q:=⟨i,j,rfl,rfl,hj,h⟩
theorem w_div{f:Int->Int->V}(h0:0<j)(h1:j<1073741824)(h:Q (f i j) H):rI VH f (.int i) (.int j) H Q:=⟨i,j,rfl,rfl,⟨h0,h1⟩,h⟩
theorem w_pow{f:Int->Int->V}(h0:0<=j)(h1:j<=1000000)(h2:i.natAbs<2 ^ 64)(h:Q (f i j) H):rI VJ f (.int i) (.int j) H Q:=⟨i,j,rfl,rfl,⟨h0,h1,h2⟩,h⟩
theorem Wj{f:Int->Int->V}(h0:-(2 ^ 64)<i)(h1:i<2 ^ 64)(h:Q (f i j) H):rI J3 f (.int i) (.int j) H Q:=⟨i,j,rfl,rfl,.inl ⟨h0,h1⟩,h⟩
theorem Wk{f:Int->Int->V}(h0:-(2 ^ 64)<j)(h1:j<2 ^ 64)(h:Q (f i j) H):rI J3 f (.int i) (.int j) H Q:=⟨i,j,rfl,rfl,.inr ⟨h0,h1⟩,h⟩
theorem w_u{g:Int->V}(h:Q (g i) H):rU g (.int i) H Q:=⟨i,rfl,h⟩
theorem adH{r:V->Hp->VK->Prop}(h:ta σ H λx H1=>r x H1 Q):tUn r ta σ H Q:=h
theorem ZG(h:Q (.bl (decide (i=j))) H):rEq (.int i) (.int j) H Q:=⟨rfl,by rw[show decide (V.int i=V.int j)=decide (i=j) from decide_eq_decide.mpr ⟨λe=>by cases e;rfl,λe=>by rw[e]⟩];exact h⟩
theorem ZJ(h:Q (.bl (!decide (i=j))) H):rNe (.int i) (.int j) H Q:=⟨rfl,by rw[show decide (V.int i=V.int j)=decide (i=j) from decide_eq_decide.mpr ⟨λe=>by cases e;rfl,λe=>by rw[e]⟩];exact h⟩
theorem ZK{a b:Str}(h:Q (.bl (decide (a=b))) H):rEq (.str a) (.str b) H Q:=⟨rfl,by rw[show decide (V.str a=V.str b)=decide (a=b) from decide_eq_decide.mpr ⟨λe=>by cases e;rfl,λe=>by rw[e]⟩];exact h⟩
theorem ZL{a b:Str}(h:Q (.bl (!decide (a=b))) H):rNe (.str a) (.str b) H Q:=⟨rfl,by rw[show decide (V.str a=V.str b)=decide (a=b) from decide_eq_decide.mpr ⟨λe=>by cases e;rfl,λe=>by rw[e]⟩];exact h⟩
theorem ZM{a b:Bool}(h:Q (.bl (decide (a=b))) H):rEq (.bl a) (.bl b) H Q:=⟨rfl,by rw[show decide (V.bl a=V.bl b)=decide (a=b) from decide_eq_decide.mpr ⟨λe=>by cases e;rfl,λe=>by rw[e]⟩];exact h⟩
theorem adI{k:Bool}{R:Bool->Prop}(h:R k):∃c,V.bl k=.bl c/\R c:=⟨k,rfl,h⟩
theorem w_not{R:Bool->Hp->Prop}(h:c σ H λb H1=>R (!b) H1):Vw c σ H R:=h
theorem w_and{R:Bool->Hp->Prop}(h:c σ H λb H1=>if b=true then d σ H1 R else R false H1):Vv c d σ H R:=h
theorem w_or{R:Bool->Hp->Prop}(h:c σ H λb H1=>if b=true then R true H1 else d σ H1 R):tOr c d σ H R:=h
theorem Wl(h:ta σ H λx H1=>∃c,x=.bl c/\Q (.bl (!c)) H1):Ly ta σ H Q:=h
theorem Wm(h:ta σ H λx H1=>∃c,x=.bl c/\if c=true then tb σ H1 Q else Q (.bl false) H1):Lx ta tb σ H Q:=h
theorem ZP(h:c σ H λb H1=>if b=true then ta σ H1 Q else tb σ H1 Q):tIf c ta tb σ H Q:=h
theorem R6{r r':R2}(h:ta σ H λx H1=>tb σ H1 λy H2=>r x y H2 λz H3=>∃k,z=.bl k/\if k=true then tc σ H3 λw H4=>r' y w H4 Q else Q (.bl false) H3):zJ r r' ta tb tc σ H Q:=h
theorem adJ{nx bk ct:St->Hp->Prop}{rt:VK}(h:rt v H):(Ends.mk nx rt bk ct).rt v H:=h
theorem w_call{sp:Sp}{E:XK}(h:tr σ H λvs H1=>sp vs H1 Q E):Hq sp [] E tr σ H Q:=by
 have e:(λvs H1=>sp (vs++[]) H1 Q E)=λvs H1=>sp vs H1 Q E:=by
  funext vs H1
  rw[List.append_nil]
 show tr σ H λvs H1=>sp (vs++[]) H1 Q E
 rw[e]
 exact h
theorem adK{T:String}{r:V->List V->Hp->VK->Prop}{to:TE}(h:to σ H λx H1=>tyV K T x H1/\tr σ H1 λxs H2=>r x xs H2 Q):tBM K T r to tr σ H Q:=h
theorem ZQ{T:String}{r:V->List V->Hp->VK->Prop}{to:TE}(h:to σ H λx H1=>tyV K T x H1/\r x [] H1 Q):RB K T r to σ H Q:=h
theorem w_sub{to ti:TE}{ts:LQ}{R:St->Hp->Prop}(h:to σ H λo H1=>ti σ H1 λi H2=>ts o i v H2 λH3=>R σ H3):VF to ti ts v σ H R:=h
theorem R7{r:V->Option Int->Option Int->Hp->VK->Prop}{tl th:TO}(h:t σ H λx H1=>tl σ H1 λl H2=>th σ H2 λu H3=>r x l u H3 Q):tSl r t tl th σ H Q:=h
theorem Nu{R:Option Int->Hp->Prop}(h:R none H):zK σ H R:=h
theorem Wn{R:Option Int->Hp->Prop}(h:t σ H λx H1=>∃i,x=.int i/\R (some i) H1):Mx t σ H R:=h
theorem ZR{R:Int->Prop}(h:R i):∃k,V.int i=.int k/\R k:=⟨i,rfl,h⟩
theorem Nv{p:Addr}{xs:List V}(h:SqL K H p xs)(e:atI xs i=some v)(k:Q v H):Rx K (.ref p) (.int i) H Q:=⟨p,xs,i,v,rfl,rfl,h,e,k⟩
theorem ZS{p:Addr}{xs:List V}(h:SqT K H p xs)(e:atI xs i=some v)(k:Q v H):Ry K (.ref p) (.int i) H Q:=⟨p,xs,i,v,rfl,rfl,h,e,k⟩
def Gf(K:W.Frag):List V->Hp->VK->Prop:=λxs H Q=>∃x n,xs=[x]/\Zi K x H n/\Q (.int n) H
theorem Wo{p:Addr}{xs:List V}(h:SqL K H p xs)(k:Q (.int xs.length) H):Gf K [.ref p] H Q:=⟨_,xs.length,rfl,.inl ⟨xs,h,rfl⟩,k⟩
theorem Wq{p:Addr}{xs:List V}(h:SqT K H p xs)(k:Q (.int xs.length) H):Gf K [.ref p] H Q:=⟨_,xs.length,rfl,.inr ⟨xs,h,rfl⟩,k⟩
theorem Wr{z:Str}(h:z.length<=sizeLine)(k:Q (.int z.length) H):Gf K [.str z] H Q:=⟨_,z.length,rfl,⟨h,rfl⟩,k⟩
def Nx:List V->Hp->VK->Prop:=λxs H Q=>∃i j,xs=[.int i,.int j]/\Q (.int (if j > i then j else i)) H
def Ny:List V->Hp->VK->Prop:=λxs H Q=>∃i j,xs=[.int i,.int j]/\Q (.int (if j<i then j else i)) H
theorem ZV(h:Q (.int (max i j)) H):Nx [.int i,.int j] H Q:=⟨i,j,rfl,by
 rw[show (if j > i then j else i)=max i j by rw[Int.max_def];split <;> split <;> lia]
 exact h⟩
theorem ZW(h:Q (.int (min i j)) H):Ny [.int i,.int j] H Q:=⟨i,j,rfl,by
 rw[show (if j<i then j else i)=min i j by rw[Int.min_def];split <;> split <;> lia]
 exact h⟩
def Nz:List V->Hp->VK->Prop:=λxs H Q=>(∃i,xs=[.int i]/\Q (.int i) H)\/∃k,xs=[.bl k]/\Q (.int (if k then 1 else 0)) H
theorem Ws{k:Bool}(h:Q (.int (if k then 1 else 0)) H):Nz [.bl k] H Q:=.inr ⟨k,rfl,h⟩
theorem w_is{x d:V}{tv:Value}{b:Bool}(ty:dR K H x tv)(e:rN K tv d=some b)(h:Q (.bl b) H):jE K [x,d] H Q:=⟨x,d,tv,b,rfl,ty,e,h⟩
def Wt:R2:=λx y H Q=>y=.non/\Q (.bl (decide (x=.non))) H
def NK:R2:=λx y H Q=>y=.non/\Q (.bl (!decide (x=.non))) H
end
section
variable{X:Cx}
theorem dB:eH X (.builtin "len") (Gf X.K):=Ml
theorem fu(hc:X.calm=true):eH X (.builtin "max") Nx:=J4 hc
theorem qy(hc:X.calm=true):eH X (.builtin "min") Ny:=J5 hc
theorem qz:eH X (.type "int") Nz:=J6
theorem R8:OpR X (compareOp .Is) Wt:=VL
theorem uD:OpR X (compareOp .IsNot) NK:=Rp
end
section
variable{A B p:Prop}[Decidable p]{b:Bool}
theorem fW(h1:p->A)(h2:¬ p->B):if decide p=true then A else B:=by
 by_cases h:p
 ·rw[if_pos (decide_eq_true h)];exact h1 h
 ·rw[if_neg (by simpa using h)];exact h2 h
theorem i_b(h1:b=true->A)(h2:b=false->B):if b=true then A else B:=by
 cases b with
 | true=>exact Zq (h1 rfl)
 | false=>exact Zo (h2 rfl)
theorem i_T(h:b=true)(k:A):if b=true then A else B:=by rw[if_pos h];exact k
theorem i_F(h:b=false)(k:B):if b=true then A else B:=by rw[if_neg (by rw[h];exact Bool.false_ne_true)];exact k
theorem U3(h:p)(k:A):if decide p=true then A else B:=by rw[if_pos (decide_eq_true h)];exact k
theorem U4(h:¬ p)(k:B):if decide p=true then A else B:=by rw[if_neg (by simpa using h)];exact k
theorem NP(h:p)(k:B):if (!decide p)=true then A else B:=by rw[if_neg (by simpa using h)];exact k
theorem NQ(h:¬ p)(k:A):if (!decide p)=true then A else B:=by rw[if_pos (by simpa using h)];exact k
end
section
variable{H H0 H1 H2 H':Hp}{p q a:Addr}{o u:HO}{xs ys:List V}
theorem New.trans(n1:New H H1 p o)(n2:New H1 H2 q u):New H H2 q u:=⟨n1.s.trans n2.s,n2.e,λa v e=>n2.n a v (n1.s a v e)⟩
def aH(H:Hp)(ys:List V)(rows:List (List V)):Prop:=ys.length=rows.length/\∀(j:Nat) (r:List V),rows[j]?=some r->∃q,ys[j]?=some (.ref q)/\H q=some (.tup r)
theorem aH.same{rows:List (List V)}(s:Same H H')(h:aH H ys rows):aH H' ys rows:=⟨h.1,λj r e=>let ⟨q,a,b⟩:=h.2 j r e;⟨q,a,s _ _ b⟩⟩
theorem aH.nil:aH H [] []:=⟨rfl,λj r e=>by simp at e⟩
theorem aH.reverse{rows:List (List V)}(h:aH H ys rows):aH H ys.reverse rows.reverse:=by
 refine⟨by rw[List.length_reverse,List.length_reverse,h.1],λj r e=>?_⟩
 have hj:j<rows.length:=by
  have:=(List.getElem?_eq_some_iff.mp e).1
  rwa [List.length_reverse] at this
 rw[List.getElem?_reverse hj] at e
 obtain⟨q,a,b⟩:=h.2 _ r e
 exact⟨q,by rw[List.getElem?_reverse (by rw[h.1];exact hj),h.1];exact a,b⟩
end
section
variable{σ:St}{H:Hp}{Q:VK}{K:W.Frag}{tr:TA}{D:Ends}{i j:Int}{g:TG}{tb:TS}{a b:V}{p:Addr}
theorem Wu{i0 i1:Nat}{R:St->Hp->Prop}(hp:SqT K H p [a,b])(h:bK i0 a σ H λσ1 H1=>bK i1 b σ1 H1 R):JZ K 2 (iC (bK i0) (iC (bK i1) JX)) (.ref p) σ H R :=
 ⟨p,_,rfl,hp,rfl,_,_,rfl,_,_,rfl,rfl,h⟩
end
def ZX(K:W.Frag):R2:=λx y H Q=>∃d d',Rep K H d x/\Rep K H d' y/\dH d<=100/\Q (.bl (fD d d')) H
def R9(K:W.Frag):R2:=λx y H Q=>∃d d',Rep K H d x/\Rep K H d' y/\dH d<=100/\Q (.bl (!fD d d')) H
theorem NT{X:Cx}{k:Nat}(hr:Room k X.A):OpR X (compareOp .Eq) (ZX X.K):=RQ hr
theorem uE{X:Cx}{k:Nat}(hr:Room k X.A):OpR X (compareOp .NotEq) (R9 X.K):=RT hr
theorem map_set{α:Type}{N j:Nat}{F:Nat->α}{v:α}(hj:j<N):((List.range N).map F).set j v=(List.range N).map (λk=>if k=j then v else F k):=by
 apply List.ext_getElem?
 intro k
 rw[List.getElem?_set]
 by_cases hk:k<N
 ·by_cases e:j=k
  ·subst e
   simp[hj]
  ·have e':¬ k=j:=λz=>e z.symm
   simp[hk,e,e']
 ·have e:¬ j=k:=by lia
  have h1:((List.range N).map F)[k]?=none:=by simp;lia
  have h2:((List.range N).map (λk=>if k=j then v else F k))[k]?=none:=by simp;lia
  rw[if_neg e,h1,h2]
end L2
namespace L2
open PySem PySem.Spec PyProof.Rows PySem.SeqAt
section
variable{X:Cx}{a:Expr}{ta:TE}{pos:Pos}
def Wv:R2:=λx y H Q=>∃a b,x=.bl a/\y=.bl b/\Q (.bl (decide (a=b))) H
def NZ:R2:=λx y H Q=>∃a b,x=.bl a/\y=.bl b/\Q (.bl (!decide (a=b))) H
theorem Ww:OpR X (compareOp .Is) Wv:=by
 intro pins s σ H x y v u Q I rx ry h
 obtain⟨a,b,rfl,rfl,q⟩:=h
 cases rx
 cases ry
 exact wpAny_is_plain rfl (cH I q (by cases a <;> cases b <;> rfl))
theorem R_:OpR X (compareOp .IsNot) NZ:=by
 intro pins s σ H x y v u Q I rx ry h
 obtain⟨a,b,rfl,rfl,q⟩:=h
 cases rx
 cases ry
 exact wpAny_isNot_plain rfl (cH I q (by cases a <;> cases b <;> rfl))
theorem Z0{H:Hp}{Q:VK}{a b:Bool}(h:Q (.bl (decide (a=b))) H):Wv (.bl a) (.bl b) H Q:=⟨a,b,rfl,rfl,h⟩
theorem Wx{H:Hp}{Q:VK}{a b:Bool}(h:Q (.bl (!decide (a=b))) H):NZ (.bl a) (.bl b) H Q:=⟨a,b,rfl,rfl,h⟩
def idV:V->Bool
 | .non=>true
 | .bl _=>true
 | .int _=>true
 | .str _=>true
 | .ref _=>true
 | _=>false
theorem Kr{A:Around}{s:Shared}{x:V}{u v:Value}(f:idV x=true)(ru:RelV x u)(rv:RelV x v):EqAt A s u v true:=by
 cases x with
 | non=>cases ru;cases rv;exact EqAt.same _
 | bl b=>cases ru;cases rv;exact EqAt.same _
 | ref b=>cases ru;cases rv;exact EqAt.same _
 | int i =>
  obtain⟨t,rfl⟩:=ru
  obtain⟨t',rfl⟩:=rv
  have:=EqAt.int_int (A:=A) (s:=s) i t i t'
  rwa [beq_self_eq_true] at this
 | str z =>
  obtain⟨t,rfl⟩:=ru
  obtain⟨t',rfl⟩:=rv
  have:=EqAt.str_str (A:=A) (s:=s) z t z t'
  rwa [beq_self_eq_true] at this
 | _=>exact absurd (show false=true from f) Bool.false_ne_true
end
theorem Ks{σ:St}{H:Hp}{wi:TI}{J:It}{xs:List V}{Lk:Hp->Prop}{c:TT}{Q:VK}{fr:List Nat}{fvs:St}{p:V->Bool}(hz:xs.length<=1000000)(hf:(fr.map λi=>(σ[i]?).getD none)=fvs)
  (it:L2.ItemsOf J xs Lk) (hw:∀R:It->Hp->Prop,R J H->wi σ H R) (hL:∀H',Same H H'->Lk H')
  (turn:∀(i:Nat) (v:V) (H':Hp) (R:Bool->Hp->Prop),xs[i]?=some v->Same H H'->(∀H2,Same H' H2->R (p v) H2)->c (some v::fvs) H' R)
  (k:∀l H',New H H' l (.lst (xs.filter p))->Q (.ref l) H'):jm wi 1 fr (bK 0) c (eO 0) σ H Q:=by
 refine hw _ λacc hacc=>?_
 subst hf
 have BP:∀b u,H b=some u->b≠acc:=λb u e=>cj e hacc
 refine ou it (λi ys H'=>H' acc=some (.lst ys)/\Same H H'/\ys=(xs.take i).filter p) ⟨cA,Same.new hacc,by simp⟩ (λi ys H' _ h=>⟨hL H' h.2.1,h.1⟩) ?_ ?_
 ·rintro i x tv ys H' hx hi ⟨ha,hs,rfl⟩ htv
  obtain⟨tv0,rfl⟩:∃a,tv=[a]:=List.length_eq_one_iff.mp htv
  have tk:xs.take (i+1)=xs.take i++[x]:=by
   rw[List.take_succ,hx]
   rfl
  unfold bK
  refine turn i x H' _ hx hs λH2 s2=>?_
  cases hp:p x with
  | true =>
   refine Zq ⟨x,rfl,?_,s2 _ _ ha,jV.next (tv:=[some x]) hi ⟨cA,λb u e=>?_,?_⟩ rfl⟩
   ·refine Nat.lt_of_le_of_lt (List.length_filter_le _ _) (Nat.lt_of_lt_of_le ?_ (cI hz))
    rw[List.length_take]
    lia
   ·rw[bZ (BP b u e)]
    exact s2 _ _ (hs _ _ e)
   ·rw[tk,List.filter_append]
    simp[hp]
  | false =>
   refine Zo (jV.next (tv:=[some x]) hi ⟨s2 _ _ ha,hs.trans s2,?_⟩ rfl)
   rw[tk,List.filter_append]
   simp[hp]
 ·rintro ys H' ⟨ha,hs,rfl⟩
  rw[List.take_length] at ha
  exact k acc H' ⟨hs,ha,BP⟩
section
variable{σ:St}{H:Hp}{Q:VK}{D:Ends}{td ty tv:TE}{p:Addr}{kvs:List (Key×V)}{i:Int}{v:V}
theorem Wy(h:∀p H',New H H' p (.dK [])->Q (.ref p) H'):FT σ H Q:=λp hp=>h p _ (.mk' hp)
end
def Gg(K:W.Frag)(te ts:TE):TE:=λσ H Q=>te σ H λx H1=>ts σ H1 λy H2=>∃a xs,x=.ref a/\y=.int (-1)/\SqL K H2 a xs/\∀p H',New H2 H' p (.lst xs.reverse)->Q (.ref p) H'
theorem N5{X:Cx}{e st:Expr}{te ts:TE}{pos p2:Pos}(he:PE X e te)(hst:PE X st ts):PE X (.Subscript e (.Slice none none (some st) p2) pos) (Gg X.K te ts):=by
 intro pins s σ H Q I h
 refine Subscript_ (thn (he pins s σ H _ I h) λv s1 ⟨x,H1,I1,r1,q1⟩=>?_)
 refine wpAny_Slice (wpAny_evalPart_none (wpAny_evalPart_none (wpAny_evalPart_some (thn (hst pins s1 σ H1 _ I1 q1) λz s2 ⟨y,H2,I2,r2,q2⟩=>?_))))
 obtain⟨a,xs,rfl,rfl,hx,q⟩:=q2
 cases r1
 obtain⟨t,rfl⟩:=r2
 have I3:Inv X pins σ H2 { s2 with heap:=s2.heap.push { cls:=.type "slice", data:=.fields #[.none,.none,.int (-1) t] } }:=I2.kept (t':=s2.toks) λb ob z=>Heap.get?_push_of_some _ z
 obtain⟨its,r,ht,hz⟩:=I3.list hx
 have hlen:=r.length
 show wpAny (model X.prog X.w) X.A (subscriptTail e (.Slice none none (some st) p2) (.ref a) (.ref s2.heap.objs.size)) (EP X pins σ Q) X.xe { s2 with heap:=s2.heap.push { cls:=.type "slice", data:=.fields #[.none,.none,.int (-1) t] } }
 refine tail_any (ops:=[.ref a,.ref s2.heap.objs.size]) ht.isList.typeIs slot_list_getitem.lookup ?_ (by with_unfolding_all rfl)
 refine wpAny_getItem_list_slice (lo:=none) (hi:=none) (st:=some (-1)) ht.isList (Heap.IsSliceOf.new ..) .none .none (.int (-1) t) (by decide) ?_ (by rw[List.size_toArray] <;> lia)
 rw[W.krv_pick]
 refine⟨.ref (s2.heap.push { cls:=.type "slice", data:=.fields #[.none,.none,.int (-1) t] }).objs.size,_,I3.laid (t':=s2.toks) (o:=.lst xs.reverse) (λb ob z=>Heap.get?_push_of_some _ z) (Nat.le_refl _) ?_,rfl,q _ _ (.mk' (I3.hok.fresh (Nat.le_refl _)))⟩
 exact⟨by rw[List.length_reverse];exact hz,its.reverse,0,r.reverse,Heap.get?_push_size _ rfl⟩
theorem Sg{σ:St}{H:Hp}{Q:VK}{K:W.Frag}{te ts:TE}(h:te σ H λx H1=>ts σ H1 λy H2=>∃a xs,x=.ref a/\y=.int (-1)/\SqL K H2 a xs/\∀p H',New H2 H' p (.lst xs.reverse)->Q (.ref p) H'):Gg K te ts σ H Q:=h
def Kp(b:Addr)(H H':Hp):Prop:=∀x u,x≠b->H x=some u->H' x=some u
section
variable{b p:Addr}{H H1 H2:Hp}{o:HO}
theorem Kp.trans(a:Kp b H H1)(c:Kp b H1 H2):Kp b H H2:=λx u n h=>c x u n (a x u n h)
theorem Same.kp(s:Same H H1):Kp b H H1:=λx u _ h=>s x u h
theorem Off.kp(f:Off b H H1):Kp b H H1:=λx u n h=>by rw[f x n];exact h
theorem Kp.same{H0:Hp}(s:Same H0 H)(k:Kp b H H1)(n:∀x u,H0 x=some u->x≠b):Same H0 H1:=λx u e=>k x u (n x u e) (s x u e)
end
def U5(K:W.Frag):List V->Hp->VK->Prop:=λxs H Q=>∃p ys,xs=[.ref p]/\((SqL K H p ys/\∀l H',New H H' l (.tup ys)->Q (.ref l) H')\/(SqT K H p ys/\Q (.ref p) H))
theorem uF{X:Cx}:eH X (.type "tuple") (U5 X.K):=by
 intro pins s σ H xs us Q I r h
 obtain⟨p,ys,e,h⟩:=h
 refine wK pins s σ H xs us Q I r ⟨p,ys,e,?_⟩
 rcases h with⟨hq,q⟩|h
 ·exact .inl ⟨hq,λl hl=>q l _ (.mk' hl)⟩
 ·exact .inr h
section
variable{X:Cx}{K:W.Frag}
theorem jF(h:X.K=K):IxR X (Ry K):=h▸bT
end
def Gh(K:PySem.W.Frag)(a:Addr)(g:TG)(tb:TS)(D:Ends)(σ:St)(H:Hp):Prop:=∃W:Nat->Nat->St->Hp->Prop,(∃m,W 0 m σ H)/\∀i m σ H,W i m σ H ->
 ((Itl K a).stop i H/\D.nx σ H)\/((Itl K a).go i H/\∃N:St->Hp->Prop,(∀σ' H',N σ' H'->∃m',m'<m/\W (i+1) m' σ' H')/\∀x H',(Itl K a).yld i H x H'->g x σ H' λσ2 H2=>tb { D with nx:=N,ct:=N,bk:=D.nx } σ2 H2)
theorem Wz{K:W.Frag}{te:TE}{g:TG}{tb:TS}{D:Ends}{σ:St}{H:Hp}(h:te σ H λx H1=>∃a,x=.ref a/\(∃xs,SqL K H1 a xs)/\Gh K a g tb D σ H1):tZ (Bj K te) g tb D σ H:=h
theorem f9{K:W.Frag}{a:Addr}{xs:List V}{g:TG}{tb:TS}{D:Ends}{σ:St}{H:Hp}(Pv:Nat->St->Hp->Prop)(h0:Pv 0 σ H)(hl:∀i σ H,i<=xs.length->Pv i σ H->SqL K H a xs)
  (hs:∀i x σ H,xs[i]?=some x->Pv i σ H->g x σ H λσ2 H2=>tb { D with nx:=Pv (i+1),ct:=Pv (i+1),bk:=D.nx } σ2 H2) (hd:∀σ H,Pv xs.length σ H->D.nx σ H):Gh K a g tb D σ H:=Mf Pv h0 hl hs hd
def dz(J:It)(nt:Nat)(fr:List Nat)(g:TG)(c:TT)(te:TE)(σ:St)(H1:Hp)(Q:VK):Prop:=∀acc,H1 acc=none->oh J nt fr g c te σ H1 Q acc
theorem Sh{K:W.Frag}{t0 te:TE}{nt:Nat}{fr:List Nat}{g:TG}{c:TT}{σ:St}{H:Hp}{Q:VK}(h:t0 σ H λx H1=>∃a,x=.ref a/\(∃xs,SqL K H1 a xs)/\dz (Itl K a) nt fr g c te σ H1 Q):jm (Bj K t0) nt fr g c te σ H Q:=h
theorem comp_map{J:It}{xs:List V}{Lk:Hp->Prop}{te:TE}{σ:St}{H:Hp}{Q:VK}{fr:List Nat}{fvs:St}{P:Nat->V->Prop}(it:L2.ItemsOf J xs Lk)(hz:xs.length<=1000000)(hf:(fr.map λi=>(σ[i]?).getD none)=fvs)(hL:∀H',Same H H'->Lk H')
  (turn:∀(i:Nat) (v:V) (H':Hp) (R:VK),xs[i]?=some v->Same H H'->(∀y H2,Same H' H2->P i y->R y H2)->te (some v::fvs) H' R)
  (k:∀l H' ys,New H H' l (.lst ys)->ys.length=xs.length->(∀(i:Nat) (y:V),ys[i]?=some y->P i y)->Q (.ref l) H'):dz J 1 fr (bK 0) mJ te σ H Q:=by
 intro acc hacc
 subst hf
 have BP:∀b u,H b=some u->b≠acc:=λb u e=>cj e hacc
 refine ou it (λi ys H'=>H' acc=some (.lst ys)/\Same H H'/\ys.length=i/\∀(j:Nat) (y:V),ys[j]?=some y->P j y) ⟨cA,Same.new hacc,rfl,λj y e=>by simp at e⟩ (λi ys H' _ h=>⟨hL H' h.2.1,h.1⟩) ?_ ?_
 ·rintro i x tv ys H' hx hi ⟨ha,hs,hl,hp⟩ htv
  obtain⟨tv0,rfl⟩:∃a,tv=[a]:=List.length_eq_one_iff.mp htv
  unfold bK mJ
  dsimp only
  rw[if_pos rfl]
  refine turn i x H' _ hx hs λy H2 s2 py=>⟨?_,s2 _ _ ha,jV.next (tv:=[some x]) hi ⟨cA,λb u e=>?_,by rw[List.length_append,hl];rfl,λj z e=>?_⟩ rfl⟩
  ·rw[hl]
   exact Nat.lt_of_lt_of_le hi (cI hz)
  ·rw[bZ (BP b u e)]
   exact s2 _ _ (hs _ _ e)
  ·by_cases hj:j<ys.length
   ·rw[List.getElem?_append_left hj] at e
    exact hp j z e
   ·rw[List.getElem?_append_right (by lia)] at e
    have hj2:j-ys.length=0:=by
     by_cases h0:j-ys.length=0
     ·exact h0
     ·rw[List.getElem?_eq_none (by simp;lia)] at e
      cases e
    rw[hj2] at e
    cases e
    have:j=i:=by lia
    rw[this]
    exact py
 ·rintro ys H' ⟨ha,hs,hl,hp⟩
  exact k acc H' ys ⟨hs,ha,BP⟩ hl hp
section
variable{X:Cx}{pins:List (Addr×Obj)}{EX:St->XK}{k m:Nat}{x:Str}{ps:List Str}{sp:Sp}{p pos apos:Pos}{e o:Expr}{es:List Expr}{t:TA}{ta:TE}{f C:Addr}{fd:FuncData}{nm:Str}
structure Z1(K:W.Frag)(C:Addr)(m:Str)(f:Addr):Prop where
 ga:W.specialIn K (.ref C) "__getattribute__" = some (some (.builtin "type.__getattribute__"))
 rd:W.readsIn K C (.type "type")=true
 at_:W.findCls K (.ref C) (.type "type") m=some (.val (.ref f))
 hi:W.handedIn (.ref f)=true
 kp:W.keepIn K (.ref f)=true
end
section
variable{P:Program}{w:World}{K:W.Frag}{mg:Str->Option Value}{base:Heap}{CX:CXT}{k:Nat}{x nm qual:Str}{ps:List Str}{sp:Sp}{C:Addr}
structure Met(P:Program)(w:World)(K:W.Frag)(mg:Str->Option Value)(base:Heap)(CX:CXT)(k:Nat)(C:Addr)(nm:Str)(ps:List Str)(sp:Sp):Prop where
 ex:∃(f:Addr) (fd:FuncData),jd P w K mg base CX k f fd ps sp/\Meth K C nm f/\Binds K fd ps []
structure Mak(P:Program)(w:World)(K:W.Frag)(mg:Str->Option Value)(base:Heap)(CX:CXT)(k:Nat)(x:Str)(C:Addr)(ps:List Str)(sp:Sp):Prop where
 ex:∃(f:Addr) (fd:FuncData),jd P w K mg base CX k f fd ps sp/\Mk K C f/\mg x=some (.ref C)/\Binds K fd ps []
def FnAt(K:W.Frag)(nm qual:Str)(st:Stmt)(f:Addr):Prop:=∃fd:FuncData,Fun K nm qual st f fd
structure lC(P:Program)(w:World)(K:W.Frag)(mg:Str->Option Value)(base:Heap)(CX:CXT)(k:Nat)(f:Addr)(ps:List Str)(sp:Sp):Prop where
 ex:∃fd:FuncData,jd P w K mg base CX k f fd ps sp/\Binds K fd ps []
theorem lC.met{f:Addr}(t:lC P w K mg base CX k f ps sp)(m:Meth K C nm f):Met P w K mg base CX k C nm ps sp:=let ⟨fd,F,b⟩:=t.ex;⟨f,fd,F,m,b⟩
theorem lC.mak{f:Addr}(t:lC P w K mg base CX k f ps sp)(m:Mk K C f)(g:mg x=some (.ref C)):Mak P w K mg base CX k x C ps sp:=let ⟨fd,F,b⟩:=t.ex;⟨f,fd,F,m,g,b⟩
variable{st:Stmt}{N:List Str}{f:Addr}
theorem gh(h:FnAt K nm qual st f)(S:aW N ps (aG st))(len:∀vs H Q E,sp vs H Q E->vs.length=ps.length)
  (hb:∀(kV doc pm:Value) (an:Option Addr) (cdv ct:Value) (us:List Value),us.length=ps.length->bindArgs (W.fnOf nm qual (fL st) (dM st) (aG st) .none kV doc pm an cdv ct) ⟨us,[]⟩=pure (ps.zip us))
  (hbody:∀(f:Addr) (cdv:Value) (A:Around) (outer:List Env) (s:Shared) (H:Hp) (vs:List V) (Q:VK) (E:XK),Room k (A.deeper (envOfC qual (aG st) s.heap.objs.size f cdv))->sp vs H Q E ->
   ∃t,PSs (sI CX P w K mg base N qual (aG st) f cdv A outer s H E).nox (dM st) t/\t { nx:=λ_ H'=>Q .non H',rt:=Q } (start N vs) H):lC P w K mg base CX (k+1) f ps sp:=by
 obtain⟨fd,F⟩:=h
 refine⟨fd,?_,F.binds hb⟩
 obtain⟨oc,od,kV,doc,pm,an,cdv,ct,osl,rfl,lk,hcd⟩:=F.ex
 refine Bq lk hcd S len λA outer s H vs Q E hr hsp=>?_
 obtain⟨t,h,q⟩:=hbody f cdv A outer s H vs Q E hr hsp
 exact⟨t,h.nox,q⟩
end
section
variable{X:Cx}{CX:CXT}{k m:Nat}{x nm:Str}{ps:List Str}{sp:Sp}{E:XK}{p pos apos:Pos}{e o:Expr}{es:List Expr}{t:TA}{ta:TE}{C:Addr}{pins:List (Addr×Obj)}{EX:St->XK}
theorem Gi{pl:Sem Bool}(he:PE X o ta)(c:Cls X.K C)(D:Met X.prog X.w X.K X.mg X.base CX k C nm ps sp)(hr:Room m X.A)(ha:PA X (e::es) t)(hk:k<=m:=by decide)(hx:Passes CX X E:=by exact Hw)
  (hst:starEach (e::es) X.env=(false,eval e X.env)::starEach es X.env:=by rfl) (hpl:(backTo pos (starEach es X.env)).any (·.1)=false:=by rfl)
  (ht:eval (.Call (.Attribute o nm apos) (e::es) [] pos) X.env=(do
   let ov <- eval o X.env
   standAt apos.atName
   let (f,first) <- holding [ov] (getMethod ov nm pl)
   callWith pos f first (backTo pos (starEach (e::es) X.env)) (backToKw pos (keywordEach [] X.env))):=by rfl) :
  PE X (.Call (.Attribute o nm apos) (e::es) [] pos) (wY C nm sp [] E ta t):=by
 obtain⟨f,fd,F,mt,b⟩:=D.ex
 exact Ru (pl:=pl) he c mt F (hr.mono hk) b .nil hx ha hst hpl ht
theorem fB{pl:Sem Bool}(he:PE X o ta)(c:Cls X.K C)(D:Met X.prog X.w X.K X.mg X.base CX k C nm ps sp)(hr:Room m X.A)(hk:k<=m:=by decide)(hx:Passes CX X E:=by exact Hw)
  (ht:eval (.Call (.Attribute o nm apos) [] [] pos) X.env=(do
   let ov <- eval o X.env
   standAt apos.atName
   let (f,first) <- holding [ov] (getMethod ov nm pl)
   callWith pos f first (backTo pos (starEach [] X.env)) (backToKw pos (keywordEach [] X.env))):=by rfl) :
  PE X (.Call (.Attribute o nm apos) [] [] pos) (wY C nm sp [] E ta uf):=by
 obtain⟨f,fd,F,mt,b⟩:=D.ex
 exact Mr (pl:=pl) he c mt F (hr.mono hk) b .nil hx ht
end
end L2
namespace L2
open PySem PySem.Spec PyProof.Rows
def Bd(k:Nat)(x:Int):Prop:=0<=x/\x<2 ^ k
theorem WD(k:Nat):(0:Int)<2 ^ k:=by
 have:(0:Nat)<2 ^ k:=Nat.pow_pos (by decide)
 exact_mod_cast this
theorem Bd.mul{a b:Nat}{x y:Int}(hx:Bd a x)(hy:Bd b y):Bd (a+b) (x*y):=by
 refine⟨Int.mul_nonneg hx.1 hy.1,?_⟩
 rw[Int.pow_add]
 exact Int.lt_of_le_of_lt (Int.mul_le_mul_of_nonneg_left (Int.le_of_lt hy.2) hx.1) (Int.mul_lt_mul_of_pos_right hx.2 (WD b))
theorem Bd.le{k:Nat}{x y:Int}(h:Bd k x)(h0:0<=y)(hy:y<=x):Bd k y:=⟨h0,Int.lt_of_le_of_lt hy h.2⟩
theorem N6{σ:St}{H:Hp}{te:TE}{tr:TA}{Q:VK}{fr:List Nat}{fvs:St}{n:Nat}(Iv:Addr->Nat->List V->Hp->Prop)(hr:Nh tr σ H [.int (n:Int)])(hz:n<=1000000)(hf:(fr.map λi=>(σ[i]?).getD none)=fvs)
  (h0:∀acc H',New H H' acc (.lst [])->Iv acc 0 [] H') (ha:∀acc i ys H',Iv acc i ys H'->H' acc=some (.lst ys)/\ys.length=i)
  (turn:∀acc i ys H' (R:VK),i<n->Iv acc i ys H'->(∀y H2,H2 acc=some (.lst ys)->(∀H3,Off acc H2 H3->H3 acc=some (.lst (ys++[y]))->Iv acc (i+1) (ys++[y]) H3)->R y H2)->te (some (.int i)::fvs) H' R)
  (k:∀acc ys H',Iv acc n ys H'->Q (.ref acc) H'):jm (Bl tr) 1 fr (bK 0) mJ te σ H Q:=by
 refine hr _ ⟨n,rfl,by lia,by lia,λacc hacc=>?_⟩
 subst hf
 rw[Int.toNat_natCast]
 refine ou rO (λi ys H'=>Iv acc i ys H') (h0 acc _ (.mk' hacc)) (λi ys H' _ h=>⟨trivial,(ha acc i ys H' h).1⟩) ?_ ?_
 ·rintro i x tv ys H' hx hi h htv
  obtain⟨tv0,rfl⟩:∃a,tv=[a]:=List.length_eq_one_iff.mp htv
  have hi':i<n:=by simpa[fZ] using hi
  obtain rfl:=ux hx hi'
  unfold bK mJ
  dsimp only
  rw[if_pos rfl]
  refine turn acc i ys H' _ hi' h λy H2 h1 h2=>⟨?_,h1,jV.next (tv:=[some (V.int i)]) hi (h2 _ Off.upd cA) rfl⟩
  rw[(ha acc i ys H' h).2]
  exact Nat.lt_of_lt_of_le hi' (cI hz)
 ·rintro ys H' h
  rw[show (fZ 0 n).length=n by simp[fZ]] at h
  exact k acc ys H' h
def U6:R2:=λx y H Q=>∃i j,x=.str i/\y=.str j/\i.length+j.length<=sizeLine/\Q (.str (i++j)) H
def rJoin(K:W.Frag):V->List V->Hp->VK->Prop:=λx xs H Q=>∃sep p ts,x=.str sep/\xs=[.ref p]/\SqL K H p (ts.map V.str)/\sep.length<=16/\(ts.map (λt=>t.length)).sum+ts.length<=1048576/\Q (.str (sep.join ts)) H
theorem uG:∀{ts:List Str} {us:List Value},Vals (ts.map V.str) us->StrsAre us ts
 | [],_,.nil=>.nil
 | t::ts,_,.cons r h=>by
  obtain⟨k,rfl⟩:=r
  exact .cons t k (uG h)
section
variable{X:Cx}{pos:Pos}
theorem sX:OpR X (binaryOp .Add) U6:=Fi
theorem Sq:MtR X "str.join" (rJoin X.K):=by
 intro pins s σ H x xs v us Q I rx rs h
 obtain⟨sep,p,ts,rfl,rfl,hq,h1,h2,q⟩:=h
 obtain⟨t,rfl⟩:=rx
 obtain⟨u,rfl,r1⟩:=vals1 rs
 cases r1
 obtain⟨its,r,pl,hz⟩:=I.list hq
 refine join_listW (items:=its.toArray) (ys:=ts) pl.isList (uG r) h1 h2 λt' k=>⟨.str (sep.join ts),H,I.tok _,⟨t',?_⟩,q⟩
 show Value.str (Builtin.Str.glued sep ts) t'=_
 rw[StrLaws.glued_eq_join]
theorem Ss{o e:Expr}{to te:TE}{apos cpos:Pos}(ho:PE X o to)(he:PE X e te)(hbase:attributeBase o "join" X.env (eval o X.env)=eval o X.env:=by rfl)
  (hfew:((backTo cpos (starEach [e] X.env)).all (λx=>!x.1) && (backToKw cpos (keywordEach [] X.env)).all (λx=>x.1.isSome)
   && decide (([e]:List Expr).length+([]:List Keyword).length+(if ([]:List Keyword).isEmpty then 0 else 1)<30))=true:=by rfl)
  (hline:(apos.endLine == cpos.line)=true:=by rfl) (hs:starEach [e] X.env=(false,eval e X.env)::starEach [] X.env:=by rfl) :
  PE X (.Call (.Attribute o "join" apos) [e] [] cpos) (tBM X.K "str" (rJoin X.K) to (nT te uf)) :=
 Br PySem.F.plainAttrs_str PySem.F.slot_str_join PySem.F.type_str_join Sq ho (aj he ao hs) hbase hfew hline hs (by rfl)
end
def cY:V->Dt
 | .int i=>.int i
 | .str x=>.str x
 | .bl b=>.bl b
 | _=>.non
def cQ:V->Bool
 | .int _=>true
 | .str _=>true
 | .bl _=>true
 | .non=>true
 | _=>false
section
variable{K:W.Frag}{H:Hp}
theorem N7{v:V}(h:cQ v=true):Rep K H (cY v) v:=by
 cases v <;> simp_all [cQ,cY,Rep]
theorem qC:∀{vs:List V},(∀v∈vs,cQ v=true)->dD K H (vs.map cY) vs
 | [],_=>by simp[dD]
 | v::vs,h=>by
  simp only[List.map_cons,dD]
  exact⟨_,_,rfl,N7 (h v (List.mem_cons_self ..)),qC λx hx=>h x (List.mem_cons_of_mem _ hx)⟩
theorem BR:∀vs:List V,fJ (vs.map cY)=0
 | []=>rfl
 | v::vs=>by
  have:dH (cY v)=0:=by cases v <;> rfl
  simp[fJ,this,BR vs]
abbrev dN(r:List V):Dt:=.tup (r.map cY)
theorem xJ:∀{rows:List (List V)} {ys:List V},aH H ys rows->(∀r∈rows,∀v∈r,cQ v=true)->dD K H (rows.map dN) ys
 | [],ys,h,_=>by
  have:ys=[]:=List.eq_nil_of_length_eq_zero h.1
  subst this
  simp[dD]
 | r::rows,[],h,_=>by simp[aH] at h
 | r::rows,y::ys,h,hf=>by
  obtain⟨q,e,hq⟩:=h.2 0 r rfl
  cases e
  simp only[List.map_cons,dD]
  refine⟨_,_,rfl,?_,xJ (rows:=rows) (ys:=ys) ⟨by simpa using h.1,λj r' e=>h.2 (j+1) r' e⟩ λx hx=>hf x (List.mem_cons_of_mem _ hx)⟩
  simp only[Rep]
  exact⟨q,r,rfl,SqT.of hq,qC (hf r (List.mem_cons_self ..))⟩
theorem BW:∀rows:List (List V),fJ (rows.map dN)<=1
 | []=>by decide
 | r::rows=>by
  have h1:dH (dN r)=1:=by simp only[dH,BR]
  have h2:=BW rows
  simp only[List.map_cons,fJ,h1]
  lia
theorem BX{p:Addr}{rows:List (List V)}{ys:List V}(hp:SqL K H p ys)(h:aH H ys rows)(hf:∀r∈rows,∀v∈r,cQ v=true):Rep K H (.lst (rows.map dN)) (.ref p):=by
 simp only[Rep]
 exact⟨p,ys,rfl,hp,xJ h hf⟩
theorem lD(rows:List (List V)):dH (.lst (rows.map dN))<=2:=by
 have:=BW rows
 simp only[dH]
 lia
theorem Sv{p:Addr}(h:SqL K H p []):Rep K H (.lst []) (.ref p):=by
 simp only[Rep]
 exact⟨p,_,rfl,h,by simp[dD]⟩
end
section
variable{K:W.Frag}{σ:St}{H:Hp}{Q:VK}{ta tv:TE}{t:TA}{f m:Str}{C:Addr}{sp:Sp}{dvs:List V}{E:XK}{D:Ends}
theorem WK(h:ta σ H λx H1=>∃a C dx fs v,x=.ref a/\H1 a=some (.ins C dx fs)/\Cls K C/\dO K C f/\fs.lookup f=some v/\Q v H1):VN K ta f σ H Q:=h
theorem w_fld{a dx:Addr}{fs:List (Str×V)}{v:V}{R:V->Prop}(ho:H a=some (.ins C dx fs))(c:Cls K C)(n:dO K C f)(l:fs.lookup f=some v)(k:R v) :
  ∃a' C' dx' fs' v',V.ref a=.ref a'/\H a'=some (.ins C' dx' fs')/\Cls K C'/\dO K C' f/\fs'.lookup f=some v'/\R v':=⟨a,C,dx,fs,v,rfl,ho,c,n,l,k⟩
end
theorem Ku{H:Hp}{x dx C:Addr}(hx:H x=none)(hd:H dx=none):Same H (upd (upd H dx (.own x)) x (.ins C dx [])):=λb u e=>by
 rw[bZ (cj e hx),bZ (cj e hd)]
 exact e
def HW:V->List V->Hp->VK->Prop:=λx vs H Q=>∃l b xs zs,x=.ref l/\vs=[.ref b]/\H l=some (.lst xs)/\H b=some (.lst zs)/\xs.length+zs.length<=sizeLine/\∀H',Off l H H'->H' l=some (.lst (xs++zs))->Q .non H'
section
variable{X:Cx}
theorem Sw:MtM X "list.extend" HW:=by
 intro pins s σ H x vs v us Q I rx rv h
 obtain⟨l,b,xs,zs,e1,e2,hH,hB,hz,q⟩:=h
 exact Ka pins s σ H x vs v us Q I rx rv ⟨l,b,xs,zs,e1,e2,hH,hB,hz,q _ Off.upd cA⟩
theorem Sx{o e:Expr}{to te:TE}{apos cpos:Pos}(ho:PE X o to)(he:PE X e te)(hbase:attributeBase o "extend" X.env (eval o X.env)=eval o X.env:=by rfl)
  (hfew:((backTo cpos (starEach [e] X.env)).all (λx=>!x.1) && (backToKw cpos (keywordEach [] X.env)).all (λx=>x.1.isSome)
   && decide (([e]:List Expr).length+([]:List Keyword).length+(if ([]:List Keyword).isEmpty then 0 else 1)<30))=true:=by rfl)
  (hline:(apos.endLine == cpos.line)=true:=by rfl) (hs:starEach [e] X.env=(false,eval e X.env)::starEach [] X.env:=by rfl) :
  PE X (.Call (.Attribute o "extend" apos) [e] [] cpos) (tBM X.K "list" HW to (nT te uf)) :=
 Br PySem.F.plainAttrs_list PySem.F.slot_list_extend PySem.F.type_list_extend Sw ho (aj he ao hs) hbase hfew hline hs (by rfl)
end
end L2
namespace L2
open PySem PySem.Spec PyProof.Rows PySem.SeqAt
section
variable{H H':Hp}{p a l:Addr}{o u:HO}
theorem New.at(n:New H H' p o)(h:H a=some u):H' a=some u:=n.s a u h
theorem Same.at(s:Same H H')(h:H a=some u):H' a=some u:=s a u h
theorem Off.at(f:Off l H H')(ne:a≠l)(h:H a=some u):H' a=some u:=by rw[f a ne];exact h
theorem Kp.at(k:Kp l H H')(ne:a≠l)(h:H a=some u):H' a=some u:=k a u ne h
def Gj(H:Hp)(p:Addr)(rows:List (List V)):Prop:=∃ys,H p=some (.lst ys)/\aH H ys rows
theorem Gj.same{rows:List (List V)}(s:Same H H')(h:Gj H p rows):Gj H' p rows:=let ⟨ys,a,b⟩:=h;⟨ys,s _ _ a,b.same s⟩
end
section
variable{X:Cx}{id:String}{x nm:Str}{e v:Expr}{es:List Expr}{t:TA}{tv:TE}{p kp pos:Pos}
def N8(X:Cx)(id:String)(nm:Str)(r:List V->V->Hp->VK->Prop):Prop:=∀(pins:List (Addr×Obj)) (s:Shared) (σ:St) (H:Hp) (xs:List V) (us:List Value) (y:V) (u:Value) (Q:VK),Inv X pins σ H s->Vals xs us->RelV y u->r xs y H Q ->
 wpAny (model X.prog X.w) X.A (call (.builtin id) us [(nm,u)]) (EP X pins σ Q) X.xe s
def tCK(r:List V->V->Hp->VK->Prop)(t:TA)(tv:TE):TE:=λσ H Q=>t σ H λxs H1=>tv σ H1 λy H2=>r xs y H2 Q
theorem Z2{r:List V->V->Hp->VK->Prop}{σ:St}{H:Hp}{Q:VK}(h:t σ H λxs H1=>tv σ H1 λy H2=>r xs y H2 Q):tCK r t tv σ H Q:=h
theorem N_{r:List V->V->Hp->VK->Prop}(hc:N8 X id nm r)(hg:Gl X x)(hm:X.mg x=none)(hv:bootBuiltins x=some (.builtin id))(ha:PA X (e::es) t)(hw:PE X v tv)(hn:x ≠ "__name__":=by decide)(hdb:(x == ("__debug__" : Str))=false:=by decide)
  (he:backTo pos (starEach (e::es) X.env)=(false,eval e X.env)::backTo pos (starEach es X.env):=by rfl) (hpl:(backTo pos (starEach (e::es) X.env)).any (·.1)=false:=by rfl):PE X (.Call (.Name x p) (e::es) [⟨some nm,v,kp⟩] pos) (tCK r t tv):=by
 intro pins s σ H Q I h
 refine wpAny_Call_Name_kw (iB I hg hm hv ?_ hn hdb)
 refine callWith_kw (thn (ha pos pins s σ H _ I h) λus s1 ⟨vs,H1,I1,r1,q1⟩=>?_) he hpl
 refine kws_cons (thn (hw pins s1 σ H1 _ I1 q1) λz s2 ⟨y,H2,I2,r2,q2⟩=>kws_nil ?_)
 have hv2:Vals vs us:=r1
 exact hc pins s2 σ H2 vs us y z Q I2 hv2 r2 q2
end
theorem uH:∀{ns:List Int} {us:List Value},Vals (ns.map V.int) us->IntsAre us ns
 | [],_,.nil=>.nil
 | n::ns,_,.cons r t=>by
  obtain⟨k,rfl⟩:=r
  exact .cons n k (uH t)
theorem j5:∀{us:List Value} {ns:List Int} {i:Nat} {v:Value},IntsAre us ns->us[i]?=some v->∃t,v=.int (ns.getD i 0) t
 | _,_,_,_,.nil,e=>by simp at e
 | _,_,0,_,.cons n t h,e=>by
  simp at e
  exact⟨t,e.symm⟩
 | _,_,i+1,_,.cons n t h,e=>by
  obtain⟨t',e'⟩:=j5 (i:=i) h (by simpa using e)
  exact⟨t',by rw[e'];simp⟩
theorem j6(ns:List Int):∀n,n<=ns.length->preSum (λi=>ns.getD i 0) n=(ns.take n).sum
 | 0,_=>by simp[preSum]
 | n+1,h=>by
  rw[preSum,j6 ns n (by lia),List.take_succ,List.sum_append]
  have:ns[n]?=some ns[n]:=by simp
  rw[List.getD_eq_getElem?_getD,this]
  simp
theorem Gk{ns:List Int}(h:∀n∈ns,0<=n/\n<=1000000):0<=ns.sum/\ns.sum<=1000000*(ns.length:Int):=by
 induction ns with
 | nil=>simp
 | cons a t ih =>
  have h1:=h a List.mem_cons_self
  have h2:=ih λn hn=>h n (List.mem_cons_of_mem _ hn)
  rw[List.sum_cons,List.length_cons]
  lia
def m6(d:Int)(ns:List Int):Int:=ns.foldl max d
section
variable{X:Cx}
def Oa(K:W.Frag):List V->Hp->VK->Prop:=λxs H Q=>∃(p:Addr) (ns:List Int),xs=[.ref p]/\SqL K H p (ns.map V.int)/\(∀n∈ns,0<=n/\n<=1000000)/\ns.length<=1000000/\Q (.int ns.sum) H
theorem Kv(hc:X.calm=true):eH X (.builtin "sum") (Oa X.K):=by
 intro pins s σ H xs us Q I r h
 obtain⟨p,ns,rfl,hq,hb,hz,q⟩:=h
 obtain⟨u,rfl,rx⟩:=vals1 r
 cases rx
 obtain⟨its,rv,pl,_⟩:=I.list hq
 have hi:=uH rv
 have hn:its.length=ns.length:=by have:=rv.length;simpa using this.symm
 have hl:=pl.isList
 have hlt:p<s.heap.objs.size:=let ⟨_,e,_⟩:=hl;Heap.lt_size e
 have part:∀j,j<=ns.length->0<=(ns.take j).sum/\(ns.take j).sum<=1000000*1000000:=λj hj=>by
  have b:=Gk (ns:=ns.take j) λn hn=>hb n (List.mem_of_mem_take hn)
  have:(ns.take j).length<=1000000:=by rw[List.length_take];lia
  lia
 refine call_sum_walk (wpAny_pyIter_list hl ?_)
 refine⟨s.heap.objs.size,[s.heap.objs.size,p],[s.heap.objs.size],its.toArray.size,_,_,λi=>ns.getD i 0,rfl,Walks.list (A:=X.A.in1) (I.ok.hd hc) _ p (Nat.ne_of_lt hlt) its.toArray,
  ⟨⟨_,Heap.get?_push_size _ rfl,rfl,rfl⟩,hl.push _⟩,λb hb'=>?_,λi v hP=>j5 hi (by simpa using hP),λj hj=>?_,λh' tk t' hk=>?_⟩
 ·rcases List.mem_cons.mp hb' with rfl|hb'
  ·show _<(s.heap.push _).objs.size
   rw[size_push']
   exact Nat.lt_succ_self _
  ·rw[List.mem_singleton.mp hb']
   show _<(s.heap.push _).objs.size
   rw[size_push']
   exact Nat.lt_succ_of_lt hlt
 ·have hj':j<ns.length:=by rw[<- hn];simpa using hj
  rw[j6 ns (j+1) hj']
  have b1:=part (j+1) hj'
  have b2:=hb (ns.getD j 0) (by rw[List.getD_eq_getElem?_getD,List.getElem?_eq_getElem hj'];exact List.getElem_mem hj')
  exact⟨⟨by show _<=ns.getD j 0;lia,by show ns.getD j 0<_;lia⟩,by lia,by lia⟩
 ·rw[List.size_toArray,hn,j6 ns _ (Nat.le_refl _),List.take_length]
  exact⟨.int _,H,I.kept (LSm.kept_iter hk),⟨_,rfl⟩,q⟩
theorem Sy{P:Program}{w:World}{A:Around}{E:Value->Shared->Prop}{s:Shared}{i j:Int}{t u:Tok}{Q:Value->Shared->Prop}(h:Q (.bool (decide (j<i))) s):wpAny (model P w) A (richCompare .Gt (.int i t) (.int j u)) Q E s:=gt_int h
section
variable{P:Program}{w:World}{A:Around}{R:Result->Shared->Prop}{it:Addr}{fp wr:List Addr}{ns:List Int}{V0:Nat->Value->Prop}{St0:Nat->Heap->Prop}{kw:List (Str×Value)}
abbrev sY(vs:Array Value)(c:Nat):Obj:={ cls:=.type "list", dict:=none,data:=.seq vs c,slots:=#[] }
theorem Ob(W:Walks P w A.in1 it fp wr ns.length V0 St0)(hv:∀i v,V0 i v->∃t,v=.int (ns.getD i 0) t)(B:Addr)(hB:B ∉ fp)(left:Nat) :
  ∀(j:Nat) (s:Shared) (m:Int) (t:Tok) (c:Nat),j+left=ns.length->St0 j s.heap->m=m6 (ns.getD 0 0) (ns.take j)->s.heap.get? B=some (sY #[.int m t,.int m t] c) ->
  (∀h' tk t',(∀b ob,b ∉ wr->b≠B->s.heap.get? b=some ob->h'.get? b=some ob)->R (.ok (.ret (.int (m6 (ns.getD 0 0) ns) t'))) { s with heap:=h',toks:=tk }) ->
  codeAny (model P w) A (.builtin "max.loop" ⟨[.ref it,.none,.ref B],kw⟩) R s:=by
 have hBw:B ∉ wr:=λz=>hB (W.sub _ z)
 induction left with
 | zero =>
  intro j s m t c hj st hm hb k
  have ej:j=ns.length:=by lia
  subst ej
  refine codeAny_builtin F.entry_max_loop ?_
  rw[Around.under_plainId F.plain_max_loop _]
  show wpAny _ _ (seqItems? (Value.ref B) >>= _) _ _ _
  refine wpAny_bind (wpAny_seqItems hb rfl ?_)
  show wpAny _ _ (tryCatch (pyNext (Value.ref it)) _ >>= _) _ _ _
  refine wpAny_bind (wpAny_tryCatch (W.done s _ _ st λh1 tk1 k1=>?_))
  have hb1:=k1 B _ hBw hb
  show wpAny _ _ (updateSeq B _ >>= _) _ _ _
  refine wpAny_bind (wpAny_updateSeq hb1 rfl (wpAny_bind (wpAny_letGo (wpAny_pure ?_))))
  rw[List.take_length] at hm
  rw[hm]
  exact k _ _ t λb ob n1 n2 q=>(Heap.get?_update_other _ _ (λz=>n2 z.symm)).trans (k1 b ob n1 q)
 | succ left ih =>
  intro j s m t c hj st hm hb k
  have hlt:j<ns.length:=by lia
  refine codeAny_builtin F.entry_max_loop ?_
  rw[Around.under_plainId F.plain_max_loop _]
  show wpAny _ _ (seqItems? (Value.ref B) >>= _) _ _ _
  refine wpAny_bind (wpAny_seqItems hb rfl ?_)
  show wpAny _ _ (tryCatch (pyNext (Value.ref it)) _ >>= _) _ _ _
  refine wpAny_bind (wpAny_tryCatch (W.item j s _ _ hlt st λv h1 tk1 pv st1 k1=>?_))
  obtain⟨t1,rfl⟩:=hv j v pv
  have hb1:=k1 B _ hBw hb
  have nx:m6 (ns.getD 0 0) (ns.take (j+1))=max m (ns.getD j 0):=by
   have e:ns[j]?=some ns[j]:=by simp
   rw[List.take_succ,e,hm,List.getD_eq_getElem?_getD (i:=j),e]
   show List.foldl max _ _=_
   rw[List.foldl_append]
   rfl
  show wpAny _ _ (tryCatch (holding _ (richCompare .Gt _ _ >>= _)) _ >>= _) _ _ _
  refine wpAny_bind (wpAny_tryCatch (wpAny_holding (wpAny_bind (Sy ?_))))
  refine wpAny_bind (wpAny_holding (wpAny_truthy_bool ?_))
  refine wpAny_bind (wpAny_letGo (wpAny_pure ?_))
  have hs:(toString "max" ++ toString ".loop" : String) = "max.loop":=by decide
  by_cases hg:m<ns.getD j 0
  ·rw[decide_eq_true hg]
   simp only[if_true]
   refine wpAny_bind (wpAny_updateSeq hb1 rfl (wpAny_bind (wpAny_letGo ?_)))
   rw[hs]
   refine wpAny_pure ⟨plainId_quiet F.plain_max_loop _,ih (j+1) _ (ns.getD j 0) t1 _ (by lia) (W.frame _ _ _ st1 λb hbf ob q=>?_) (by rw[nx];lia) (Heap.get?_update_self _ hb1 rfl) λh2 tk2 t2 k2=>?_⟩
   ·exact(Heap.get?_update_other _ _ (λz=>hB (by rw[z];exact hbf))).trans q
   ·exact k h2 tk2 t2 λb ob n1 n2 q=>k2 b ob n1 n2 ((Heap.get?_update_other _ _ (λz=>n2 z.symm)).trans (k1 b ob n1 q))
  ·rw[decide_eq_false hg]
   simp only[Bool.false_eq_true,if_false]
   refine wpAny_bind (wpAny_letGo ?_)
   rw[hs]
   refine wpAny_pure ⟨plainId_quiet F.plain_max_loop _,ih (j+1) _ m t c (by lia) st1 (by rw[nx];lia) hb1 λh2 tk2 t2 k2=>k h2 tk2 t2 λb ob n1 n2 q=>k2 b ob n1 n2 (k1 b ob n1 q)⟩
theorem SJ{d:Int}{td:Tok}(W:Walks P w A.in1 it fp wr ns.length V0 St0)(hv:∀i v,V0 i v->∃t,v=.int (ns.getD i 0) t)(B:Addr)(hB:B ∉ fp){s:Shared}{c:Nat}(st:St0 0 s.heap)
  (hkw:ns=[]->kw=[(("default" : Str),Value.int d td)]) (hb:s.heap.get? B=some (sY #[] c))
  (k:∀h' tk t',(∀b ob,b ∉ wr->b≠B->s.heap.get? b=some ob->h'.get? b=some ob)->R (.ok (.ret (.int (if ns=[] then d else m6 (ns.getD 0 0) ns) t'))) { s with heap:=h',toks:=tk }) :
  codeAny (model P w) A (.builtin "max.loop" ⟨[.ref it,.none,.ref B],kw⟩) R s:=by
 have hBw:B ∉ wr:=λz=>hB (W.sub _ z)
 have hs:(toString "max" ++ toString ".loop" : String) = "max.loop":=by decide
 refine codeAny_builtin F.entry_max_loop ?_
 rw[Around.under_plainId F.plain_max_loop _]
 show wpAny _ _ (seqItems? (Value.ref B) >>= _) _ _ _
 refine wpAny_bind (wpAny_seqItems hb rfl ?_)
 show wpAny _ _ (tryCatch (pyNext (Value.ref it)) _ >>= _) _ _ _
 by_cases hn:ns=[]
 ·subst hn
  rw[hkw rfl]
  refine wpAny_bind (wpAny_tryCatch (W.done s _ _ st λh1 tk1 k1=>?_))
  refine wpAny_bind (wpAny_rule ?_)
  exact wpAny_pure (k h1 tk1 td λb ob n1 _ q=>k1 b ob n1 q)
 ·have hlt:0<ns.length:=List.length_pos_iff.mpr hn
  refine wpAny_bind (wpAny_tryCatch (W.item 0 s _ _ hlt st λv h1 tk1 pv st1 k1=>?_))
  obtain⟨t1,rfl⟩:=hv 0 v pv
  have hb1:=k1 B _ hBw hb
  show wpAny _ _ (updateSeq B _ >>= _) _ _ _
  refine wpAny_bind (wpAny_updateSeq hb1 rfl ?_)
  rw[hs]
  rw[if_neg hn] at k
  refine wpAny_pure ⟨plainId_quiet F.plain_max_loop _,Ob W hv B hB (ns.length-1) 1 _ (ns.getD 0 0) t1 _ (by lia) (W.frame _ _ _ st1 λb hbf ob q=>?_) ?_ (Heap.get?_update_self _ hb1 rfl) λh2 tk2 t2 k2=>?_⟩
  ·exact(Heap.get?_update_other _ _ (λz=>hB (by rw[z];exact hbf))).trans q
  ·have e:ns[0]?=some ns[0]:=by simp
   rw[List.take_succ,e,List.getD_eq_getElem?_getD,e]
   simp[m6]
  ·exact k h2 tk2 t2 λb ob n1 n2 q=>k2 b ob n1 n2 ((Heap.get?_update_other _ _ (λz=>n2 z.symm)).trans (k1 b ob n1 q))
end
theorem HX:∀(ns:List Int) (d:Int),d<=m6 d ns/\∀n∈ns,n<=m6 d ns
 | [],d=>⟨Int.le_refl _,by simp⟩
 | a::t,d=>by
  have h:=HX t (max d a)
  refine⟨Int.le_trans (by lia) h.1,λn hn=>?_⟩
  rcases List.mem_cons.mp hn with rfl|hn
  ·exact Int.le_trans (by lia) h.1
  ·exact h.2 n hn
theorem BZ:∀(ns:List Int) (d:Int),m6 d ns=d\/m6 d ns∈ns
 | [],d=>.inl rfl
 | a::t,d=>by
  rcases BZ t (max d a) with h|h
  ·have e:m6 d (a::t)=max d a:=h
   by_cases hd:a<=d
   ·exact .inl (by rw[e];lia)
   ·exact .inr (by rw[e,show max d a=a by lia];exact List.mem_cons_self)
  ·exact .inr (List.mem_cons_of_mem _ h)
theorem Kw{ns:List Int}{d:Int}(hd:∀n∈ns,d<=n)(hn:ns≠[]):m6 (ns.getD 0 0) ns=m6 d ns:=by
 cases ns with
 | nil=>exact absurd rfl hn
 | cons a t =>
  have h:=hd a List.mem_cons_self
  show List.foldl max a (a::t)=List.foldl max d (a::t)
  simp only[List.foldl_cons]
  rw[show max a a=a by lia,show max d a=a by lia]
theorem oG{P:Program}{w:World}{A:Around}{E:Value->Shared->Prop}{s:Shared}{id:String}{b:Builtin}{args:List Value}{kw:List (Str×Value)}{Q:Value->Shared->Prop}(hk:builtinKind id=none)(hp:plainId id=true)
  (hb:entryFor table id=some b) (ha:argsOk id ⟨args,kw⟩)
  (hc:wpAny (model P w) A.in1 (b ⟨args,kw⟩) (λfin s1=>match fin with
   | .done f=>(match (Except.ok f:Result) with|.ok (.ret v)=>Q v s1|.ok _=>False|.error e=>E e s1)
   | .again c=>c.quiet=true/\codeAny (model P w) A c (λr s2=>match r with|.ok (.ret v)=>Q v s2|.ok _=>False|.error e=>E e s2) s1) E s):wpAny (model P w) A (call (.builtin id) args kw) Q E s:=by
 refine wpAny_call (codeAny_call_builtin hp hb ?_)
 simp only[checkBuiltinCall,hk]
 unfold argsOk at ha
 cases hg:Manifest.signature? id with
 | none=>exact wpAny_pure hc
 | some sg =>
  rw[hg] at ha
  have ha2:Bind.checkArgs id sg ⟨args,kw⟩=pure ():=ha
  simp only[ha2]
  exact wpAny_pure hc
def Z4(K:W.Frag):List V->Hp->VK->Prop:=λxs H Q=>∃(p:Addr) (ns:List Int),xs=[.ref p]/\SqL K H p (ns.map V.int)/\ns≠[]/\Q (.int (m6 (ns.getD 0 0) ns)) H
theorem Ky(hc:X.calm=true):eH X (.builtin "max") (Z4 X.K):=by
 intro pins s σ H xs us Q I r h
 obtain⟨p,ns,rfl,hq,h0,q⟩:=h
 obtain⟨v,rfl,rx⟩:=vals1 r
 cases rx
 obtain⟨its,rv,pl,_⟩:=I.list hq
 have hi:=uH rv
 have hn:its.length=ns.length:=by have:=rv.length;simpa using this.symm
 have hl:=pl.isList
 have hlt:p<s.heap.objs.size:=let ⟨_,e,_⟩:=hl;Heap.lt_size e
 have hs:(toString "max" ++ toString ".loop" : String) = "max.loop":=by decide
 refine oG F.kind_max F.plain_max F.entry_max (F.args_max1 _) ?_
 show wpAny _ _ (Builtin.Builtins.bindParams "max" ["key","default"] 0 ⟨[],[]⟩ >>= _) _ _ s
 refine wpAny_bind (wpAny_of_eq (show Builtin.Builtins.bindParams "max" ["key","default"] 0 ⟨[],[]⟩=pure [none,none] from rfl) ?_)
 refine wpAny_bind (wpAny_pure ?_)
 refine wpAny_bind (wpAny_pyIter_list hl ?_)
 refine wpAny_bind (wpAny_newObj_type ?_)
 rw[hs]
 have W:=Walks.list (prog:=X.prog) (w:=X.w) (A:=X.A.in1) (I.ok.hd hc) s.heap.objs.size p (Nat.ne_of_lt hlt) its.toArray
 rw[show its.toArray.size=ns.length by rw[List.size_toArray];exact hn] at W
 refine wpAny_pure ⟨plainId_quiet F.plain_max_loop _,SJ (d:=0) (td:=0) W (λi v hP=>j5 hi (by simpa using hP)) _ (λz=>?_) (W.frame _ _ _ ⟨⟨_,Heap.get?_push_size _ rfl,rfl,rfl⟩,hl.push _⟩ λb _ ob e=>Heap.get?_push_of_some _ e) (λz=>absurd z h0) (Heap.get?_push_size _ rfl) λh' tk t' hk=>?_⟩
 ·rcases List.mem_cons.mp z with z|z
  ·exact absurd z (by rw[size_push'];exact Nat.succ_ne_self _)
  ·exact absurd (List.mem_singleton.mp z) (by rw[size_push'];exact Nat.ne_of_gt (Nat.lt_succ_of_lt hlt))
 ·rw[if_neg h0]
  refine⟨.int _,H,I.kept λb ob q=>?_,⟨_,rfl⟩,by assumption⟩
  have hb:b<s.heap.objs.size:=Heap.lt_size q
  exact hk b ob (λz=>absurd (List.mem_singleton.mp z) (Nat.ne_of_lt hb)) (by rw[size_push'];exact Nat.ne_of_lt (Nat.lt_succ_of_lt hb)) (Heap.get?_push_of_some _ (Heap.get?_push_of_some _ q))
end
theorem cO{CX:CXT}{P:Program}{w:World}{K:W.Frag}{mg:Str->Option Value}{base:Heap}{N:List Str}{q:Str}{sc:Scope}{f:Addr}{cdv:Value}{A:Around}{outer:List Env}{s:Shared}{H:Hp}{E:XK}:(sI CX P w K mg base N q sc f cdv A outer s H E).nox.K=K:=rfl
theorem bW{CX:CXT}{P:Program}{w:World}{K:W.Frag}{mg:Str->Option Value}{base:Heap}{N:List Str}{q:Str}{sc:Scope}{f:Addr}{cdv:Value}{A:Around}{outer:List Env}{s:Shared}{H:Hp}{E:XK}:(sI CX P w K mg base N q sc f cdv A outer s H E).K=K:=rfl
def Hs(H:Hp)(a:Addr):Prop:=∃u,H a=some u
section
variable{H H':Hp}{a p l:Addr}{o u:HO}
theorem Hs.of(h:H a=some u):Hs H a:=⟨u,h⟩
theorem New.hs(n:New H H' p o):Hs H' p:=⟨o,n.e⟩
end
section
variable{H:Hp}{Q:VK}{K:W.Frag}{l b:Addr}{xs ys:List V}{y:V}{σ:St}{D:Ends}
theorem Z5{R:Prop}(h:SqL K H l xs)(k:R):tyV K "list" (.ref l) H/\R:=⟨.inl ⟨rfl,_,h⟩,k⟩
theorem Z6(h:H l=some (.lst xs))(z:xs.length<sizeLine)(k:∀H',Off l H H'->H' l=some (.lst (xs++[y]))->Q .non H'):HD (.ref l) [y] H Q:=⟨l,xs,y,rfl,rfl,h,z,k⟩
theorem Z7(h:H l=some (.lst xs))(e:H b=some (.lst ys))(z:xs.length+ys.length<=sizeLine)(k:∀H',Off l H H'->H' l=some (.lst (xs++ys))->Q .non H'):HW (.ref l) [.ref b] H Q:=⟨l,b,xs,ys,rfl,rfl,h,e,z,k⟩
theorem Z8(h:H l=some (.lst xs))(k:∀H',Off l H H'->H' l=some (.lst [])->Q .non H'):sW (.ref l) [] H Q:=⟨l,xs,rfl,rfl,h,k⟩
theorem Gm{i:Int}{j:Nat}{v:V}{R:Hp->Prop}(h:H l=some (.lst xs))(e:ixN xs.length i=some j)(k:∀H',Off l H H'->H' l=some (.lst (xs.set j v))->R H'):BL (.ref l) (.int i) v H R:=⟨l,xs,i,j,rfl,rfl,h,e,k⟩
theorem Z9{lo hi:Option Int}(h:SqL K H l xs)(k:∀p H',New H H' p (.lst (nW xs lo hi))->Q (.ref p) H'):Wi K (.ref l) lo hi H Q:=⟨l,xs,rfl,h,k⟩
theorem WL(h:H l=some (.lst xs))(e:H b=some (.lst ys))(z:xs.length+ys.length<=sizeLine)(k:∀p H',New H H' p (.lst (xs++ys))->Q (.ref p) H'):Nf (.ref l) (.ref b) H Q:=⟨l,b,xs,ys,rfl,rfl,h,e,z,k⟩
theorem WM{n:Nat}(h:H l=some (.lst [y]))(z:n<=1000000)(k:∀p H',New H H' p (.lst (List.replicate n y))->Q (.ref p) H'):Ng (.ref l) (.int (n:Int)) H Q :=
 ⟨l,n,[y],rfl,rfl,h,by lia,by lia,by simp only[List.length_singleton,Int.toNat_natCast,Nat.one_mul];exact cI z,λp H' q=>k p H' (by
  have e:(List.replicate ((n:Int).toNat) [y]).flatten=List.replicate n y:=by
   rw[Int.toNat_natCast]
   clear z q k h
   induction n with
   | zero=>rfl
   | succ n ih=>rw[List.replicate_succ,List.flatten_cons,ih];rfl
  rw[<- e];exact q)⟩
theorem WQ(h:SqL K H l xs)(k:∀p H',New H H' p (.lst xs)->Q (.ref p) H'):HS K [.ref l] H Q:=⟨l,xs,rfl,.inl h,k⟩
theorem w_sumL{ns:List Int}(h:SqL K H l (ns.map V.int))(hb:∀n∈ns,0<=n/\n<=1000000)(hz:ns.length<=1000000)(k:Q (.int ns.sum) H):Oa K [.ref l] H Q:=⟨l,ns,rfl,h,hb,hz,k⟩
theorem WR{C dx:Addr}{fs:List (Str×V)}{m:Str}{R:Prop}(h:H l=some (.ins C dx fs))(e:fs.lookup m=none)(k:R):∃a' dx' fs',V.ref l=.ref a'/\H a'=some (.ins C dx' fs')/\fs'.lookup m=none/\R:=⟨l,dx,fs,rfl,h,e,k⟩
theorem Z_{n:Nat}{i:Int}(h0:0<=i)(h1:i<n):ixN n i=some i.toNat:=by unfold ixN;rw[if_pos h0,if_pos h1]
theorem adL{x y:V}{r:List V}:atI (x::y::r) 1=some y:=cD (j:=1) rfl
theorem adM{x y z:V}{r:List V}:atI (x::y::z::r) 2=some z:=cD (j:=2) rfl
theorem adN{x y z w:V}{r:List V}:atI (x::y::z::w::r) 3=some w:=cD (j:=3) rfl
theorem adO{A B:Prop}(k:A):if (true:Bool)=true then A else B:=by rw[if_pos rfl];exact k
theorem adP{A B:Prop}(k:B):if (false:Bool)=true then A else B:=by rw[if_neg (by decide)];exact k
theorem aac{A B:Prop}(k:B):if (!true:Bool)=true then A else B:=by rw[if_neg (by decide)];exact k
theorem aad{A B:Prop}(k:A):if (!false:Bool)=true then A else B:=by rw[if_pos (by decide)];exact k
theorem WT(h:H l=some (.tup xs))(k:Q (.bl true) H):jE K [.ref l,.ty "tuple"] H Q:=w_is (.tup h) (oF (.tup h)) k
theorem WW(h:H l=some (.lst xs))(k:Q (.bl true) H):jE K [.ref l,.ty "list"] H Q:=w_is (.lst h) (sV (.lst h)) k
theorem WX(h:H l=some (.tup xs))(k:Q (.bl false) H):jE K [.ref l,.ty "list"] H Q:=w_is (.tup h) (sV (.tup h)) k
theorem WY(h:H l=some (.lst xs))(k:Q (.bl false) H):jE K [.ref l,.ty "tuple"] H Q:=w_is (.lst h) (oF (.lst h)) k
theorem W0{i:Int}(k:Q (.bl false) H):jE K [.int i,.ty "bool"] H Q:=w_is (dR.int (K:=K) (H:=H) i) (oE (dR.int (K:=K) (H:=H) i)) k
theorem W2{b:Bool}(k:Q (.bl true) H):jE K [.bl b,.ty "bool"] H Q:=w_is (dR.bl (K:=K) (H:=H) b) (oE (dR.bl (K:=K) (H:=H) b)) k
theorem B_{n:Nat}(h:n<1000000):n<sizeLine:=Nat.lt_of_lt_of_le h (cI (Nat.le_refl _))
theorem W4{n i0 i1:Nat}{a b:V}{R:St->Hp->Prop}(hn:n=2)(hp:SqT K H l [a,b])(h:bK i0 a σ H λσ1 H1=>bK i1 b σ1 H1 R):JZ K n (iC (bK i0) (iC (bK i1) JX)) (.ref l) σ H R:=by
 subst hn
 exact Wu hp h
theorem HY{i:Int}(h:SqL K H l xs)(h0:0<=i)(h1:i<xs.length)(k:∀v∈xs,Q v H):Rx K (.ref l) (.int i) H Q:=let ⟨v,e,m⟩:=M8 h0 h1;Nv h e (k v m)
theorem lE{rows:List (List V)}{i:Nat}{v:V}(h:aH H xs rows)(e:xs[i]?=some v):∃r q,rows[i]?=some r/\v=.ref q/\H q=some (.tup r):=by
 have hi:i<rows.length:=by rw[<- h.1];exact(List.getElem?_eq_some_iff.mp e).1
 obtain⟨q,e1,e2⟩:=h.2 i rows[i] (by simp)
 rw[e] at e1
 exact⟨rows[i],q,by simp,Option.some.inj e1,e2⟩
theorem jo{te:TE}{fr:List Nat}{fvs:St}{rows:List (List V)}{F:List V->V}(hq:H l=some (.lst xs))(tp:aH H xs rows)(hz:xs.length<=1000000)(hf:(fr.map λi=>(σ[i]?).getD none)=fvs)
  (turn:∀(q:Addr) (r:List V) (H':Hp) (R:VK),r∈rows->Same H H'->H' q=some (.tup r)->(∀H2,Same H' H2->R (F r) H2)->te (some (.ref q)::fvs) H' R)
  (k:∀p H',New H H' p (.lst (rows.map F))->Q (.ref p) H'):dz (Itl K l) 1 fr (bK 0) mJ te σ H Q:=by
 refine comp_map (P:=λi y=>∃r,rows[i]?=some r/\y=F r) (gB (xs:=xs)) hz hf (λH' s=>s.seq (SqL.of hq)) (λi v H' R hv s kk=>?_) λp H' ys n hl hP=>k p H' ?_
 ·obtain⟨r,q,e1,rfl,e2⟩:=lE tp hv
  exact turn q r H' R (List.mem_of_getElem? e1) s (s _ _ e2) λH2 s2=>kk _ _ s2 ⟨r,e1,rfl⟩
 ·have e:ys=rows.map F:=by
   apply List.ext_getElem?
   intro i
   rw[List.getElem?_map]
   by_cases hi:i<ys.length
   ·obtain⟨r,e1,e2⟩:=hP i ys[i] (by simp)
    rw[e1,List.getElem?_eq_getElem hi,e2]
    rfl
   ·have:¬ i<rows.length:=by rw[<- tp.1];lia
    rw[List.getElem?_eq_none (by lia),List.getElem?_eq_none (by lia)]
    rfl
  rw[e] at n
  exact n
end
section
variable{K:W.Frag}{g:TG}{tb:TS}{D:Ends}{σ:St}{H:Hp}{tr:TA}
def wL(lo:Int)(n:Nat)(g:TG)(tb:TS)(D:Ends)(σ:St)(H:Hp):Prop:=∃W:Nat->Nat->St->Hp->Prop,(∃m,W 0 m σ H)/\∀i m σ H,W i m σ H ->
 ((Itr lo n).stop i H/\D.nx σ H)\/((Itr lo n).go i H/\∃N:St->Hp->Prop,(∀σ' H',N σ' H'->∃m',m'<m/\W (i+1) m' σ' H')/\∀x H',(Itr lo n).yld i H x H'->g x σ H' λσ2 H2=>tb { D with nx:=N,ct:=N,bk:=D.nx } σ2 H2)
theorem SM{lo:Int}{n:Nat}(Pv:Nat->St->Hp->Prop)(h0:Pv 0 σ H)(hs:∀i σ H,i<n->Pv i σ H->g (.int (lo+i)) σ H λσ2 H2=>tb { D with nx:=Pv (i+1),ct:=Pv (i+1),bk:=D.nx } σ2 H2)(hd:∀σ H,Pv n σ H->D.nx σ H):wL lo n g tb D σ H:=wV Pv h0 hs hd
theorem SN(h:tr σ H λvs H1=>∃j:Int,vs=[.int j]/\-(2 ^ 62)<=j/\j<2 ^ 62/\wL 0 j.toNat g tb D σ H1):tZ (Bl tr) g tb D σ H:=h
theorem SQ(h:tr σ H λvs H1=>∃i j:Int,vs=[.int i,.int j]/\(-(2 ^ 62)<=i/\i<2 ^ 62/\-(2 ^ 62)<=j/\j<2 ^ 62)/\wL i (j-i).toNat g tb D σ H1):tZ (Ma tr) g tb D σ H:=h
def Gn(K:PySem.W.Frag)(a:Addr)(xs:List V)(g:TG)(tb:TS)(D:Ends)(σ:St)(H:Hp):Prop:=∃W:Nat->Nat->St->Hp->Prop,(∃m,W 0 m σ H)/\∀i m σ H,W i m σ H ->
      ((Ite K a xs).stop i H/\D.nx σ H)\/((Ite K a xs).go i H/\∃N:St->Hp->Prop,(∀σ' H',N σ' H'->∃m',m'<m/\W (i+1) m' σ' H')/\∀x H',(Ite K a xs).yld i H x H'->g x σ H' λσ2 H2=>tb { D with nx:=N,ct:=N,bk:=D.nx } σ2 H2)
theorem W5(h:tr σ H λvs H1=>∃a xs,vs=[.ref a]/\SqL K H1 a xs/\Gn K a xs g tb D σ H1):tZ (Nk K tr) g tb D σ H:=h
theorem adQ{a:Addr}{xs:List V}(h:SqL K H a xs)(k:Gn K a xs g tb D σ H):∃a' xs',[V.ref a]=[.ref a']/\SqL K H a' xs'/\Gn K a' xs' g tb D σ H:=⟨a,xs,rfl,h,k⟩
theorem Ia{a:Addr}{xs:List V}(Pv:Nat->St->Hp->Prop)(h0:Pv 0 σ H)(hl:∀i σ H,i<=xs.length->Pv i σ H->SqL K H a xs)
  (hs:∀i x T σ H H',xs[i]?=some x->Pv i σ H->New H H' T (.tup [.int i,x])->g (.ref T) σ H' λσ2 H2=>tb { D with nx:=Pv (i+1),ct:=Pv (i+1),bk:=D.nx } σ2 H2) (hd:∀σ H,Pv xs.length σ H->D.nx σ H):Gn K a xs g tb D σ H:=Nm Pv h0 hl hs hd
theorem adR{a:Addr}{xs:List V}(h:SqL K H a xs)(k:Gh K a g tb D σ H):∃a',V.ref a=.ref a'/\(∃xs,SqL K H a' xs)/\Gh K a' g tb D σ H:=⟨a,rfl,⟨xs,h⟩,k⟩
theorem adS{a:Addr}{xs:List V}{nt:Nat}{fr:List Nat}{c:TT}{te:TE}{Q:VK}(h:SqL K H a xs)(k:dz (Itl K a) nt fr g c te σ H Q):∃a',V.ref a=.ref a'/\(∃xs,SqL K H a' xs)/\dz (Itl K a') nt fr g c te σ H Q:=⟨a,rfl,⟨xs,h⟩,k⟩
end
section
variable{K:W.Frag}{σ:St}{H:Hp}{Q:VK}{ta tv:TE}{t:TA}{f m:Str}{C:Addr}{sp:Sp}{E:XK}{D:Ends}
def SX(K:W.Frag)(f:Str)(y x:V)(H:Hp)(R:Hp->Prop):Prop:=∃a C dx fs,x=.ref a/\H a=some (.ins C dx fs)/\Cls K C/\dO K C f/\fs.length<1000/\R (upd H a (.ins C dx (gW f y fs)))
theorem Oc(h:tv σ H λy H1=>ta σ H1 λx H2=>SX K f y x H2 λH3=>D.nx σ H3):VP K ta tv f D σ H:=h
theorem W6{l dx:Addr}{fs:List (Str×V)}{y:V}{R:Hp->Prop}(ho:H l=some (.ins C dx fs))(c:Cls K C)(n:dO K C f)(z:fs.length<1000)(k:∀H',Off l H H'->H' l=some (.ins C dx (gW f y fs))->R H'):SX K f y (.ref l) H R :=
 ⟨l,C,dx,fs,rfl,ho,c,n,z,k _ Off.upd cA⟩
def Gp(C:Addr)(sp:Sp)(E:XK)(t:TA):TE:=λσ H Q=>t σ H λvs H1=>∀x dx H2,New H1 H2 x (.ins C dx [])->sp (.ref x::vs) H2 (λv H3=>v=.non/\Q (.ref x) H3) E
theorem Od(h:t σ H λvs H1=>∀x dx H2,New H1 H2 x (.ins C dx [])->sp (.ref x::vs) H2 (λv H3=>v=.non/\Q (.ref x) H3) E):Gp C sp E t σ H Q:=h
theorem Oe(h:ta σ H λx H1=>∃a dx fs,x=.ref a/\H1 a=some (.ins C dx fs)/\fs.lookup m=none/\t σ H1 λvs H2=>sp (x::vs) H2 Q E):wY C m sp [] E ta t σ H Q:=by
 have e:(λ(x:V) (H1:Hp)=>∃a dx fs,x=.ref a/\H1 a=some (.ins C dx fs)/\fs.lookup m=none/\t σ H1 λvs H2=>sp (x::(vs++[])) H2 Q E)=λx H1=>∃a dx fs,x=.ref a/\H1 a=some (.ins C dx fs)/\fs.lookup m=none/\t σ H1 λvs H2=>sp (x::vs) H2 Q E:=by
  simp only[List.append_nil]
 show ta σ H λx H1=>∃a dx fs,x=.ref a/\H1 a=some (.ins C dx fs)/\fs.lookup m=none/\t σ H1 λvs H2=>sp (x::(vs++[])) H2 Q E
 rw[e]
 exact h
end
section
variable{X:Cx}{CX:CXT}{k m:Nat}{x:Str}{ps:List Str}{sp:Sp}{E:XK}{p pos:Pos}{e:Expr}{es:List Expr}{t:TA}{C:Addr}
theorem sZ(D:Mak X.prog X.w X.K X.mg X.base CX k x C ps sp)(hr:Room m X.A)(ha:PA X (e::es) t)(hk:k+1<=m:=by decide)(hx:Passes CX X E:=by exact Hw)(hg:Gl X x:=by rfl)
  (hdb:(x == ("__debug__" : Str))=false:=by decide) (he:starEach (e::es) X.env=(false,eval e X.env)::starEach es X.env:=by rfl) (hpl:(backTo pos (starEach es X.env)).any (·.1)=false:=by rfl) :
  PE X (.Call (.Name x p) (e::es) [] pos) (Gp C sp E t):=by
 obtain⟨f,fd,F,M,g,b⟩:=D.ex
 intro pins s σ H Q I h
 refine wpAny_Call_Name_kw (zF I hg g ?_ hdb)
 refine W.callWith_K (h₀:=X.base) I.ok.mod.kin M.kp (thn (ha pos pins s σ H _ I h) λus s1 ⟨vs,H1,I1,r,q⟩=>⟨I1.kIn,?_⟩) he hpl
 refine Ms M F (hr.mono hk) b .nil hx I1 r λy dy h1 h2 h3=>?_
 rw[List.append_nil]
 exact q y dy _ ⟨Ku h1 h2,cA,λa u z=>cj z h1⟩
end
def adT:V->Int->Bool
 | .int i,lo=>decide (lo<=i)
 | _,_=>false
def inB:V->Int->Int->Bool
 | .int i,lo,hi=>decide (lo<=i) && decide (i<=hi)
 | _,_,_=>false
section
variable{K:W.Frag}{H:Hp}{Q:VK}{E:XK}{x:V}{n:String}{p q:Addr}{a b c lo hi:Int}
def uI(K:W.Frag):Sp:=λvs H Q _=>∃x n,vs=[x]/\dR K H x (.type n)/\Q (.bl (isW x)) H
theorem Ib(ty:dR K H x (.type n))(k:Q (.bl (isW x)) H):uI K [x] H Q E:=⟨x,n,rfl,ty,k⟩
def m7(K:W.Frag):Sp:=λvs H Q _=>∃x n lo,vs=[x,.int lo]/\dR K H x (.type n)/\Q (.bl (adT x lo)) H
theorem S5(k:Q (.bl (decide (lo<=a))) H):m7 K [.int a,.int lo] H Q E:=⟨_,_,lo,rfl,.int _,k⟩
def jG(K:W.Frag):Sp:=λvs H Q _=>∃x n lo hi,vs=[x,.int lo,.int hi]/\dR K H x (.type n)/\Q (.bl (inB x lo hi)) H
theorem Og(ty:dR K H x (.type n))(k:Q (.bl (inB x lo hi)) H):jG K [x,.int lo,.int hi] H Q E:=⟨x,n,lo,hi,rfl,ty,k⟩
def uJ(K:W.Frag):Sp:=λvs H Q _=>∃x n,vs=[x]/\dR K H x (.type n)/\Q (.bl (inB x 16 240)) H
def qD:Sp:=λvs H Q _=>∃(q:Addr) (a b:Int),vs=[.ref q]/\H q=some (.tup [.int a,.int b])/\Q (.int (a+b)) H
theorem aae(h:H q=some (.tup [.int a,.int b]))(k:Q (.int (a+b)) H):qD [.ref q] H Q E:=⟨q,a,b,rfl,h,k⟩
def aaf(ws:List (Nat×Nat)):List (List V):=ws.map λw=>[V.int (w.1:Nat),V.int (w.2:Nat)]
theorem fX(ws:List (Nat×Nat)):(aaf ws).length=ws.length:=List.length_map ..
def uK(K:W.Frag):Sp:=λvs H Q _=>∃(a:Addr) (ns:List Int) (k:Int),vs=[.ref a,.int k]/\SqL K H a (ns.map V.int)/\0<=k/\∀c:Int,Q (.int c) H
theorem S6{ns:List Int}{m:Int}(h:SqL K H p (ns.map V.int))(h0:0<=m)(k:∀c:Int,Q (.int c) H):uK K [.ref p,.int m] H Q E:=⟨p,ns,m,rfl,h,h0,k⟩
def zT:Sp:=λvs H Q _=>∃c:Int,vs=[.int c]/\∀(p:Addr) (a b:Int) (H':Hp),New H H' p (.lst [.int a,.int b,.int 0])->Q (.ref p) H'
theorem W7(k:∀(p:Addr) (x y:Int) (H':Hp),New H H' p (.lst [.int x,.int y,.int 0])->Q (.ref p) H'):zT [.int a] H Q E:=⟨a,rfl,k⟩
end
section
variable{K:W.Frag}{g:TG}{tb:TS}{D:Ends}{σ:St}{H H':Hp}{Q:VK}{l p q:Addr}{xs ys:List V}{rows:List (List V)}
theorem jq{n:Nat}(Pv:Nat->St->Hp->Prop)(h0:Pv 0 σ H)(hs:∀i σ H,i<n->Pv i σ H->g (.int i) σ H λσ2 H2=>tb { D with nx:=Pv (i+1),ct:=Pv (i+1),bk:=D.nx } σ2 H2)(hd:∀σ H,Pv n σ H->D.nx σ H):wL 0 n g tb D σ H :=
 wV Pv h0 (λi σ H hi h=>by rw[Int.zero_add];exact hs i σ H hi h) hd
theorem aH.snoc{r:List V}(h:aH H ys rows)(hq:H q=some (.tup r)):aH H (ys++[.ref q]) (rows++[r]):=by
 refine⟨by rw[List.length_append,List.length_append,h.1];rfl,λj s z=>?_⟩
 by_cases hj:j<rows.length
 ·rw[List.getElem?_append_left hj] at z
  obtain⟨x,e1,e2⟩:=h.2 j s z
  exact⟨x,by rw[List.getElem?_append_left (by rw[h.1];exact hj)];exact e1,e2⟩
 ·have hj2:j=rows.length:=by
   have:=(List.getElem?_eq_some_iff.mp z).1
   rw[List.length_append,List.length_singleton] at this
   lia
  subst hj2
  rw[List.getElem?_append_right (Nat.le_refl _),Nat.sub_self] at z
  cases z
  exact⟨q,by rw[<- h.1,List.getElem?_append_right (Nat.le_refl _),Nat.sub_self];rfl,hq⟩
theorem Oh{zs:List V}(hp:H p=some (.lst ys))(tp:aH H ys rows)(hf:∀r∈rows,∀v∈r,cQ v=true)(hq:H q=some (.lst []))(k:Q (.bl (!decide (rows=[]))) H):R9 K (.ref p) (.ref q) H Q :=
 ⟨_,_,BX (SqL.of hp) tp hf,Sv (SqL.of hq),Nat.le_trans (lD _) (by decide),by
  cases rows with
  | nil=>simpa[fD,dU] using k
  | cons a t=>simpa[fD,dU] using k⟩
def IsPair(H:Hp)(v:V):Option (Nat×Nat)->Prop
 | none=>v=.non
 | some w=>∃q,v=.ref q/\H q=some (.tup [.int (w.1:Nat),.int (w.2:Nat)])
theorem IsPair.same{v:V}{o:Option (Nat×Nat)}(s:Same H H')(h:IsPair H v o):IsPair H' v o:=by
 cases o with
 | none=>exact h
 | some w=>obtain⟨q,e1,e2⟩:=h;exact⟨q,e1,s _ _ e2⟩
end
theorem Ca{K:W.Frag}{l:Addr}{σ:St}{H:Hp}{xs:List V}{c:TT}{Q:VK}{fr:List Nat}{fvs:St}{p:V->Bool}(hq:SqL K H l xs)(hz:xs.length<=1000000)(hf:(fr.map λi=>(σ[i]?).getD none)=fvs)
  (turn:∀(v:V) (H':Hp) (R:Bool->Hp->Prop),v∈xs->Same H H'->(∀H2,Same H' H2->R (p v) H2)->c (some v::fvs) H' R)
  (k:∀l H',New H H' l (.lst (xs.filter p))->Q (.ref l) H'):dz (Itl K l) 1 fr (bK 0) c (eO 0) σ H Q:=by
 have:=Ks (σ:=σ) (H:=H) (wi:=λ_ H R=>R (Itl K l) H) (J:=Itl K l) (c:=c) (Q:=Q) (fr:=fr) (fvs:=fvs) (p:=p) hz hf (gB (K:=K) (a:=l) (xs:=xs)) (λR h=>h) (λH' s=>s.seq hq) (λi v H' R hv s kk=>turn v H' R (List.mem_of_getElem? hv) s kk) k
 exact this
def isTup:HO->Bool
 | .tup _=>true
 | .frz _ _=>true
 | _=>false
def Tst(H H':Hp):Prop:=∀q u,isTup u=true->H q=some u->H' q=some u
inductive Im where
 | tup (q:Addr) (r:List V)
 | tps (ys:List V) (rs:List (List V))
 | fct (φ:Hp->Prop) (st:∀H H',Tst H H'->φ H->φ H')
def Im.holds(H:Hp):Im->Prop
 | .tup q r=>H q=some (.tup r)
 | .tps ys rs=>aH H ys rs
 | .fct φ _=>φ H
theorem Im.stay{H H':Hp}(t:Tst H H'):∀{f:Im},f.holds H->f.holds H'
 | .tup q r,h=>t q _ rfl h
 | .tps ys rs,h=>⟨h.1,λj r e=>let ⟨q,a,b⟩:=h.2 j r e;⟨q,a,t q _ rfl b⟩⟩
 | .fct φ st,h=>st H H' t h
class SH(H0:outParam Hp)(M:outParam (List Addr))(H:Hp)(L:outParam (List (Addr×HO)))(I:outParam (List Im)):Prop where
 fr:∀b u,b ∉ M->H0 b=some u->H b=some u
 im:∀f∈I,f.holds H
 at':∀c∈L,H c.1=some c.2
 nd:(L.map (·.1)).Nodup
 mu:∀c∈L,isTup c.2=false
 ch:∀c∈L,c.1∈M\/∀b u,H0 b=some u->b≠c.1
inductive Up(l:Addr)(o':HO):List (Addr×HO)->List (Addr×HO)->Prop
 | head {o:HO} {L:List (Addr×HO)}:Up l o' ((l,o)::L) ((l,o')::L)
 | tail {c:Addr×HO} {L L':List (Addr×HO)} (h:Up l o' L L'):Up l o' (c::L) (c::L')
theorem Up.keys{l:Addr}{o':HO}{L L':List (Addr×HO)}(h:Up l o' L L'):L'.map (·.1)=L.map (·.1):=by
 induction h with
 | head=>rfl
 | tail h ih=>rw[List.map_cons,List.map_cons,ih]
theorem Up.mem{l:Addr}{o':HO}{L L':List (Addr×HO)}(h:Up l o' L L'):l∈L.map (·.1):=by
 induction h with
 | head=>exact List.mem_cons_self
 | tail h ih=>exact List.mem_cons_of_mem _ ih
theorem Up.each{l:Addr}{o':HO}{L L':List (Addr×HO)}(h:Up l o' L L')(nd:(L.map (·.1)).Nodup):∀c∈L',c=(l,o')\/(c∈L/\c.1≠l):=by
 induction h with
 | @head o L =>
  intro c hc
  rcases List.mem_cons.mp hc with rfl|hc
  ·exact .inl rfl
  ·refine .inr ⟨List.mem_cons_of_mem _ hc,λz=>?_⟩
   rw[List.map_cons] at nd
   exact(List.nodup_cons.mp nd).1 (by show l∈_;rw[<- z];exact List.mem_map_of_mem (f:=(·.1)) hc)
 | @tail d L L' h ih =>
  intro c hc
  rw[List.map_cons] at nd
  have nd':=List.nodup_cons.mp nd
  rcases List.mem_cons.mp hc with rfl|hc
  ·exact .inr ⟨List.mem_cons_self,λz=>nd'.1 (z▸h.mem)⟩
  ·rcases ih nd'.2 c hc with e|⟨e1,e2⟩
   ·exact .inl e
   ·exact .inr ⟨List.mem_cons_of_mem _ e1,e2⟩
theorem Up.src{l:Addr}{o':HO}{L L':List (Addr×HO)}(h:Up l o' L L'):∃o,(l,o)∈L:=by
 induction h with
 | head=>exact⟨_,List.mem_cons_self⟩
 | tail h ih=>obtain⟨o,ho⟩:=ih;exact⟨o,List.mem_cons_of_mem _ ho⟩
inductive Pk(c:Addr×HO):List (Addr×HO)->List (Addr×HO)->Prop
 | head {L:List (Addr×HO)}:Pk c (c::L) L
 | tail {d:Addr×HO} {L R:List (Addr×HO)} (h:Pk c L R):Pk c (d::L) (d::R)
inductive Sb:List (Addr×HO)->List (Addr×HO)->Prop
 | nil {L:List (Addr×HO)}:Sb [] L
 | cons {c:Addr×HO} {L' L R:List (Addr×HO)} (h:Pk c L R) (t:Sb L' R):Sb (c::L') L
theorem Pk.mem{c:Addr×HO}{L R:List (Addr×HO)}(h:Pk c L R):c∈L/\∀d∈R,d∈L:=by
 induction h with
 | head=>exact⟨List.mem_cons_self,λd hd=>List.mem_cons_of_mem _ hd⟩
 | tail h ih =>
  refine⟨List.mem_cons_of_mem _ ih.1,λd hd=>?_⟩
  rcases List.mem_cons.mp hd with rfl|hd
  ·exact List.mem_cons_self
  ·exact List.mem_cons_of_mem _ (ih.2 d hd)
theorem Pk.nd{c:Addr×HO}{L R:List (Addr×HO)}(h:Pk c L R)(nd:(L.map (·.1)).Nodup):(R.map (·.1)).Nodup/\∀d∈R,d.1≠c.1:=by
 induction h with
 | head =>
  rw[List.map_cons] at nd
  have:=List.nodup_cons.mp nd
  exact⟨this.2,λd hd z=>this.1 (z▸List.mem_map_of_mem hd)⟩
 | @tail d L R h ih =>
  rw[List.map_cons] at nd
  have nd':=List.nodup_cons.mp nd
  obtain⟨i1,i2⟩:=ih nd'.2
  refine⟨by
   rw[List.map_cons,List.nodup_cons]
   refine⟨λz=>?_,i1⟩
   obtain⟨x,hx,ex⟩:=List.mem_map.mp z
   exact nd'.1 (ex▸List.mem_map_of_mem (h.mem.2 x hx)),λx hx=>?_⟩
  rcases List.mem_cons.mp hx with rfl|hx
  ·exact λz=>nd'.1 (z▸List.mem_map_of_mem h.mem.1)
  ·exact i2 x hx
theorem Sb.mem{L' L:List (Addr×HO)}(h:Sb L' L):∀c∈L',c∈L:=by
 induction h with
 | nil=>intro c hc;cases hc
 | cons h t ih =>
  intro c hc
  rcases List.mem_cons.mp hc with rfl|hc
  ·exact h.mem.1
  ·exact h.mem.2 c (ih c hc)
theorem Sb.nd{L' L:List (Addr×HO)}(h:Sb L' L):(L.map (·.1)).Nodup->(L'.map (·.1)).Nodup:=by
 induction h with
 | nil=>intro _;exact List.nodup_nil
 | cons h t ih =>
  intro nd
  obtain⟨n1,n2⟩:=h.nd nd
  rw[List.map_cons,List.nodup_cons]
  refine⟨λz=>?_,ih n1⟩
  obtain⟨x,hx,ex⟩:=List.mem_map.mp z
  exact n2 x (t.mem x hx) ex
section
variable{H0 H H':Hp}{M:List Addr}{L L':List (Addr×HO)}{I I':List Im}{p q l a:Addr}{o o' u:HO}{xs ys r:List V}{rs:List (List V)}{K:W.Frag}
theorem SH.nil:SH H M H [] []:=⟨λ_ _ _ h=>h,(λ_ h=>by cases h),(λ_ h=>by cases h),List.nodup_nil,(λ_ h=>by cases h),(λ_ h=>by cases h)⟩
theorem SH.iI(F:SH H0 M H0 L I)(hm:p∈M)(h:H0 p=some o)(ht:isTup o=false)(ne:∀c∈L,c.1≠p):SH H0 M H0 ((p,o)::L) I:=by
 refine⟨F.fr,F.im,?_,?_,?_,?_⟩
 ·intro c hc
  rcases List.mem_cons.mp hc with rfl|hc
  ·exact h
  ·exact F.at' c hc
 ·rw[List.map_cons,List.nodup_cons]
  refine⟨λz=>?_,F.nd⟩
  obtain⟨x,hx,ex⟩:=List.mem_map.mp z
  exact ne x hx ex
 ·intro c hc
  rcases List.mem_cons.mp hc with rfl|hc
  ·exact ht
  ·exact F.mu c hc
 ·intro c hc
  rcases List.mem_cons.mp hc with rfl|hc
  ·exact .inl hm
  ·exact F.ch c hc
theorem SH.Kz(F:SH H0 M H L I)(h:H q=some (.tup r)):SH H0 M H L (.tup q r::I):=⟨F.fr,λf hf=>by
 rcases List.mem_cons.mp hf with rfl|hf
 ·exact h
 ·exact F.im f hf,F.at',F.nd,F.mu,F.ch⟩
theorem SH.gH(F:SH H0 M H L I)(h:aH H ys rs):SH H0 M H L (.tps ys rs::I):=⟨F.fr,λf hf=>by
 rcases List.mem_cons.mp hf with rfl|hf
 ·exact h
 ·exact F.im f hf,F.at',F.nd,F.mu,F.ch⟩
theorem SH.j7{φ:Hp->Prop}{st:∀H H',Tst H H'->φ H->φ H'}(F:SH H0 M H L I)(h:φ H):SH H0 M H L (.fct φ st::I):=⟨F.fr,λf hf=>by
 rcases List.mem_cons.mp hf with rfl|hf
 ·exact h
 ·exact F.im f hf,F.at',F.nd,F.mu,F.ch⟩
theorem SH.same(F:SH H0 M H L I)(s:Same H H'):SH H0 M H' L I:=⟨λb u n e=>s b u (F.fr b u n e),λf hf=>Im.stay (λq u _ e=>s q u e) (F.im f hf),λc hc=>s _ _ (F.at' c hc),F.nd,F.mu,F.ch⟩
theorem SH.newT(F:SH H0 M H L I)(n:New H H' q (.tup r)):SH H0 M H' L (.tup q r::I):=(F.same n.s).Kz n.e
theorem SH.W8(F:SH H0 M H L I)(n:New H H' p o)(ht:isTup o=false):SH H0 M H' ((p,o)::L) I:=by
 have F':=F.same n.s
 refine⟨F'.fr,F'.im,?_,?_,?_,?_⟩
 ·intro c hc
  rcases List.mem_cons.mp hc with rfl|hc
  ·exact n.e
  ·exact F'.at' c hc
 ·rw[List.map_cons,List.nodup_cons]
  refine⟨λz=>?_,F.nd⟩
  obtain⟨x,hx,ex⟩:=List.mem_map.mp z
  exact n.n _ _ (F.at' x hx) ex
 ·intro c hc
  rcases List.mem_cons.mp hc with rfl|hc
  ·exact ht
  ·exact F.mu c hc
 ·intro c hc
  rcases List.mem_cons.mp hc with rfl|hc
  ·by_cases hm:p∈M
   ·exact .inl hm
   ·exact .inr λb u e z=>by
     by_cases hb:b∈M
     ·exact hm (by have z':b=p:=z;rw[<- z'];exact hb)
     ·exact n.n b u (F.fr b u hb e) z
  ·exact F.ch c hc
theorem SH.newL(F:SH H0 M H L I)(n:New H H' p (.lst xs)):SH H0 M H' ((p,.lst xs)::L) I:=F.W8 n rfl
theorem SH.adU{C dx:Addr}{fs:List (Str×V)}(F:SH H0 M H L I)(n:New H H' p (.ins C dx fs)):SH H0 M H' ((p,.ins C dx fs)::L) I:=F.W8 n rfl
theorem SH.newR(F:SH H0 M H L I)(n:New H H' p (.lst ys))(t:aH H' ys rs):SH H0 M H' ((p,.lst ys)::L) (.tps ys rs::I):=(F.newL n).gH t
theorem SH.kp(F:SH H0 M H L I)(k:Kp l H H')(e:H' l=some o')(u:Up l o' L L')(ht:isTup o'=false:=by rfl):SH H0 M H' L' I:=by
 obtain⟨o,ho⟩:=u.src
 have hl:=F.at' _ ho
 have hu:=F.mu _ ho
 refine⟨λb w nb e0=>k b w (λz=>?_) (F.fr b w nb e0),λf hf=>Im.stay (λq v hv e1=>k q _ (λz=>?_) e1) (F.im f hf),λc hc=>?_,by rw[u.keys];exact F.nd,λc hc=>?_,λc hc=>?_⟩
 ·rcases F.ch _ ho with h|h
  ·exact nb (by rw[z];exact h)
  ·exact h b w e0 z
 ·rw[z,hl] at e1
  cases e1
  rw[hu] at hv
  cases hv
 ·rcases u.each F.nd c hc with rfl|⟨h1,h2⟩
  ·exact e
  ·exact k _ _ h2 (F.at' c h1)
 ·rcases u.each F.nd c hc with rfl|⟨h1,h2⟩
  ·exact ht
  ·exact F.mu c h1
 ·rcases u.each F.nd c hc with rfl|⟨h1,h2⟩
  ·exact F.ch (l,o) ho
  ·exact F.ch c h1
theorem SH.adV(F:SH H0 M H L I)(f:Off l H H')(e:H' l=some (.lst xs))(u:Up l (.lst xs) L L'):SH H0 M H' L' I:=F.kp f.kp e u rfl
theorem SH.kpL(F:SH H0 M H L I)(f:Kp l H H')(e:H' l=some (.lst xs))(u:Up l (.lst xs) L L'):SH H0 M H' L' I:=F.kp f e u rfl
theorem SH.adW{C dx:Addr}{fs:List (Str×V)}(F:SH H0 M H L I)(f:Off l H H')(e:H' l=some (.ins C dx fs))(u:Up l (.ins C dx fs) L L'):SH H0 M H' L' I:=F.kp f.kp e u rfl
theorem SH.raw(F:SH H0 M H L I)(m:(a,o)∈L):H a=some o:=F.at' _ m
theorem SH.tup(F:SH H0 M H L I)(m:.tup q r∈I):H q=some (.tup r):=F.im _ m
theorem SH.tps(F:SH H0 M H L I)(m:.tps ys rs∈I):aH H ys rs:=F.im _ m
theorem SH.old(F:SH H0 M H L I)(h:H0 a=some u)(n:a ∉ M):H a=some u:=F.fr a u n h
theorem SH.sq(F:SH H0 M H L I)(h:SqL K H0 a xs)(n:a ∉ M):SqL K H a xs:=by
 rcases h with(h|⟨o,h⟩)|h
 ·exact .inl (.inl (F.fr a _ n h))
 ·exact .inl (.inr ⟨o,F.fr a _ n h⟩)
 ·exact .inr h
theorem SH.sub(F:SH H0 M H L I)(s:Sb L' L)(t:∀f∈I',f∈I):SH H0 M H L' I':=⟨F.fr,λf hf=>F.im f (t f hf),λc hc=>F.at' c (s.mem c hc),s.nd F.nd,λc hc=>F.mu c (s.mem c hc),λc hc=>F.ch c (s.mem c hc)⟩
theorem SH.sm(F:SH H0 [] H L I):Same H0 H:=λb u e=>F.fr b u List.not_mem_nil e
theorem SH.kpo(F:SH H0 [p] H L I):Kp p H0 H:=λb u n e=>F.fr b u (λz=>n (List.mem_singleton.mp z)) e
theorem SH.nw(F:SH H0 [] H L I)(m:(q,o)∈L):New H0 H q o:=⟨F.sm,F.at' _ m,λb u e=>by
 rcases F.ch _ m with h|h
 ·exact absurd h List.not_mem_nil
 ·exact h b u e⟩
theorem SH.fresh(F:SH H0 M H L I)(m:(q,o)∈L)(n:q ∉ M):∀b u,H0 b=some u->b≠q:=λb u e=>by
 rcases F.ch _ m with h|h
 ·exact absurd h n
 ·exact h b u e
theorem nm0:a ∉ ([]:List Addr):=List.not_mem_nil
theorem nm1(h:a≠p):a ∉ [p]:=λz=>h (List.mem_singleton.mp z)
theorem SH.app(F:SH H0 M H L I)(m:.tps ys rs∈I)(m':.tup q r∈I):SH H0 M H L (.tps (ys++[.ref q]) (rs++[r])::I):=F.gH ((F.tps m).snoc (F.tup m'))
end
class Go(G:Prop)(G':outParam Prop):Prop where
 go:G'->G
theorem go1{G G':Prop}[h:Go G G'](k:G'):G:=h.go k
class LkL(L:List (Addr×HO))(a:Addr)(o:outParam HO):Prop where
 m:(a,o)∈L
class LkI(I:List Im)(a:Addr)(r:outParam (List V)):Prop where
 m:.tup a r∈I
class LkP(I:List Im)(ys:List V)(rs:outParam (List (List V))):Prop where
 m:.tps ys rs∈I
class LkU(L:List (Addr×HO))(l:Addr)(o:HO)(L':outParam (List (Addr×HO))):Prop where
 u:Up l o L L'
class Old(H0:Hp)(M:List Addr)(a:Addr)(o:outParam HO):Prop where
 e:H0 a=some o
 n:a ∉ M
class W9(K:W.Frag)(H0:Hp)(M:List Addr)(a:Addr)(xs:outParam (List V)):Prop where
 e:SqL K H0 a xs
 n:a ∉ M
class gk(H0:Hp)(ys:List V)(rs:outParam (List (List V))):Prop where
 e:aH H0 ys rs
class Hat(H:Hp)(a:Addr)(o:outParam HO):Prop where
 e:H a=some o
class SqA(K:W.Frag)(H:Hp)(a:Addr)(xs:outParam (List V)):Prop where
 e:SqL K H a xs
class SqB(K:W.Frag)(H:Hp)(a:Addr)(xs:outParam (List V)):Prop where
 e:SqT K H a xs
class TpA(H:Hp)(ys:List V)(rs:outParam (List (List V))):Prop where
 e:aH H ys rs
class AtI(xs:List V)(i:Int)(v:outParam V):Prop where
 e:atI xs i=some v
section
variable{H0 H H':Hp}{M:List Addr}{L L':List (Addr×HO)}{I:List Im}{a p l:Addr}{o o':HO}{c:Addr×HO}{f:Im}{r xs ys:List V}{rs:List (List V)}{K:W.Frag}{v v0 v1 v2 v3:V}
instance afx[h:LkL L a o]:LkL (c::L) a o:=⟨List.mem_cons_of_mem _ h.m⟩
instance afy:LkL ((a,o)::L) a o:=⟨List.mem_cons_self⟩
instance afz[h:LkI I a r]:LkI (f::I) a r:=⟨List.mem_cons_of_mem _ h.m⟩
instance afA:LkI (.tup a r::I) a r:=⟨List.mem_cons_self⟩
instance afB[h:LkP I ys rs]:LkP (f::I) ys rs:=⟨List.mem_cons_of_mem _ h.m⟩
instance afC:LkP (.tps ys rs::I) ys rs:=⟨List.mem_cons_self⟩
instance afD[h:LkU L l o L']:LkU (c::L) l o (c::L'):=⟨.tail h.u⟩
instance afE:LkU ((l,o')::L) l o ((l,o)::L):=⟨.head⟩
instance abV[F:SH H0 M H L I][h:Old H0 M a o]:Hat H a o:=⟨F.fr a o h.n h.e⟩
instance abW[F:SH H0 M H L I][h:LkI I a r]:Hat H a (.tup r):=⟨F.tup h.m⟩
instance abX[F:SH H0 M H L I][h:LkL L a o]:Hat H a o:=⟨F.raw h.m⟩
instance abY[F:SH H0 M H L I][h:W9 K H0 M a xs]:SqA K H a xs:=⟨F.sq h.e h.n⟩
instance abZ[h:Hat H a (.lst xs)]:SqA K H a xs:=⟨.of h.e⟩
instance ab0[h:Hat H a (.tup xs)]:SqB K H a xs:=⟨.of h.e⟩
instance ab1{H0:Hp}{L:List (Addr×HO)}{I:List Im}[F:SH H0 [] H L I][h:gk H0 ys rs]:TpA H ys rs:=⟨h.e.same F.sm⟩
instance ab2[F:SH H0 M H L I][h:LkP I ys rs]:TpA H ys rs:=⟨F.tps h.m⟩
instance at0:AtI (v::r) 0 v:=⟨Zw⟩
instance at1:AtI (v0::v::r) 1 v:=⟨adL⟩
instance at2:AtI (v0::v1::v::r) 2 v:=⟨adM⟩
instance at3:AtI (v0::v1::v2::v::r) 3 v:=⟨adN⟩
variable{Z:Addr->Hp->Prop}{R:Hp->Prop}{C dx:Addr}{fs:List (Str×V)}
instance adX[F:SH H0 M H L I]:Go (∀p H',New H H' p (.tup xs)->Z p H') (∀H' p,SH H0 M H' L (.tup p xs::I)->Z p H'):=⟨λk p H' n=>k H' p (F.newT n)⟩
instance adY[F:SH H0 M H L I]:Go (∀p H',New H H' p (.lst xs)->Z p H') (∀H' p,SH H0 M H' ((p,.lst xs)::L) I->Z p H'):=⟨λk p H' n=>k H' p (F.newL n)⟩
instance adZ[F:SH H0 M H L I][u:LkU L l (.lst xs) L']:Go (∀H',Off l H H'->H' l=some (.lst xs)->R H') (∀H',SH H0 M H' L' I->R H'):=⟨λk H' f e=>k H' (F.adV f e u.u)⟩
instance ab3[F:SH H0 M H L I][u:LkU L l (.ins C dx fs) L']:Go (∀H',Off l H H'->H' l=some (.ins C dx fs)->R H') (∀H',SH H0 M H' L' I->R H'):=⟨λk H' f e=>k H' (F.adW f e u.u)⟩
instance afk[F:SH H0 M H L I][u:LkU L l (.lst xs) L']:Go (∀H',Kp l H H'->H' l=some (.lst xs)->R H') (∀H',SH H0 M H' L' I->R H'):=⟨λk H' f e=>k H' (F.kpL f e u.u)⟩
instance ab4[F:SH H0 M H L I]:Go (∀H',Same H H'->R H') (∀H',SH H0 M H' L I->R H'):=⟨λk H' s=>k H' (F.same s)⟩
instance ab5[F:SH H0 M H L I]:Go (∀p ys H',New H H' p (.lst ys)->aH H' ys rs->Z p H') (∀H' p ys,ys.length=rs.length->SH H0 M H' ((p,.lst ys)::L) (.tps ys rs::I)->Z p H'):=⟨λk p ys H' n t=>k H' p ys t.1 (F.newR n t)⟩
def Sd(A B:Prop):Prop:=A/\B
theorem sd{A B:Prop}(a:A)(b:B):Sd A B:=⟨a,b⟩
class ak(K:W.Frag)(C:Addr)(f:Str):Prop where
 c:Cls K C
 n:dO K C f
class FLk(fs:List (Str×V))(f:Str)(v:outParam V):Prop where
 e:fs.lookup f=some v
class FNo(fs:List (Str×V))(f:Str):Prop where
 e:fs.lookup f=none
theorem SH.nwC{H0:Hp}{L:List (Addr×HO)}{I:List Im}[F:SH H0 [] H L I][h:LkL L p o]:New H0 H p o:=F.nw h.m
theorem aO[h:Hat H a o]:H a=some o:=h.e
variable{Q:VK}{E:XK}{R':Prop}{σ:St}{i j:Int}{f m:Str}{y:V}{b:Addr}{lo hi:Option Int}
instance ad0[F:SH H0 M H L I]{Z:Addr->Addr->Hp->Prop}:Go (∀x dx H',New H H' x (.ins C dx [])->Z x dx H') (∀H' x dx,SH H0 M H' ((x,.ins C dx [])::L) I->Z x dx H'):=⟨λk p dx H' n=>k H' p dx (F.adU n)⟩
instance ab6{n:Nat}:Go (n<=sizeLine/\∀p H',New H H' p o->Z p H') (Sd (n<=sizeLine) (∀p H',New H H' p o->Z p H')):=⟨id⟩
instance ab7[h:Hat H l (.tup xs)]:Go (jE K [.ref l,.ty "tuple"] H Q) (Q (.bl true) H):=⟨WT h.e⟩
instance ab8[h:Hat H l (.lst xs)]:Go (jE K [.ref l,.ty "list"] H Q) (Q (.bl true) H):=⟨WW h.e⟩
instance ab9[h:Hat H l (.tup xs)]:Go (jE K [.ref l,.ty "list"] H Q) (Q (.bl false) H):=⟨WX h.e⟩
instance ab_[h:Hat H l (.lst xs)]:Go (jE K [.ref l,.ty "tuple"] H Q) (Q (.bl false) H):=⟨WY h.e⟩
instance acd[h:SqB K H l xs]:Go (Gf K [.ref l] H Q) (Q (.int xs.length) H):=⟨Wq h.e⟩
instance ace[h:SqA K H l xs]:Go (Gf K [.ref l] H Q) (Q (.int xs.length) H):=⟨Wo h.e⟩
instance ad1[h:SqA K H l xs][e:AtI xs i v]:Go (Rx K (.ref l) (.int i) H Q) (Q v H):=⟨Nv h.e e.e⟩
instance ad2[h:SqB K H l xs][e:AtI xs i v]:Go (Ry K (.ref l) (.int i) H Q) (Q v H):=⟨ZS h.e e.e⟩
instance ad3[h:SqA K H l xs]:Go (tyV K "list" (.ref l) H/\R') R':=⟨Z5 h.e⟩
instance ad4[h:Hat H l (.lst xs)]:Go (sW (.ref l) [] H Q) (∀H',Off l H H'->H' l=some (.lst [])->Q .non H'):=⟨Z8 h.e⟩
instance ad5[h:Hat H l (.lst xs)]:Go (HD (.ref l) [y] H Q) (Sd (xs.length<sizeLine) (∀H',Off l H H'->H' l=some (.lst (xs++[y]))->Q .non H')):=⟨λs=>Z6 h.e s.1 s.2⟩
instance ad6[h:Hat H l (.lst xs)][h2:Hat H b (.lst ys)]:Go (HW (.ref l) [.ref b] H Q) (Sd (xs.length+ys.length<=sizeLine) (∀H',Off l H H'->H' l=some (.lst (xs++ys))->Q .non H')):=⟨λs=>Z7 h.e h2.e s.1 s.2⟩
instance ad7[h:SqA K H l xs]:Go (Wi K (.ref l) lo hi H Q) (∀p H',New H H' p (.lst (nW xs lo hi))->Q (.ref p) H'):=⟨Z9 h.e⟩
instance acf[h:Hat H l (.lst xs)][h2:Hat H b (.lst ys)]:Go (Nf (.ref l) (.ref b) H Q) (Sd (xs.length+ys.length<=sizeLine) (∀p H',New H H' p (.lst (xs++ys))->Q (.ref p) H')):=⟨λs=>WL h.e h2.e s.1 s.2⟩
instance acg[h:SqA K H l xs]:Go (HS K [.ref l] H Q) (∀p H',New H H' p (.lst xs)->Q (.ref p) H'):=⟨WQ h.e⟩
instance ach{n:Nat}[h:Hat H l (.lst [y])]:Go (Ng (.ref l) (.int (n:Int)) H Q) (Sd (n<=1000000) (∀p H',New H H' p (.lst (List.replicate n y))->Q (.ref p) H')):=⟨λs=>WM h.e s.1 s.2⟩
instance aci{n i0 i1:Nat}{a b:V}{R:St->Hp->Prop}[h:SqB K H l [a,b]]:Go (JZ K n (iC (bK i0) (iC (bK i1) JX)) (.ref l) σ H R) (Sd (n=2) (bK i0 a σ H λσ1 H1=>bK i1 b σ1 H1 R)):=⟨λs=>W4 s.1 h.e s.2⟩
instance ad8{f:Int->Int->V}:Go (rI (λ_ j=>0<j) f (.int i) (.int j) H Q) (Sd (0<j) (Q (f i j) H)):=⟨λs=>w_mod s.1 s.2⟩
instance ad9{f:Int->Int->V}:Go (rI VH f (.int i) (.int j) H Q) (Sd (0<j/\j<1073741824) (Q (f i j) H)):=⟨λs=>w_div s.1.1 s.1.2 s.2⟩
instance ad_{f:Int->Int->V}:Go (rI VJ f (.int i) (.int j) H Q) (Sd (0<=j/\j<=1000000/\i.natAbs<2 ^ 64) (Q (f i j) H)):=⟨λs=>w_pow s.1.1 s.1.2.1 s.1.2.2 s.2⟩
instance aea{f:Int->Int->V}:Go (rI J3 f (.int i) (.int j) H Q) (Sd ((-(2 ^ 64)<i/\i<2 ^ 64)\/(-(2 ^ 64)<j/\j<2 ^ 64)) (Q (f i j) H)):=⟨λs=>s.1.elim (λh=>Wj h.1 h.2 s.2) (λh=>Wk h.1 h.2 s.2)⟩
instance aag[h:Hat H a (.ins C dx fs)][k:ak K C f][e:FLk fs f v]{R:V->Prop}:Go (∃a' C' dx' fs' v',V.ref a=.ref a'/\H a'=some (.ins C' dx' fs')/\Cls K C'/\dO K C' f/\fs'.lookup f=some v'/\R v') (R v):=⟨w_fld h.e k.c k.n e.e⟩
instance Yu[h:Hat H l (.ins C dx fs)][e:FNo fs m]:Go (∃a' dx' fs',V.ref l=.ref a'/\H a'=some (.ins C dx' fs')/\fs'.lookup m=none/\R') R':=⟨WR h.e e.e⟩
instance acj[h:Hat H l (.ins C dx fs)][k:ak K C f]:Go (SX K f y (.ref l) H R) (Sd (fs.length<1000) (∀H',Off l H H'->H' l=some (.ins C dx (gW f y fs))->R H')):=⟨λs=>W6 h.e k.c k.n s.1 s.2⟩
end
instance Yv{σ:L2.St}{H:Hp}{D:Ends}{s u:TS}:Go (Vx s u D σ H) (s (Ends.mk (u D) (Ends.rt D) (Ends.bk D) (Ends.ct D)) σ H):=⟨Wf⟩
instance Yw{σ:L2.St}{H:Hp}{t:TE}{D:Ends}{tg:TG}:Go (LR t tg D σ H) ((t σ H λ(x:V) (H1:Hp) => tg x σ H1 (Ends.nx D))):=⟨Wg⟩
instance Yx{σ:L2.St}{H:Hp}{t:TE}{D:Ends}:Go (Vy t D σ H) (t σ H (Ends.rt D)):=⟨Wh⟩
instance aah{σ:L2.St}{H:Hp}{D:Ends}{s u:TS}{c:TT}:Go (Vz c s u D σ H) ((c σ H λ(b:Bool) (H1:Hp) => if b=true then s D σ H1 else u D σ H1)):=⟨ZD⟩
instance W_{σ:L2.St}{H:Hp}{t:TE}{D:Ends}:Go (LK t D σ H) ((t σ H λ(x:V) (H1:Hp) => Ends.nx D σ H1)):=⟨R4⟩
instance Xa{σ:L2.St}{H:Hp}{D:Ends}:Go (LC D σ H) (Ends.nx D σ H):=⟨RZ⟩
instance aai{σ:L2.St}{H:Hp}{nx bk ct:L2.St->Hp->Prop}{rt:VK}:Go (Ends.nx (Ends.mk nx rt bk ct) σ H) (nx σ H):=⟨Zz⟩
instance acn{H:Hp}{v:V}{nx bk ct:L2.St->Hp->Prop}{rt:VK}:Go (Ends.rt (Ends.mk nx rt bk ct) v H) (rt v H):=⟨adJ⟩
instance Xb{σ:L2.St}{H:Hp}{t:TE}{Q:Bool->Hp->Prop}:Go (Ho t σ H Q) ((t σ H λ(x:V) (H':Hp) => ∃(k:Bool),x=V.bl k/\Q k H')):=⟨R5⟩
instance aco{σ:L2.St}{H:Hp}{t:TE}{Q:Bool->Hp->Prop}:Go (tB t σ H Q) ((t σ H λ(x:V) (H':Hp) => ∃(k:Bool),x=V.bl k/\Q k H')):=⟨adw⟩
instance aaj{σ:L2.St}{H:Hp}{ta tb:TE}{Q:VK}{r:R2}:Go (tOp r ta tb σ H Q) ((ta σ H λ(x:V) (H1:Hp) => tb σ H1 λ(y:V) (H2:Hp) => r x y H2 Q)):=⟨ZC⟩
instance aak{σ:L2.St}{H:Hp}{tr:TA}{Q:VK}{r:List V->Hp->VK->Prop}:Go (tCB r tr σ H Q) ((tr σ H λ(vs:List V) (H1:Hp) => r vs H1 Q)):=⟨ZF⟩
instance Xc{σ:L2.St}{H:Hp}{t:TE}{tr:TA}{Q:List V->Hp->Prop}:Go (nT t tr σ H Q) ((t σ H λ(x:V) (H1:Hp) => tr σ H1 λ(xs:List V) (H2:Hp) => Q (x::xs) H2)):=⟨RX⟩
instance Yy{σ:L2.St}{H:Hp}{Q:List V->Hp->Prop}:Go (uf σ H Q) (Q [] H):=⟨Wd⟩
instance Yz{σ:L2.St}{H:Hp}{Q:VK}{tr:TA}{sp:Sp}{E:XK}:Go (Hq sp [] E tr σ H Q) ((tr σ H λ(vs:List V) (H1:Hp) => sp vs H1 Q E)):=⟨w_call⟩
instance aeb{σ:L2.St}{H:Hp}{Q:VK}{v:V}:Go (tC v σ H Q) (Q v H):=⟨w_c⟩
instance aec{H:Hp}{Q:VK}{v:V}{r:L2.St}:Go (eO 0 (some v::r) H Q) (Q v H):=⟨wv0⟩
instance aed{H:Hp}{Q:VK}{v:V}{o0:Option V}{r:L2.St}:Go (eO 1 (o0::some v::r) H Q) (Q v H):=⟨wv1⟩
instance aee{H:Hp}{Q:VK}{v:V}{o0 o1:Option V}{r:L2.St}:Go (eO 2 (o0::o1::some v::r) H Q) (Q v H):=⟨wv2⟩
instance aef{H:Hp}{Q:VK}{v:V}{o0 o1 o2:Option V}{r:L2.St}:Go (eO 3 (o0::o1::o2::some v::r) H Q) (Q v H):=⟨wv3⟩
instance aeg{H:Hp}{Q:VK}{v:V}{o0 o1 o2 o3:Option V}{r:L2.St}:Go (eO 4 (o0::o1::o2::o3::some v::r) H Q) (Q v H):=⟨wv4⟩
instance aeh{H:Hp}{Q:VK}{v:V}{o0 o1 o2 o3 o4:Option V}{r:L2.St}:Go (eO 5 (o0::o1::o2::o3::o4::some v::r) H Q) (Q v H):=⟨wv5⟩
instance aei{H:Hp}{Q:VK}{v:V}{o0 o1 o2 o3 o4 o5:Option V}{r:L2.St}:Go (eO 6 (o0::o1::o2::o3::o4::o5::some v::r) H Q) (Q v H):=⟨wv6⟩
instance aej{H:Hp}{Q:VK}{v:V}{o0 o1 o2 o3 o4 o5 o6:Option V}{r:L2.St}:Go (eO 7 (o0::o1::o2::o3::o4::o5::o6::some v::r) H Q) (Q v H):=⟨wv7⟩
instance aek{H:Hp}{Q:VK}{v:V}{o0 o1 o2 o3 o4 o5 o6 o7:Option V}{r:L2.St}:Go (eO 8 (o0::o1::o2::o3::o4::o5::o6::o7::some v::r) H Q) (Q v H):=⟨wv8⟩
instance ael{H:Hp}{Q:VK}{v:V}{o0 o1 o2 o3 o4 o5 o6 o7 o8:Option V}{r:L2.St}:Go (eO 9 (o0::o1::o2::o3::o4::o5::o6::o7::o8::some v::r) H Q) (Q v H):=⟨wv9⟩
instance acp{H:Hp}{Q:VK}{v:V}{o0 o1 o2 o3 o4 o5 o6 o7 o8 o9:Option V}{r:L2.St}:Go (eO 10 (o0::o1::o2::o3::o4::o5::o6::o7::o8::o9::some v::r) H Q) (Q v H):=⟨ady⟩
instance acq{H:Hp}{Q:VK}{v:V}{o0 o1 o2 o3 o4 o5 o6 o7 o8 o9 o10:Option V}{r:L2.St}:Go (eO 11 (o0::o1::o2::o3::o4::o5::o6::o7::o8::o9::o10::some v::r) H Q) (Q v H):=⟨adA⟩
instance acr{H:Hp}{Q:VK}{v:V}{o0 o1 o2 o3 o4 o5 o6 o7 o8 o9 o10 o11:Option V}{r:L2.St}:Go (eO 12 (o0::o1::o2::o3::o4::o5::o6::o7::o8::o9::o10::o11::some v::r) H Q) (Q v H):=⟨adC⟩
instance acs{H:Hp}{Q:VK}{v:V}{o0 o1 o2 o3 o4 o5 o6 o7 o8 o9 o10 o11 o12:Option V}{r:L2.St}:Go (eO 13 (o0::o1::o2::o3::o4::o5::o6::o7::o8::o9::o10::o11::o12::some v::r) H Q) (Q v H):=⟨adE⟩
instance aem{H:Hp}{v:V}{o:Option V}{r:L2.St}{R:L2.St->Hp->Prop}:Go (bK 0 v (o::r) H R) (R (some v::r) H):=⟨wn0⟩
instance aen{H:Hp}{v:V}{o0 o:Option V}{r:L2.St}{R:L2.St->Hp->Prop}:Go (bK 1 v (o0::o::r) H R) (R (o0::some v::r) H):=⟨wn1⟩
instance aeo{H:Hp}{v:V}{o0 o1 o:Option V}{r:L2.St}{R:L2.St->Hp->Prop}:Go (bK 2 v (o0::o1::o::r) H R) (R (o0::o1::some v::r) H):=⟨wn2⟩
instance aep{H:Hp}{v:V}{o0 o1 o2 o:Option V}{r:L2.St}{R:L2.St->Hp->Prop}:Go (bK 3 v (o0::o1::o2::o::r) H R) (R (o0::o1::o2::some v::r) H):=⟨wn3⟩
instance aer{H:Hp}{v:V}{o0 o1 o2 o3 o:Option V}{r:L2.St}{R:L2.St->Hp->Prop}:Go (bK 4 v (o0::o1::o2::o3::o::r) H R) (R (o0::o1::o2::o3::some v::r) H):=⟨wn4⟩
instance aes{H:Hp}{v:V}{o0 o1 o2 o3 o4 o:Option V}{r:L2.St}{R:L2.St->Hp->Prop}:Go (bK 5 v (o0::o1::o2::o3::o4::o::r) H R) (R (o0::o1::o2::o3::o4::some v::r) H):=⟨wn5⟩
instance aeu{H:Hp}{v:V}{o0 o1 o2 o3 o4 o5 o:Option V}{r:L2.St}{R:L2.St->Hp->Prop}:Go (bK 6 v (o0::o1::o2::o3::o4::o5::o::r) H R) (R (o0::o1::o2::o3::o4::o5::some v::r) H):=⟨wn6⟩
instance aev{H:Hp}{v:V}{o0 o1 o2 o3 o4 o5 o6 o:Option V}{r:L2.St}{R:L2.St->Hp->Prop}:Go (bK 7 v (o0::o1::o2::o3::o4::o5::o6::o::r) H R) (R (o0::o1::o2::o3::o4::o5::o6::some v::r) H):=⟨wn7⟩
instance aew{H:Hp}{v:V}{o0 o1 o2 o3 o4 o5 o6 o7 o:Option V}{r:L2.St}{R:L2.St->Hp->Prop}:Go (bK 8 v (o0::o1::o2::o3::o4::o5::o6::o7::o::r) H R) (R (o0::o1::o2::o3::o4::o5::o6::o7::some v::r) H):=⟨wn8⟩
instance aex{H:Hp}{v:V}{o0 o1 o2 o3 o4 o5 o6 o7 o8 o:Option V}{r:L2.St}{R:L2.St->Hp->Prop}:Go (bK 9 v (o0::o1::o2::o3::o4::o5::o6::o7::o8::o::r) H R) (R (o0::o1::o2::o3::o4::o5::o6::o7::o8::some v::r) H):=⟨wn9⟩
instance acu{H:Hp}{v:V}{o0 o1 o2 o3 o4 o5 o6 o7 o8 o9 o:Option V}{r:L2.St}{R:L2.St->Hp->Prop}:Go (bK 10 v (o0::o1::o2::o3::o4::o5::o6::o7::o8::o9::o::r) H R) (R (o0::o1::o2::o3::o4::o5::o6::o7::o8::o9::some v::r) H):=⟨adz⟩
instance acv{H:Hp}{v:V}{o0 o1 o2 o3 o4 o5 o6 o7 o8 o9 o10 o:Option V}{r:L2.St}{R:L2.St->Hp->Prop}:Go (bK 11 v (o0::o1::o2::o3::o4::o5::o6::o7::o8::o9::o10::o::r) H R) (R (o0::o1::o2::o3::o4::o5::o6::o7::o8::o9::o10::some v::r) H):=⟨adB⟩
instance acw{H:Hp}{v:V}{o0 o1 o2 o3 o4 o5 o6 o7 o8 o9 o10 o11 o:Option V}{r:L2.St}{R:L2.St->Hp->Prop}:Go (bK 12 v (o0::o1::o2::o3::o4::o5::o6::o7::o8::o9::o10::o11::o::r) H R) (R (o0::o1::o2::o3::o4::o5::o6::o7::o8::o9::o10::o11::some v::r) H):=⟨adD⟩
instance acy{H:Hp}{v:V}{o0 o1 o2 o3 o4 o5 o6 o7 o8 o9 o10 o11 o12 o:Option V}{r:L2.St}{R:L2.St->Hp->Prop}:Go (bK 13 v (o0::o1::o2::o3::o4::o5::o6::o7::o8::o9::o10::o11::o12::o::r) H R) (R (o0::o1::o2::o3::o4::o5::o6::o7::o8::o9::o10::o11::o12::some v::r) H):=⟨adF⟩
instance acz{H:Hp}{Q:VK}{i j:Int}{f:Int->Int->V}:Go (rI0 f (V.int i) (V.int j) H Q) (Q (f i j) H):=⟨adG⟩
instance aey{H:Hp}{Q:VK}{i:Int}{g:Int->V}:Go (rU g (V.int i) H Q) (Q (g i) H):=⟨w_u⟩
instance acA{σ:L2.St}{H:Hp}{Q:VK}{ta:TE}{r:V->Hp->VK->Prop}:Go (tUn r ta σ H Q) ((ta σ H λ(x:V) (H1:Hp) => r x H1 Q)):=⟨adH⟩
instance aal{H:Hp}{Q:VK}{i j:Int}:Go (rEq (V.int i) (V.int j) H Q) (Q (V.bl (decide (i=j))) H):=⟨ZG⟩
instance aam{H:Hp}{Q:VK}{i j:Int}:Go (rNe (V.int i) (V.int j) H Q) (Q (V.bl !decide (i=j)) H):=⟨ZJ⟩
instance aan{H:Hp}{Q:VK}{a b:Str}:Go (rEq (V.str a) (V.str b) H Q) (Q (V.bl (decide (a=b))) H):=⟨ZK⟩
instance aao{H:Hp}{Q:VK}{a b:Str}:Go (rNe (V.str a) (V.str b) H Q) (Q (V.bl !decide (a=b)) H):=⟨ZL⟩
instance aap{H:Hp}{Q:VK}{a b:Bool}:Go (rEq (V.bl a) (V.bl b) H Q) (Q (V.bl (decide (a=b))) H):=⟨ZM⟩
instance acB{k:Bool}{R:Bool->Prop}:Go (∃(c:Bool),V.bl k=V.bl c/\R c) (R k):=⟨adI⟩
instance aaq{σ:L2.St}{H:Hp}{c:TT}{R:Bool->Hp->Prop}:Go (Vw c σ H R) ((c σ H λ(b:Bool) (H1:Hp) => R (!b) H1)):=⟨w_not⟩
instance aar{σ:L2.St}{H:Hp}{c d:TT}{R:Bool->Hp->Prop}:Go (Vv c d σ H R) ((c σ H λ(b:Bool) (H1:Hp) => if b=true then d σ H1 R else R false H1)):=⟨w_and⟩
instance acC{σ:L2.St}{H:Hp}{c d:TT}{R:Bool->Hp->Prop}:Go (tOr c d σ H R) ((c σ H λ(b:Bool) (H1:Hp) => if b=true then R true H1 else d σ H1 R)):=⟨w_or⟩
instance YB{σ:L2.St}{H:Hp}{Q:VK}{ta:TE}:Go (Ly ta σ H Q) ((ta σ H λ(x:V) (H1:Hp) => ∃(c:Bool),x=V.bl c/\Q (V.bl !c) H1)):=⟨Wl⟩
instance YC{σ:L2.St}{H:Hp}{Q:VK}{ta tb:TE}:Go (Lx ta tb σ H Q) ((ta σ H λ(x:V) (H1:Hp) => ∃(c:Bool),x=V.bl c/\if c=true then tb σ H1 Q else Q (V.bl false) H1)):=⟨Wm⟩
instance aas{σ:L2.St}{H:Hp}{Q:VK}{ta tb:TE}{c:TT}:Go (tIf c ta tb σ H Q) ((c σ H λ(b:Bool) (H1:Hp) => if b=true then ta σ H1 Q else tb σ H1 Q)):=⟨ZP⟩
instance Xd{σ:L2.St}{H:Hp}{Q:VK}{ta tb tc:TE}{r r':R2}:Go (zJ r r' ta tb tc σ H Q) ((ta σ H λ(x:V) (H1:Hp) => tb σ H1 λ(y:V) (H2:Hp) => r x y H2 λ(z:V) (H3:Hp) => ∃(k:Bool),z=V.bl k/\if k=true then tc σ H3 λ(w:V) (H4:Hp) => r' y w H4 Q else Q (V.bl false) H3)):=⟨R6⟩
instance acD{σ:L2.St}{H:Hp}{Q:VK}{K:W.Frag}{tr:TA}{T:String}{r:V->List V->Hp->VK->Prop}{to:TE}:Go (tBM K T r to tr σ H Q) ((to σ H λ(x:V) (H1:Hp) => tyV K T x H1/\tr σ H1 λ(xs:List V) (H2:Hp) => r x xs H2 Q)):=⟨adK⟩
instance aat{σ:L2.St}{H:Hp}{Q:VK}{K:W.Frag}{T:String}{r:V->List V->Hp->VK->Prop}{to:TE}:Go (RB K T r to σ H Q) ((to σ H λ(x:V) (H1:Hp) => tyV K T x H1/\r x [] H1 Q)):=⟨ZQ⟩
instance aau{σ:L2.St}{H:Hp}{v:V}{to ti:TE}{ts:LQ}{R:L2.St->Hp->Prop}:Go (VF to ti ts v σ H R) ((to σ H λ(o:V) (H1:Hp) => ti σ H1 λ(i:V) (H2:Hp) => ts o i v H2 λ(H3:Hp) => R σ H3)):=⟨w_sub⟩
instance Xe{σ:L2.St}{H:Hp}{Q:VK}{t:TE}{r:V->Option Int->Option Int->Hp->VK->Prop}{tl th:TO}:Go (tSl r t tl th σ H Q) ((t σ H λ(x:V) (H1:Hp) => tl σ H1 λ(l:Option Int) (H2:Hp) => th σ H2 λ(u:Option Int) (H3:Hp) => r x l u H3 Q)):=⟨R7⟩
instance U7{σ:L2.St}{H:Hp}{R:Option Int->Hp->Prop}:Go (zK σ H R) (R none H):=⟨Nu⟩
instance YD{σ:L2.St}{H:Hp}{t:TE}{R:Option Int->Hp->Prop}:Go (Mx t σ H R) ((t σ H λ(x:V) (H1:Hp) => ∃(i:Int),x=V.int i/\R (some i) H1)):=⟨Wn⟩
instance aav{i:Int}{R:Int->Prop}:Go (∃(k:Int),V.int i=V.int k/\R k) (R i):=⟨ZR⟩
instance aaw{H:Hp}{Q:VK}{i j:Int}:Go (Nx [V.int i,V.int j] H Q) (Q (V.int (max i j)) H):=⟨ZV⟩
instance aax{H:Hp}{Q:VK}{i j:Int}:Go (Ny [V.int i,V.int j] H Q) (Q (V.int (min i j)) H):=⟨ZW⟩
instance YF{H:Hp}{Q:VK}{k:Bool}:Go (Nz [V.bl k] H Q) (Q (V.int (if k=true then 1 else 0)) H):=⟨Ws⟩
instance Xf{σ:L2.St}{H:Hp}{tr:TA}{Q:VK}:Go (M_ tr σ H Q) ((tr σ H λ(xs:List V) (H1:Hp) => List.length xs<=sizeLine/\∀(p:Addr) (H':Hp),New H1 H' p (HO.tup xs)->Q (V.ref p) H')):=⟨R0⟩
instance Xg{σ:L2.St}{H:Hp}{tr:TA}{Q:VK}:Go (Nb tr σ H Q) ((tr σ H λ(xs:List V) (H1:Hp) => List.length xs<=sizeLine/\∀(p:Addr) (H':Hp),New H1 H' p (HO.lst xs)->Q (V.ref p) H')):=⟨R3⟩
instance aay{H:Hp}{Q:VK}{a b:Bool}:Go (Wv (V.bl a) (V.bl b) H Q) (Q (V.bl (decide (a=b))) H):=⟨Z0⟩
instance YG{H:Hp}{Q:VK}{a b:Bool}:Go (NZ (V.bl a) (V.bl b) H Q) (Q (V.bl !decide (a=b)) H):=⟨Wx⟩
instance Xh{σ:L2.St}{H:Hp}{Q:VK}{K:W.Frag}{te ts:TE}:Go (Gg K te ts σ H Q) ((te σ H λ(x:V) (H1:Hp) => ts σ H1 λ(y:V) (H2:Hp) => ∃(a:Addr),∃(xs:List V),x=V.ref a/\y=V.int (-1)/\SqL K H2 a xs/\∀(p:Addr) (H':Hp),New H2 H' p (HO.lst (List.reverse xs))->Q (V.ref p) H')):=⟨Sg⟩
instance YH{K:W.Frag}{σ:L2.St}{H:Hp}{Q:VK}{ta:TE}{f:Str}:Go (VN K ta f σ H Q) ((ta σ H λ(x:V) (H1:Hp) => ∃(a:Addr),∃(C:Addr),∃(dx:Addr),∃(fs:List (Str×V)),∃(v:V),x=V.ref a/\H1 a=some (HO.ins C dx fs)/\Cls K C/\dO K C f/\List.lookup f fs=some v/\Q v H1)):=⟨WK⟩
instance U8{σ:L2.St}{H:Hp}{Q:VK}{ta:TE}{t:TA}{m:Str}{C:Addr}{sp:Sp}{E:XK}:Go (wY C m sp [] E ta t σ H Q) ((ta σ H λ(x:V) (H1:Hp) => ∃(a:Addr),∃(dx:Addr),∃(fs:List (Str×V)),x=V.ref a/\H1 a=some (HO.ins C dx fs)/\List.lookup m fs=none/\t σ H1 λ(vs:List V) (H2:Hp) => sp (x::vs) H2 Q E)):=⟨Oe⟩
instance U9{σ:L2.St}{H:Hp}{Q:VK}{t:TA}{C:Addr}{sp:Sp}{E:XK}:Go (Gp C sp E t σ H Q) ((t σ H λ(vs:List V) (H1:Hp) => ∀(x dx:Addr) (H2:Hp),New H1 H2 x (HO.ins C dx [])->sp (V.ref x::vs) H2 (λ(v:V) (H3:Hp) => v=V.non/\Q (V.ref x) H3) E)):=⟨Od⟩
instance U_{K:W.Frag}{σ:L2.St}{H:Hp}{ta tv:TE}{f:Str}{D:Ends}:Go (VP K ta tv f D σ H) ((tv σ H λ(y:V) (H1:Hp) => ta σ H1 λ(x:V) (H2:Hp) => SX K f y x H2 λ(H3:Hp) => Ends.nx D σ H3)):=⟨Oc⟩
instance YJ{H:Hp}{Q:VK}{K:W.Frag}{i:Int}:Go (jE K [V.int i,V.ty "bool"] H Q) (Q (V.bl false) H):=⟨W0⟩
instance YK{H:Hp}{Q:VK}{K:W.Frag}{b:Bool}:Go (jE K [V.bl b,V.ty "bool"] H Q) (Q (V.bl true) H):=⟨W2⟩
instance acE{A B:Prop}:Go (if true=true then A else B) (A):=⟨adO⟩
instance acF{A B:Prop}:Go (if false=true then A else B) (B):=⟨adP⟩
instance aaz{A B:Prop}:Go (if (!true)=true then A else B) (B):=⟨aac⟩
instance aaA{A B:Prop}:Go (if (!false)=true then A else B) (A):=⟨aad⟩
instance aaB{t:TA}{tv:TE}{r:List V->V->Hp->VK->Prop}{σ:L2.St}{H:Hp}{Q:VK}:Go (tCK r t tv σ H Q) ((t σ H λ(xs:List V) (H1:Hp) => tv σ H1 λ(y:V) (H2:Hp) => r xs y H2 Q)):=⟨Z2⟩
instance YL{K:W.Frag}{g:TG}{tb:TS}{D:Ends}{σ:L2.St}{H:Hp}{tr:TA}:Go (tZ (Nk K tr) g tb D σ H) ((tr σ H λ(vs:List V) (H1:Hp) => ∃(a:Addr),∃(xs:List V),vs=[V.ref a]/\SqL K H1 a xs/\Gn K a xs g tb D σ H1)):=⟨W5⟩
instance Xi{g:TG}{tb:TS}{D:Ends}{σ:L2.St}{H:Hp}{tr:TA}:Go (tZ (Bl tr) g tb D σ H) ((tr σ H λ(vs:List V) (H1:Hp) => ∃(j:Int),vs=[V.int j]/\-2 ^ 62<=j/\j<2 ^ 62/\wL 0 (Int.toNat j) g tb D σ H1)):=⟨SN⟩
instance Xj{g:TG}{tb:TS}{D:Ends}{σ:L2.St}{H:Hp}{tr:TA}:Go (tZ (Ma tr) g tb D σ H) ((tr σ H λ(vs:List V) (H1:Hp) => ∃(i:Int),∃(j:Int),vs=[V.int i,V.int j]/\(-2 ^ 62<=i/\i<2 ^ 62/\-2 ^ 62<=j/\j<2 ^ 62)/\wL i (Int.toNat (j-i)) g tb D σ H1)):=⟨SQ⟩
instance YM{K:W.Frag}{te:TE}{g:TG}{tb:TS}{D:Ends}{σ:L2.St}{H:Hp}:Go (tZ (Bj K te) g tb D σ H) ((te σ H λ(x:V) (H1:Hp) => ∃(a:Addr),x=V.ref a/\(∃(xs:List V),SqL K H1 a xs)/\Gh K a g tb D σ H1)):=⟨Wz⟩
instance Xk{K:W.Frag}{t0 te:TE}{nt:Nat}{fr:List Nat}{g:TG}{c:TT}{σ:L2.St}{H:Hp}{Q:VK}:Go (jm (Bj K t0) nt fr g c te σ H Q) ((t0 σ H λ(x:V) (H1:Hp) => ∃(a:Addr),x=V.ref a/\(∃(xs:List V),SqL K H1 a xs)/\dz (Itl K a) nt fr g c te σ H1 Q)):=⟨Sh⟩
section
variable{K:W.Frag}{H:Hp}{Q:VK}{E:XK}{x:V}{n:String}{p q:Addr}{a b c lo hi:Int}{ns:List Int}{m:Int}
instance aaC:Go (m7 K [.int a,.int lo] H Q E) (Q (.bl (decide (lo<=a))) H):=⟨S5⟩
instance Xl:Go (jG K [.int a,.int lo,.int hi] H Q E) (Q (.bl (decide (lo<=a) && decide (a<=hi))) H):=⟨λk=>⟨_,_,lo,hi,rfl,.int _,k⟩⟩
instance aaD:Go (uJ K [.int a] H Q E) (Q (.bl (decide (16<=a) && decide (a<=240))) H):=⟨λk=>⟨_,_,rfl,.int _,k⟩⟩
instance aaE[h:Hat H q (.tup [.int a,.int b])]:Go (qD [.ref q] H Q E) (Q (.int (a+b)) H):=⟨aae h.e⟩
instance aaF[h:SqA K H p (ns.map V.int)]:Go (uK K [.ref p,.int m] H Q E) (Sd (0<=m) (∀c:Int,Q (.int c) H)):=⟨λs=>S6 h.e s.1 s.2⟩
instance acG:Go (zT [.int a] H Q E) (∀x y:Int,∀(p:Addr) (H':Hp),New H H' p (.lst [.int x,.int y,.int 0])->Q (.ref p) H'):=⟨λk=>W7 λp x y H' n=>k x y p H' n⟩
end
end L2
namespace L2
open PySem PySem.Spec PyProof.Rows
def Itq(lo st:Int)(n:Nat):It:={ go:=λi _=>i<n,yld:=λi H x H'=>H'=H/\x=.int (lo+i*st),stop:=λi _=>n<=i }
theorem Gq{P:Program}{w:World}{K:W.Frag}{tg:Expr}(z:Addr)(lo st:Int)(n:Nat):Turn P w K tg (Itq lo st n) [z] z (λi h=>IsRangeIter h z (lo+(i:Nat)*st) ((n:Int)-(i:Nat)) st):=by
 refine⟨List.mem_singleton.mpr rfl,?_,?_,?_,?_,λ_ _ _ _ _ g h=>wpAny_pyIter_rangeiter g h⟩
 ·intro i h g b hb
  rw[List.mem_singleton.mp hb]
  refine⟨_,g,λv y=>?_⟩
  have y:Data.fields _=Data.cell v:=y
  cases y
 ·exact λi h h' g k=>k z (List.mem_singleton.mpr rfl) _ g
 ·intro X e1 e2 e3 hc i pins s σ H E I hf g hg
  subst e1
  subst e2
  subst e3
  have fp:=hf z (List.mem_singleton.mpr rfl)
  refine(Walks.range (prog:=X.prog) (w:=X.w) (I.ok.hd hc) z lo st n).item i s _ _ hg g ?_
  rintro v h' tk ⟨t,rfl⟩ g2 kk
  have I1:Inv X pins σ H { s with heap:=h',toks:=tk }:=by
   refine I.turned (it:=z) (λb o hb e=>kk b o (λy=>hb (List.mem_singleton.mp y)) e) ?_ ?_ ?_ ?_ ?_
   ·exact fp.1
   ·exact fp.2.1
   ·exact fp.2.2.2.1
   ·exact fp.2.2.2.2.1
   ·exact fp.2.2.2.2.2
  exact⟨_,rfl,wU (s:={ s with heap:=h',toks:=tk }) (n := "range_iterator") g2 rfl rfl (by decide) ⟨.int (lo+i*st),H,I1,⟨t,rfl⟩,⟨rfl,rfl⟩,g2,λb hb=>(hf b hb).1⟩⟩
 ·intro X e1 e2 e3 hc i pins s σ H E I hf g hg
  subst e1
  subst e2
  subst e3
  have fp:=hf z (List.mem_singleton.mpr rfl)
  have hg:n<=i:=hg
  refine wpAny_pyNext_range_end (I.ok.hd hc) g (by lia) λh' eb=>⟨rfl,?_⟩
  refine I.turned (it:=z) (t':=s.toks) (λb o hb e=>eb b o hb e) ?_ ?_ ?_ ?_ ?_
  ·exact fp.1
  ·exact fp.2.1
  ·exact fp.2.2.2.1
  ·exact fp.2.2.2.2.1
  ·exact fp.2.2.2.2.2
section
variable{tr:TA}{g:TG}{tb:TS}{D:Ends}{σ:St}{H:Hp}
def S7(lo st:Int)(n:Nat)(g:TG)(tb:TS)(D:Ends)(σ:St)(H:Hp):Prop:=∃W:Nat->Nat->St->Hp->Prop,(∃m,W 0 m σ H)/\∀i m σ H,W i m σ H ->
      ((Itq lo st n).stop i H/\D.nx σ H)\/((Itq lo st n).go i H/\∃N:St->Hp->Prop,(∀σ' H',N σ' H'->∃m',m'<m/\W (i+1) m' σ' H')/\∀x H',(Itq lo st n).yld i H x H'->g x σ H' λσ2 H2=>tb { D with nx:=N,ct:=N,bk:=D.nx } σ2 H2)
theorem S8{lo st:Int}{n:Nat}(Pv:Nat->St->Hp->Prop)(h0:Pv 0 σ H)(hs:∀i σ H,i<n->Pv i σ H->g (.int (lo+i*st)) σ H λσ2 H2=>tb { D with nx:=Pv (i+1),ct:=Pv (i+1),bk:=D.nx } σ2 H2)(hd:∀σ H,Pv n σ H->D.nx σ H):S7 lo st n g tb D σ H:=by
 refine⟨λi m σ H=>m=n-i/\i<=n/\Pv i σ H,⟨n,by simp,Nat.zero_le _,h0⟩,?_⟩
 rintro i m σ H ⟨rfl,hi,p⟩
 by_cases hl:i<n
 ·refine .inr ⟨hl,Pv (i+1),λσ' H' p'=>⟨n-(i+1),by lia,rfl,hl,p'⟩,?_⟩
  rintro x H' ⟨rfl,rfl⟩
  exact hs i σ H' hl p
 ·have e:i=n:=by lia
  subst e
  exact .inl ⟨Nat.le_refl _,hd σ H p⟩
variable{K:W.Frag}{a:Addr}{xs:List V}{nt:Nat}{fr:List Nat}{c:TT}{te:TE}{Q:VK}{n m:Int}
instance aez[h:SqA K H a xs]:Go (∃a',V.ref a=.ref a'/\(∃xs,SqL K H a' xs)/\dz (Itl K a') nt fr g c te σ H Q) (dz (Itl K a) nt fr g c te σ H Q):=⟨adS h.e⟩
instance aeA[h:SqA K H a xs]:Go (∃a',V.ref a=.ref a'/\(∃xs,SqL K H a' xs)/\Gh K a' g tb D σ H) (Gh K a g tb D σ H):=⟨adR h.e⟩
instance aeB[h:SqA K H a xs]:Go (∃a' xs',[V.ref a]=[.ref a']/\SqL K H a' xs'/\Gn K a' xs' g tb D σ H) (Gn K a xs g tb D σ H):=⟨adQ h.e⟩
end
class KC(L:List (Addr×HO))(a b:Addr):Prop where
 ne:(L.map (·.1)).Nodup->a≠b
section
variable{L R L':List (Addr×HO)}{a b:Addr}{o:HO}{c:Addr×HO}{H0 H:Hp}{M:List Addr}{I:List Im}
instance afl[h:KC L a b]:KC (c::L) a b:=⟨λnd=>h.ne (by rw[List.map_cons] at nd;exact(List.nodup_cons.mp nd).2)⟩
instance afm{o':HO}[h:LkL L a o]:KC ((b,o')::L) a b:=⟨λnd z=>by
 rw[List.map_cons] at nd
 exact(List.nodup_cons.mp nd).1 (by show b∈_;rw[<- z];exact List.mem_map_of_mem (f:=(·.1)) h.m)⟩
instance afn{o':HO}[h:LkL L b o]:KC ((a,o')::L) a b:=⟨λnd z=>by
 rw[List.map_cons] at nd
 exact(List.nodup_cons.mp nd).1 (by show a∈_;rw[z];exact List.mem_map_of_mem (f:=(·.1)) h.m)⟩
theorem SH.neC[F:SH H0 M H L I][h:KC L a b]:a≠b:=h.ne F.nd
class PkC(c:Addr×HO)(L:List (Addr×HO))(R:outParam (List (Addr×HO))):Prop where
 p:Pk c L R
class SbC(L' L:List (Addr×HO)):Prop where
 s:Sb L' L
instance afF{d:Addr×HO}[h:PkC c L R]:PkC c (d::L) (d::R):=⟨.tail h.p⟩
instance afG:PkC c (c::L) L:=⟨.head⟩
instance afH:SbC [] L:=⟨.nil⟩
instance afI[h:PkC c L R][t:SbC L' R]:SbC (c::L') L:=⟨.cons h.p t.s⟩
theorem SH.Gs(F:SH H0 M H L I)[h:SbC L' L]:SH H0 M H L' []:=F.sub h.s (λ_ h=>by cases h)
end
instance acH{H:Hp}{Q:VK}{v:V}{o0 o1 o2 o3 o4 o5 o6 o7 o8 o9 o10 o11 o12 o13:Option V}{r:St}:Go (eO 14 (o0::o1::o2::o3::o4::o5::o6::o7::o8::o9::o10::o11::o12::o13::some v::r) H Q) (Q v H):=⟨λh=>⟨v,rfl,h⟩⟩
instance acI{H:Hp}{v:V}{o0 o1 o2 o3 o4 o5 o6 o7 o8 o9 o10 o11 o12 o13 o:Option V}{r:St}{R:St->Hp->Prop}:Go (bK 14 v (o0::o1::o2::o3::o4::o5::o6::o7::o8::o9::o10::o11::o12::o13::o::r) H R) (R (o0::o1::o2::o3::o4::o5::o6::o7::o8::o9::o10::o11::o12::o13::some v::r) H):=⟨λh=>h⟩
end L2
namespace L2
open PySem PySem.Spec PyProof.Rows PySem.SeqAt
section
variable{K:W.Frag}{H0 H:Hp}{M:List Addr}{L L':List (Addr×HO)}{I:List Im}{l b a p:Addr}{xs ys r:List V}{v v0 v1 y:V}{Q:VK}{R:Hp->Prop}{R':Prop}{te:TE}{fvs σ:St}{fr:List Nat}{i j:Int}{Z:Addr->Hp->Prop}
instance YQ:Go (V.non=V.non/\R') R':=⟨λk=>⟨rfl,k⟩⟩
instance acJ[h:Hat H l (.lst xs)]:Go (BL (.ref l) (.int i) v H R) (Sd (0<=i/\i<xs.length) (∀H',Off l H H'->H' l=some (.lst (xs.set i.toNat v))->R H')):=⟨λs=>Gm h.e (Z_ s.1.1 s.1.2) s.2⟩
instance aaG{g:TG}{tb:TS}{D:Ends}:Go (∃j:Int,[V.int i]=[.int j]/\-(2 ^ 62)<=j/\j<2 ^ 62/\wL 0 j.toNat g tb D σ H) (Sd (-(2 ^ 62)<=i/\i<2 ^ 62) (wL 0 i.toNat g tb D σ H)):=⟨λs=>⟨i,rfl,s.1.1,s.1.2,s.2⟩⟩
instance aaH{g:TG}{tb:TS}{D:Ends}:Go (∃i' j':Int,[V.int i,V.int j]=[.int i',.int j']/\(-(2 ^ 62)<=i'/\i'<2 ^ 62/\-(2 ^ 62)<=j'/\j'<2 ^ 62)/\wL i' (j'-i').toNat g tb D σ H) (Sd (-(2 ^ 62)<=i/\i<2 ^ 62/\-(2 ^ 62)<=j/\j<2 ^ 62) (wL i (j-i).toNat g tb D σ H)):=⟨λs=>⟨i,j,rfl,s.1,s.2⟩⟩
end
end L2
namespace L2
open PySem PySem.Spec PyProof.Rows
abbrev j8(x:Str)(p1 p2 p3:Pos)(j:Nat):Expr:=.Subscript (.Name x p1) (.Constant (.int 1) j p2) p3
structure oH(x:Str)(scope:Scope):Prop where
 kind:scope.kind=.function
 co:scope.isCoroutine=false
 gen:scope.isGenerator=false
 loc:scope.names.lookup x=some .local
 Xm:∀y∈scope.names,y.2≠.cell
 aaI:(x == ("__debug__" : Str))=false
theorem Xn{prog:Program}{w:World}{A:Around}{s:Shared}{f q c':Addr}{x qual:Str}{params:Arguments}{scope:Scope}{pm ctv u:Value}{p1 p2 p3:Pos}{j:Nat}{its:List Value}{Q:Value->Shared->Prop}{E:Value->Shared->Prop}
  (hroom:A.depth<recursionLimit) (ho:s.heap.get? f=some (W.kla_obj "<lambda>" qual params (j8 x p1 p2 p3 j) scope [] pm c' ctv)) (hcd:s.heap.CodeRec (.ref c') qual) (hlim:s.heap.NoLimit) (S:oH x scope)
  (hbind:bindArgs (W.kla_fn "<lambda>" qual params (j8 x p1 p2 p3 j) scope [] pm (.ref c') ctv) ⟨[.ref q],[]⟩=pure [(x,.ref q)])
  (ht:IsTup s.heap q its.toArray) (hi:its[1]?=some u) (h:∀h' tk,(∀b o,s.heap.get? b=some o->h'.get? b=some o)->Q u { s with heap:=h',toks:=tk }):wpAny (model prog w) A (call (.ref f) [.ref q]) Q E s:=by
 refine wpAny_call ?_
 refine W.kla_callFunE hroom ho rfl S.co S.gen rfl hcd ?_
 rw[hbind]
 refine wpAny_pure ?_
 refine wpAny_newFunctionEnv S.Xm (λy hy=>?_) (λh1 hns hsb=>?_) S.kind
 ·rw[List.mem_singleton.mp hy]
  exact S.loc
 ·have hk1:∀b o,s.heap.get? b=some o->h1.get? b=some o:=λb o e=>hsb.extBut b o (Nat.ne_of_lt (Heap.lt_size e)) (Heap.get?_push_of_some _ e)
  refine⟨hlim.keeps hk1,W.kla_codeExpr ?_⟩
  refine Subscript_ (wpAny_Name (wpAny_loadName_local S.kind S.loc hns (v:=.ref q) (by simp) ?_) S.aaI)
  refine wpAny_Constant_int ?_
  have ht1:IsTup h1 q its.toArray:=by
   obtain⟨o,e,r⟩:=ht
   exact⟨o,hk1 _ _ e,r⟩
  have hlen:1<its.length:=(List.getElem?_eq_some_iff.mp hi).1
  refine subscriptTail_builtinR (x:=u) (IsTup.typeIs ht1) slot_tuple_getitem.lookup (getItem_tuple (j:=1) ht1 (by decide) (by decide) ?_ (by simpa using hi) ⟨rfl,?_⟩) ?_
  ·rw[List.size_toArray]
   unfold seqIndex?
   simp
   lia
  ·exact h h1 _ hk1
  ·rfl
theorem dg.is{P:Program}{w:World}{H:Hp}{h:Heap}{a:Addr}{o:HO}(x:dg P w H h a o):∃ob,h.get? a=some ob:=by
 cases o with
 | lst xs=>obtain⟨_,_,_,_,e⟩:=x;exact⟨_,e⟩
 | tup xs=>obtain⟨_,_,_,ob,e,_⟩:=x;exact⟨_,e⟩
 | dK kvs=>obtain⟨_,_,_,_,ob,_,_,e,_⟩:=x;exact⟨_,e⟩
 | dT kvs=>obtain⟨_,_,_,_,ob,_,_,e,_⟩:=x;exact⟨_,e⟩
 | set S n=>obtain⟨ob,_,_,_,e,_⟩:=x;exact⟨_,e⟩
 | ins C dx fs=>obtain⟨_,_,_,e,_⟩:=x;exact⟨_,e⟩
 | own y=>exact x
 | xd fs=>obtain⟨_,⟨ob,_,_,e,_⟩,_⟩:=x;exact⟨_,e⟩
 | rng lo hi=>obtain⟨_,_,_,e⟩:=x;exact⟨_,e⟩
 | frz ob u=>exact⟨_,x.1⟩
 | tbl ps=>exact⟨_,x⟩
 | met f y=>exact⟨_,x⟩
 | ext φ=>exact x.2.1
def m8(h:Heap)(L:Addr):List (Addr×Obj):=(List.range h.objs.size).filterMap λb=>if b=L then none else (h.get? b).map λo=>(b,o)
theorem m9{h:Heap}{L b:Addr}{o:Obj}(e:h.get? b=some o)(n:b≠L):(b,o)∈m8 h L:=by
 unfold m8
 refine List.mem_filterMap.mpr ⟨b,List.mem_range.mpr (Heap.lt_size e),?_⟩
 rw[if_neg n,e]
 rfl
theorem xK{h:Heap}{L:Addr}{p:Addr×Obj}(m:p∈m8 h L):h.get? p.1=some p.2/\p.1≠L:=by
 unfold m8 at m
 obtain⟨b,_,e⟩:=List.mem_filterMap.mp m
 split at e
 ·cases e
 ·rename_i n
  cases q:h.get? b with
  | none=>rw[q] at e;cases e
  | some o =>
   rw[q] at e
   cases e
   exact⟨q,n⟩
theorem Xo{h:Heap}{a:Addr}{m m':Str->Option Value}(x:h.Ns a m)(y:h.Ns a m'):m=m':=by
 obtain⟨o,es,ep,e,d,_,f⟩:=x
 obtain⟨o',es',ep',e',d',_,f'⟩:=y
 rw[e] at e'
 cases e'
 rw[d] at d'
 cases d'
 funext k
 rw[<- f k,<- f' k]
theorem Inv.aaJ{X:Cx}{pins:List (Addr×Obj)}{σ:St}{H:Hp}{s:Shared}{h':Heap}{t':Nat}{D:Addr}{o:HO}{m:Str->Option Value}(I:Inv X pins σ H s)(k:∀b u,b≠X.env.locals->s.heap.get? b=some u->h'.get? b=some u)
  (hm:s.heap.Ns X.env.locals m) (hm':h'.Ns X.env.locals m) (hn:s.heap.get? D=none) (new:dg X.prog X.w (upd H D o) h' D o):Inv X pins σ (upd H D o) { s with heap:=h',toks:=t' }:=by
 have hD:H D=none:=by
  cases q:H D with
  | none=>rfl
  | some u =>
   obtain⟨ob,e⟩:=(I.hok D u q).is
   rw[hn] at e
   cases e
 have nL:∀b u,H b=some u->b≠X.env.locals:=λb u e z=>by rw[z,I.free] at e;cases e
 have nD:∀{b:Addr} {u:HO},H b=some u->upd H D o b=some u:=λ{b u} e=>by rw[bZ (λz=>by rw[z,hD] at e;cases e)];exact e
 refine I.step (g':=s.gens) (d':=s.drawn) (ch:=[]) (λ_ z=>nomatch z) (λb u n _ _ e _=>k b u n e) (λb u n _ _ e _=>⟨u.slots,k b u n e⟩) (λb u _ e q=>?_) (λb u _ e=>?_) (λb xs e=>nD e) (λb u v e=>nD e) (λb ps e=>⟨#[],by rw[nD e];simp⟩) (λm2 hm2=>?_) (λb u e=>?_) I.bare
 ·rw[bZ (λz=>by rw[z,hn] at e;cases e)]
  exact q
 ·by_cases n:b=X.env.locals
  ·obtain⟨ob,_,_,e2,_⟩:=hm'
   exact⟨ob,by rw[n];exact e2⟩
  ·exact⟨u,k b u n e⟩
 ·rw[Xo hm2 hm]
  exact hm'
 ·by_cases hb:b=D
  ·rw[hb,cA] at e
   cases e
   rw[hb]
   exact new
  ·rw[bZ hb] at e
   refine(I.hok b u e).stay (λc v hc q=>k c v ?_ q) (λc q=>nD q) λc xs q=>nD q
   rcases hc with z|z
   ·rw[z]
    exact nL b u e
   ·exact nL c _ z
def oJ(H:Hp)(f:Addr):Prop:=∃(qual x:Str) (params:Arguments) (p1 p2 p3:Pos) (j:Nat) (scope:Scope) (pm ctv:Value) (c':Addr) (oc:Obj) (vs:Array Value) (t:Tok),
 H f=some (.frz (W.kla_obj "<lambda>" qual params (j8 x p1 p2 p3 j) scope [] pm c' ctv) (.own f))/\H c'=some (.frz oc (.own c'))/\oc.data=.fields vs/\vs[1]?=some (.str qual t)/\oH x scope /\
 ∀q:Addr,bindArgs (W.kla_fn "<lambda>" qual params (j8 x p1 p2 p3 j) scope [] pm (.ref c') ctv) ⟨[.ref q],[]⟩=pure [(x,.ref q)]
def uL(ks:List Int)(xs ys:List V):Prop:=∃ps:List (Int×V),ps.Perm (ks.zip xs)/\ys=ps.map Prod.snd/\ps.Pairwise λa b=>a.1<=b.1
def Oi(K:W.Frag):List V->V->Hp->VK->Prop:=λvs y H Q=>∃(l f:Addr) (xs:List V) (ks:List Int),vs=[.ref l]/\y=.ref f/\oJ H f/\SqL K H l xs/\ks.length=xs.length/\xs.length<64 /\
 (∀(i:Nat) v k,xs[i]?=some v->ks[i]?=some k->∃q r,v=.ref q/\H q=some (.tup r)/\r[1]?=some (.int k))/\∀D ys H',New H H' D (.lst ys)->uL ks xs ys->Q (.ref D) H'
def rQ:Value->V
 | .ref a=>.ref a
 | _=>.non
theorem xM:∀{xs:List V} {us:List Value},Vals xs us->(∀v∈xs,∃q,v=.ref q)->xs=us.map rQ/\∀u∈us,∃q,u=.ref q
 | _,_,.nil,_=>⟨rfl,λ_ h=>by cases h⟩
 | _,_,.cons r t,h=>by
  obtain⟨e1,e2⟩:=xM t λv hv=>h v (List.mem_cons_of_mem _ hv)
  obtain⟨q,rfl⟩:=h _ List.mem_cons_self
  cases r
  refine⟨by rw[List.map_cons,<- e1];rfl,λu hu=>?_⟩
  rcases List.mem_cons.mp hu with rfl|hu
  ·exact⟨q,rfl⟩
  ·exact e2 u hu
theorem xO:∀{us:List Value},(∀u∈us,∃q,u=.ref q)->Vals (us.map rQ) us
 | [],_=>.nil
 | u::us,h=>by
  obtain⟨q,rfl⟩:=h u List.mem_cons_self
  exact .cons rfl (xO λv hv=>h v (List.mem_cons_of_mem _ hv))
theorem Gu{X:Cx}{K:W.Frag}{k:Nat}(hK:X.K=K)(hr:Room k X.A):N8 X "sorted" "key" (Oi K):=by
 intro pins s σ H vs us y u Q I rv ry h
 subst hK
 obtain⟨l,f,xs,ks,rfl,rfl,lam,hq,hl,h64,hk,q⟩:=h
 cases ry
 rcases rv with _|⟨r,_|_⟩
 cases r
 obtain⟨its,rv,p,hz⟩:=I.list hq
 obtain⟨m,hm,_⟩:=id I.loc
 obtain⟨qual,x,params,p1,p2,p3,j,scope,pm,ctv,c',oc,cv,t,ef,ec,ed,e1,S,hb⟩:=lam
 have hlen:its.length=xs.length:=rv.length.symm
 have nL:∀{b:Addr} {u:HO},H b=some u->b≠X.env.locals:=λ{b u} e z=>by rw[z,I.free] at e;cases e
 have refs:∀v∈xs,∃q,v=V.ref q:=λv hv=>by
  obtain⟨i,hi,e⟩:=List.getElem_of_mem hv
  obtain⟨q,r,e2,_⟩:=hk i v (ks[i]'(by lia)) (by rw[<- e];simp) (by simp)
  exact⟨q,e2⟩
 obtain⟨xb,ub⟩:=xM rv refs
 have keep:∀{h:Heap} {own:List (Addr×Obj)},News { objs:=#[] } X.env.locals h (m8 s.heap X.env.locals++own)->∀b o,b≠X.env.locals->s.heap.get? b=some o->h.get? b=some o:=λN b o n e=>(N (b,o) (List.mem_append_left _ (m9 e n))).1
 refine ksk_sorted (h₀:={ objs:=#[] }) (L:=X.env.locals) (m:=m) (news:=m8 s.heap X.env.locals) (b:=false) (vs:=its) (kz:=ks) (f:=.ref f) ⟨hm,λb o e=>?_,Nat.zero_le _⟩ (λp hp=>⟨(xK hp).1,(xK hp).2,rfl⟩) p.isList (by lia) (by lia) (ksk_s1 _ _) (λx=>ksk_l1 _ _) (λx=>ksk_t1 f x) ?_ ?_
 ·have e:Heap.get? { objs:=#[] } b=some o:=e
  simp[Heap.get?] at e
 ·intro i v k hv hki h tk own F N
  have kp:=keep N
  have hx:xs[i]?=some (rQ v):=by rw[xb,List.getElem?_map,hv];rfl
  obtain⟨q,r,e2,e3,e4⟩:=hk i _ k hx hki
  obtain⟨q',rfl⟩:=ub v (List.mem_of_getElem? hv)
  cases e2
  obtain⟨_,its2,rv2,ob,et,ec2⟩:=I.hok q _ e3
  obtain⟨u2,eu,ru⟩:=rv2.get e4
  obtain⟨t2,rfl⟩:=ru
  have lim:h.NoLimit:=I.ok.mod.nolimit.keeps λb o e=>kp b o (Nat.ne_of_lt (Nat.lt_of_lt_of_le (Heap.lt_size e) (Nat.le_trans I.ok.bsz I.ok.above))) (I.bk b o e)
  refine Xn (A:=X.A.in1.in1) (s:={ s with heap:=h,toks:=tk }) (show X.A.depth<_ from hr.depth) (kp _ _ (nL ef) (I.hok f _ ef).1) ⟨c',oc,cv,t,rfl,kp _ _ (nL ec) (I.hok c' _ ec).1,ed,e1⟩ lim S (hb q) (its:=its2) ⟨ob,kp _ _ (nL e3) et,ec2⟩ eu λh' tk' k2=>?_
  exact KskEnd.intro (s₁:={ s with heap:=h,toks:=tk }) (news':=m8 s.heap X.env.locals++own) ⟨F.ns.keeps k2,λb o e=>k2 b o (F.keep b o e),F.above⟩ (λp hp=>⟨k2 _ _ (N p hp).1,(N p hp).2⟩) λp hp=>hp
 ·intro D h' tk out c F N hD out'
  obtain⟨ps,pp,eo,pw⟩:=out'
  have hn:s.heap.get? D=none:=by
   cases e:s.heap.get? D with
   | none=>rfl
   | some o =>
    have:=hD (D,o) (m9 e (N (D,seqObj "list" out c) List.mem_cons_self).2.1)
    exact absurd this (Nat.lt_irrefl _)
  have hin:∀u∈out.toList,∃q,u=Value.ref q:=λu hu=>by
   rw[eo] at hu
   obtain⟨pr,h1,rfl⟩:=List.mem_map.mp hu
   have:=pp.mem_iff.mp h1
   exact ub _ (List.of_mem_zip (show (pr.1,pr.2)∈ks.zip its from this)).2
  have lo:out.toList.length=xs.length:=by
   rw[eo,List.length_map,pp.length_eq,List.length_zip]
   lia
  refine⟨.ref D,upd H D (.lst (out.toList.map rQ)),I.aaJ (t':=tk) (λb u n e=>(N (b,u) (List.mem_cons_of_mem _ (m9 e n))).1) hm F.ns hn ?_,rfl,q D _ _ (New.mk' ?_) ⟨ps.map λpr=>(pr.1,rQ pr.2),?_,?_,?_⟩⟩
  ·refine⟨by rw[List.length_map,lo];exact hz,out.toList,c,xO hin,?_⟩
   exact(N (D,seqObj "list" out c) List.mem_cons_self).1
  ·cases e:H D with
   | none=>rfl
   | some u =>
    obtain⟨ob,e2⟩:=(I.hok D u e).is
    rw[hn] at e2
    cases e2
  ·have:=pp.map λpr:Int×Value=>(pr.1,rQ pr.2)
   rw[xb]
   have e3:(ks.zip its).map (λpr:Int×Value=>(pr.1,rQ pr.2))=ks.zip (its.map rQ):=by
    rw[List.zip_map_right]
    rfl
   rw[<- e3]
   exact this
  ·rw[eo,List.map_map,List.map_map]
   rfl
  ·exact List.pairwise_map.mpr (pw.imp λh=>by simpa using h)
theorem Inv.grow{X:Cx}{pins:List (Addr×Obj)}{σ:St}{H H':Hp}{s:Shared}{h':Heap}{t':Nat}(I:Inv X pins σ H s)(k:∀b u,H b=none->s.heap.get? b=some u->h'.get? b=some u/\H' b=none)
  (kt:∀b u,H b=some u->(H' b=some u/\∀o,s.heap.get? b=some o->h'.get? b=some o)\/∃ps more,u=.tbl ps/\H' b=some (.tbl (ps++more))/\h'.get? b=some { cls:=.none,data:=.fields (ps++more) })
  (new:∀b u,H b=none->H' b=some u->dg X.prog X.w H' h' b u):Inv X pins σ H' { s with heap:=h',toks:=t' }:=by
 have same:∀{b:Addr} {u:HO},H b=some u->(∀ps,u≠.tbl ps)->H' b=some u/\∀o,s.heap.get? b=some o->h'.get? b=some o:=λ{b u} e n=>by
  rcases kt b u e with z|⟨ps,_,z,_⟩
  ·exact z
  ·exact absurd z (n ps)
 obtain⟨m0,⟨oL,esL,epL,eL,rL⟩,_⟩:=id I.loc
 have kL:=(k _ _ I.free eL).1
 refine I.step (g':=s.gens) (d':=s.drawn) (ch:=[]) (λ_ z=>nomatch z) (λb u n _ _ e q=>(k b u q e).1) (λb u n _ _ e q=>⟨u.slots,(k b u q e).1⟩) (λb u _ e q=>(k b u q e).2) (λb u _ e=>?_) (λb xs e=>(same e (by intro _ z;cases z)).1) (λb u v e=>(same e (by intro _ z;cases z)).1) (λb ps e=>?_) (λm2 hm2=>?_) (λb u e=>?_) I.bare
 ·cases q:H b with
  | none=>exact⟨u,(k b u q e).1⟩
  | some v =>
   rcases kt b v q with z|⟨ps,more,_,_,z⟩
   ·exact⟨u,z.2 u e⟩
   ·exact⟨_,z⟩
 ·rcases kt b _ e with z|⟨ps',more,z,z2,_⟩
  ·exact⟨#[],by rw[z.1];simp⟩
  ·cases z
   exact⟨more,z2⟩
 ·obtain⟨o,es,ep,e,r⟩:=hm2
  rw[eL] at e
  cases e
  exact⟨_,es,ep,kL,r⟩
 ·cases q:H b with
  | none=>exact new b u q e
  | some v =>
   rcases kt b v q with z|⟨ps,more,rfl,z2,z3⟩
   ·rw[z.1] at e
    cases e
    refine(I.hok b _ q).stay (λc o hc e2=>?_) (λc e2=>(same e2 (by intro _ z;cases z)).1) λc xs e2=>(same e2 (by intro _ z;cases z)).1
    rcases hc with rfl|hc
    ·exact z.2 o e2
    ·exact(same hc (by intro _ z;cases z)).2 o e2
   ·rw[z2] at e
    cases e
    exact z3
def TabOk(pos:Pos)(qual:Str)(ps:Array Value)(H:Hp):Prop:=ps=#[]\/∃(c':Addr) (oc:Obj) (vs:Array Value) (t:Tok),ps=#[rawInt pos.line,rawInt pos.col,.ref c']/\H c'=some (.frz oc (.own c'))/\oc.data=.fields vs/\vs[1]?=some (.str qual t)
def Bm(mg:Str->Option Value)(base:Heap):Prop:=∃bm ob,mg "__builtins__" = some (.ref bm)/\bm≠builtinsNs/\base.get? bm=some ob/\ob.cls=.type "module" /\ ob.dict=some builtinsNs/\ob.data=.plain
def aaK(P:Addr)(pos:Pos)(qual:Str):TE:=λ_ H Q=>∃ps,H P=some (.tbl ps)/\TabOk pos qual ps H/\∀f ps' H',Kp P H H'->H' P=some (.tbl ps')->TabOk pos qual ps' H'->oJ H' f->Q (.ref f) H'
theorem Xp{X:Cx}{c P:Addr}{qual x:Str}{params:Arguments}{scope:Scope}{p1 p2 p3 pos:Pos}{j:Nat}(B:Bm X.mg X.base)(hc:X.env.code=.ref c)(hK:W.codeHdIn X.K c P=true)(hq:X.env.qual++("<lambda>" : Str)=qual)(S:oH x scope)
  (hdef:defaultsOf params X.env=([],[]):=by rfl) (hcl:closureFor scope X.env=pure []:=by rfl)
  (hb:∀(pm ctv:Value) (c' q:Addr),bindArgs (W.kla_fn "<lambda>" qual params (j8 x p1 p2 p3 j) scope [] pm (.ref c') ctv) ⟨[.ref q],[]⟩=pure [(x,.ref q)]:=by intros;rfl) :
  PE X (.Lambda params (j8 x p1 p2 p3 j) scope pos) (aaK P pos qual):=by
 intro pins s σ H Q I h
 obtain⟨ps,eP,tk,q⟩:=h
 have hP:s.heap.get? P=some (W.tabObj ps):=I.hok P _ eP
 obtain⟨bm,ob,b1,b2,b3,b4,b5,b6⟩:=B
 have hg:s.heap.Ns mainGlobals X.mg:=I.ok.mod.glob.keeps I.bk
 have nob:∀{b:Addr} {o:Obj},X.base.get? b=some o->b≠P:=λ{b o} e z=>by
  have:=(I.bs b o e).2
  rw[z,eP] at this
  cases this
 have nG:mainGlobals≠P:=by
  obtain⟨o,_,_,e,_⟩:=I.ok.mod.glob
  exact nob e
 have nbG:bm≠mainGlobals:=λz=>by
  obtain⟨o,es,ep,e,hd,_⟩:=I.ok.mod.glob
  rw[z,e] at b3
  cases b3
  rw[hd] at b6
  cases b6
 have BA:s.heap.BuiltinsAt X.mg P:=⟨bm,ob,b1,b2,nbG,nob b3,I.bk _ _ b3,b4,b5,b6⟩
 have CH:=W.codeHd_of_K I.kIn hK
 refine W.kla_eval hdef ?_
 rw[hq]
 have nP:∀{b:Addr},H b=none->b≠P:=λ{b} e z=>by rw[z,eP] at e;cases e
 rcases tk with rfl|⟨c',oc,vs,t,rfl,e1,e2,e3⟩
 ·refine W.kla_makeFunction hcl I.ok.glob hg hc CH hP trivial rfl nG BA λc' ctv h' tk' hx hge hlt hrec hP'=>?_
  obtain⟨c2,oc,vs,t,z,hoc,hd,hv⟩:=hrec
  cases z
  have fc:H c'=none:=I.hok.fresh hge
  have hsz:s.heap.objs.size<=h'.objs.size:=Nat.le_trans hge (Nat.le_of_lt hlt)
  have ff:H h'.objs.size=none:=I.hok.fresh hsz
  have ncf:c'≠h'.objs.size:=Nat.ne_of_lt hlt
  have ncP:c'≠P:=nP fc
  have nfP:h'.objs.size≠P:=nP ff
  generalize hf:h'.objs.size=f at *
  generalize hob:W.kla_obj "<lambda>" qual params (j8 x p1 p2 p3 j) scope [] ((X.mg "__name__").getD .none) c' ctv=fo
  let H':Hp:=upd (upd (upd H P (.tbl (#[]++#[rawInt pos.line,rawInt pos.col,.ref c']))) c' (.frz oc (.own c'))) f (.frz fo (.own f))
  have hP2:H' P=some (.tbl #[rawInt pos.line,rawInt pos.col,.ref c']):=by
   show upd _ _ _ _=_
   rw[bZ (Ne.symm nfP),bZ (Ne.symm ncP),cA]
   simp
  have hc2:H' c'=some (.frz oc (.own c')):=by
   show upd _ _ _ _=_
   rw[bZ ncf,cA]
  have hf2:H' f=some (.frz fo (.own f)):=cA
  have old:∀{b:Addr},b≠P->b≠c'->b≠f->H' b=H b:=λ{b} n1 n2 n3=>by
   show upd _ _ _ _=_
   rw[bZ n3,bZ n2,bZ n1]
  have push:∀{b:Addr} {o:Obj},h'.get? b=some o->(h'.push fo).get? b=some o:=λe=>Heap.get?_push_of_some _ e
  have I':Inv X pins σ H' { s with heap:=h'.push fo,toks:=tk' }:=by
   refine I.grow (λb u n e=>?_) (λb u e=>?_) λb u n e=>?_
   ·have lt:=Heap.lt_size e
    have n2:b≠c':=Nat.ne_of_lt (Nat.lt_of_lt_of_le lt hge)
    have n3:b≠f:=Nat.ne_of_lt (Nat.lt_of_lt_of_le lt hsz)
    exact⟨push (hx b u (nP n) e),by rw[old (nP n) n2 n3];exact n⟩
   ·by_cases hbP:b=P
    ·right
     rw[hbP,eP] at e
     cases e
     exact⟨#[],#[rawInt pos.line,rawInt pos.col,.ref c'],rfl,by rw[hbP,hP2];simp,by rw[hbP];exact push hP'⟩
    ·left
     have n2:b≠c':=λz=>by rw[z,fc] at e;cases e
     have n3:b≠f:=λz=>by rw[z,ff] at e;cases e
     exact⟨by rw[old hbP n2 n3];exact e,λo e4=>push (hx b o hbP e4)⟩
   ·by_cases hbf:b=f
    ·rw[hbf,hf2] at e
     cases e
     have e5:(h'.push fo).get? f=some fo:=by
      rw[<- hf]
      exact Heap.get?_push_size _ (by rw[<- hob];rfl)
     rw[hbf]
     exact⟨e5,_,e5⟩
    ·by_cases hbc:b=c'
     ·rw[hbc,hc2] at e
      cases e
      rw[hbc]
      exact⟨push hoc,_,push hoc⟩
     ·have hbP:b≠P:=nP n
      rw[old hbP hbc hbf,n] at e
      cases e
  refine⟨.ref f,H',I',rfl,q f _ H' (λb u n e=>?_) hP2 (.inr ⟨c',oc,vs,t,rfl,hc2,hd,hv⟩) ⟨qual,x,params,p1,p2,p3,j,scope,_,ctv,c',oc,vs,t,by rw[hf2,<- hob],hc2,hd,hv,S,hb _ _ _⟩⟩
  have n2:b≠c':=λz=>by rw[z,fc] at e;cases e
  have n3:b≠f:=λz=>by rw[z,ff] at e;cases e
  rw[old n n2 n3]
  exact e
 ·have hcode:codeAmong pos (#[rawInt pos.line,rawInt pos.col,Value.ref c']).toList=some (.ref c'):=by
   show (if ((pos.line:Int) == (pos.line:Int) && (pos.col:Int) == (pos.col:Int))=true then some (Value.ref c') else _)=_
   simp
  refine W.kla_makeFunctionHit hcl I.ok.glob hg hc CH hP trivial hcode BA λctv h' tk' hx hsz=>?_
  have ff:H h'.objs.size=none:=I.hok.fresh hsz
  generalize hob:({ cls:=Value.type "function", data:=Data.func (W.kla_fn "<lambda>" qual params (j8 x p1 p2 p3 j) scope [] ((X.mg "__name__").getD .none) (.ref c') ctv) }:Obj)=fo
  have e5:(h'.push fo).get? h'.objs.size=some fo:=Heap.get?_push_size _ (by rw[<- hob];rfl)
  have k2:∀{b:Addr} {u:HO},H b=some u->upd H h'.objs.size (.frz fo (.own h'.objs.size)) b=some u:=λ{b u} e=>by
   rw[bZ (λz=>by rw[z,ff] at e;cases e)]
   exact e
  refine⟨.ref h'.objs.size,upd H h'.objs.size (.frz fo (.own h'.objs.size)),I.laid (t':=tk') (λb u e=>Heap.get?_push_of_some _ (hx b u e)) hsz ⟨e5,_,e5⟩,rfl,q _ _ _ (λb u n e=>k2 e) (k2 eP) (.inr ⟨c',oc,vs,t,rfl,k2 e1,e2,e3⟩) ⟨qual,x,params,p1,p2,p3,j,scope,_,ctv,c',oc,vs,t,by rw[cA,<- hob],k2 e1,e2,e3,S,hb _ _ _⟩⟩
section
variable{P:Program}{w:World}{K:W.Frag}{mg:Str->Option Value}{base:Heap}{CX:CXT}{k:Nat}{nm qual:Str}{st:Stmt}{f c:Addr}{N ps:List Str}{sp:Sp}
theorem KD(h:∃fd,Fun K nm qual st f fd/\fd.code=.ref c)(S:aW N ps (aG st))(len:∀vs H Q E,sp vs H Q E->vs.length=ps.length)
  (hb:∀(kV doc pm:Value) (an:Option Addr) (cdv ct:Value) (us:List Value),us.length=ps.length->bindArgs (W.fnOf nm qual (fL st) (dM st) (aG st) .none kV doc pm an cdv ct) ⟨us,[]⟩=pure (ps.zip us))
  (hbody:∀(f:Addr) (A:Around) (outer:List Env) (s:Shared) (H:Hp) (vs:List V) (Q:VK) (E:XK),Room k (A.deeper (envOfC qual (aG st) s.heap.objs.size f (.ref c)))->sp vs H Q E ->
   ∃t,PSs (sI CX P w K mg base N qual (aG st) f (.ref c) A outer s H E).nox (dM st) t/\t { nx:=λ_ H'=>Q .non H',rt:=Q } (start N vs) H):lC P w K mg base CX (k+1) f ps sp:=by
 obtain⟨fd,F,hc⟩:=h
 refine⟨fd,?_,F.binds hb⟩
 obtain⟨oc,od,kV,doc,pm,an,cdv,ct,osl,rfl,lk,hcd⟩:=F.ex
 obtain rfl:cdv=.ref c:=hc
 refine Bq lk hcd S len λA outer s H vs Q E hr hsp=>?_
 obtain⟨t,h,q⟩:=hbody f A outer s H vs Q E hr hsp
 exact⟨t,h.nox,q⟩
end
def Oj(ts:List Addr)(H:Hp):Prop:=(∀p∈ts,H p=some (.tbl #[]))/\∀b,b ∉ ts->H b=none\/∃o xs,H b=some (.frz o (.lst xs))
theorem KH{P:Program}{w:World}{K:W.Frag}{mg mb:Str->Option Value}{CX:CXT}{k:Nat}{fa a:Addr}{fd:FuncData}{x:Str}{sp:Sp}{s₁:Shared}{vs:List Value}{ns:List Int}{ts:List Addr}
  (KX:K.In s₁.heap) (hns:s₁.heap.Ns mainGlobals mg) (hb:s₁.heap.Ns builtinsNs mb) (hbb:∀x:Str,x ≠ "__name__" -> mb x=bootBuiltins x) (hlim:s₁.heap.NoLimit) (hg:s₁.gens=#[]) (hB:Bm mg s₁.heap)
  (hts:∀p∈ts,s₁.heap.get? p=some (W.tabObj #[])) (hct:∀p∈ts,isCodeTable s₁.heap p) (hKt:∀p∈ts,K.lookup p=none)
  (ha:s₁.heap.get? a=some { cls:=.type "list", data:=.seq vs.toArray }) (hi:IntsAre vs ns) (hl:ns.length<=sizeLine) (hr:Room k callerA)
  (F:∀base:Heap,K.In base->base.Ns mainGlobals mg->Bm mg base->jd P w K mg base CX k fa fd [x] sp) (hbind:∀(s:Shared) (u:Value),BindsTo s fd ⟨[u],[]⟩ [(x,u)])
  (hsp:∀H:Hp,Oj ts H->a ∉ ts->SqL K H a (ns.map V.int)->sp [.ref a] H (λv _=>v=.bl true) λ_ _ _=>False)
  (hCX:∀H e s',CX [] H s₁ (λ_ _ _=>False) e s'->False) :
  codeAny (model P w) callerA (.call (.ref fa) ⟨[.ref a],[]⟩) (λr s'=>r=.ok (.ret (.bool true))/\OldK s₁.heap s'.heap/\s'.os=s₁.os/\AllBare s'.gens) s₁:=by
 have rv:=xG hi
 have lenV:=hi.length
 have nat:a ∉ ts:=λz=>by
  have:=hts a z
  rw[ha] at this
  cases this
 have core:∀H:Hp,Oj ts H->SqL K H a (ns.map V.int)->HOk P w H s₁.heap->(∀b,b ∉ ts->H b≠none->b=a)->(H a≠none->K.lookup a=none) ->
   codeAny (model P w) callerA (.call (.ref fa) ⟨[.ref a],[]⟩) (λr s'=>r=.ok (.ret (.bool true))/\OldK s₁.heap s'.heap/\s'.os=s₁.os/\AllBare s'.gens) s₁:=by
  intro H hO hS hok hA hK
  have kindOf:∀{b:Addr} {o:Obj},s₁.heap.get? b=some o->H b≠none->o=W.tabObj #[]\/o={ cls:=.type "list", data:=.seq vs.toArray }:=λ{b o} e n=>by
   by_cases hb:b∈ts
   ·left
    have:=hts b hb
    rw[e] at this
    exact Option.some.inj this
   ·right
    have:=hA b hb n
    rw[this,ha] at e
    exact(Option.some.inj e).symm
  have keep:∀{b:Addr} {o:Obj},s₁.heap.get? b=some o->o≠W.tabObj #[]->o≠{ cls:=.type "list", data:=.seq vs.toArray }->(wG s₁.heap H).get? b=some o:=λ{b o} e n1 n2=>Bf e (by
   cases q:H b with
   | none=>rfl
   | some u =>
    rcases kindOf e (by rw[q];simp) with z|z
    ·exact absurd z n1
    ·exact absurd z n2)
  have nsK:∀{b:Addr} {m:Str->Option Value},s₁.heap.Ns b m->(wG s₁.heap H).Ns b m:=λ{b m} ⟨o,es,ep,e,d,r⟩=>⟨o,es,ep,keep e (λz=>by rw[z] at d;cases d) (λz=>by rw[z] at d;cases d),d,r⟩
  have hKb:K.In (wG s₁.heap H):=λb o e=>Bf (KX b o e) (by
   cases q:H b with
   | none=>rfl
   | some u =>
    by_cases hb:b∈ts
    ·rw[hKt b hb] at e
     cases e
    ·have z:=hA b hb (by rw[q];simp)
     rw[z] at e q
     rw[hK (by rw[q];simp)] at e
     cases e)
  have hBb:Bm mg (wG s₁.heap H):=by
   obtain⟨bm,ob,b1,b2,b3,b4,b5,b6⟩:=hB
   exact⟨bm,ob,b1,b2,keep b3 (λz=>by rw[z] at b4;cases b4) (λz=>by rw[z] at b6;cases b6),b4,b5,b6⟩
  have hM:Mod K mg (wG s₁.heap H):=⟨hKb,nsK hns,⟨mb,nsK hb,hbb⟩,let ⟨mc,h1,h2⟩:=hlim;⟨mc,nsK h1,h2⟩⟩
  have e0:Fv P w K mg (wG s₁.heap H) callerA [] s₁ H:=⟨rfl,hM,λb o e=>Rk e,Nat.le_of_eq (JV _ _),trivial,λb hb=>absurd (show b∈([]:List Addr) from hb) (by simp),hok,.of_eq hg⟩
  refine codeAny_mono ((F _ hKb (nsK hns) hBb).run callerA [] s₁ H ⟨[.ref a],[]⟩ [.ref a] [.ref a] _ _ hr e0 (hbind s₁ (.ref a)) (.cons rfl .nil) (hsp H hO nat hS)) λr s' h=>?_
  rcases r with e|fl
  ·exact(hCX H e s' h).elim
  ·rcases fl with _|_|_|u
   ·exact False.elim h
   ·exact False.elim h
   ·exact False.elim h
   ·obtain⟨v,H',os,bare,un,hok',r',q⟩:=h
    obtain rfl:v=.bl true:=q
    obtain rfl:u=Value.bool true:=r'
    refine⟨rfl,?_,os,bare⟩
    have each:∀b o,s₁.heap.get? b=some o->s'.heap.get? b=some o\/(b∈ts/\o=W.tabObj #[]/\∃more,s'.heap.get? b=some (W.tabObj (#[]++more))):=λb o e=>by
     cases q:H b with
     | none=>exact .inl (un.keep b o e q (λz=>absurd (show b∈([]:List Addr) from z) (by simp)) (by simp))
     | some u =>
      by_cases hb:b∈ts
      ·right
       have e1:=hts b hb
       rw[e] at e1
       obtain⟨more,e2⟩:=un.pZ b #[] (hO.1 b hb)
       exact⟨hb,Option.some.inj e1,more,hok' b _ e2⟩
      ·left
       rcases hO.2 b hb with z|⟨ob,xs,z⟩
       ·rw[q] at z
        cases z
       ·have e1:=(hok b _ z).1
        rw[e] at e1
        cases e1
        exact(hok' b _ (un.pY b _ _ z)).1
    refine⟨λb o e=>?_,λb o e=>?_⟩
    ·rcases each b o e with z|⟨hb,rfl,more,z⟩
     ·exact .inl z
     ·exact .inr (.inl ⟨hct b hb,rfl,#[],more,rfl,z⟩)
    ·rcases each b o e with z|⟨_,_,more,z⟩
     ·exact⟨_,z⟩
     ·exact⟨_,z⟩
 cases hk:K.lookup a with
 | some o =>
  have e:=KX a o hk
  rw[ha] at e
  cases e
  refine core (λb=>if b∈ts then some (.tbl #[]) else none) ⟨λp hp=>if_pos hp,λb hb=>.inl (if_neg hb)⟩ (.inr ⟨_,vs.toArray,_,hk,rfl,rfl,rfl,by rw[List.size_toArray,lenV];exact hl,by simpa using rv⟩) (λb u z=>?_) (λb hb z=>absurd (if_neg hb) z) λz=>absurd (if_neg nat) z
  by_cases hb:b∈ts
  ·have z':=(if_pos hb).symm.trans z
   cases z'
   exact hts b hb
  ·have z':=(if_neg hb).symm.trans z
   cases z'
 | none =>
  refine core (λb=>if b∈ts then some (.tbl #[]) else if b=a then some (.frz { cls:=.type "list", data:=.seq vs.toArray } (.lst (ns.map V.int))) else none) ⟨λp hp=>if_pos hp,λb hb=>?_⟩ (.inl (.inr ⟨{ cls:=.type "list", data:=.seq vs.toArray },?_⟩)) (λb u z=>?_) (λb hb z=>?_) λ_=>hk
  ·by_cases h:b=a
   ·exact .inr ⟨_,_,(if_neg hb).trans (if_pos h)⟩
   ·exact .inl ((if_neg hb).trans (if_neg h))
  ·exact(if_neg nat).trans (if_pos rfl)
  ·by_cases hb:b∈ts
   ·have z':=(if_pos hb).symm.trans z
    cases z'
    exact hts b hb
   ·by_cases h:b=a
    ·have z':=((if_neg hb).trans (if_pos h)).symm.trans z
     cases z'
     rw[h]
     exact⟨ha,by rw[List.length_map];exact hl,vs,_,rv,ha⟩
    ·have z':=((if_neg hb).trans (if_neg h)).symm.trans z
     cases z'
  ·by_cases h:b=a
   ·exact h
   ·exact absurd ((if_neg hb).trans (if_neg h)) z
theorem Ol{l:W.OpenLaw}{n k:Nat}{q:Program}{loose:List Str}{XP:(Str->Option Value)->Heap->Prop}{YP:World->Heap->Prop}{d:DefRec}{K:Params->W.Frag}{CX:World->CXT}{sp:World->Sp}{x:Str}{ts:List Addr}
  (hn:l.most=some n) (hn2:n<=sizeLine) (hdf:d.params.defaults=[]) (hr:Room k callerA)
  (hY:∀(w:World) (h:Heap),YP w h->(K w.params).In h/\∀p∈ts,h.get? p=some (W.tabObj #[]))
  (F:∀(w:World) (mg:Str->Option Value) (fa:Addr) (h:Heap),(K w.params).In h->h.Ns mainGlobals mg->mg d.name=some (.ref fa)->(∀p∈ts,(K w.params).lookup p=none/\∃c,W.codeHdIn (K w.params) c p=true) /\
   ∃fd:FuncData,(∀(s:Shared) (u:Value),BindsTo s fd ⟨[u],[]⟩ [(x,u)]) /\
    ∀base:Heap,(K w.params).In base->base.Ns mainGlobals mg->Bm mg base->jd l.prog w (K w.params) mg base (CX w) k fa fd [x] (sp w))
  (hsp:∀(w:World) (H:Hp) (a:Addr) (ns:List Int),ns.length<=n->Oj ts H->a ∉ ts->SqL (K w.params) H a (ns.map V.int)->sp w [.ref a] H (λv _=>v=.bl true) λ_ _ _=>False)
  (hCX:∀(w:World) (H:Hp) (s:Shared) (e:Value) (s':Shared),CX w [] H s (λ_ _ _=>False) e s'->False) :
  W.WalkO q loose XP YP l.row.toRowW d [] (λf vs=>PySem.call f vs):=by
 refine Att.Bt hn hdf λw s₀ s₁ mg mb fa o pm cd doc a vs ns G Y ho hd hcd hmg hobj hints hlen hg=>?_
 obtain⟨KX,hts⟩:=hY w _ Y
 obtain⟨hT,fd,hb,hF⟩:=F w mg fa _ KX G.T.g hmg
 refine KH KX G.T.g G.T.b G.T.builtins G.T.nolimit hg G.T.bmain hts (λp hp=>?_) (λp hp=>(hT p hp).1) hobj hints (Nat.le_trans hlen hn2) hr hF hb (λH hO hn hS=>hsp w H a ns hlen hO hn hS) λH e s'=>hCX w H s₁ e s'
 obtain⟨c,hc⟩:=(hT p hp).2
 obtain⟨o,vs,_,_,_,_,_,_,_,e1,e2,e3,e4,_⟩:=W.codeHd_of_K KX hc
 exact⟨c,o,vs,e1,e2,e3,e4⟩
end L2
namespace L2
open PySem PySem.Spec PyProof.Rows PySem.SeqAt
def tx(cs:List Nat):Str:=⟨cs.toArray⟩
theorem jg(cs:List Nat):(tx cs).length=cs.length:=by simp[tx,Str.length]
theorem Om(cs:List Nat):(tx cs).cps.toList=cs:=by simp[tx]
theorem qF{a b:List Nat}(h:tx a=tx b):a=b:=by
 have:=congrArg (λz:Str=>z.cps.toList) h
 simpa[tx] using this
def Xq:R2:=λx y H Q=>∃z j,x=.str z/\y=.int j/\z.length<=sizeLine/\Q (.str (Txt.slice z none (some j))) H
def aaL(te th:TE):TE:=λσ H Q=>te σ H λx H1=>th σ H1 λy H2=>Xq x y H2 Q
section
variable{X:Cx}{e hi:Expr}{te th:TE}{p2 pos:Pos}
theorem Oo(he:PE X e te)(hu:PE X hi th):PE X (.Subscript e (.Slice none (some hi) none p2) pos) (aaL te th):=by
 intro pins s σ H Q I h
 refine Subscript_ (thn (he pins s σ H _ I h) λv s1 ⟨x,H1,I1,r1,q1⟩=>?_)
 refine wpAny_Slice (wpAny_evalPart_none (wpAny_evalPart_some (thn (hu pins s1 σ H1 _ I1 q1) λvu s3 ⟨y,H3,I3,pu,z,j,e1,e2,hz,q3⟩=>wpAny_evalPart_none ?_)))
 subst e1
 subst e2
 obtain⟨t,rfl⟩:=r1
 obtain⟨t2,rfl⟩:=pu
 obtain⟨Tn,id,h1,h2,h3⟩:=SBH.sliceItem_ns (prog:=X.prog) (w:=X.w) (A:=X.A) (E:=X.xe) (s:=s3) (P:=λh=>∀b o,s3.heap.get? b=some o->h.get? b=some o) (Q:=EP X pins σ Q) (x:=z) (t:=t) (j:=j) (uj:=t2) (λh ob k b o e4=>Heap.get?_push_of_some _ (k b o e4)) (λ_ _ e4=>e4) (λh' t' k kp=>⟨.str _,H3,I3.kept kp,⟨t',rfl⟩,q3⟩) hz
 exact tail_any (ops:=[.ref s3.heap.objs.size,.str z t]) h2 h1 h3 (by with_unfolding_all rfl)
def Va:R2:=λx y H Q=>∃z n,x=.str z/\y=.int n/\MulOk z n/\Q (.str (Txt.mul z n)) H
theorem S9:OpR X (binaryOp .Mult) Va:=FZ
def Oq:V->List V->Hp->VK->Prop:=λx vs H Q=>∃l xs i y,x=.ref l/\vs=[.int i]/\H l=some (.lst xs)/\0<=i/\i<xs.length/\xs.length<=1000000/\xs[i.toNat]?=some y/\∀H',Off l H H'->H' l=some (.lst (xs.eraseIdx i.toNat))->Q y H'
theorem S_:MtM X "list.pop" Oq:=by
 intro pins s σ H x vs v us Q I rx rv h
 obtain⟨l,xs,i,y,e1,e2,hH,h0,h1,hz,hy,q⟩:=h
 refine MJ pins s σ H x vs v us Q I rx rv ⟨l,xs,i,i.toNat,y,e1,e2,hH,by lia,by lia,?_,hy,q _ Off.upd cA⟩
 unfold seqIndex?
 simp only[show ¬ i<0 from by lia,if_false,h0,h1,decide_true,Bool.and_self,if_true]
theorem Tc{o e:Expr}{to te:TE}{apos cpos:Pos}(ho:PE X o to)(he:PE X e te)(hbase:attributeBase o "pop" X.env (eval o X.env)=eval o X.env:=by rfl)
  (hfew:((backTo cpos (starEach [e] X.env)).all (λx=>!x.1) && (backToKw cpos (keywordEach [] X.env)).all (λx=>x.1.isSome)
   && decide (([e]:List Expr).length+([]:List Keyword).length+(if ([]:List Keyword).isEmpty then 0 else 1)<30))=true:=by rfl)
  (hline:(apos.endLine == cpos.line)=true:=by rfl) (hs:starEach [e] X.env=(false,eval e X.env)::starEach [] X.env:=by rfl) :
  PE X (.Call (.Attribute o "pop" apos) [e] [] cpos) (tBM X.K "list" Oq to (nT te uf)) :=
 Br PySem.F.plainAttrs_list PySem.F.slot_list_pop PySem.F.type_list_pop S_ ho (aj he ao hs) hbase hfew hline hs (by rfl)
end
theorem Ot(cs:List Nat)(j:Nat):Txt.slice (tx cs) none (some (j:Int))=tx (cs.take j):=by
 have hn:¬ ((j:Int)<0):=by lia
 have hix:Builtin.Str.strSliceIndices none (some (j:Int)) 1 (tx cs).length=List.range (min j cs.length):=by
  unfold Builtin.Str.strSliceIndices sliceRange
  dsimp only
  rw[jg]
  simp only[show (1:Int) > 0 from by decide,if_true,hn,if_false]
  have e1:max (0:Int) (min (j:Int) (cs.length:Int))=((min j cs.length:Nat):Int):=by lia
  rw[e1]
  by_cases h:(0:Int)<((min j cs.length:Nat):Int)
  ·rw[if_pos h]
   have e2:((((min j cs.length:Nat):Int)-0+1-1) / 1).toNat=min j cs.length:=by
    rw[Int.ediv_one]
    lia
   rw[e2]
   have e3:(λk:Nat=>((0:Int)+1*(k:Int)).toNat)=id:=by
    funext k
    show ((0:Int)+1*(k:Int)).toNat=k
    lia
   rw[e3,List.map_id]
  ·rw[if_neg h]
   have:min j cs.length=0:=by lia
   rw[this]
   rfl
 unfold Txt.slice
 rw[hix,List.length_range,jg]
 by_cases h:min j cs.length=cs.length
 ·rw[if_pos (by rw[h];simp)]
  rw[List.take_of_length_le (by lia)]
 ·rw[if_neg (by simp[h])]
  unfold tx
  congr 2
  have hfm:∀(n:Nat),n<=cs.length->(List.range n).filterMap (λi=>cs.toArray[i]?)=cs.take n:=by
   intro n
   induction n with
   | zero=>intro _;rfl
   | succ n ih =>
    intro hn
    rw[List.range_succ,List.filterMap_append,ih (by lia),List.take_succ,List.filterMap_cons,List.filterMap_nil]
    have:cs.toArray[n]?=cs[n]?:=by simp
    rw[this]
    cases cs[n]? <;> rfl
  have:=hfm (min j cs.length) (by lia)
  rw[this]
  by_cases hj:j<=cs.length
  ·rw[show min j cs.length=j by lia]
  ·exact absurd (by lia) h
theorem Xr(c:Nat)(n:Int):Txt.mul (tx [c]) n=tx (List.replicate n.toNat c):=by
 have h:=mul_one_list c n
 have e:(tx [c])=⟨#[c]⟩:=rfl
 rw[e]
 have:∀z:Str,z=tx z.cps.toList:=λz=>by cases z;simp[tx]
 rw[this (Txt.mul ⟨#[c]⟩ n),h]
theorem qG(a b:List Nat):tx a++tx b=tx (a++b):=by
 show Str.append _ _=_
 unfold Str.append tx
 simp
section
variable{K:W.Frag}{H0 H:Hp}{M:List Addr}{L L':List (Addr×HO)}{I:List Im}{l P f:Addr}{xs ys:List V}{v y:V}{Q:VK}{R:Hp->Prop}{te th:TE}{σ:St}{i:Int}{cs ds:List Nat}{j c:Nat}{pos:Pos}{qual:Str}{ps:Array Value}
instance aeC:Go (aaL te th σ H Q) (te σ H λx H1=>th σ H1 λy H2=>Xq x y H2 Q):=⟨id⟩
instance acK:Go (Xq (.str (tx cs)) (.int i) H Q) (Sd (0<=i/\cs.length<=1000) (Q (.str (tx (cs.take i.toNat))) H)):=⟨λs=>⟨_,i,rfl,rfl,by rw[jg];exact cI (by have:=s.1.2;lia),by
 have:=Ot cs i.toNat
 rw[show ((i.toNat:Nat):Int)=i by have:=s.1.1;lia] at this
 rw[this]
 exact s.2⟩⟩
instance acL:Go (Zk (.str (tx cs)) (.int i) H Q) (Sd (0<=i/\i<cs.length/\cs.length<=1000) (∀c:Nat,cs[i.toNat]?=some c->Q (.str (tx [c])) H)):=⟨λs=>by
 obtain⟨⟨h0,h1,h2⟩,k⟩:=s
 have hl:i.toNat<cs.length:=by lia
 refine⟨tx cs,i,cs[i.toNat],rfl,rfl,by rw[jg];exact cI (by lia),?_,k _ (by simp)⟩
 rw[Om]
 obtain⟨n,rfl⟩:∃n:Nat,i=(n:Int):=⟨i.toNat,by lia⟩
 exact cD (by simp)⟩
instance aaM:Go (U6 (.str (tx cs)) (.str (tx ds)) H Q) (Sd (cs.length+ds.length<=1000) (Q (.str (tx (cs++ds))) H)):=⟨λs=>⟨_,_,rfl,rfl,by rw[jg,jg];exact cI (by have:=s.1;lia),by rw[qG];exact s.2⟩⟩
instance aaN:Go (Va (.str (tx [c])) (.int i) H Q) (Sd (0<=i/\i<=1000) (Q (.str (tx (List.replicate i.toNat c))) H)):=⟨λs=>by
 obtain⟨⟨h0,h1⟩,k⟩:=s
 refine⟨_,i,rfl,rfl,⟨?_,λa b=>?_,λa b=>?_⟩,by rw[Xr];exact k⟩
 ·rw[decide_eq_false (by lia),decide_eq_false (by lia)]
  rfl
 ·rw[jg]
  have:(1:Int)<=(2 ^ 63-1) / i:=by
   rw[Int.le_ediv_iff_mul_le (by lia)]
   lia
  simp only[List.length_cons,List.length_nil]
  lia
 ·unfold Builtin.Str.tooLong
  rw[jg]
  refine decide_eq_false ?_
  have:=cI (n:=1*i.toNat) (by lia)
  simp only[List.length_cons,List.length_nil]
  lia⟩
instance aeD[h:Hat H l (.lst xs)]:Go (Oq (.ref l) [.int i] H Q) (Sd (0<=i/\i<xs.length/\xs.length<=1000000) (∀y:V,xs[i.toNat]?=some y->∀H',Off l H H'->H' l=some (.lst (xs.eraseIdx i.toNat))->Q y H')):=⟨λs=>by
 obtain⟨⟨h0,h1,h2⟩,k⟩:=s
 have hl:i.toNat<xs.length:=by lia
 exact⟨l,xs,i,xs[i.toNat],rfl,rfl,h.e,h0,h1,h2,by simp,k _ (by simp)⟩⟩
theorem Xu{n i0 i1 i2 i3:Nat}{a b c d:V}{R:St->Hp->Prop}(hn:n=4)(hp:SqT K H l [a,b,c,d])(h:bK i0 a σ H λσ1 H1=>bK i1 b σ1 H1 λσ2 H2=>bK i2 c σ2 H2 λσ3 H3=>bK i3 d σ3 H3 R):JZ K n (iC (bK i0) (iC (bK i1) (iC (bK i2) (iC (bK i3) JX)))) (.ref l) σ H R:=by
 subst hn
 exact⟨l,_,rfl,hp,rfl,_,_,rfl,_,_,rfl,_,_,rfl,_,_,rfl,rfl,h⟩
instance acM{n i0 i1 i2 i3:Nat}{a b c d:V}{R:St->Hp->Prop}[h:SqB K H l [a,b,c,d]]:Go (JZ K n (iC (bK i0) (iC (bK i1) (iC (bK i2) (iC (bK i3) JX)))) (.ref l) σ H R) (Sd (n=4) (bK i0 a σ H λσ1 H1=>bK i1 b σ1 H1 λσ2 H2=>bK i2 c σ2 H2 λσ3 H3=>bK i3 d σ3 H3 R)):=⟨λs=>Xu s.1 h.e s.2⟩
theorem TabOk.st:∀H H',Tst H H'->TabOk pos qual ps H->TabOk pos qual ps H':=λH H' t h=>by
 rcases h with h|⟨c',oc,vs,t',e,e1,e2⟩
 ·exact .inl h
 ·exact .inr ⟨c',oc,vs,t',e,t _ _ rfl e1,e2⟩
theorem oJ.st:∀H H',Tst H H'->oJ H f->oJ H' f:=λH H' t h=>by
 obtain⟨a1,a2,a3,a4,a5,a6,a7,a8,a9,a10,a11,a12,a13,a14,e1,e2,r⟩:=h
 exact⟨a1,a2,a3,a4,a5,a6,a7,a8,a9,a10,a11,a12,a13,a14,t _ _ rfl e1,t _ _ rfl e2,r⟩
abbrev gY(pos:Pos)(qual:Str)(ps:Array Value):Im:=.fct (TabOk pos qual ps) TabOk.st
abbrev Xv(f:Addr):Im:=.fct (λH=>oJ H f) oJ.st
class KJ(I:List Im)(pos:Pos)(qual:Str)(ps:Array Value):Prop where
 m:gY pos qual ps∈I
class aaO(I:List Im)(f:Addr):Prop where
 m:Xv f∈I
instance afo{g:Im}[h:KJ I pos qual ps]:KJ (g::I) pos qual ps:=⟨List.mem_cons_of_mem _ h.m⟩
instance afp:KJ (gY pos qual ps::I) pos qual ps:=⟨List.mem_cons_self⟩
instance afq:aaO (Xv f::I) f:=⟨List.mem_cons_self⟩
theorem SH.tab[F:SH H0 M H L I][h:KJ I pos qual ps]:TabOk pos qual ps H:=F.im _ h.m
instance aeE[F:SH H0 M H L I][e:LkL L P (.tbl ps)][t:KJ I pos qual ps]:Go (aaK P pos qual σ H Q) (∀(f:Addr) (ps':Array Value) (H':Hp),Kp P H H'->H' P=some (.tbl ps')->TabOk pos qual ps' H'->oJ H' f->Q (.ref f) H'):=⟨λk=>⟨ps,F.raw e.m,F.im _ t.m,k⟩⟩
instance aeF[F:SH H0 M H L I][u:LkU L P (.tbl ps) L']:Go (∀H',Kp P H H'->H' P=some (.tbl ps)->TabOk pos qual ps H'->R H') (∀H',SH H0 M H' L' (gY pos qual ps::I)->R H'):=⟨λk H' f e t=>k H' ((F.kp f e u.u rfl).j7 t)⟩
instance aeG[F:SH H0 M H L I][u:LkU L P (.tbl ps) L']:Go (∀H',Kp P H H'->H' P=some (.tbl ps)->TabOk pos qual ps H'->oJ H' f->R H') (∀H',SH H0 M H' L' (Xv f::gY pos qual ps::I)->R H'):=⟨λk H' f e t g=>k H' (((F.kp f e u.u rfl).j7 t).j7 g)⟩
end
def oK(c:Nat):Bool:=decide (97<=c) && decide (c<=122)
def Ie(c:Nat):Bool:=decide (48<=c) && decide (c<=57)
def LET:Str := "abcdefghijklmnopqrstuvwxyz"
def SGN:Str := "abcdefghijklmnopqrstuvwxyz0123456789"
theorem Td(c:Nat):decide (c∈LET.cps.toList)=oK c:=by
 rw[show LET.cps.toList=List.range' 97 26 by decide +kernel]
 unfold oK
 rw[Bool.eq_iff_iff]
 simp only[decide_eq_true_eq,List.mem_range'_1,Bool.and_eq_true]
 lia
theorem Te(c:Nat):decide (c∈SGN.cps.toList)=(oK c || Ie c):=by
 rw[show SGN.cps.toList=List.range' 97 26++List.range' 48 10 by decide +kernel]
 unfold oK Ie
 rw[Bool.eq_iff_iff]
 simp only[decide_eq_true_eq,List.mem_append,List.mem_range'_1,Bool.and_eq_true,Bool.or_eq_true]
 lia
structure gZ(cs:List Nat):Prop where
 lo:1<=cs.length
 hi:cs.length<=8
 hd:∀c,cs[0]?=some c->oK c=true
 all:∀c∈cs,(oK c || Ie c)=true
structure Rw where
 nm:List Nat
 st:Nat
 sz:Nat
 pn:Nat
abbrev d8(r:Rw):List V:=[.str (tx r.nm),.int (r.st:Nat),.int (r.sz:Nat),.int (r.pn:Nat)]
def aX(rs:List Rw):List (List V):=rs.map d8
theorem bL(rs:List Rw):(aX rs).length=rs.length:=List.length_map ..
structure GoodR(n:Nat)(r:Rw):Prop where
 nm:gZ r.nm
 sz:1<=r.sz
 le:r.st+r.sz<=n
def Apart(r s:Rw):Prop:=r.nm≠s.nm/\(r.st+r.sz<=s.st\/s.st+s.sz<=r.st)
theorem Apart.symm{r s:Rw}(h:Apart r s):Apart s r:=⟨λz=>h.1 z.symm,h.2.elim .inr .inl⟩
structure Lay(n:Nat)(rs:List Rw):Prop where
 good:∀r∈rs,GoodR n r
 ap:rs.Pairwise Apart
 few:rs.length<=40
def Asc(rs:List Rw):Prop:=rs.Pairwise λr s=>r.st+r.sz<=s.st
theorem Lay.perm{n:Nat}{rs qs:List Rw}(h:Lay n rs)(p:rs.Perm qs):Lay n qs:=⟨λr hr=>h.good r (p.mem_iff.mpr hr),(p.pairwise_iff (λ{a b}=>Apart.symm)).mp h.ap,by rw[<- p.length_eq];exact h.few⟩
theorem d7{H:Hp}{rs:List Rw}{ys:List V}{i:Nat}{v:V}(h:aH H ys (aX rs))(e:ys[i]?=some v):∃r q,rs[i]?=some r/\v=.ref q/\H q=some (.tup (d8 r)):=by
 obtain⟨r,q,e1,e2,e3⟩:=lE h e
 unfold aX at e1
 rw[List.getElem?_map] at e1
 cases e4:rs[i]? with
 | none=>rw[e4] at e1;cases e1
 | some w=>rw[e4] at e1;cases e1;exact⟨w,q,rfl,e2,e3⟩
theorem Cd{α β:Type}{f:α->β}{l:List β}{m:List α}(p:l.Perm (m.map f)):∃k:List α,k.Perm m/\l=k.map f:=by
 generalize hm:m.map f=m' at p
 induction p generalizing m with
 | nil=>exact⟨[],by rw[List.map_eq_nil_iff.mp hm],rfl⟩
 | cons x p ih =>
  cases m with
  | nil=>cases hm
  | cons a t =>
   rw[List.map_cons] at hm
   injection hm with h1 h2
   obtain⟨k,pk,ek⟩:=ih h2
   exact⟨a::k,pk.cons a,by rw[List.map_cons,h1,ek]⟩
 | swap x y l =>
  cases m with
  | nil=>cases hm
  | cons a t =>
   cases t with
   | nil=>rw[List.map_cons] at hm;injection hm with h1 h2;cases h2
   | cons b u =>
    rw[List.map_cons,List.map_cons] at hm
    injection hm with h1 h2
    injection h2 with h2 h3
    exact⟨b::a::u,List.Perm.swap a b u,by rw[List.map_cons,List.map_cons,h1,h2,h3]⟩
 | trans p1 p2 ih1 ih2 =>
  obtain⟨k,pk,ek⟩:=ih2 hm
  obtain⟨k2,pk2,ek2⟩:=ih1 ek.symm
  exact⟨k2,pk2.trans pk,ek2⟩
theorem Ou:∀{as bs:List Rw},as.Perm bs->as.Pairwise (λr s=>r.st<=s.st)->bs.Pairwise (λr s=>r.st<s.st)->as=bs:=by
 intro as
 induction as with
 | nil=>intro bs p _ _;exact(List.nil_perm.mp p).symm
 | cons a t ih =>
  intro bs p ha hb
  cases bs with
  | nil=>exact absurd p.length_eq (by simp)
  | cons b u =>
   have e:a=b:=by
    rcases List.mem_cons.mp (p.mem_iff.mp List.mem_cons_self) with h|h
    ·exact h
    ·have h1:=(List.pairwise_cons.mp hb).1 a h
     rcases List.mem_cons.mp (p.mem_iff.mpr (List.mem_cons_self (a:=b) (l:=u))) with h2|h2
     ·exact h2.symm
     ·have h3:=(List.pairwise_cons.mp ha).1 b h2
      lia
   subst e
   rw[ih (List.perm_cons a |>.mp p) (List.pairwise_cons.mp ha).2 (List.pairwise_cons.mp hb).2]
theorem Ov{rs:List Rw}{ys:List V}:(rs.map λr=>((r.st:Nat):Int)).zip ys=(rs.zip ys).map λp=>(((p.1.st:Nat):Int),p.2):=by
 rw[List.zip_map_left]
 rfl
theorem KN{H:Hp}{rs as:List Rw}{ys zs:List V}(t:aH H ys (aX rs))(p:rs.Perm as)(ha:as.Pairwise λr s=>r.st<s.st)(s:uL (rs.map λr=>((r.st:Nat):Int)) ys zs):aH H zs (aX as):=by
 obtain⟨ps,pp,rfl,pw⟩:=s
 rw[Ov] at pp
 obtain⟨qs,pq,rfl⟩:=Cd pp
 have hl:ys.length=rs.length:=by rw[t.1,bL]
 have e1:(rs.zip ys).map Prod.fst=rs:=List.map_fst_zip (by lia)
 have pf:(qs.map Prod.fst).Perm rs:=by
  have:=pq.map Prod.fst
  rw[e1] at this
  exact this
 have hq:qs.map Prod.fst=as:=by
  refine Ou (pf.trans p) ?_ ha
  rw[List.pairwise_map] at pw ⊢
  exact pw.imp λh=>by lia
 have each:∀x∈qs,∃q,x.2=.ref q/\H q=some (.tup (d8 x.1)):=λx hx=>by
  have hx:=pq.mem_iff.mp hx
  obtain⟨i,hi,e⟩:=List.getElem_of_mem hx
  rw[List.length_zip] at hi
  rw[List.getElem_zip] at e
  obtain⟨r,q,e2,e3,e4⟩:=d7 t (v:=ys[i]'(by lia)) (i:=i) (by simp)
  rw[List.getElem?_eq_getElem (by lia)] at e2
  refine⟨q,by rw[<- e];exact e3,?_⟩
  rw[<- e]
  show H q=some (.tup (d8 rs[i]))
  rw[Option.some.inj e2]
  exact e4
 refine⟨by rw[bL,<- hq,List.length_map,List.length_map,List.length_map],λj r e=>?_⟩
 unfold aX at e
 rw[<- hq,List.map_map,List.getElem?_map] at e
 cases e5:qs[j]? with
 | none=>rw[e5] at e;cases e
 | some x =>
  rw[e5] at e
  cases e
  obtain⟨q,e6,e7⟩:=each x (List.mem_of_getElem? e5)
  exact⟨q,by rw[List.map_map,List.getElem?_map,e5];show some x.2=_;rw[e6],e7⟩
theorem Asc.lt{n:Nat}{rs:List Rw}(h:Asc rs)(g:∀r∈rs,GoodR n r):rs.Pairwise λr s=>r.st<s.st:=by
 refine List.Pairwise.imp_of_mem ?_ h
 intro a b ha hb hab
 have:=(g a ha).sz
 lia
def aaP:R2:=λx y H Q=>∃c j,x=.str ⟨#[c]⟩/\y=.str j/\Q (.bl (decide (c∈j.cps.toList))) H
section
variable{X:Cx}{K:W.Frag}{H:Hp}{Q:VK}{z:Str}{cs:List Nat}{c:Nat}{t0 te:TE}{nt:Nat}{fr:List Nat}{g:TG}{cc:TT}{σ fvs:St}{p f l:Addr}{bs:List Bool}{ys:List V}{rs:List Rw}
theorem Ow:OpR X (compareOp .In) aaP:=FW
instance aeH:Go (aaP (.str (tx [c])) (.str z) H Q) (Q (.bl (decide (c∈z.cps.toList))) H):=⟨λk=>⟨c,z,rfl,rfl,k⟩⟩
instance acN:Go (jE K [.str z,.ty "str"] H Q) (Q (.bl true) H):=⟨λk=>w_is (dR.str (K:=K) (H:=H) z) (V_ (dR.str (K:=K) (H:=H) z)) k⟩
instance acO:Go (Gf K [.str (tx cs)] H Q) (Sd (cs.length<=1000) (Q (.int cs.length) H)):=⟨λs=>Wr (by rw[jg];exact cI (by have:=s.1;lia)) (by rw[jg];exact s.2)⟩
instance aaQ:Go (jm (Zu t0) nt fr g cc te σ H Q) (t0 σ H λx H1=>∃z,x=.str z/\dz (Its z) nt fr g cc te σ H1 Q):=⟨id⟩
instance YS:Go (∃z',V.str z=.str z'/\dz (Its z') nt fr g cc te σ H Q) (dz (Its z) nt fr g cc te σ H Q):=⟨λk=>⟨z,rfl,k⟩⟩
theorem Xw{F:Nat->V}(hz:cs.length<=1000)(hf:(fr.map λi=>(σ[i]?).getD none)=fvs)(turn:∀(c:Nat) (H':Hp) (R:VK),c∈cs->Same H H'->(∀H2,Same H' H2->R (F c) H2)->te (some (.str (tx [c]))::fvs) H' R)
  (k:∀p H',New H H' p (.lst (cs.map F))->Q (.ref p) H'):dz (Its (tx cs)) 1 fr (bK 0) mJ te σ H Q:=by
 have e0:mZ (tx cs)=cs.map λc=>V.str (tx [c]):=by
  unfold mZ
  rw[Om]
  rfl
 refine comp_map (P:=λi y=>∃c,cs[i]?=some c/\y=F c) (items_str (z:=tx cs)) (by rw[e0,List.length_map];lia) hf (λ_ _=>trivial) (λi v H' R hv s kk=>?_) λp H' ys n hl hP=>k p H' ?_
 ·rw[e0,List.getElem?_map] at hv
  cases e:cs[i]? with
  | none=>rw[e] at hv;cases hv
  | some c =>
   rw[e] at hv
   cases hv
   exact turn c H' R (List.mem_of_getElem? e) s λH2 s2=>kk _ _ s2 ⟨c,e,rfl⟩
 ·have e:ys=cs.map F:=by
   rw[e0,List.length_map] at hl
   apply List.ext_getElem?
   intro i
   rw[List.getElem?_map]
   by_cases hi:i<ys.length
   ·obtain⟨c,e1,e2⟩:=hP i ys[i] (by simp)
    rw[e1,List.getElem?_eq_getElem hi,e2]
    rfl
   ·rw[List.getElem?_eq_none (by lia),List.getElem?_eq_none (by lia)]
    rfl
  rw[e] at n
  exact n
instance aeI[h:SqA K H p (bs.map V.bl)]:Go (∃(p':Addr) (bs':List Bool),[V.ref p]=[.ref p']/\SqL K H p' (bs'.map V.bl)/\Q (.bl (bs'.all id)) H) (Q (.bl (bs.all id)) H):=⟨λk=>⟨p,bs,rfl,h.e,k⟩⟩
instance aaR{H0:Hp}{M:List Addr}{L:List (Addr×HO)}{I:List Im}[F:SH H0 M H L I][h:SqA K H l ys][t:TpA H ys (aX rs)][m:aaO I f]:Go (Oi K [.ref l] (.ref f) H Q) (Sd (rs.length<64) (∀D zs H',New H H' D (.lst zs)->uL (rs.map λr=>((r.st:Nat):Int)) ys zs->Q (.ref D) H')):=⟨λs=>by
 have hl:ys.length=rs.length:=by rw[t.e.1,bL]
 refine⟨l,f,ys,rs.map λr=>((r.st:Nat):Int),rfl,rfl,F.im _ m.m,h.e,by rw[List.length_map,hl],by rw[hl];exact s.1,λi v k hv hk=>?_,s.2⟩
 obtain⟨r,q,e1,e2,e3⟩:=d7 t.e hv
 rw[List.getElem?_map,e1] at hk
 cases hk
 exact⟨q,_,e2,e3,rfl⟩⟩
instance aaS{H0:Hp}{M:List Addr}{L:List (Addr×HO)}{I:List Im}{Z:Addr->Hp->Prop}[F:SH H0 M H L I]:Go (∀p ys H',New H H' p (.lst ys)->aH H' ys (aX rs)->Z p H') (∀H' p ys,ys.length=rs.length->SH H0 M H' ((p,.lst ys)::L) (.tps ys (aX rs)::I)->Z p H'):=⟨λk p ys H' n t=>k H' p ys (by rw[t.1,bL]) (F.newR n t)⟩
end
end L2
namespace L2
open PySem PySem.Spec PyProof.Rows
end L2
namespace L2
open PySem PySem.W PySem.Spec PyProof.Rows
section
variable{n:Nat}{rk:Nat->Int}{α β:Type}
def Pp(n:Nat)(p:Array Nat):Prop:=p.Perm (List.range n).toArray
theorem Pp.size{p:Array Nat}(h:Pp n p):p.size=n:=by
 have:=h.size_eq
 simpa using this
theorem Pp.ne{p:Array Nat}(h:Pp n p){a b:Nat}(ha:a<n)(hb:b<n)(hab:a≠b):p.getD a 0≠p.getD b 0:=by
 have hs:=h.size
 have e:∀k (hk:k<n),p.getD k 0=p.toList[k]'(by simpa[hs] using hk):=λk hk=>by
  rw[Array.getD_eq_getD_getElem?,Array.getElem?_eq_getElem (by lia)]
  rfl
 have nd:p.toList.Nodup:=(Array.perm_iff_toList_perm.mp h).nodup_iff.mpr (by simpa using List.nodup_range)
 rw[e a ha,e b hb]
 intro z
 exact hab ((List.getElem_inj nd).mp z)
theorem Pp.rev{p:Array Nat}(h:Pp n p){i j:Nat}:Pp n (kas_rev p i j):=(mirror_perm _ _ _ _).trans h
end
end L2
namespace L2
open PySem PySem.W PySem.Calls PySem.Spec PyProof.Rows
section
variable{prog:Program}{w:World}{A:Around}{E:Value->Shared->Prop}{s:Shared}{h₀:Heap}{L:Addr}{m:Str->Option Value}{news:List (Addr×Obj)}{vs:List Value}
inductive F2{α β:Type}(R:α->β->Prop):List α->List β->Prop
 | nil:F2 R [] []
 | cons {a b l m}:R a b->F2 R l m->F2 R (a::l) (b::m)
theorem F2.length_eq{α β:Type}{R:α->β->Prop}:∀{l:List α} {m:List β},F2 R l m->l.length=m.length
 | _,_,.nil=>rfl
 | _,_,.cons _ h=>congrArg (· + 1) h.length_eq
end
end L2
namespace L2
open PySem PySem.Spec PyProof.Rows PySem.SeqAt
section
variable{K:W.Frag}{H:Hp}{Q:VK}{l p q:Addr}{x:V}{r xs ys zs:List V}{rs:List Rw}
variable{σ:St}{nt:Nat}{fr:List Nat}{g:TG}{c:TT}{te t0:TE}
theorem Tf(h:H p=some (.tup r))(hf:∀v∈r,cQ v=true):Rep K H (dN r) (.ref p):=by
 simp only[Rep]
 exact⟨p,r,rfl,SqT.of h,qC hf⟩
variable{R:St->Hp->Prop}
end
end L2
namespace L2
open PySem PySem.W PySem.Spec PyProof.Rows
section
variable{CX:CXT}{P:Program}{w:World}{K:W.Frag}{mg:Str->Option Value}{base:Heap}{k m:Nat}{x:Str}{ps:List Str}{sp:Sp}{ds:List Value}{dvs:List V}
structure aaT(P:Program)(w:World)(K:W.Frag)(mg:Str->Option Value)(base:Heap)(CX:CXT)(k:Nat)(x:Str)(ps:List Str)(sp:Sp)(ds:List Value):Prop where
 ex:∃(f:Addr) (fd:FuncData),jd P w K mg base CX k f fd ps sp/\mg x=some (.ref f)/\W.keepIn K (.ref f)=true/\Binds K fd ps []/\Binds K fd ps ds
theorem aaT.all(D:aaT P w K mg base CX k x ps sp ds):Def P w K mg base CX k x ps sp :=
 let ⟨f,fd,F,a,b,c,_⟩:=D.ex
 ⟨f,fd,F,a,b,c⟩
end
end L2
namespace L2
open PySem PySem.Spec PyProof.Rows PySem.SeqAt
class Ce(xs:List V)(lo hi:Option Int)(ys:outParam (List V)):Prop where
 e:nW xs lo hi=ys
section
variable{K:W.Frag}{H:Hp}{Q:VK}{σ:St}{t:TE}{ts:List TE}{a b cs:List Nat}{c n:Nat}{ps:List (List Nat)}{p l q:Addr}{xs ys r:List V}{lo hi:Option Int}{R:Str->Prop}{S:Int->Prop}{v v0 v1 v2 v3 v4 v5:V}{i:Int}{z:Str}{bb:Bool}
instance acP:Go (Wt (.ref p) .non H Q) (Q (.bl false) H):=⟨λk=>⟨rfl,k⟩⟩
instance acQ:Go (Wt .non .non H Q) (Q (.bl true) H):=⟨λk=>⟨rfl,k⟩⟩
instance aaU:Go (NK (.int i) .non H Q) (Q (.bl true) H):=⟨λk=>⟨rfl,k⟩⟩
instance aaV:Go (NK .non .non H Q) (Q (.bl false) H):=⟨λk=>⟨rfl,k⟩⟩
end
theorem Ox{xs:List V}{i:Nat}:nW xs (some (i:Int)) none=xs.drop i:=by
 unfold nW
 rw[HT.Hr]
 show (xs.drop (min i xs.length)).take (xs.length-min i xs.length)=_
 by_cases h:i<=xs.length
 ·rw[show min i xs.length=i by lia,List.take_of_length_le (by rw[List.length_drop];lia)]
 ·rw[List.drop_of_length_le (by lia),List.drop_of_length_le (by lia)]
  simp
end L2
namespace L2
open PySem PySem.W PySem.Calls PySem.Spec PyProof.Rows
end L2
namespace L2
open PySem PySem.Spec PyProof.Rows PySem.SeqAt
section
variable{K:W.Frag}{H H0:Hp}{M:List Addr}{L:List (Addr×HO)}{I:List Im}{Q:VK}{σ:St}{D:Ends}{th rest:THd}{tbE:(St->XK)->TS}{t:TA}{ta:TE}{sp:Sp}{EX:St->XK}{E:XK}{C d a:Addr}{dx:Option Addr}{fs:List (Str×V)}{f g m:Str}{v y:V}{n:Nat}{ts:Addr->TS}{b:Bool}
instance afJ{r:List (Str×V)}:FLk ((f,v)::r) f v:=⟨by simp[List.lookup]⟩
end
end L2
namespace L2
open PySem PySem.W PySem.Spec PyProof.Rows
end L2
namespace L2
open PySem PySem.Spec PyProof.Rows
section
variable{X:Cx}
theorem KQ(a d:Value):argsOk "min" ⟨[a],[(("default" : Str),d)]⟩:=by unfold argsOk;kernel_rfl
end
theorem small_down{a:Int}(h0:-1<=a)(h1:a<=1000000):Builtin.Range.small a (-1) (-1)=true/\Builtin.Range.rangeSize a (-1) (-1)=a+1:=by
 have hs:Builtin.Range.rangeSize a (-1) (-1)=a+1:=by
  unfold Builtin.Range.rangeSize
  rw[if_neg (by decide)]
  split
  ·rw[show (-(-1):Int)=1 by decide,Int.ediv_one]
   lia
  ·lia
 have fit:∀x:Int,-2000000<=x->x<=2000000->Builtin.Range.rangeFitsLong x=true:=λx y1 y2=>by
  unfold Builtin.Range.rangeFitsLong
  rw[decide_eq_true (by lia),decide_eq_true (by lia)]
  rfl
 refine⟨?_,hs⟩
 unfold Builtin.Range.small
 rw[hs,fit a (by lia) (by lia),fit (-1) (by decide) (by decide),fit _ (by lia) (by lia)]
 first
  | rfl
  | (rw[if_neg (by decide)];rw[fit _ (by lia) (by lia)];first|rfl|simp)
  | simp
theorem aaW{x:Int}:Builtin.divisionGoesByPylong x (-1)=false:=by
 unfold Builtin.divisionGoesByPylong
 have e:(if ((-1:Int) == 0)=true then 0 else (-1:Int).natAbs.log2 / 30+1)=1:=by decide
 simp only[Bool.and_eq_false_iff,decide_eq_false_iff_not]
 left
 rw[e]
 lia
section
variable{X:Cx}{tg:Expr}
def Vb(ta:TA):TI:=λσ H R=>ta σ H λvs H1=>∃i:Int,vs=[.int i,.int (-1),.int (-1)]/\(-1<=i/\i<=1000000)/\R (Itq i (-1) (i+1).toNat) H1
theorem Oz{pins:List (Addr×Obj)}{σ:St}{H:Hp}{s:Shared}{R:It->Hp->Prop}{E:Value->Shared->Prop}{lo:Int}{t u v:Tok}{tk:Nat}(I:Inv X pins σ H s)(h0:-1<=lo)(h1:lo<=1000000)
  (q:R (Itq lo (-1) (lo+1).toNat) H):wpAny (model X.prog X.w) X.A (pyIter (.ref s.heap.objs.size)) (PIE X pins σ tg R) E { s with heap:=s.heap.push { cls:=.type "range", data:=.fields #[.int lo t,.int (-1) u,.int (-1) v] },toks:=tk }:=by
 obtain⟨sm,sz⟩:=small_down h0 h1
 refine wpAny_pyIter_range (IsRange.new ..) sm ?_
 generalize hh:s.heap.push { cls:=.type "range", data:=.fields #[.int lo t,.int (-1) u,.int (-1) v] }=hp
 have I1:Inv X pins σ H { s with heap:=hp,toks:=tk }:=by
  rw[<- hh]
  exact I.kept λb o e=>Heap.get?_push_of_some _ e
 refine⟨hp.objs.size,[hp.objs.size],_,_,H,rfl,I1.kept (t':=tk) λb o e=>Heap.get?_push_of_some _ e,Gq _ lo (-1) (lo+1).toNat,?_,λb hb=>?_,q⟩
 ·show IsRangeIter _ _ (lo+((0:Nat):Int)*(-1)) (((((lo+1).toNat:Nat):Int))-((0:Nat):Int)) (-1)
  rw[show lo+((0:Nat):Int)*(-1)=lo by simp,show (((lo+1).toNat:Nat):Int)-((0:Nat):Int)=Builtin.Range.rangeSize lo (-1) (-1) by rw[sz];lia]
  exact Heap.get?_push_size _ rfl
 ·rw[List.mem_singleton.mp hb]
  exact I1.Bh (Nat.le_refl _) (I1.hok.fresh (Nat.le_refl _))
theorem KR{a b c:Expr}{ta:TA}{p pos:Pos}(hg:Gl X "range")(hm:X.mg "range" = none)(ha:PA X [a,b,c] ta)(h1:starEach [a,b,c] X.env=(false,eval a X.env)::starEach [b,c] X.env:=by rfl)(h2:((backTo pos (starEach [b,c] X.env)).any λx=>x.fst)=false:=by rfl) :
  PI X tg (.Call (.Name "range" p) [a,b,c] [] pos) (Vb ta):=by
 intro pins s σ H R I h
 refine Call_ (iB I hg hm boot_range (PyProof.Rows.callWith_type1 (thn (ha pos pins s σ H _ I h) λus s1 ⟨vs,H1,I1,r1,i,e,⟨q1,q2⟩,q⟩=>?_) h1 h2))
 subst e
 rcases r1 with _|⟨⟨t,rfl⟩,_|⟨⟨t2,rfl⟩,_|⟨⟨t3,rfl⟩,_|_⟩⟩⟩
 exact call_range_3 (by decide) (Oz I1 q1 q2 q) (.inl aaW)
end
section
variable{K:W.Frag}{H:Hp}{Q:VK}{σ:St}{tr:TA}{g:TG}{tb:TS}{D:Ends}{i:Int}{p q:Addr}{ns:List Int}{d:Int}{a b c:V}{R:St->Hp->Prop}
instance acR:Go (tZ (Vb tr) g tb D σ H) (tr σ H λvs H1=>∃i:Int,vs=[.int i,.int (-1),.int (-1)]/\(-1<=i/\i<=1000000)/\S7 i (-1) (i+1).toNat g tb D σ H1):=⟨id⟩
instance aeJ:Go (∃i':Int,[V.int i,V.int (-1),V.int (-1)]=[.int i',.int (-1),.int (-1)]/\(-1<=i'/\i'<=1000000)/\S7 i' (-1) (i'+1).toNat g tb D σ H) (Sd (-1<=i/\i<=1000000) (S7 i (-1) (i+1).toNat g tb D σ H)):=⟨λs=>⟨i,rfl,s.1,s.2⟩⟩
end
end L2
namespace L2
open PySem PySem.W PySem.Calls PySem.Spec PyProof.Rows
end L2
namespace L2
open PySem PySem.Spec PyProof.Rows PySem.SeqAt
class TyA(K:W.Frag)(H:Hp)(v:V)(n:outParam String):Prop where
 e:dR K H v (.type n)
theorem dR.kept{K:W.Frag}{H H':Hp}{v:V}{t:Value}(h:dR K H v t)(k:∀a u,v=.ref a->H a=some u->H' a=some u):dR K H' v t:=by
 cases h with
 | non=>exact .non
 | bl b=>exact .bl b
 | int i=>exact .int i
 | str x=>exact .str x
 | flt x=>exact .flt x
 | lst e=>exact .lst (k _ _ rfl e)
 | frz e=>exact .frz (k _ _ rfl e)
 | tup e=>exact .tup (k _ _ rfl e)
 | dK e=>exact .dK (k _ _ rfl e)
 | dT e=>exact .dT (k _ _ rfl e)
 | ins e a b c d f=>exact .ins (k _ _ rfl e) a b c d f
section
variable{K:W.Frag}{H0 H:Hp}{M:List Addr}{L:List (Addr×HO)}{I:List Im}{v:V}{n:String}{a:Addr}{xs:List V}{b:Bool}{i lo hi:Int}{z:Str}{kvs:List (Key×V)}{Q:VK}{E:XK}
instance aeK:TyA K H .non "NoneType":=⟨.non⟩
instance afr:TyA K H (.bl b) "bool":=⟨.bl b⟩
instance ty_int:TyA K H (.int i) "int":=⟨.int i⟩
instance ty_str:TyA K H (.str z) "str":=⟨.str z⟩
instance afs[h:Hat H a (.dK kvs)]:TyA K H (.ref a) "dict":=⟨.dK h.e⟩
instance (priority:=low) aeL [t:TyA K H v n]:Go (jE K [v,.ty "bool"] H Q) (Q (.bl (isB v)) H):=⟨λk=>w_is t.e (oE t.e) k⟩
instance (priority:=low) aeM [t:TyA K H v n]:Go (jE K [v,.ty "tuple"] H Q) (Q (.bl (n == "tuple")) H):=⟨λk=>w_is t.e (oF t.e) k⟩
instance (priority:=low) aeN [t:TyA K H v n]:Go (jE K [v,.ty "list"] H Q) (Q (.bl (n == "list")) H):=⟨λk=>w_is t.e (sV t.e) k⟩
end
def aaX(x y:V)(b:Bool):Prop:=(x=y/\idV x=true/\b=true)\/∃s t,x=.str s/\y=.str t/\b=(s == t)
theorem aaX.at{A:Around}{s:Shared}{x y:V}{u v:Value}{b:Bool}(h:aaX x y b)(ru:RelV x u)(rv:RelV y v):EqAt A s u v b:=by
 rcases h with⟨rfl,hi,rfl⟩|⟨p,q,rfl,rfl,rfl⟩
 ·exact Kr hi ru rv
 ·obtain⟨t,rfl⟩:=ru
  obtain⟨t',rfl⟩:=rv
  exact EqAt.str_str (A:=A) (s:=s) p t q t'
end L2
namespace L2
open PySem PySem.W PySem.Spec PyProof.Rows PySem.SeqAt
section
variable{K:W.Frag}{H:Hp}{Q:VK}{σ:St}{p q:Addr}{xs ys:List V}{te th:TE}{cs ds:List Nat}{j i:Int}{nms:List (List Nat)}{b:Bool}{a c:Nat}
theorem Tg(a:List Nat)(nms:List (List Nat)):inV (.str (tx a)) (nms.map λcs=>V.str (tx cs))=decide (a∈nms):=by
 unfold inV
 induction nms with
 | nil=>simp
 | cons b t ih =>
  rw[List.map_cons,List.any_cons,ih]
  have e:eqV (.str (tx b)) (.str (tx a))=decide (a=b):=by
   by_cases h:a=b
   ·subst h
    simp[eqV]
   ·rw[decide_eq_false h]
    have:tx b≠tx a:=λz=>h (qF z).symm
    simp[eqV,this]
  rw[e]
  by_cases h:a=b <;> simp[h]
instance aaY[h:SqA K H p (nms.map λcs=>V.str (tx cs))]:Go (rIn K false (.str (tx cs)) (.ref p) H Q) (Q (.bl (decide (cs∈nms))) H):=⟨λk=>⟨_,_,rfl,.inl h.e,rfl,List.all_eq_true.mpr (λz hz=>by obtain⟨b,_,rfl⟩:=List.mem_map.mp hz;rfl),by rw[if_neg (by decide),Tg];exact k⟩⟩
end
theorem SH.over{H0 H H':Hp}{M M2:List Addr}{A R L2:List (Addr×HO)}{I I2:List Im}(F:SH H0 M H (A++R) I)(G:SH H M2 H' L2 I2)(e:A.map (·.1)=M2):SH H0 M H' (L2++R) (I2++I):=by
 have nd:=F.nd
 rw[List.map_append,e] at nd
 obtain⟨nd1,nd2,nd3⟩:=List.nodup_append.mp nd
 have inA:∀{b},b∈M2->∃c∈A,c.1=b:=λh=>by rw[<- e] at h;exact List.mem_map.mp h
 have st:Tst H H':=λq u tu hq=>by
  refine G.fr q u (λhm=>?_) hq
  obtain⟨c,hc,rfl⟩:=inA hm
  have h1:=F.at' c (List.mem_append_left _ hc)
  have h2:=F.mu c (List.mem_append_left _ hc)
  rw[hq] at h1
  cases h1
  rw[h2] at tu
  cases tu
 have rn:∀{c},c∈R->c.1 ∉ M2:=λhc hm=>nd3 _ hm _ (List.mem_map.mpr ⟨_,hc,rfl⟩) rfl
 refine⟨λb u nb e0=>?_,λf hf=>?_,λc hc=>?_,?_,λc hc=>?_,λc hc=>?_⟩
 ·refine G.fr b u (λhm=>?_) (F.fr b u nb e0)
  obtain⟨c,hc,rfl⟩:=inA hm
  rcases F.ch c (List.mem_append_left _ hc) with h|h
  ·exact nb h
  ·exact h _ u e0 rfl
 ·rcases List.mem_append.mp hf with hf|hf
  ·exact G.im f hf
  ·exact Im.stay st (F.im f hf)
 ·rcases List.mem_append.mp hc with hc|hc
  ·exact G.at' c hc
  ·exact G.fr _ _ (rn hc) (F.at' c (List.mem_append_right _ hc))
 ·rw[List.map_append]
  refine List.nodup_append.mpr ⟨G.nd,nd2,λa ha b hb=>?_⟩
  obtain⟨c,hc,rfl⟩:=List.mem_map.mp ha
  obtain⟨d,hd,rfl⟩:=List.mem_map.mp hb
  rcases G.ch c hc with h|h
  ·exact λz=>rn hd (z▸h)
  ·exact λz=>h d.1 _ (F.at' d (List.mem_append_right _ hd)) z.symm
 ·rcases List.mem_append.mp hc with hc|hc
  ·exact G.mu c hc
  ·exact F.mu c (List.mem_append_right _ hc)
 ·rcases List.mem_append.mp hc with hc|hc
  ·rcases G.ch c hc with h|h
   ·obtain⟨d,hd,ed⟩:=inA h
    rw[<- ed]
    exact F.ch d (List.mem_append_left _ hd)
   ·by_cases hm:c.1∈M
    ·exact .inl hm
    ·exact .inr λb u e0 z=>h b u (F.fr b u (by rw[z];exact hm) e0) z
  ·exact F.ch c (List.mem_append_right _ hc)
section
variable{H:Hp}{Q:VK}
instance acS{σ:L2.St}:Go (FT σ H Q) (∀p H',New H H' p (.dK [])->Q (.ref p) H'):=⟨Wy⟩
instance acT{H0:Hp}{M:List Addr}{L:List (Addr×HO)}{I:List Im}{Z:Addr->Hp->Prop}[F:SH H0 M H L I]:Go (∀p H',New H H' p (.dK [])->Z p H') (∀H' p,SH H0 M H' ((p,.dK [])::L) I->Z p H'):=⟨λk p H' n=>k H' p (F.W8 n rfl)⟩
end
section
variable{K:W.Frag}{H H0:Hp}{Q:VK}{σ:St}{p q:Addr}{xs ys:List V}{fr:List Nat}{fvs:St}{cc:TT}{cs:List Nat}{M:List Addr}{L:List (Addr×HO)}{I:List Im}{Z:Addr->Hp->Prop}{a b:Int}{lo hi:Int}{x y:Nat}
instance acU{c:Bool}{A B:Prop}:Go (if (!!c)=true then A else B) (if c=true then A else B):=⟨λk=>by rw[Bool.not_not];exact k⟩
end
theorem OD{r s:Rw}(h:d8 r=d8 s):r=s:=by
 have h:[V.str (tx r.nm),V.int (r.st:Nat),V.int (r.sz:Nat),V.int (r.pn:Nat)]=[V.str (tx s.nm),V.int (s.st:Nat),V.int (s.sz:Nat),V.int (s.pn:Nat)]:=h
 simp only[List.cons.injEq,V.str.injEq,V.int.injEq,and_true] at h
 obtain⟨h1,h2,h3,h4⟩:=h
 have h1:=qF h1
 cases r
 cases s
 simp only[Rw.mk.injEq]
 exact⟨h1,Int.ofNat.inj h2,Int.ofNat.inj h3,Int.ofNat.inj h4⟩
section
variable{K:W.Frag}{H:Hp}{Q:VK}{σ:St}{l:Addr}{xs:List V}{rs:List Rw}{fr:List Nat}{fvs:St}{c:TT}
theorem xP{H H':Hp}{p:V->Bool}{pr:Rw->Bool}(s:Same H H')(hp:∀q r,H q=some (.tup (d8 r))->p (.ref q)=pr r):∀{xs:List V} {rs:List Rw},aH H xs (aX rs)->aH H' (xs.filter p) (aX (rs.filter pr))
 | [],[],_=>aH.nil
 | [],r::rs,h=>absurd h.1 (by simp[aX])
 | x::xs,[],h=>absurd h.1 (by simp[aX])
 | x::xs,r::rs,h=>by
  obtain⟨q,e1,e2⟩:=h.2 0 (d8 r) rfl
  have ht:aH H xs (aX rs):=⟨by simpa[aX] using h.1,λj w e=>h.2 (j+1) w (by simpa[aX] using e)⟩
  cases e1
  have ih:=xP s hp ht
  rw[List.filter_cons,List.filter_cons,hp q r e2]
  cases pr r with
  | false=>exact ih
  | true =>
   refine⟨by have:=ih.1;simpa[aX] using this,λj w e=>?_⟩
   cases j with
   | zero =>
    cases e
    exact⟨q,rfl,s _ _ e2⟩
   | succ j=>exact ih.2 j w (by simpa[aX] using e)
theorem wM{pr:Rw->Bool}(hq:H l=some (.lst xs))(tp:aH H xs (aX rs))(hz:xs.length<=1000000)(hf:(fr.map λi=>(σ[i]?).getD none)=fvs)
  (turn:∀(q:Addr) (r:Rw) (H':Hp) (R:Bool->Hp->Prop),r∈rs->Same H H'->H' q=some (.tup (d8 r))->(∀H2,Same H' H2->R (pr r) H2)->c (some (.ref q)::fvs) H' R)
  (k:∀l' ys H',New H H' l' (.lst ys)->aH H' ys (aX (rs.filter pr))->ys.length<=xs.length->Q (.ref l') H'):dz (Itl K l) 1 fr (bK 0) c (eO 0) σ H Q:=by
 classical
 let p:V->Bool:=λv=>match v with|.ref q=>decide (∃r,H q=some (.tup (d8 r))/\pr r=true)|_=>false
 have hp:∀q r,H q=some (.tup (d8 r))->p (.ref q)=pr r:=λq r e=>by
  show decide (∃s,H q=some (.tup (d8 s))/\pr s=true)=pr r
  cases h:pr r with
  | true=>exact decide_eq_true ⟨r,e,h⟩
  | false =>
   refine decide_eq_false λ⟨s,e2,h2⟩=>?_
   rw[e] at e2
   have:=OD (HO.tup.inj (Option.some.inj e2))
   rw[<- this,h] at h2
   cases h2
 refine Ca (p:=p) (SqL.of hq) hz hf (λv H' R hv s kk=>?_) λl' H' n=>k l' _ H' n (xP n.s hp tp) (List.length_filter_le _ _)
 obtain⟨i,hi,e⟩:=List.getElem_of_mem hv
 obtain⟨r,q,e1,rfl,e2⟩:=d7 tp (i:=i) (v:=v) (by rw[<- e];simp)
 exact turn q r H' R (List.mem_of_getElem? e1) s (s _ _ e2) λH2 s2=>by rw[<- hp q r e2];exact kk H2 s2
end
inductive qH(H:Hp):V->Prop
 | flt {v:V} (h:v=.non\/(∃b,v=.bl b)\/(∃i,v=.int i)\/∃z,v=.str z):qH H v
 | lst {q:Addr} {xs:List V} (e:H q=some (.lst xs)):qH H (.ref q)
 | tup {q:Addr} {xs:List V} (e:H q=some (.tup xs)):qH H (.ref q)
theorem qH.kept{H H':Hp}{v:V}(h:qH H v)(k:∀a u,v=.ref a->H a=some u->H' a=some u):qH H' v:=by
 cases h with
 | flt h=>exact .flt h
 | lst e=>exact .lst (k _ _ rfl e)
 | tup e=>exact .tup (k _ _ rfl e)
theorem qH.same{H H':Hp}{v:V}(h:qH H v)(s:Same H H'):qH H' v:=h.kept λa u _ e=>s a u e
theorem qH.ty{H:Hp}{v:V}(h:qH H v)(K:W.Frag):∃n,dR K H v (.type n):=by
 cases h with
 | flt h =>
  rcases h with rfl|⟨b,rfl⟩|⟨i,rfl⟩|⟨z,rfl⟩
  ·exact⟨_,.non⟩
  ·exact⟨_,.bl b⟩
  ·exact⟨_,.int i⟩
  ·exact⟨_,.str z⟩
 | lst e=>exact⟨_,.lst e⟩
 | tup e=>exact⟨_,.tup e⟩
theorem qH.id{H:Hp}{v:V}(h:qH H v):idV v=true:=by
 cases h with
 | flt h=>rcases h with rfl|⟨b,rfl⟩|⟨i,rfl⟩|⟨z,rfl⟩ <;> rfl
 | lst e=>rfl
 | tup e=>rfl
end L2
namespace L2
open PySem PySem.W PySem.Calls PySem.Spec PyProof.Rows
abbrev swBody(x:Str)(p1 p2 p3 p4 p5 p6 p7:Pos)(j j2 j3:Nat):Expr:=.Tuple [.Subscript (.Name x p1) (.Constant (.int 1) j p2) p3,.Subscript (.Name x p4) (.Constant (.int 0) j2 p5) p6] j3 p7
def Gv(H:Hp)(f:Addr):Prop:=∃(qual x:Str) (params:Arguments) (p1 p2 p3 p4 p5 p6 p7:Pos) (j j2 j3:Nat) (scope:Scope) (pm ctv:Value) (c':Addr) (oc:Obj) (vs:Array Value) (t:Tok),
 H f=some (.frz (W.kla_obj "<lambda>" qual params (swBody x p1 p2 p3 p4 p5 p6 p7 j j2 j3) scope [] pm c' ctv) (.own f))/\H c'=some (.frz oc (.own c'))/\oc.data=.fields vs/\vs[1]?=some (.str qual t)/\oH x scope /\
 ∀q:Addr,bindArgs (W.kla_fn "<lambda>" qual params (swBody x p1 p2 p3 p4 p5 p6 p7 j j2 j3) scope [] pm (.ref c') ctv) ⟨[.ref q],[]⟩=pure [(x,.ref q)]
section
variable{K:W.Frag}{H0 H:Hp}{M:List Addr}{L L':List (Addr×HO)}{I:List Im}{Q:VK}{l f P:Addr}{ys:List V}{ws:List (Nat×Nat)}{pos:Pos}{qual:Str}{ps:Array Value}{σ:St}{R:Hp->Prop}
theorem Gv.st:∀H H',Tst H H'->Gv H f->Gv H' f:=λH H' t h=>by
 obtain⟨a1,a2,a3,a4,a5,a6,a7,a8,a9,a10,a11,a12,a13,a14,a15,a16,a17,a18,a19,a20,e1,e2,r⟩:=h
 exact⟨a1,a2,a3,a4,a5,a6,a7,a8,a9,a10,a11,a12,a13,a14,a15,a16,a17,a18,a19,a20,t _ _ rfl e1,t _ _ rfl e2,r⟩
end
end L2
namespace L2
open PySem PySem.W PySem.Spec PyProof.Rows
end L2
namespace L2
open PySem PySem.Spec PyProof.Rows PySem.SeqAt
abbrev flD(v:V):PyData:=pyD (cY v)
inductive ThD(H:Hp):V->PyData->Prop
 | flat {v:V} (h:cQ v=true) (z:Shm 500 1 (flD v)):ThD H v (flD v)
 | lst {p:Addr} {vs:List V} (e:H p=some (.lst vs)) (h:∀v∈vs,cQ v=true) (z:Shm 500 1 (.list (vs.map flD))):ThD H (.ref p) (.list (vs.map flD))
 | tup {p:Addr} {vs:List V} (e:H p=some (.tup vs)) (h:∀v∈vs,cQ v=true) (z:Shm 500 1 (.tuple (vs.map flD))):ThD H (.ref p) (.tuple (vs.map flD))
 | dct {p:Addr} (e:H p=some (.dK [])):ThD H (.ref p) (.dict [])
section
variable{H H':Hp}{v:V}{d:PyData}{K:W.Frag}
theorem ThD.kept(h:ThD H v d)(k:∀a u,v=.ref a->H a=some u->H' a=some u):ThD H' v d:=by
 cases h with
 | flat h z=>exact .flat h z
 | lst e h z=>exact .lst (k _ _ rfl e) h z
 | tup e h z=>exact .tup (k _ _ rfl e) h z
 | dct e=>exact .dct (k _ _ rfl e)
theorem ThD.ty(h:ThD H v d):∃n,dR K H v (.type n):=by
 cases h with
 | flat h z =>
  cases v with
  | non=>exact⟨_,.non⟩
  | bl b=>exact⟨_,.bl b⟩
  | int i=>exact⟨_,.int i⟩
  | str x=>exact⟨_,.str x⟩
  | _=>simp[cQ] at h
 | lst e h z=>exact⟨_,.lst e⟩
 | tup e h z=>exact⟨_,.tup e⟩
 | dct e=>exact⟨_,.dK e⟩
end
section
variable{H H0:Hp}{M:List Addr}{L:List (Addr×HO)}{I:List Im}{v:V}{d:PyData}{xs:List V}{ds:List PyData}{x:Str}{i:Int}{b:Bool}{K:W.Frag}{p:Addr}{Q:VK}
instance (priority:=high) YT:Go (rEq (.str x) (.str x) H Q) (Q (.bl true) H):=⟨λk=>⟨rfl,by simpa using k⟩⟩
end
structure Zp5(z TI TO i1 i2:Addr):Prop where
 a:TI≠z/\TO≠z/\i1≠z/\i2≠z
 b:TI≠TO/\TI≠i1/\TI≠i2
 c:TO≠i1/\TO≠i2/\i1≠i2
def Itz(K:W.Frag)(a b:Addr)(xs ys:List V):It :=
 ⟨λi H=>(SqL K H a xs/\SqL K H b ys)/\(i<xs.length/\i<ys.length),λi H x H'=>∃T u v,x=.ref T/\xs[i]?=some u/\ys[i]?=some v/\New H H' T (.tup [u,v]),λi H=>(SqL K H a xs/\SqL K H b ys)/\(xs.length<=i\/ys.length<=i)⟩
def aaZ(z TI TO i1 i2 a b:Addr)(i:Nat)(h:Heap):Prop:=IsZip h z TI TO .none/\PySem.IsPair h TI (.ref i1) (.ref i2)/\(∃u v,PySem.IsPair h TO u v)/\h.IsListIter i1 a i/\h.IsListIter i2 b i
section
variable{h:Heap}{z TI TO i1 i2 a b:Addr}{i:Nat}
theorem Cg(D:Zp5 z TI TO i1 i2)(st:aaZ z TI TO i1 i2 a b i h){xs ys:Array Value}(la:h.IsList a xs)(lb:h.IsList b ys):ZipApart z TI TO i1 i2 a b:=by
 obtain⟨hz,_,⟨u,v,hTO⟩,⟨o1,g1,c1,_⟩,⟨o2,g2,c2,_⟩⟩:=st
 have far:∀{l:Addr} {vs:Array Value} {c:Addr} {o:Obj} {n:String},h.IsList l vs->h.get? c=some o->o.cls=.type n->n ≠ "list" -> l≠c:=λ{l vs c o n} hl hc ho hn e=>by
  obtain⟨ol,gl,cl,_⟩:=hl
  subst e
  rw[gl] at hc
  cases hc
  rw[cl] at ho
  exact hn (Value.type.inj ho).symm
 exact⟨D.a.1,D.a.2.1,D.a.2.2.1,D.a.2.2.2,D.b.1,D.b.2.1,D.b.2.2,D.c.1,D.c.2.1,D.c.2.2,
  far la hz rfl (by decide),far la hTO rfl (by decide),far la g1 c1 (by decide),far la g2 c2 (by decide),far lb hz rfl (by decide),far lb hTO rfl (by decide),far lb g1 c1 (by decide),far lb g2 c2 (by decide)⟩
end
theorem Xx(n:Nat):Zp5 (n+4) (n+2) (n+3) n (n+1):=⟨⟨λe=>absurd (show (n+2:Nat)=n+4 from e) (by lia),λe=>absurd (show (n+3:Nat)=n+4 from e) (by lia),λe=>absurd (show (n:Nat)=n+4 from e) (by lia),λe=>absurd (show (n+1:Nat)=n+4 from e) (by lia)⟩,⟨λe=>absurd (show (n+2:Nat)=n+3 from e) (by lia),λe=>absurd (show (n+2:Nat)=n from e) (by lia),λe=>absurd (show (n+2:Nat)=n+1 from e) (by lia)⟩,λe=>absurd (show (n+3:Nat)=n from e) (by lia),λe=>absurd (show (n+3:Nat)=n+1 from e) (by lia),λe=>absurd (show (n:Nat)=n+1 from e) (by lia)⟩
theorem OJ{P:Program}{w:World}{K:W.Frag}{elts:List Expr}{x1}{pos:Pos}(a b z TI TO i1 i2:Addr)(xs ys:List V)(D:Zp5 z TI TO i1 i2) :
  Turn P w K (.Tuple elts x1 pos) (Itz K a b xs ys) [z,TI,TO,i1,i2] z (aaZ z TI TO i1 i2 a b) where
 mem:=by simp
 obj:=λi h st c hc=>by
  obtain⟨hz,hI,⟨u,v,hO⟩,⟨o1,g1,_,d1⟩,⟨o2,g2,_,d2⟩⟩:=st
  simp only[List.mem_cons,List.not_mem_nil,or_false] at hc
  rcases hc with rfl|rfl|rfl|rfl|rfl
  ·exact⟨_,hz,λv e=>by cases (show Data.fields _=Data.cell v from e)⟩
  ·exact⟨_,hI,λv e=>by cases (show Data.seq _ _=Data.cell v from e)⟩
  ·exact⟨_,hO,λv e=>by cases (show Data.seq _ _=Data.cell v from e)⟩
  ·exact⟨o1,g1,λv e=>by rw[d1] at e;cases e⟩
  ·exact⟨o2,g2,λv e=>by rw[d2] at e;cases e⟩
 keep:=λi h h' st k=>by
  obtain⟨hz,hI,⟨u,v,hO⟩,g1,g2⟩:=st
  exact⟨k z (by simp) _ hz,k TI (by simp) _ hI,⟨u,v,k TO (by simp) _ hO⟩,g1.at λo q=>k i1 (by simp) o q,g2.at λo q=>k i2 (by simp) o q⟩
 item:=by
  intro X hP hw hK hc i pins s σ H E I hf st hg
  subst hP hw hK
  obtain⟨⟨qa,qb⟩,ha,hb⟩:=hg
  obtain⟨us,ru,pu,_⟩:=I.list qa
  obtain⟨vs,rv,pv,_⟩:=I.list qb
  have DD:=Cg D st pu.isList pv.isList
  obtain⟨hz,hI,⟨c1,c2,hO⟩,g1,g2⟩:=id st
  have hx:xs[i]?=some xs[i]:=by simp[ha]
  have hy:ys[i]?=some ys[i]:=by simp[hb]
  generalize xs[i]=x at hx
  generalize ys[i]=y at hy
  obtain⟨u,hu,rx⟩:=ru.get hx
  obtain⟨v,hv,ry⟩:=rv.get hy
  refine wpAny_pyNext_zip_item DD hz hI hO g1 g2 pu.isList pv.isList (x:=u) (y:=v) (by simpa using hu) (by simpa using hv) λh1 a1 a2 a3 a4 a5 a6 hk=>?_
  refine⟨_,rfl,wpAny_letOwnedTupleGo_zip a1 λh2 he2 hs2=>?_⟩
  have neT:s.heap.objs.size≠z:=Nat.ne_of_gt (Heap.lt_size hz)
  have hT2:=(hs2.2 _ neT).trans a5
  have k2:∀b o,b ∉ [z,TI,TO,i1,i2]->s.heap.get? b=some o->h2.get? b=some o:=λb o hb q=>by
   simp only[List.mem_cons,List.not_mem_nil,or_false,not_or] at hb
   exact(hs2.2 b hb.1).trans (hk b o hb.1 hb.2.2.1 hb.2.2.2.1 hb.2.2.2.2 q)
  have new:dg X.prog X.w (upd H s.heap.objs.size (.tup [x,y])) h2 s.heap.objs.size (.tup [x,y]) :=
   ⟨by show 2<=sizeLine;decide,[u,v],.cons rx (.cons ry .nil),⟨_,hT2,rfl,_,rfl⟩⟩
  refine⟨.ref s.heap.objs.size,_,I.uy (t':=s.toks) hf k2 (Nat.le_refl _) new,rfl,⟨_,x,y,rfl,hx,hy,.mk' (I.hok.fresh (Nat.le_refl _))⟩,⟨he2,(hs2.2 TI DD.TIz).trans (hk TI _ DD.TIz DD.TITO DD.TIi1 DD.TIi2 hI),⟨u,v,(hs2.2 TO DD.TOz).trans a2⟩,a3.at λo q=>(hs2.2 i1 DD.i1z).trans q,a4.at λo q=>(hs2.2 i2 DD.i2z).trans q⟩,λb hb=>?_⟩
  have hbn:=(hf b hb).1
  have hb':b<s.heap.objs.size:=by
   obtain⟨o1,q1,_⟩:=g1
   obtain⟨o2,q2,_⟩:=g2
   simp only[List.mem_cons,List.not_mem_nil,or_false] at hb
   rcases hb with rfl|rfl|rfl|rfl|rfl
   ·exact Heap.lt_size hz
   ·exact Heap.lt_size hI
   ·exact Heap.lt_size hO
   ·exact Heap.lt_size q1
   ·exact Heap.lt_size q2
  rw[bZ (Nat.ne_of_lt hb')]
  exact hbn
 done:=by
  intro X hP hw hK hc i pins s σ H E I hf st hg
  subst hP hw hK
  obtain⟨⟨qa,qb⟩,hle⟩:=hg
  obtain⟨us,ru,pu,_⟩:=I.list qa
  obtain⟨vs,rv,pv,_⟩:=I.list qb
  have DD:=Cg D st pu.isList pv.isList
  obtain⟨hz,hI,⟨c1,c2,hO⟩,g1,g2⟩:=id st
  have l1:=ru.length
  have l2:=rv.length
  refine wpAny_pyNext_zip_end (I.ok.hd hc) DD hz hI hO g1 g2 pu.isList pv.isList (by simp;lia) λh' eb=>⟨rfl,I.zR (t':=s.toks) (ch:=[z,TI,TO,i1,i2]) hf λb o hb q=>?_⟩
  simp only[List.mem_cons,List.not_mem_nil,or_false,not_or] at hb
  exact eb b o hb.1 hb.2.2.1 hb.2.2.2.1 hb.2.2.2.2 q
 self:=λ_ _ _ _ _ st h=>wpAny_pyIter_zip st.1 h
theorem boot_zip:bootBuiltins "zip" = some (.type "zip"):=by decide +kernel
def aa0(K:W.Frag)(ta:TA):TI:=λσ H R=>ta σ H λvs H1=>∃a b xs ys,vs=[.ref a,.ref b]/\SqL K H1 a xs/\SqL K H1 b ys/\R (Itz K a b xs ys) H1
theorem Xy{X:Cx}{elts:List Expr}{x1}{tpos:Pos}{a b:Expr}{ta:TA}{p pos:Pos}(hg:Gl X "zip")(hm:X.mg "zip" = none)(ha:PA X [a,b] ta)(hs:starEach [a,b] X.env=[(false,eval a X.env),(false,eval b X.env)]:=by rfl)(hs2:starEach [b] X.env=[(false,eval b X.env)]:=by rfl) :
  PI X (.Tuple elts x1 tpos) (.Call (.Name "zip" p) [a,b] [] pos) (aa0 X.K ta):=by
 intro pins s σ H R I h
 refine Call_ (iB I hg hm boot_zip (PyProof.Rows.callWith_type1 (thn (ha pos pins s σ H _ I h) λus s1 ⟨vs,H1,I1,r1,q1⟩=>?_) (by rw[hs,hs2]) (by rw[hs2];rfl)))
 obtain⟨l,m,xs,ys,e,hq,hq2,q⟩:=q1
 subst e
 obtain⟨u,v,rfl,r,r2⟩:=vals2 r1
 cases r
 cases r2
 obtain⟨its,rv,pl,hz⟩:=I1.list hq
 obtain⟨its2,rv2,pl2,hz2⟩:=I1.list hq2
 refine call_zip_2 pl.isList pl2.isList λh' b1 b2 b3 b4 b5 hsz hk=>?_
 have I2:Inv X pins σ H1 { s1 with heap:=h' }:=I1.kept (t':=s1.toks) hk
 refine wpAny_pyIter_zip b1 ?_
 refine⟨s1.heap.objs.size+4,[s1.heap.objs.size+4,s1.heap.objs.size+2,s1.heap.objs.size+3,s1.heap.objs.size,s1.heap.objs.size+1],_,Itz X.K l m xs ys,H1,rfl,I2,OJ l m (s1.heap.objs.size+4) (s1.heap.objs.size+2) (s1.heap.objs.size+3) s1.heap.objs.size (s1.heap.objs.size+1) xs ys (Xx _),⟨b1,b2,⟨_,_,b3⟩,b4,b5⟩,λb hb=>?_,q⟩
 have hb':s1.heap.objs.size<=b:=by
  simp only[List.mem_cons,List.not_mem_nil,or_false] at hb
  rcases hb with rfl|rfl|rfl|rfl|rfl
  ·exact Nat.le_add_right _ _
  ·exact Nat.le_add_right _ _
  ·exact Nat.le_add_right _ _
  ·exact Nat.le_refl _
  ·exact Nat.le_add_right _ _
 exact I1.Bh hb' (I1.hok.fresh hb')
def Ti(K:PySem.W.Frag)(a b:Addr)(xs ys:List V)(g:TG)(tb:TS)(D:Ends)(σ:St)(H:Hp):Prop :=
  ∃W:Nat->Nat->St->Hp->Prop,(∃m,W 0 m σ H)/\∀i m σ H,W i m σ H ->
   ((Itz K a b xs ys).stop i H/\D.nx σ H)\/((Itz K a b xs ys).go i H/\∃N:St->Hp->Prop,(∀σ' H',N σ' H'->∃m',m'<m/\W (i+1) m' σ' H')/\∀x H',(Itz K a b xs ys).yld i H x H'->g x σ H' λσ2 H2=>tb { D with nx:=N,ct:=N,bk:=D.nx } σ2 H2)
theorem Tj{K:W.Frag}{a b:Addr}{xs ys:List V}{g:TG}{tb:TS}{D:Ends}{σ:St}{H:Hp}(hlen:xs.length=ys.length)(Pv:Nat->St->Hp->Prop)(h0:Pv 0 σ H)(hl:∀i σ H,i<=xs.length->Pv i σ H->SqL K H a xs/\SqL K H b ys)
  (hs:∀i x y T σ H H',xs[i]?=some x->ys[i]?=some y->Pv i σ H->New H H' T (.tup [x,y])->g (.ref T) σ H' λσ2 H2=>tb { D with nx:=Pv (i+1),ct:=Pv (i+1),bk:=D.nx } σ2 H2) (hd:∀σ H,Pv xs.length σ H->D.nx σ H) :
  Ti K a b xs ys g tb D σ H:=by
 refine⟨λi m σ H=>m=xs.length-i/\i<=xs.length/\Pv i σ H,⟨xs.length,by simp,Nat.zero_le _,h0⟩,?_⟩
 rintro i m σ H ⟨rfl,hi,p⟩
 have q:=hl i σ H hi p
 by_cases hlt:i<xs.length
 ·refine .inr ⟨⟨q,hlt,by lia⟩,Pv (i+1),λσ' H' p'=>⟨xs.length-(i+1),by lia,rfl,hlt,p'⟩,λx H' y=>?_⟩
  obtain⟨T,u,v,rfl,hu,hv,n⟩:=y
  exact hs i u v T σ H H' hu hv p n
 ·have e:i=xs.length:=by lia
  subst e
  exact .inl ⟨⟨q,.inl (Nat.le_refl _)⟩,hd σ H p⟩
section
variable{K:W.Frag}{g:TG}{tb:TS}{D:Ends}{σ:St}{H:Hp}{tr:TA}{a b:Addr}{xs ys:List V}
instance acV:Go (tZ (aa0 K tr) g tb D σ H) (tr σ H λvs H1=>∃a b xs ys,vs=[.ref a,.ref b]/\SqL K H1 a xs/\SqL K H1 b ys/\Ti K a b xs ys g tb D σ H1):=⟨λh=>h⟩
instance aeO[h:SqA K H a xs][h2:SqA K H b ys]:Go (∃a' b' xs' ys',[V.ref a,V.ref b]=[.ref a',.ref b']/\SqL K H a' xs'/\SqL K H b' ys'/\Ti K a' b' xs' ys' g tb D σ H) (Ti K a b xs ys g tb D σ H):=⟨λk=>⟨a,b,xs,ys,rfl,h.e,h2.e,k⟩⟩
end
end L2
set_option maxHeartbeats 400000
namespace L2
open PySem PySem.Spec PyProof.Rows PySem.SeqAt
end L2
set_option maxHeartbeats 1000000
namespace L2
open PySem PySem.Spec PyProof.Rows PySem.SeqAt
theorem qI{K:W.Frag}{H:Hp}{x:V}{n:String}(t:dR K H x (.type n)):W.kitAny K (.type n) [.type "list", .type "tuple"]=some (n == "list" || n == "tuple"):=by
 have h1:W.kitOne K (.type n) (.type "list")=some (n == "list"):=sV t
 have h2:W.kitOne K (.type n) (.type "tuple")=some (n == "tuple"):=oF t
 unfold W.kitAny
 rw[h1]
 cases n == "list" with
 | true=>rfl
 | false =>
  unfold W.kitAny
  rw[h2]
  cases n == "tuple" <;> rfl
def uM:List V->Hp->VK->Prop:=λxs H Q=>∃x p,xs=[x,.ref p]/\H p=some (.tup [.ty "list", .ty "tuple"])/\((cQ x=true/\Q (.bl false) H)\/∃a ys,x=.ref a/\(H a=some (.lst ys)\/H a=some (.tup ys))/\Q (.bl true) H)
theorem qJ{X:Cx}:eH X (.builtin "isinstance") uM:=by
 intro pins s σ H xs us Q I r h
 obtain⟨x,p,rfl,hp,h⟩:=h
 obtain⟨u,v,rfl,rx,rv⟩:=vals2 r
 obtain rfl:v=Value.ref p:=rv
 obtain⟨_,its,rt,o,ho,hc,m,hd⟩:=(show dg X.prog X.w H s.heap p (.tup [.ty "list", .ty "tuple"]) from I.hok p _ hp)
 obtain⟨cls,dd,data,sl⟩:=o
 obtain rfl:cls=.type "tuple":=hc
 obtain rfl:data=.seq its.toArray m:=hd
 have ei:its=[.type "list", .type "tuple"]:=by
  cases rt with
  | cons r1 r2 =>
   cases r2 with
   | cons r3 r4 =>
    cases r4
    rw[show _=Value.type "list" from r1,show _=Value.type "tuple" from r3]
 subst ei
 rcases h with⟨hf,q⟩|⟨a,ys,rfl,ha|ha,q⟩
 ·cases x with
  | non=>cases (show u=Value.none from rx);exact W.kia_tup W.kitx_none I.kIn True.intro ho (qI (K:=X.K) (H:=H) .non) (λz=>nomatch z) λtk=>⟨.bl _,H,I.tok _,rfl,q⟩
  | bl y=>cases (show u=Value.bool y from rx);exact W.kia_tup W.kitx_bool I.kIn True.intro ho (qI (K:=X.K) (H:=H) (.bl y)) (λz=>nomatch z) λtk=>⟨.bl _,H,I.tok _,rfl,q⟩
  | int i=>obtain⟨t,z⟩:=(show ∃t,u=Value.int i t from rx);cases z;exact W.kia_tup W.kitx_int I.kIn True.intro ho (qI (K:=X.K) (H:=H) (.int i)) (λz=>nomatch z) λtk=>⟨.bl _,H,I.tok _,rfl,q⟩
  | str y=>obtain⟨t,z⟩:=(show ∃t,u=Value.str y t from rx);cases z;exact W.kia_tup W.kitx_str I.kIn True.intro ho (qI (K:=X.K) (H:=H) (.str y)) (λz=>nomatch z) λtk=>⟨.bl _,H,I.tok _,rfl,q⟩
  | _=>simp[cQ] at hf
 ·cases (show u=Value.ref a from rx)
  obtain⟨_,_,m,_,h1⟩:=(show dg X.prog X.w H s.heap a (.lst ys) from I.hok a _ ha)
  exact W.kia_tup W.kitx_list I.kIn ⟨_,h1,rfl⟩ ho (qI (K:=X.K) (H:=H) (.lst ha)) (λz=>nomatch z) λtk=>⟨.bl _,H,I.tok _,rfl,q⟩
 ·cases (show u=Value.ref a from rx)
  obtain⟨_,_,_,o,h1,h2,_⟩:=(show dg X.prog X.w H s.heap a (.tup ys) from I.hok a _ ha)
  exact W.kia_tup W.kitx_tuple I.kIn ⟨o,h1,h2⟩ ho (qI (K:=X.K) (H:=H) (.tup ha)) (λz=>nomatch z) λtk=>⟨.bl _,H,I.tok _,rfl,q⟩
section
variable{H:Hp}{Q:VK}{a p:Addr}{ys:List V}{i:Int}
instance aa1[h:Hat H p (.tup [.ty "list", .ty "tuple"])][h2:Hat H a (.lst ys)]:Go (uM [.ref a,.ref p] H Q) (Q (.bl true) H):=⟨λk=>⟨_,p,rfl,h.e,.inr ⟨a,ys,rfl,.inl h2.e,k⟩⟩⟩
instance aa2[h:Hat H p (.tup [.ty "list", .ty "tuple"])][h2:Hat H a (.tup ys)]:Go (uM [.ref a,.ref p] H Q) (Q (.bl true) H):=⟨λk=>⟨_,p,rfl,h.e,.inr ⟨a,ys,rfl,.inr h2.e,k⟩⟩⟩
instance aa3[h:Hat H p (.tup [.ty "list", .ty "tuple"])]:Go (uM [.int i,.ref p] H Q) (Q (.bl false) H):=⟨λk=>⟨_,p,rfl,h.e,.inl ⟨rfl,k⟩⟩⟩
instance aa4[h:Hat H p (.tup [.ty "list", .ty "tuple"])]:Go (uM [.non,.ref p] H Q) (Q (.bl false) H):=⟨λk=>⟨_,p,rfl,h.e,.inl ⟨rfl,k⟩⟩⟩
end
def iOr(w1 w2:TI):TI:=λσ H R=>w1 σ H R\/w2 σ H R
theorem O1{X:Cx}{tg it:Expr}{w1 w2:TI}(h1:PI X tg it w1)(h2:PI X tg it w2):PI X tg it (iOr w1 w2):=λpins s σ H R I h=>h.elim (h1 pins s σ H R I) (h2 pins s σ H R I)
section
variable{w1 w2:TI}{nt:Nat}{fr:List Nat}{g:TG}{c:TT}{te:TE}{σ:L2.St}{H:Hp}{Q:VK}
theorem Ci(h:jm w1 nt fr g c te σ H Q):jm (iOr w1 w2) nt fr g c te σ H Q:=.inl h
theorem Cj(h:jm w2 nt fr g c te σ H Q):jm (iOr w1 w2) nt fr g c te σ H Q:=.inr h
end
mutual
def TrH(H:Hp):Dt->V->Prop
 | .non,v=>v=.non
 | .bl b,v=>v=.bl b
 | .int i,v=>v=.int i
 | .str x,v=>v=.str x
 | .lst ds,v=>∃p xs,v=.ref p/\H p=some (.lst xs)/\cu H ds xs
 | .tup ds,v=>∃p xs,v=.ref p/\H p=some (.tup xs)/\cu H ds xs
def cu(H:Hp):List Dt->List V->Prop
 | [],xs=>xs=[]
 | d::ds,xs=>∃x r,xs=x::r/\TrH H d x/\cu H ds r
end
mutual
theorem TrH.same{H H':Hp}(s:Same H H'):∀{d:Dt} {v:V},TrH H d v->TrH H' d v
 | .non,v,h=>h
 | .bl _,v,h=>h
 | .int _,v,h=>h
 | .str _,v,h=>h
 | .lst ds,v,h=>by
  simp only[TrH] at h ⊢
  obtain⟨p,xs,e,hp,hs⟩:=h
  exact⟨p,xs,e,s _ _ hp,cu.same s hs⟩
 | .tup ds,v,h=>by
  simp only[TrH] at h ⊢
  obtain⟨p,xs,e,hp,hs⟩:=h
  exact⟨p,xs,e,s _ _ hp,cu.same s hs⟩
theorem cu.same{H H':Hp}(s:Same H H'):∀{ds:List Dt} {xs:List V},cu H ds xs->cu H' ds xs
 | [],xs,h=>h
 | d::ds,xs,h=>by
  simp only[cu] at h ⊢
  obtain⟨x,r,e,h1,h2⟩:=h
  exact⟨x,r,e,TrH.same s h1,cu.same s h2⟩
end
theorem cu.len{H:Hp}:∀{ds:List Dt} {xs:List V},cu H ds xs->xs.length=ds.length
 | [],xs,h=>by simp only[cu] at h;rw[h];rfl
 | d::ds,xs,h=>by
  simp only[cu] at h
  obtain⟨x,r,rfl,h1,h2⟩:=h
  rw[List.length_cons,List.length_cons,h2.len]
theorem cu.at{H:Hp}:∀{ds:List Dt} {xs:List V},cu H ds xs->∀{i:Nat} {v:V},xs[i]?=some v->∃d,ds[i]?=some d/\TrH H d v
 | [],xs,h,i,v,e=>by simp only[cu] at h;rw[h] at e;cases e
 | d::ds,xs,h,i,v,e=>by
  simp only[cu] at h
  obtain⟨x,r,rfl,h1,h2⟩:=h
  cases i with
  | zero=>cases e;exact⟨d,rfl,h1⟩
  | succ i=>exact h2.at (i:=i) e
theorem cu.of{H:Hp}:∀{ds:List Dt} {xs:List V},xs.length=ds.length->(∀(i:Nat) (v:V),xs[i]?=some v->∃d,ds[i]?=some d/\TrH H d v)->cu H ds xs
 | [],xs,hl,_=>by simp only[cu];exact List.eq_nil_of_length_eq_zero hl
 | d::ds,[],hl,_=>by cases hl
 | d::ds,x::r,hl,h=>by
  simp only[cu]
  refine⟨x,r,rfl,?_,cu.of (by simpa using hl) λi v e=>h (i+1) v e⟩
  obtain⟨d',e,t⟩:=h 0 x rfl
  cases e
  exact t
mutual
theorem TrH.rep{K:W.Frag}{H:Hp}:∀{d:Dt} {v:V},TrH H d v->Rep K H d v
 | .non,v,h=>h
 | .bl _,v,h=>h
 | .int _,v,h=>h
 | .str _,v,h=>h
 | .lst ds,v,h=>by
  simp only[TrH] at h
  obtain⟨p,xs,e,hp,hs⟩:=h
  simp only[Rep]
  exact⟨p,xs,e,SqL.of hp,cu.reps hs⟩
 | .tup ds,v,h=>by
  simp only[TrH] at h
  obtain⟨p,xs,e,hp,hs⟩:=h
  simp only[Rep]
  exact⟨p,xs,e,SqT.of hp,cu.reps hs⟩
theorem cu.reps{K:W.Frag}{H:Hp}:∀{ds:List Dt} {xs:List V},cu H ds xs->dD K H ds xs
 | [],xs,h=>by simpa[cu,dD] using h
 | d::ds,xs,h=>by
  simp only[cu] at h
  obtain⟨x,r,e,h1,h2⟩:=h
  simp only[dD]
  exact⟨x,r,e,TrH.rep h1,cu.reps h2⟩
end
mutual
def g8:Dt->Bool
 | .bl _=>true
 | .lst ds=>gJ ds
 | .tup ds=>gJ ds
 | _=>false
def gJ:List Dt->Bool
 | []=>false
 | d::ds=>g8 d || gJ ds
end
theorem jr:∀ds:List Dt,(ds.map g8).any id=gJ ds
 | []=>rfl
 | d::ds=>by rw[List.map_cons,List.any_cons,jr ds,gJ];rfl
mutual
def g_:Dt->Prop
 | .lst ds=>ds.length<=1000/\iJ ds
 | .tup ds=>ds.length<=1000/\iJ ds
 | _=>True
def iJ:List Dt->Prop
 | []=>True
 | d::ds=>g_ d/\iJ ds
end
theorem jt:∀{ds:List Dt},iJ ds->∀{i:Nat} {d:Dt},ds[i]?=some d->g_ d
 | [],_,i,d,e=>by cases e
 | x::ds,h,i,d,e=>by
  simp only[iJ] at h
  cases i with
  | zero=>cases e;exact h.1
  | succ i=>exact jt h.2 (i:=i) e
theorem ju:∀{ds:List Dt} {i:Nat} {d:Dt},ds[i]?=some d->dH d<=fJ ds
 | [],i,d,e=>by cases e
 | x::ds,i,d,e=>by
  simp only[fJ]
  cases i with
  | zero=>cases e;lia
  | succ i=>have:=ju (ds:=ds) (i:=i) e;lia
theorem zU{ds:List Dt}{ys:List V}(hl:ys.length=ds.length)(h:∀(i:Nat) (y:V),ys[i]?=some y->∃d,ds[i]?=some d/\y=.bl (g8 d)):ys=(ds.map g8).map V.bl:=by
 apply List.ext_getElem?
 intro i
 rw[List.getElem?_map,List.getElem?_map]
 cases e:ys[i]? with
 | none =>
  have:ds[i]?=none:=by rw[List.getElem?_eq_none_iff] at e ⊢;lia
  rw[this]
  rfl
 | some y =>
  obtain⟨d,e1,e2⟩:=h i y e
  rw[e1,e2]
  rfl
mutual
def dF:Dt->Dt->Bool
 | .lst xs,.lst ys=>eE xs ys
 | .tup xs,.tup ys=>eE xs ys
 | _,.lst _=>false
 | _,.tup _=>false
 | .bl a,.bl b=>a == b
 | .bl _,_=>false
 | _,.bl _=>false
 | x,y=>fD x y
def eE:List Dt->List Dt->Bool
 | [],[]=>true
 | x::xs,y::ys=>dF x y && eE xs ys
 | _,_=>false
end
mutual
theorem oM:∀(y x:Dt),g8 y=false->dF x y=(fD x y && !g8 x)
 | .non,x,_=>by cases x <;> simp[dF,fD,g8]
 | .bl b,x,h=>by simp[g8] at h
 | .int i,x,_=>by cases x <;> simp[dF,fD,g8]
 | .str s,x,_=>by cases x <;> simp[dF,fD,g8]
 | .lst ys,x,h=>by
  simp only[g8] at h
  cases x <;> simp[dF,fD,g8]
  exact qK ys _ h
 | .tup ys,x,h=>by
  simp only[g8] at h
  cases x <;> simp[dF,fD,g8]
  exact qK ys _ h
theorem qK:∀(ys xs:List Dt),gJ ys=false->eE xs ys=(dU xs ys && !gJ xs)
 | [],xs,_=>by cases xs <;> simp[eE,dU,gJ]
 | y::ys,xs,h=>by
  simp only[gJ,Bool.or_eq_false_iff] at h
  cases xs with
  | nil=>simp[eE,dU]
  | cons x xs =>
   simp only[eE,dU,gJ,oM y x h.1,qK ys xs h.2]
   cases fD x y <;> cases dU xs ys <;> cases g8 x <;> cases gJ xs <;> rfl
end
def hides(B:List Addr)(H:Hp):Hp:=λa=>if a∈B then none else H a
def Al(H:Hp)(B:List Addr):Prop:=∀b∈B,∃xs,H b=some (.lst xs)
theorem gK{B:List Addr}{H:Hp}{a:Addr}{u:HO}:hides B H a=some u ↔ a ∉ B/\H a=some u:=by
 unfold hides
 by_cases h:a∈B
 ·rw[if_pos h]
  constructor
  ·intro z
   cases z
  ·intro z
   exact absurd h z.1
 ·rw[if_neg h]
  exact⟨λz=>⟨h,z⟩,λz=>z.2⟩
theorem xQ{B:List Addr}{H H':Hp}(o:∀a u,a ∉ B->H a=some u->H' a=some u):Same (hides B H) (hides B H'):=λa u e=>by
 rw[gK] at e ⊢
 exact⟨e.1,o a u e.1 e.2⟩
theorem Al.same{H H':Hp}{B:List Addr}(h:Al H B)(s:Same H H'):Al H' B:=λb hb=>(h b hb).imp λu e=>s _ _ e
section
variable{H:Hp}{ds es:List Dt}{xs ys:List V}
theorem cu.append:∀{ds:List Dt} {xs:List V},cu H ds xs->cu H es ys->cu H (ds++es) (xs++ys)
 | [],xs,h,h2=>by simp only[cu] at h;rw[h];exact h2
 | d::ds,xs,h,h2=>by
  simp only[cu] at h
  obtain⟨x,r,rfl,a,b⟩:=h
  simp only[List.cons_append,cu]
  exact⟨x,r++ys,rfl,a,b.append h2⟩
theorem cu.take(h:cu H ds xs)(n:Nat):cu H (ds.take n) (xs.take n):=cu.of (by rw[List.length_take,List.length_take,h.len]) λi v e=>by
 rw[List.getElem?_take] at e ⊢
 by_cases hi:i<n
 ·rw[if_pos hi] at e ⊢
  exact h.at e
 ·rw[if_neg hi] at e
  cases e
theorem cu.drop(h:cu H ds xs)(n:Nat):cu H (ds.drop n) (xs.drop n):=cu.of (by rw[List.length_drop,List.length_drop,h.len]) λi v e=>by
 rw[List.getElem?_drop] at e ⊢
 exact h.at e
theorem cu.rev(h:cu H ds xs):cu H ds.reverse xs.reverse:=cu.of (by rw[List.length_reverse,List.length_reverse,h.len]) λi v e=>by
 have hi:=(List.getElem?_eq_some_iff.mp e).1
 rw[List.length_reverse] at hi
 have hl:=h.len
 rw[List.getElem?_reverse hi] at e
 rw[List.getElem?_reverse (by lia)]
 rw[hl] at e
 exact h.at e
theorem cu.one{d:Dt}{v:V}(h:TrH H d v):cu H [d] [v]:=by
 simp only[cu]
 exact⟨v,[],rfl,h,rfl⟩
theorem TrH.flat{v:V}(h:cQ v=true):TrH H (cY v) v:=by
 cases v <;> simp[cQ] at h <;> simp[cY,TrH]
theorem cu.flats:∀{xs:List V},(∀v∈xs,cQ v=true)->cu H (xs.map cY) xs
 | [],_=>by simp[cu]
 | x::xs,h=>by
  simp only[List.map_cons,cu]
  exact⟨x,xs,rfl,TrH.flat (h x List.mem_cons_self),cu.flats λv hv=>h v (List.mem_cons_of_mem _ hv)⟩
theorem TrH.lst{p:Addr}(h:H p=some (.lst xs))(t:cu H ds xs):TrH H (.lst ds) (.ref p):=by
 simp only[TrH]
 exact⟨p,xs,rfl,h,t⟩
theorem TrH.tup{p:Addr}(h:H p=some (.tup xs))(t:cu H ds xs):TrH H (.tup ds) (.ref p):=by
 simp only[TrH]
 exact⟨p,xs,rfl,h,t⟩
end
theorem Tq(v:V):dH (cY v)=0:=by cases v <;> simp[cY,dH]
theorem Tr(v:V):g_ (cY v):=by cases v <;> simp[cY,g_]
def Sm(n:Nat)(ds:List Dt):Prop:=∀d∈ds,dH d<=n/\g_ d
theorem Sm.dep{n:Nat}:∀{ds:List Dt},Sm n ds->fJ ds<=n
 | [],_=>Nat.zero_le _
 | d::ds,h=>by
  simp only[fJ]
  have h1:=(h d List.mem_cons_self).1
  have h2:=Sm.dep (n:=n) (ds:=ds) λe he=>h e (List.mem_cons_of_mem _ he)
  lia
theorem Sm.wid{n:Nat}:∀{ds:List Dt},Sm n ds->iJ ds
 | [],_=>by simp[iJ]
 | d::ds,h=>by
  simp only[iJ]
  exact⟨(h d List.mem_cons_self).2,Sm.wid (n:=n) λe he=>h e (List.mem_cons_of_mem _ he)⟩
theorem Sm.append{n:Nat}{ds es:List Dt}(h:Sm n ds)(h2:Sm n es):Sm n (ds++es):=λd hd=>(List.mem_append.mp hd).elim (h d) (h2 d)
theorem Sm.take{n:Nat}{ds:List Dt}(h:Sm n ds)(k:Nat):Sm n (ds.take k):=λd hd=>h d (List.mem_of_mem_take hd)
theorem Sm.drop{n:Nat}{ds:List Dt}(h:Sm n ds)(k:Nat):Sm n (ds.drop k):=λd hd=>h d (List.mem_of_mem_drop hd)
theorem Sm.rev{n:Nat}{ds:List Dt}(h:Sm n ds):Sm n ds.reverse:=λd hd=>h d (List.mem_reverse.mp hd)
theorem Sm.one{n:Nat}{d:Dt}(h:dH d<=n)(w:g_ d):Sm n [d]:=λe he=>by rw[List.mem_singleton.mp he];exact⟨h,w⟩
theorem O2{n:Nat}{ds:List Dt}(h:Sm n ds)(l:ds.length<=1000):dH (.lst ds)<=n+1/\g_ (.lst ds):=by
 have:=h.dep
 exact⟨by simp only[dH];lia,by simp only[g_];exact⟨l,h.wid⟩⟩
theorem O3{n:Nat}{ds:List Dt}(h:Sm n ds)(l:ds.length<=1000):dH (.tup ds)<=n+1/\g_ (.tup ds):=by
 have:=h.dep
 exact⟨by simp only[dH];lia,by simp only[g_];exact⟨l,h.wid⟩⟩
theorem Ck(xs:List V):Sm 0 (xs.map cY):=λd hd=>by
 obtain⟨v,_,rfl⟩:=List.mem_map.mp hd
 exact⟨Nat.le_of_eq (Tq v),Tr v⟩
end L2
set_option maxHeartbeats 4000000
namespace L2
open PySem PySem.Spec PyProof.Rows PySem.SeqAt
theorem Tt{l b:Addr}{es:Array DictEntry}{n n2:Nat}{dd dd2:Option Addr}{sl sl2:Array (Option Value)}{its:Array Value} :
  Meets (Builtin.«dict.__eq__» ⟨[.ref l,.ref b],[]⟩) (λ_ R s=>s.heap.get? l=some ⟨.type "dict", dd,.dict es n,sl⟩/\s.heap.get? b=some ⟨.type "tuple", dd2,.seq its n2,sl2⟩/\R (.ok (.ret .notImplemented)) s):=by
 refine .of_wp λprog w A R s h=>?_
 obtain⟨hp,g,d,tk,os⟩:=s
 obtain⟨hl,hb,h⟩:=h
 have f1:=F.sub_tuple_dict
 wp_walk using wpAny_loadPart' hl,wpAny_loadPart' hb
 exact⟨_,rfl,h⟩
theorem Tv{l b:Addr}{es:Array DictEntry}{n n2:Nat}{dd dd2:Option Addr}{sl sl2:Array (Option Value)}{its:Array Value} :
  Meets (Builtin.«tuple.__eq__» ⟨[.ref b,.ref l],[]⟩) (λ_ R s=>s.heap.get? l=some ⟨.type "dict", dd,.dict es n,sl⟩/\s.heap.get? b=some ⟨.type "tuple", dd2,.seq its n2,sl2⟩/\R (.ok (.ret .notImplemented)) s):=by
 refine .of_wp λprog w A R s h=>?_
 obtain⟨hp,g,d,tk,os⟩:=s
 obtain⟨hl,hb,h⟩:=h
 have f1:=F.sub_dict_tuple
 wp_walk using wpAny_loadPart' hl,wpAny_loadPart' hb
 exact⟨_,rfl,h⟩
def Vc(K:W.Frag):R2:=λx y H Q=>ZX K x y H Q\/∃p,x=.ref p/\H p=some (.dK [])/\((∃q xs,y=.ref q/\SqT K H q xs/\Q (.bl false) H)\/(y=.ref p/\Q (.bl true) H))
theorem Tw{X:Cx}{K:W.Frag}{k:Nat}(hK:X.K=K)(hr:Room k X.A):OpR X (compareOp .Eq) (Vc K):=by
 subst hK
 intro pins s σ H x y v u Q I rx ry h
 have hu:X.A.units<cLine:=by have:=hr.un;lia
 rcases h with h|⟨p,rfl,hp,h⟩
 ·exact NT hr pins s σ H x y v u Q I rx ry h
 ·cases rx
  obtain⟨_,hs,vs,kv,dof⟩:=UW I.hok hp
  rcases h with⟨q,xs,rfl,hq,k2⟩|⟨rfl,k2⟩
  ·cases ry
   obtain⟨o,es,ep,ho,hx,hd,hk,hp',hnd⟩:=dof
   obtain⟨cls,dd,data,sl⟩:=o
   obtain rfl:cls=.type "dict":=hx.1
   obtain rfl:data=.dict es ep:=hd
   obtain⟨us,ru,pu,_⟩:=I.tuple hq
   obtain⟨⟨cls2,dd2,data2,sl2⟩,ho2,hc2,n2,hd2⟩:=id pu
   obtain rfl:cls2=.type "tuple":=hc2
   obtain rfl:data2=.seq us.toArray n2:=hd2
   have ne:p≠q:=λz=>by
    subst z
    rw[ho] at ho2
    exact absurd (Value.type.inj (congrArg Obj.cls (Option.some.inj ho2))) (by decide)
   exact rc_eq_decline_or (k:=false) ⟨_,ho,rfl⟩ ⟨_,ho2,rfl⟩ (by decide) F.sub_tuple_dict F.slot_dict_eq F.slot_tuple_eq_refl
    (λ_ hq=>call_meets F.slot_dict_eq ⟨_,ho,rfl⟩ F.entry_dict_eq (F.args_dict_eq_2 _ _) Tt ⟨ho,ho2,hq⟩)
    (λ_ hq=>call_meets F.slot_tuple_eq_refl ⟨_,ho2,rfl⟩ F.entry_tuple_eq (F.args_tuple_eq_2 _ _) Tv ⟨ho,ho2,hq⟩)
    (λ_ hq=>wpAny_isSame_ref_other ne ho ho2 (by simp) hq) (.inr hu) ⟨.bl _,H,I,rfl,k2⟩
  ·cases ry
   cases kv
   exact W.keq_eq hs hs dof dof hu (λ_=>.nil) ⟨.bl _,H,I,rfl,k2⟩
instance aa5{K:W.Frag}{H:Hp}{Q:VK}{p:Addr}[h:Hat H p (.dK [])]:Go (Vc K (.ref p) (.ref p) H Q) (Q (.bl true) H):=⟨λk=>.inr ⟨p,rfl,h.e,.inr ⟨rfl,k⟩⟩⟩
end L2
namespace L2
open PySem PySem.W PySem.Spec PyProof.Rows
end L2
namespace L2
open PySem PySem.Spec PyProof.Rows PySem.SeqAt
section
variable{X:Cx}{K:W.Frag}{H:Hp}{Q:VK}{p l:Addr}{nms:List (List Nat)}{cs:List Nat}
theorem Ig:∀{xs:List V} {us:List Value} (r:Vals xs us) {i:Nat} (hi:i<us.length) (hj:i<xs.length),RelV xs[i] us[i]
 | _,_,.nil,_,hi,_=>by simp at hi
 | _::_,_::_,.cons r _,0,_,_=>r
 | _::_,_::_,.cons _ t,i+1,hi,hj=>by
  simp only[List.getElem_cons_succ]
  exact Ig t (by simpa using hi) (by simpa using hj)
def Xz:V->List V->Hp->VK->Prop:=λx vs H Q=>∃(l:Addr) (xs:List V) (v:V) (j:Nat),x=.ref l/\vs=[v]/\H l=some (.lst xs)/\mG v=true/\xs.all mG=true/\(∃y,xs[j]?=some y/\eqV y v=true)/\(∀i y,i<j->xs[i]?=some y->eqV y v=false)/\Q (.int (j:Nat)) H
theorem XC:MtM X "list.index" Xz:=by
 intro pins s σ H x vs v us Q I rx rv h
 obtain⟨l,xs,y,j,rfl,rfl,hH,fy,fs,⟨w,hw,ew⟩,hno,q⟩:=h
 cases rx
 obtain⟨u,rfl,ry⟩:=vals1 rv
 obtain⟨z,its,n,r,hl,e⟩:=I.zP hH
 have hlen:=r.length
 obtain⟨hj,e2⟩:=List.getElem?_eq_some_iff.mp hw
 rw[sizeLine_eq] at z
 have one:∀i (hi:i<its.length) (hx:i<xs.length),eqU y its[i]=eqV xs[i] y:=λi hi hx=>FQ (Ig r hi hx) (List.all_eq_true.mp fs _ (List.getElem_mem hx))
 refine call_meets PySem.F.slot_list_index ⟨_,e,rfl⟩ PySem.F.entry_list_index (PySem.F.args_list_index_2 _ _) (list_indexAt l its.toArray n _ _ u (eqU y) j (by rw[List.size_toArray];lia) (by lia) ?_ ?_) ⟨e,λa ha=>nY ry fy r fs a (by simpa using ha),?_⟩
 ·show eqU y its[j]=true
  rw[one j (by lia) hj,e2]
  exact ew
 ·intro m hm hlt
  show eqU y its[m]=false
  rw[List.size_toArray] at hm
  rw[one m hm (by lia)]
  exact hno m _ hlt (List.getElem?_eq_getElem (by lia))
 ·exact⟨.int (j:Nat),H,I.tok _,⟨_,rfl⟩,q⟩
theorem XD{o e1:Expr}{to te1:TE}{apos cpos:Pos}(ho:PE X o to)(h1:PE X e1 te1)(hbase:attributeBase o "index" X.env (eval o X.env)=eval o X.env:=by rfl)
  (hfew:((backTo cpos (starEach [e1] X.env)).all (λx=>!x.1) && (backToKw cpos (keywordEach [] X.env)).all (λx=>x.1.isSome)
   && decide (([e1]:List Expr).length+([]:List Keyword).length+(if ([]:List Keyword).isEmpty then 0 else 1)<30))=true:=by rfl)
  (hline:(apos.endLine == cpos.line)=true:=by rfl) (hs:starEach [e1] X.env=(false,eval e1 X.env)::starEach [] X.env:=by rfl) (hp:(backTo cpos (starEach [] X.env)).any (·.1)=false:=by rfl) :
  PE X (.Call (.Attribute o "index" apos) [e1] [] cpos) (tBM X.K "list" Xz to (nT te1 uf)) :=
 Br PySem.F.plainAttrs_list PySem.F.slot_list_index PySem.F.type_list_index XC ho (aj h1 ao hs) hbase hfew hline hs hp
theorem XF{a b:List Nat}:eqV (.str (tx b)) (.str (tx a))=decide (a=b):=by
 by_cases h:a=b
 ·subst h
  simp[eqV]
 ·rw[decide_eq_false h]
  have:tx b≠tx a:=λz=>h (qF z).symm
  simp[eqV,this]
class aa6(nms:List (List Nat))(cs:List Nat)(j:outParam Nat):Prop where
 a:nms[j]?=some cs
 n:nms.Nodup
instance acW{j:Nat}[h:Hat H l (.lst (nms.map λcs=>V.str (tx cs)))][a:aa6 nms cs j]:Go (Xz (.ref l) [.str (tx cs)] H Q) (Q (.int (j:Nat)) H):=⟨λk=>⟨l,_,_,j,rfl,rfl,h.e,rfl,List.all_eq_true.mpr (λz hz=>by obtain⟨b,_,rfl⟩:=List.mem_map.mp hz;rfl),⟨.str (tx cs),by rw[List.getElem?_map,a.a];rfl,by simp[eqV]⟩,λi y hi hy=>by
 rw[List.getElem?_map] at hy
 cases e:nms[i]? with
 | none=>rw[e] at hy;cases hy
 | some b =>
  rw[e] at hy
  cases hy
  show eqV (.str (tx b)) (.str (tx cs))=false
  rw[XF,decide_eq_false]
  intro z
  subst z
  obtain⟨h1,e1⟩:=List.getElem?_eq_some_iff.mp a.a
  obtain⟨h2,e2⟩:=List.getElem?_eq_some_iff.mp e
  exact List.pairwise_iff_getElem.mp a.n i j h2 h1 hi (e2.trans e1.symm),k⟩⟩
instance aa7{xs:List V}[h:Hat H p (.tup xs)]:Go (HS K [.ref p] H Q) (∀l H',New H H' l (.lst xs)->Q (.ref l) H'):=⟨λk=>⟨p,xs,rfl,.inr (.of h.e),k⟩⟩
instance acX{xs:List V}[h:Hat H p (.lst xs)]:Go (U5 K [.ref p] H Q) (∀l H',New H H' l (.tup xs)->Q (.ref l) H'):=⟨λk=>⟨p,xs,rfl,.inl ⟨.of h.e,k⟩⟩⟩
end
end L2
namespace L2
open PySem PySem.Spec PyProof.Rows
section
variable{X:Cx}{pins:List (Addr×Obj)}{σ:St}{H:Hp}{s:Shared}{b:Addr}
theorem jk.to{H':Hp}(f:jk X pins H b)(h:H' b=none):jk X pins H' b:=⟨h,f.2⟩
end
theorem aH.rev{H:Hp}{ys:List V}{rows:List (List V)}(h:aH H ys rows):aH H ys.reverse rows.reverse:=by
 refine⟨by rw[List.length_reverse,List.length_reverse,h.1],λj r e=>?_⟩
 have hj:j<rows.length:=by have:=(List.getElem?_eq_some_iff.mp e).1;rwa [List.length_reverse] at this
 rw[List.getElem?_reverse hj] at e
 obtain⟨q,a,b⟩:=h.2 _ _ e
 exact⟨q,by rw[List.getElem?_reverse (by rw[h.1];exact hj),h.1];exact a,b⟩
theorem aH.app{H:Hp}{ys zs:List V}{r1 r2:List (List V)}(h:aH H ys r1)(g:aH H zs r2):aH H (ys++zs) (r1++r2):=by
 refine⟨by rw[List.length_append,List.length_append,h.1,g.1],λj r e=>?_⟩
 by_cases hj:j<r1.length
 ·rw[List.getElem?_append_left hj] at e
  obtain⟨q,a,b⟩:=h.2 _ _ e
  exact⟨q,by rw[List.getElem?_append_left (by rw[h.1];exact hj)];exact a,b⟩
 ·rw[List.getElem?_append_right (by lia)] at e
  obtain⟨q,a,b⟩:=g.2 _ _ e
  exact⟨q,by rw[List.getElem?_append_right (by rw[h.1];lia),h.1];exact a,b⟩
end L2
set_option maxHeartbeats 1000000
namespace L2
open PySem PySem.Spec PyProof.Rows
section
variable{P:List Value->Prop}
theorem el1(h:∀a,P [a]):∀us:List Value,us.length=1->P us
 | [a],_=>h a
theorem el2(h:∀a b,P [a,b]):∀us:List Value,us.length=2->P us
 | [a,b],_=>h a b
theorem el3(h:∀a b c,P [a,b,c]):∀us:List Value,us.length=3->P us
 | [a,b,c],_=>h a b c
theorem el4(h:∀a b c d,P [a,b,c,d]):∀us:List Value,us.length=4->P us
 | [a,b,c,d],_=>h a b c d
theorem el5(h:∀a b c d e,P [a,b,c,d,e]):∀us:List Value,us.length=5->P us
 | [a,b,c,d,e],_=>h a b c d e
end
class ImI(f:Im)(I:List Im):Prop where
 m:f∈I
class SbI(I' I:List Im):Prop where
 s:∀f∈I',f∈I
section
variable{f g:Im}{I I':List Im}
instance afK[h:ImI f I]:ImI f (g::I):=⟨List.mem_cons_of_mem _ h.m⟩
instance afL:ImI f (f::I):=⟨List.mem_cons_self⟩
instance afM:SbI [] I:=⟨λ_ h=>absurd h List.not_mem_nil⟩
instance afN[h:ImI f I][t:SbI I' I]:SbI (f::I') I:=⟨λg hg=>(List.mem_cons.mp hg).elim (λe=>e▸h.m) (t.s g)⟩
end
end L2
set_option maxHeartbeats 4000000
namespace L2
open PySem PySem.Spec PyProof.Rows
def jH(rs:List (List Int)):Nat->Nat
 | 0=>0
 | j+1=>if HT.lexLt (rs.getD (j+1) []) (rs.getD (jH rs j) [])=true then j+1 else jH rs j
theorem tD(rs:List (List Int)):∀j,jH rs j<=j
 | 0=>Nat.le_refl _
 | j+1=>by
  have:=tD rs j
  unfold jH
  split <;> lia
section
variable{X:Cx}
def Cm(h:Heap)(qa:Nat->Addr)(rs:List (List Int)):Prop:=∀i,i<rs.length->∃its:Array Value,IsTup h (qa i) its/\IntsAre its.toList (rs.getD i [])
section
variable{P:Program}{w:World}{A:Around}{R:Result->Shared->Prop}{it:Addr}{fp wr:List Addr}{rs:List (List Int)}{qa:Nat->Addr}{V0:Nat->Value->Prop}{St0:Nat->Heap->Prop}{kw:List (Str×Value)}
theorem KY(W:Walks P w A.in1 it fp wr rs.length V0 St0)(hv:∀i v,V0 i v->v=.ref (qa i))(B:Addr)(hB:B ∉ fp)(hu:A.in1.units<cLine)(nq:∀i,i<rs.length->qa i ∉ wr/\qa i≠B)(left:Nat) :
  ∀(j:Nat) (s:Shared) (c:Nat),j+1+left=rs.length->St0 (j+1) s.heap->Cm s.heap qa rs->s.heap.get? B=some (sY #[.ref (qa (jH rs j)),.ref (qa (jH rs j))] c) ->
  (∀h' tk,(∀b ob,b ∉ wr->b≠B->s.heap.get? b=some ob->h'.get? b=some ob)->R (.ok (.ret (.ref (qa (jH rs (rs.length-1)))))) { s with heap:=h',toks:=tk }) ->
  codeAny (model P w) A (.builtin "min.loop" ⟨[.ref it,.none,.ref B],kw⟩) R s:=by
 have hBw:B ∉ wr:=λz=>hB (W.sub _ z)
 have keep:∀{h h1:Heap},Cm h qa rs->(∀b ob,b ∉ wr->b≠B->h.get? b=some ob->h1.get? b=some ob)->Cm h1 qa rs:=λt k i hi=>by
  obtain⟨its,⟨o,e,r⟩,z⟩:=t i hi
  exact⟨its,⟨o,k _ _ (nq i hi).1 (nq i hi).2 e,r⟩,z⟩
 induction left with
 | zero =>
  intro j s c hj st tt hb k
  have ej:j+1=rs.length:=by lia
  refine codeAny_builtin F.entry_min_loop ?_
  rw[Around.under_plainId F.plain_min_loop _]
  show wpAny _ _ (seqItems? (Value.ref B) >>= _) _ _ _
  refine wpAny_bind (wpAny_seqItems hb rfl ?_)
  show wpAny _ _ (tryCatch (pyNext (Value.ref it)) _ >>= _) _ _ _
  rw[ej] at st
  refine wpAny_bind (wpAny_tryCatch (W.done s _ _ st λh1 tk1 k1=>?_))
  have hb1:=k1 B _ hBw hb
  show wpAny _ _ (updateSeq B _ >>= _) _ _ _
  refine wpAny_bind (wpAny_updateSeq hb1 rfl (wpAny_bind (wpAny_letGo (wpAny_pure ?_))))
  have e2:rs.length-1=j:=by lia
  rw[e2] at k
  exact k _ _ λb ob n1 n2 q=>(Heap.get?_update_other _ _ (λz=>n2 z.symm)).trans (k1 b ob n1 q)
 | succ left ih =>
  intro j s c hj st tt hb k
  have hlt:j+1<rs.length:=by lia
  refine codeAny_builtin F.entry_min_loop ?_
  rw[Around.under_plainId F.plain_min_loop _]
  show wpAny _ _ (seqItems? (Value.ref B) >>= _) _ _ _
  refine wpAny_bind (wpAny_seqItems hb rfl ?_)
  show wpAny _ _ (tryCatch (pyNext (Value.ref it)) _ >>= _) _ _ _
  refine wpAny_bind (wpAny_tryCatch (W.item (j+1) s _ _ hlt st λv h1 tk1 pv st1 k1=>?_))
  obtain rfl:=hv (j+1) v pv
  have hb1:=k1 B _ hBw hb
  have t1:Cm h1 qa rs:=keep tt λb ob n1 _ q=>k1 b ob n1 q
  obtain⟨a1,p1,i1⟩:=t1 (j+1) hlt
  obtain⟨a2,p2,i2⟩:=t1 (jH rs j) (by have:=tD rs j;lia)
  show wpAny _ _ (tryCatch (holding _ (richCompare .Lt _ _ >>= _)) _ >>= _) _ _ _
  refine wpAny_bind (wpAny_tryCatch (wpAny_holding (wpAny_bind (HT.Fy p1 p2 i1 i2 hu ?_))))
  refine wpAny_bind (wpAny_holding (wpAny_truthy_bool ?_))
  refine wpAny_bind (wpAny_letGo (wpAny_pure ?_))
  have hs:(toString "min" ++ toString ".loop" : String) = "min.loop":=by decide
  by_cases hg:HT.lexLt (rs.getD (j+1) []) (rs.getD (jH rs j) [])=true
  ·rw[hg]
   simp only[if_true]
   have e:jH rs (j+1)=j+1:=by show (if _ then _ else _)=_;rw[if_pos hg]
   refine wpAny_bind (wpAny_updateSeq hb1 rfl (wpAny_bind (wpAny_letGo ?_)))
   rw[hs]
   refine wpAny_pure ⟨plainId_quiet F.plain_min_loop _,ih (j+1) _ _ (by lia) (W.frame _ _ _ st1 λb hbf ob q=>?_) (keep t1 λb ob _ n2 q=>(Heap.get?_update_other _ _ (λz=>n2 z.symm)).trans q) (by rw[e];exact Heap.get?_update_self _ hb1 rfl) λh2 tk2 k2=>?_⟩
   ·exact(Heap.get?_update_other _ _ (λz=>hB (by rw[z];exact hbf))).trans q
   ·exact k h2 tk2 λb ob n1 n2 q=>k2 b ob n1 n2 ((Heap.get?_update_other _ _ (λz=>n2 z.symm)).trans (k1 b ob n1 q))
  ·have hg:HT.lexLt (rs.getD (j+1) []) (rs.getD (jH rs j) [])=false:=by simpa using hg
   rw[hg]
   simp only[Bool.false_eq_true,if_false]
   have e:jH rs (j+1)=jH rs j:=by show (if _ then _ else _)=_;rw[hg];rfl
   refine wpAny_bind (wpAny_letGo ?_)
   rw[hs]
   refine wpAny_pure ⟨plainId_quiet F.plain_min_loop _,ih (j+1) _ c (by lia) st1 t1 (by rw[e];exact hb1) λh2 tk2 k2=>k h2 tk2 λb ob n1 n2 q=>k2 b ob n1 n2 (k1 b ob n1 q)⟩
theorem O4(W:Walks P w A.in1 it fp wr rs.length V0 St0)(hv:∀i v,V0 i v->v=.ref (qa i))(B:Addr)(hB:B ∉ fp)(hu:A.in1.units<cLine)(nq:∀i,i<rs.length->qa i ∉ wr/\qa i≠B){s:Shared}{c:Nat}(st:St0 0 s.heap)(tt:Cm s.heap qa rs)
  (hkw:kw=[(("default" : Str),Value.none)]) (hb:s.heap.get? B=some (sY #[] c))
  (k:∀h' tk,(∀b ob,b ∉ wr->b≠B->s.heap.get? b=some ob->h'.get? b=some ob)->R (.ok (.ret (if rs=[] then .none else .ref (qa (jH rs (rs.length-1)))))) { s with heap:=h',toks:=tk }) :
  codeAny (model P w) A (.builtin "min.loop" ⟨[.ref it,.none,.ref B],kw⟩) R s:=by
 have hBw:B ∉ wr:=λz=>hB (W.sub _ z)
 have hs:(toString "min" ++ toString ".loop" : String) = "min.loop":=by decide
 refine codeAny_builtin F.entry_min_loop ?_
 rw[Around.under_plainId F.plain_min_loop _]
 show wpAny _ _ (seqItems? (Value.ref B) >>= _) _ _ _
 refine wpAny_bind (wpAny_seqItems hb rfl ?_)
 show wpAny _ _ (tryCatch (pyNext (Value.ref it)) _ >>= _) _ _ _
 by_cases hn:rs=[]
 ·subst hn
  rw[hkw]
  refine wpAny_bind (wpAny_tryCatch (W.done s _ _ st λh1 tk1 k1=>?_))
  refine wpAny_bind (wpAny_rule ?_)
  exact wpAny_pure (k h1 tk1 λb ob n1 _ q=>k1 b ob n1 q)
 ·have hlt:0<rs.length:=List.length_pos_iff.mpr hn
  refine wpAny_bind (wpAny_tryCatch (W.item 0 s _ _ hlt st λv h1 tk1 pv st1 k1=>?_))
  obtain rfl:=hv 0 v pv
  have hb1:=k1 B _ hBw hb
  show wpAny _ _ (updateSeq B _ >>= _) _ _ _
  refine wpAny_bind (wpAny_updateSeq hb1 rfl ?_)
  rw[hs]
  rw[if_neg hn] at k
  refine wpAny_pure ⟨plainId_quiet F.plain_min_loop _,KY (qa:=qa) W hv B hB hu nq (rs.length-1) 0 _ _ (by lia) (W.frame _ _ _ st1 λb hbf ob q=>?_) (λi hi=>?_) (Heap.get?_update_self _ hb1 rfl) λh2 tk2 k2=>?_⟩
  ·exact(Heap.get?_update_other _ _ (λz=>hB (by rw[z];exact hbf))).trans q
  ·obtain⟨its,⟨o,e,r⟩,z⟩:=tt i hi
   exact⟨its,⟨o,(Heap.get?_update_other _ _ (λz=>(nq i hi).2 z.symm)).trans (k1 _ _ (nq i hi).1 e),r⟩,z⟩
  ·exact k h2 tk2 λb ob n1 n2 q=>k2 b ob n1 n2 ((Heap.get?_update_other _ _ (λz=>n2 z.symm)).trans (k1 b ob n1 q))
end
def aa8:List V->V->Hp->VK->Prop:=λxs y H Q=>∃(p:Addr) (ys:List V) (rs:List (List Int)),xs=[.ref p]/\y=.non/\H p=some (.lst ys)/\aH H ys (rs.map λr=>r.map V.int)/\(rs=[]->Q .non H)/\(rs≠[]->∀q,ys[jH rs (rs.length-1)]?=some (.ref q)->Q (.ref q) H)
theorem KZ{k:Nat}(hc:X.calm=true)(hr:Room k X.A):N8 X "min" "default" aa8:=by
 intro pins s σ H xs us y u Q I r ry h
 obtain⟨p,ys,rs,rfl,rfl,hq,tp,q0,q1⟩:=h
 obtain⟨v,rfl,rx⟩:=vals1 r
 cases rx
 cases ry
 obtain⟨its,rv,pl,_⟩:=I.list (SqL.of hq)
 have yl:ys.length=rs.length:=by rw[tp.1,List.length_map]
 have hn:its.length=rs.length:=rv.length.symm.trans yl
 have hl:=pl.isList
 have hlt:p<s.heap.objs.size:=let ⟨_,e,_⟩:=hl;Heap.lt_size e
 have hs:(toString "min" ++ toString ".loop" : String) = "min.loop":=by decide
 let qa:Nat->Addr:=λi=>match ys[i]? with|some (.ref q)=>q|_=>0
 have qaI:∀i,i<rs.length->ys[i]?=some (.ref (qa i))/\∃its:Array Value,IsTup s.heap (qa i) its/\IntsAre its.toList (rs.getD i []):=λi hi=>by
  obtain⟨q,e1,e2⟩:=tp.2 i _ (show (rs.map λr=>r.map V.int)[i]?=some (rs[i].map V.int) by rw[List.getElem?_map,List.getElem?_eq_getElem hi];rfl)
  have eq:qa i=q:=by show (match ys[i]? with|some (.ref q)=>q|_=>0)=q;rw[e1]
  rw[eq]
  obtain⟨its,rr,pp,_⟩:=I.tuple (SqT.of e2)
  refine⟨e1,its.toArray,pp,?_⟩
  rw[List.getD_eq_getElem?_getD,List.getElem?_eq_getElem hi]
  exact intsAre_of rr
 refine oG F.kind_min F.plain_min F.entry_min (KQ _ _) ?_
 show wpAny _ _ (Builtin.Builtins.bindParams "min" ["key","default"] 0 ⟨[],[(("default" : Str),Value.none)]⟩ >>= _) _ _ s
 refine wpAny_bind (wpAny_of_eq (show Builtin.Builtins.bindParams "min" ["key","default"] 0 ⟨[],[(("default" : Str),Value.none)]⟩=pure [none,some .none] from rfl) ?_)
 refine wpAny_bind (wpAny_pure ?_)
 refine wpAny_bind (wpAny_pyIter_list hl ?_)
 refine wpAny_bind (wpAny_newObj_type ?_)
 rw[hs]
 have W:=Walks.list (prog:=X.prog) (w:=X.w) (A:=X.A.in1) (I.ok.hd hc) s.heap.objs.size p (Nat.ne_of_lt hlt) its.toArray
 rw[show its.toArray.size=rs.length by rw[List.size_toArray];exact hn] at W
 refine wpAny_pure ⟨plainId_quiet F.plain_min_loop _,O4 (qa:=qa) W (λi v hP=>?_) _ (λz=>?_) ?_ (λi hi=>?_) (W.frame _ _ _ ⟨⟨_,Heap.get?_push_size _ rfl,rfl,rfl⟩,hl.push _⟩ λb _ ob e=>Heap.get?_push_of_some _ e) (λi hi=>?_) rfl (Heap.get?_push_size _ rfl) λh' tk hk=>?_⟩
 ·have hP:its[i]?=some v:=by simpa using hP
  have hi:i<rs.length:=by rw[<- hn];exact(List.getElem?_eq_some_iff.mp hP).1
  obtain⟨u,e1,e2⟩:=rv.get (qaI i hi).1
  rw[hP] at e1
  cases e1
  exact e2
 ·rcases List.mem_cons.mp z with z|z
  ·exact absurd z (by rw[size_push'];exact Nat.succ_ne_self _)
  ·exact absurd (List.mem_singleton.mp z) (by rw[size_push'];exact Nat.ne_of_gt (Nat.lt_succ_of_lt hlt))
 ·have:=hr.un
  show X.A.units+1<cLine
  lia
 ·obtain⟨_,its2,⟨o,e,_⟩,_⟩:=qaI i hi
  have hb:=Heap.lt_size e
  exact⟨λz=>absurd (List.mem_singleton.mp z) (Nat.ne_of_lt hb),by rw[size_push'];exact Nat.ne_of_lt (Nat.lt_succ_of_lt hb)⟩
 ·obtain⟨_,its2,⟨o,e,r⟩,z⟩:=qaI i hi
  exact⟨its2,⟨o,Heap.get?_push_of_some _ (Heap.get?_push_of_some _ e),r⟩,z⟩
 ·have kp:∀b ob,s.heap.get? b=some ob->h'.get? b=some ob:=λb ob q=>by
   have hb:b<s.heap.objs.size:=Heap.lt_size q
   exact hk b ob (λz=>absurd (List.mem_singleton.mp z) (Nat.ne_of_lt hb)) (by rw[size_push'];exact Nat.ne_of_lt (Nat.lt_succ_of_lt hb)) (Heap.get?_push_of_some _ (Heap.get?_push_of_some _ q))
  by_cases h0:rs=[]
  ·rw[if_pos h0]
   exact⟨.non,H,I.kept kp,rfl,q0 h0⟩
  ·rw[if_neg h0]
   have hl2:jH rs (rs.length-1)<rs.length:=by have:=tD rs (rs.length-1);have:=List.length_pos_iff.mpr h0;lia
   exact⟨.ref _,H,I.kept kp,rfl,q1 h0 _ (qaI _ hl2).1⟩
end
end L2
namespace L2
open PySem PySem.Spec PyProof.Rows PySem.SeqAt
theorem O5{l b:Addr}{es:Array DictEntry}{n n2:Nat}{dd dd2:Option Addr}{sl sl2:Array (Option Value)}{its:Array Value} :
  Meets (Builtin.«dict.__ne__» ⟨[.ref l,.ref b],[]⟩) (λ_ R s=>s.heap.get? l=some ⟨.type "dict", dd,.dict es n,sl⟩/\s.heap.get? b=some ⟨.type "list", dd2,.seq its n2,sl2⟩/\R (.ok (.ret .notImplemented)) s):=by
 refine .of_wp λprog w A R s h=>?_
 obtain⟨hp,g,d,tk,os⟩:=s
 obtain⟨hl,hb,h⟩:=h
 have f1:=F.sub_list_dict
 wp_walk using wpAny_loadPart' hl,wpAny_loadPart' hb
 exact⟨_,rfl,h⟩
theorem O6{l b:Addr}{es:Array DictEntry}{n n2:Nat}{dd dd2:Option Addr}{sl sl2:Array (Option Value)}{its:Array Value} :
  Meets (Builtin.«list.__ne__» ⟨[.ref b,.ref l],[]⟩) (λ_ R s=>s.heap.get? l=some ⟨.type "dict", dd,.dict es n,sl⟩/\s.heap.get? b=some ⟨.type "list", dd2,.seq its n2,sl2⟩/\R (.ok (.ret .notImplemented)) s):=by
 refine .of_wp λprog w A R s h=>?_
 obtain⟨hp,g,d,tk,os⟩:=s
 obtain⟨hl,hb,h⟩:=h
 have f1:=F.sub_dict_list
 wp_walk using wpAny_loadPart' hl,wpAny_loadPart' hb
 exact⟨_,rfl,h⟩
def Vd(K:W.Frag):R2:=λx y H Q=>R9 K x y H Q\/∃p q xs,x=.ref p/\H p=some (.dK [])/\y=.ref q/\SqL K H q xs/\Q (.bl true) H
theorem Tz{X:Cx}{K:W.Frag}{k:Nat}(hK:X.K=K)(hr:Room k X.A):OpR X (compareOp .NotEq) (Vd K):=by
 subst hK
 intro pins s σ H x y v u Q I rx ry h
 have hu:X.A.units<cLine:=by have:=hr.un;lia
 rcases h with h|⟨p,q,xs,rfl,hp,rfl,hq,k2⟩
 ·exact uE hr pins s σ H x y v u Q I rx ry h
 ·cases rx
  cases ry
  obtain⟨_,hs,vs,kv,dof⟩:=UW I.hok hp
  obtain⟨o,es,ep,ho,hx,hd,hk,hp',hnd⟩:=dof
  obtain⟨cls,dd,data,sl⟩:=o
  obtain rfl:cls=.type "dict":=hx.1
  obtain rfl:data=.dict es ep:=hd
  obtain⟨us,ru,pu,_⟩:=I.list hq
  obtain⟨⟨cls2,dd2,data2,sl2⟩,ho2,hc2,n2,hd2⟩:=id pu.isList
  obtain rfl:cls2=.type "list":=hc2
  obtain rfl:data2=.seq us.toArray n2:=hd2
  have ne:p≠q:=λz=>by
   subst z
   rw[ho] at ho2
   exact absurd (Value.type.inj (congrArg Obj.cls (Option.some.inj ho2))) (by decide)
  exact rc_ne_decline_or (k:=false) ⟨_,ho,rfl⟩ ⟨_,ho2,rfl⟩ (by decide) F.sub_list_dict F.slot_dict_ne F.slot_list_ne_refl
   (λ_ hq=>call_meets F.slot_dict_ne ⟨_,ho,rfl⟩ F.entry_dict_ne (F.args_dict_ne_2 _ _) O5 ⟨ho,ho2,hq⟩)
   (λ_ hq=>call_meets F.slot_list_ne_refl ⟨_,ho2,rfl⟩ F.entry_list_ne (F.args_list_ne_2 _ _) O6 ⟨ho,ho2,hq⟩)
   (λ_ hq=>wpAny_isSame_ref_other ne ho ho2 (by simp) hq) (.inr hu) ⟨.bl _,H,I,rfl,k2⟩
instance aa9{K:W.Frag}{H:Hp}{Q:VK}{p q:Addr}{xs:List V}[h:Hat H p (.dK [])][h2:Hat H q (.lst xs)]:Go (Vd K (.ref p) (.ref q) H Q) (Q (.bl true) H):=⟨λk=>.inr ⟨p,q,xs,rfl,h.e,rfl,SqL.of h2.e,k⟩⟩
def Ve(i j l:Nat)(ta:TA):TS:=λD σ H=>ta σ H λvs H1=>∃v w z,vs=[v,w,z]/\D.nx (((σ.set i (some v)).set j (some w)).set l (some z)) H1
theorem TF{X:Cx}{pos:Pos}{i j l:Nat}{x y z:Str}{a b c:Expr}{ta:TA}{px py pz pt:Pos}{kt k2 pt2}(hc:X.calm=true)(hN:X.N.Nodup)(hi:X.N[i]?=some x)(hj:X.N[j]?=some y)(hl:X.N[l]?=some z)(hij:i≠j)(hil:i≠l)(hjl:j≠l)
  (hx:X.env.scope.names.lookup x=some .local) (hy:X.env.scope.names.lookup y=some .local) (hz:X.env.scope.names.lookup z=some .local) (ha:PA X [a,b,c] ta)
  (hw:swappedStores [.Tuple [.Name x px,.Name y py,.Name z pz] kt pt] (.Tuple [a,b,c] k2 pt2) X.env=pure (some [x,y,z]))
  (hs:swapsWithSole [.Tuple [.Name x px,.Name y py,.Name z pz] kt pt] (.Tuple [a,b,c] k2 pt2) pos.line X.env=pure false:=by rfl) :
  PS X (.Assign [.Tuple [.Name x px,.Name y py,.Name z pz] kt pt] (.Tuple [a,b,c] k2 pt2) pos) (Ve i j l ta):=by
 intro pins s σ H D I h
 rw[exec_Assign_arm]
 refine wpAny_bind (wpAny_standAt ?_)
 rw[hs]
 refine wpAny_bind (wpAny_pure ?_)
 rw[if_neg (by decide)]
 refine wpAny_bind (Tuple_ (thn (ha _ pins s σ H _ I h) λus s1 ⟨vs,H1,I1,r1,q1⟩=>?_))
 obtain⟨v,w,t,e1,q1⟩:=q1
 subst e1
 obtain⟨u1,u2,u3,rfl,rv,rw',rz⟩:∃u1 u2 u3,us=[u1,u2,u3]/\RelV v u1/\RelV w u2/\RelV t u3:=by
  cases r1 with
  | cons p q =>
   cases q with
   | cons p' q' =>
    cases q' with
    | cons p2 q2 =>
     cases q2
     exact⟨_,_,_,rfl,p,p',p2⟩
 refine wpAny_newObj_type ?_ (by show 3<=sizeLine;decide)
 have I2:Inv X pins σ H1 { s1 with heap:=s1.heap.push { cls:=.type "tuple", data:=.seq [u1,u2,u3].toArray } }:=I1.kept (t':=s1.toks) λb o e=>Heap.get?_push_of_some _ e
 rw[hw]
 refine wpAny_bind (wpAny_pure ?_)
 show wpAny (model X.prog X.w) X.A (do rule "assign.swapped-stores"; let items <- unpackItems (.ref s1.heap.objs.size) 3 none;assignInOrder [λv=>bindName X.env z v,λv=>bindName X.env y v,λv=>bindName X.env x v] items.reverse;pure Flow.next) _ _ _
 refine wpAny_bind (wpAny_rule (wpAny_bind (unpackItems_tuple (items:=#[u1,u2,u3]) (I.ok.hd hc) (IsTup.new s1.heap _) λh' hx'=>?_)))
 have I3:=I2.kept (h':=h') (t':=s1.toks) λb o e=>hx' b o (Nat.ne_of_lt (Heap.lt_size e)) e
 show wpAny _ _ (assignInOrder [λv=>bindName X.env z v,λv=>bindName X.env y v,λv=>bindName X.env x v] [u3,u2,u1] >>= λ_=>pure Flow.next) _ _ _
 refine wpAny_bind (assignInOrder_cons (wpAny_bindName (jX I3 hN hl (.inl hz) rz (λs2 I4=>?_) (.inr hz))))
 refine assignInOrder_cons (wpAny_bindName (jX I4 hN hj (.inl hy) rw' (λs3 I5=>?_) (.inr hy)))
 refine assignInOrder_cons (wpAny_bindName (jX I5 hN hi (.inl hx) rv (λs4 I6=>assignInOrder_nil (wpAny_pure ?_)) (.inr hx)))
 rw[List.set_comm _ _ (Ne.symm hij),List.set_comm _ _ (Ne.symm hil),List.set_comm _ _ (Ne.symm hjl)] at I6
 exact⟨_,H1,by first|exact I6|(rw[List.set_comm _ _ hjl] ; exact I6),q1⟩
instance acY{i j l:Nat}{ta:TA}{D:Ends}{σ:St}{H:Hp}:Go (Ve i j l ta D σ H) (ta σ H λvs H1=>∃v w z,vs=[v,w,z]/\D.nx (((σ.set i (some v)).set j (some w)).set l (some z)) H1):=⟨id⟩
instance aa_{i j l:Nat}{D:Ends}{σ:St}{H:Hp}{v w z:V}:Go (∃v' w' z',[v,w,z]=[v',w',z']/\D.nx (((σ.set i (some v')).set j (some w')).set l (some z')) H) (D.nx (((σ.set i (some v)).set j (some w)).set l (some z)) H):=⟨λk=>⟨v,w,z,rfl,k⟩⟩
def Ih(K:W.Frag):R2:=λx y H Q=>∃a b xs ys,x=.ref a/\y=.ref b/\SqT K H a xs/\SqT K H b ys/\xs.length+ys.length<=sizeLine/\(xs=[]->Q (.ref b) H)/\(xs≠[]->ys=[]->Q (.ref a) H)/\(xs≠[]->ys≠[]->∀p H',New H H' p (.tup (xs++ys))->Q (.ref p) H')
theorem zV{X:Cx}:OpR X (binaryOp .Add) (Ih X.K):=by
 intro pins s σ H x y v u Q I rx ry h
 obtain⟨a,b,xs,ys,rfl,rfl,ha,hb,hz,k0,k1,k2⟩:=h
 cases rx
 cases ry
 obtain⟨us,ru,pu,_⟩:=I.tuple ha
 obtain⟨ws,rw_,pw,_⟩:=I.tuple hb
 obtain⟨⟨cls,dd,data,sl⟩,ho,hc,n,hd⟩:=id pu
 obtain⟨⟨cls2,dd2,data2,sl2⟩,ho2,hc2,n2,hd2⟩:=id pw
 simp only at hc hd hc2 hd2
 subst hc hd hc2 hd2
 have lu:=ru.length
 have lw:=rw_.length
 have nil:∀{l:List V} {m:List Value},l.length=m.length->(m=[] ↔ l=[]):=λ{l m} e=>by cases l <;> cases m <;> simp_all
 by_cases hv:us=[]
 ·exact concat_meets ⟨_,ho,rfl⟩ ⟨_,ho2,rfl⟩ noFill_tuple_add seq_tuple_add PySem.F.slot_tuple_add PySem.F.entry_tuple_add (PySem.F.args_tuple_add_2 _ _)
   (tuple_addW0 a b us.toArray ws.toArray n n2 dd dd2 sl sl2 (by simp[hv])) ⟨ho,ho2,.ref b,H,I,rfl,k0 ((nil lu).mp hv)⟩
 ·by_cases hw:ws=[]
  ·exact concat_meets ⟨_,ho,rfl⟩ ⟨_,ho2,rfl⟩ noFill_tuple_add seq_tuple_add PySem.F.slot_tuple_add PySem.F.entry_tuple_add (PySem.F.args_tuple_add_2 _ _)
    (tuple_addW1 a b us.toArray ws.toArray n n2 dd dd2 sl sl2 (by simpa using hv) (by simp[hw])) ⟨ho,ho2,.ref a,H,I,rfl,k1 (λz=>hv ((nil lu).mpr z)) ((nil lw).mp hw)⟩
  ·refine concat_meets ⟨_,ho,rfl⟩ ⟨_,ho2,rfl⟩ noFill_tuple_add seq_tuple_add PySem.F.slot_tuple_add PySem.F.entry_tuple_add (PySem.F.args_tuple_add_2 _ _)
    (tuple_addW2 a b us.toArray ws.toArray n n2 dd dd2 sl sl2 (by simpa using hv) (by simpa using hw) (by rw[List.size_toArray,List.size_toArray,<- lu,<- lw];exact hz)) ⟨ho,ho2,?_⟩
   have hf:H s.heap.objs.size=none:=I.hok.fresh (Nat.le_refl _)
   refine⟨.ref s.heap.objs.size,upd H s.heap.objs.size (.tup (xs++ys)),I.laid (t':=s.toks) (λb u e=>Heap.get?_push_of_some _ e) (Nat.le_refl _) ?_,rfl,k2 (λz=>hv ((nil lu).mpr z)) (λz=>hw ((nil lw).mpr z)) _ _ (.mk' hf)⟩
   exact⟨by rw[List.length_append];exact hz,us++ws,ru.append rw_,⟨_,Heap.get?_push_size _ rfl,rfl,0,by simp⟩⟩
class NwU(xs:List V)(lo hi:Option Int):Prop where
 e:¬ (HT.sIx xs.length 0 lo=0/\HT.sIx xs.length xs.length hi=xs.length)
section
variable{K:W.Frag}{H:Hp}{Q:VK}{l b:Addr}{x y:V}{xs ys:List V}{lo hi:Option Int}
instance abb[h:Hat H l (.tup [])][h2:Hat H b (.tup ys)]:Go (Ih K (.ref l) (.ref b) H Q) (Sd (ys.length<=1000) (Q (.ref b) H)):=⟨λk=>⟨l,b,[],ys,rfl,rfl,SqT.of h.e,SqT.of h2.e,cI (by have:=k.1;simp;lia),λ_=>k.2,λz=>absurd rfl z,λz=>absurd rfl z⟩⟩
instance abd[h:Hat H l (.tup (x::xs))][h2:Hat H b (.tup [])]:Go (Ih K (.ref l) (.ref b) H Q) (Sd ((x::xs).length<=1000) (Q (.ref l) H)):=⟨λk=>⟨l,b,x::xs,[],rfl,rfl,SqT.of h.e,SqT.of h2.e,cI (by have:=k.1;simp at this ⊢;lia),λz=>absurd z (List.cons_ne_nil _ _),λ_ _=>k.2,λ_ z=>absurd rfl z⟩⟩
instance abe[h:Hat H l (.tup (x::xs))][h2:Hat H b (.tup (y::ys))]:Go (Ih K (.ref l) (.ref b) H Q) (Sd ((x::xs).length+(y::ys).length<=1000) (∀p H',New H H' p (.tup (x::xs++y::ys))->Q (.ref p) H')):=⟨λk=>⟨l,b,x::xs,y::ys,rfl,rfl,SqT.of h.e,SqT.of h2.e,cI (by have:=k.1;lia),λz=>absurd z (List.cons_ne_nil _ _),λ_ z=>absurd z (List.cons_ne_nil _ _),λ_ _=>k.2⟩⟩
instance (priority:=low) acZ [h:Hat H l (.tup xs)] [e:NwU xs lo hi] [c:Ce xs lo hi ys]:Go (Zj K (.ref l) lo hi H Q) (∀p H',New H H' p (.tup ys)->Q (.ref p) H'):=⟨λk=>⟨l,xs,rfl,SqT.of h.e,e.e,λp e=>by rw[c.e];exact k p _ (New.mk' e)⟩⟩
end
end L2
namespace M22
end M22
namespace M82
open L2
structure OkA(e n:Nat)(rs:List Rw):Prop where
 asc:rs.Pairwise λr s=>r.st+r.sz<=s.st
 bd:∀r∈rs,e<=r.st/\1<=r.sz/\r.st+r.sz<=n
theorem OkA.tail{e n:Nat}{r:Rw}{rs:List Rw}(h:OkA e n (r::rs)):OkA (r.st+r.sz) n rs :=
 ⟨(List.pairwise_cons.mp h.asc).2,λs hs=>⟨(List.pairwise_cons.mp h.asc).1 s hs,(h.bd s (.tail _ hs)).2⟩⟩
theorem OkA.hd{e n:Nat}{r:Rw}{rs:List Rw}(h:OkA e n (r::rs)):e<=r.st/\1<=r.sz/\r.st+r.sz<=n:=h.bd r (.head _)
theorem OkA.cons{e n:Nat}{r:Rw}{rs:List Rw}(h:e<=r.st/\1<=r.sz/\r.st+r.sz<=n)(t:OkA (r.st+r.sz) n rs):OkA e n (r::rs) :=
 ⟨List.pairwise_cons.mpr ⟨λs hs=>(t.bd s hs).1,t.asc⟩,λs hs=>by
  rcases List.mem_cons.mp hs with rfl|hs
  ·exact h
  ·have:=t.bd s hs
   lia⟩
theorem OkA.nil{e n:Nat}:OkA e n []:=⟨.nil,λ_ h=>by cases h⟩
def wN(r:Rw)(s:Nat):Rw:=⟨r.nm,s,r.sz,r.pn⟩
abbrev Mv:=Nat×List Nat×Nat
def Cp(T:List Rw):Nat->Nat
 | 0=>0
 | j+1=>match T[j]? with
  | some r=>r.st+r.sz
  | none=>0
def j9(n:Nat)(T:List Rw)(k:Nat):Nat:=match T[k+1]? with
 | some r=>r.st
 | none=>n
def mvT(T:List Rw)(k to:Nat):List Rw:=T.modify k λr=>wN r to
def WOk(n:Nat):List Rw->List Mv->Prop
 | _,[]=>True
 | T,m::ms=>(∃r,T[m.1]?=some r/\r.nm=m.2.1/\r.pn=0/\Cp T m.1<=m.2.2/\m.2.2+r.sz<=j9 n T m.1)/\WOk n (mvT T m.1 m.2.2) ms
def iK(T:List Rw)(ms:List Mv):List Rw:=ms.foldl (λT m=>mvT T m.1 m.2.2) T
def wPr(T:List Rw)(m:Mv):Nat:=match T[m.1]? with
 | some r=>if m.2.2=r.st then 0 else r.sz
 | none=>0
def iM:List Rw->List Mv->Nat
 | _,[]=>0
 | T,m::ms=>wPr T m+iM (mvT T m.1 m.2.2) ms
theorem zW(P:List Rw)(r:Rw)(Q:List Rw)(to:Nat):mvT (P++r::Q) P.length to=P++wN r to::Q:=by
 unfold mvT
 induction P with
 | nil=>rfl
 | cons p P ih=>simp only[List.cons_append,List.length_cons,List.modify_succ_cons,ih]
theorem zX(P:List Rw)(r:Rw)(Q:List Rw):(P++r::Q)[P.length]?=some r:=by rw[List.getElem?_append_right (Nat.le_refl _),Nat.sub_self];rfl
theorem uN(n:Nat)(P:List Rw)(r:Rw)(Q:List Rw):j9 n (P++r::Q) P.length=match Q with|[]=>n|s::_=>s.st:=by
 unfold j9
 rw[List.getElem?_append_right (by lia),show P.length+1-P.length=1 by lia]
 cases Q <;> rfl
def O7:List Rw->Nat
 | []=>0
 | r::rs=>match rs with
  | []=>r.st+r.sz
  | _=>O7 rs
theorem jw(P:List Rw)(r:Rw):O7 (P++[r])=r.st+r.sz:=by
 induction P with
 | nil=>rfl
 | cons p P ih =>
  cases P with
  | nil=>rfl
  | cons q P=>exact ih
theorem zY(P:List Rw)(r:Rw)(Q:List Rw):Cp (P++r::Q) P.length=O7 P:=by
 rcases List.eq_nil_or_concat P with rfl|⟨P,p,rfl⟩
 ·rfl
 ·rw[List.concat_eq_append,jw]
  have:(P++[p]++r::Q)[P.length]?=some p:=by rw[List.append_assoc];exact zX P p _
  rw[show (P++[p]).length=P.length+1 by simp]
  simp only[Cp,this]
structure OkD(b:Nat)(rs:List Rw):Prop where
 asc:rs.Pairwise λr s=>s.st+s.sz<=r.st
 bd:∀r∈rs,1<=r.sz/\r.st+r.sz<=b
theorem OkA.rev{e n:Nat}{rs:List Rw}(h:OkA e n rs):OkD n rs.reverse:=⟨List.pairwise_reverse.mpr h.asc,λr hr=>(h.bd r (List.mem_reverse.mp hr)).2⟩
theorem OkD.tail{b:Nat}{r:Rw}{rs:List Rw}(h:OkD b (r::rs)):OkD r.st rs :=
 ⟨(List.pairwise_cons.mp h.asc).2,λs hs=>⟨(h.bd s (.tail _ hs)).1,(List.pairwise_cons.mp h.asc).1 s hs⟩⟩
def iu(n:Nat):List Rw->Nat
 | []=>n
 | r::_=>r.st
def iQ(n:Nat):Int->Int->List Rw->List (Int×Int×Int)
 | f,u,[]=>[(f,(n:Int),(n:Int)-f-u)]
 | f,u,r::rs=>if 0<r.pn then (f,(r.st:Int),(r.st:Int)-f-u)::iQ n ((r.st:Int)+(r.sz:Int)) 0 rs else iQ n f (u+(r.sz:Int)) rs
end M82
namespace M87
open L2 M82
abbrev Sp2:=Rw×Int
def mv(ss:List Sp2):List Sp2:=ss.filter λs=>decide (s.2≠(s.1.st:Int))
structure XH(p:Nat->Int)(m g:Nat):Prop where
 le:g<=m
 b:∀j,j<=m->p g<=p j/\(j<g->p g<p j)
theorem XH.one{p:Nat->Int}{m g h:Nat}(a:XH p m g)(b:XH p m h):g=h:=by
 rcases Nat.lt_trichotomy g h with q|q|q
 ·have:=(b.b g a.le).2 q
  have:=(a.b h b.le).1
  lia
 ·exact q
 ·have:=(a.b h b.le).2 q
  have:=(b.b g a.le).1
  lia
def ChS(b:Int):Int->List Sp2->Prop
 | e,[]=>e<=b
 | e,s::ss=>e<=s.2/\ChS b (s.2+(s.1.sz:Int)) ss
theorem ChS.mono{b:Int}:∀{ss:List Sp2} {e e':Int},ChS b e ss->e'<=e->ChS b e' ss
 | [],_,_,h,l=>Int.le_trans l h
 | _::_,_,_,h,l=>⟨Int.le_trans l h.1,h.2⟩
theorem ChS.app{b c:Int}{ys:List Sp2}:∀{xs:List Sp2} {e:Int},ChS c e xs->ChS b c ys->ChS b e (xs++ys)
 | [],_,h,g=>g.mono h
 | _::_,_,h,g=>⟨h.1,ChS.app h.2 g⟩
def mid(s:Sp2):Rw:=if s.2<(s.1.st:Int) then wN s.1 s.2.toNat else s.1
def tgt(s:Sp2):Rw:=wN s.1 s.2.toNat
def lm:Nat->List Sp2->List Mv
 | _,[]=>[]
 | k,s::ss=>if s.2<(s.1.st:Int) then (k,s.1.nm,s.2.toNat)::lm (k+1) ss else lm (k+1) ss
def rm:List Sp2->List Mv
 | []=>[]
 | s::ss=>if (s.1.st:Int)<s.2 then (ss.length,s.1.nm,s.2.toNat)::rm ss else rm ss
theorem Ii{n:Nat}:∀{a:List Mv} {b:List Mv} {T:List Rw},WOk n T a->WOk n (iK T a) b->WOk n T (a++b)
 | [],_,_,_,g=>g
 | _::_,_,_,h,g=>⟨h.1,Ii h.2 g⟩
theorem Ij:∀(a b:List Mv) (T:List Rw),iM T (a++b)=iM T a+iM (iK T a) b
 | [],_,_=>by show _=0+_;rw[Nat.zero_add];rfl
 | m::a,b,T=>by
  show wPr T m+iM (mvT T m.1 m.2.2) (a++b)=wPr T m+iM (mvT T m.1 m.2.2) a+_
  rw[Ij a b,Nat.add_assoc]
  rfl
def ml(ss:List Sp2):List Sp2:=ss.filter λs=>decide (s.2<(s.1.st:Int))
def mr(ss:List Sp2):List Sp2:=ss.filter λs=>decide ((s.1.st:Int)<s.2)
def szN(ss:List Sp2):Nat:=(ss.map λs=>s.1.sz).sum
theorem TJ{n:Nat}(L:List Sp2):∀(P:List Rw) (e:Int),(O7 P:Int)<=e->ChS n e L->OkA 0 n (L.map (·.1))->(∀s∈L,0<s.1.pn->s.2=(s.1.st:Int)) ->
  WOk n (P++L.map (·.1)) (lm P.length L)/\iK (P++L.map (·.1)) (lm P.length L)=P++L.map mid/\iM (P++L.map (·.1)) (lm P.length L)=szN (ml L):=by
 induction L with
 | nil=>intro P e _ _ _ _;exact⟨trivial,rfl,rfl⟩
 | cons s L ih =>
  intro P e he ch ok pin
  have h1:0<=s.1.st/\1<=s.1.sz/\s.1.st+s.1.sz<=n:=ok.hd
  have h2:OkA (s.1.st+s.1.sz) n (L.map (·.1)):=ok.tail
  have hl:(P++[mid s]).length=P.length+1:=by simp
  by_cases q:s.2<(s.1.st:Int)
  ·have hm:mid s=wN s.1 s.2.toNat:=if_pos q
   have he2:0<=e:=by lia
   have h0:=ch.1
   have i:=ih (P++[mid s]) (s.2+(s.1.sz:Int)) (by rw[jw,hm];show (((s.2.toNat+s.1.sz:Nat)):Int)<=_;lia) ch.2 ⟨h2.asc,λr hr=>⟨Nat.zero_le _,(h2.bd r hr).2⟩⟩ (λs hs=>pin s (.tail _ hs))
   rw[hl,List.append_assoc,List.append_assoc,List.singleton_append,List.singleton_append] at i
   rw[show lm P.length (s::L)=(P.length,s.1.nm,s.2.toNat)::lm (P.length+1) L by rw[lm,if_pos q],List.map_cons,List.map_cons]
   have hmv:mvT (P++s.1::L.map (·.1)) P.length s.2.toNat=P++mid s::L.map (·.1):=by rw[zW,hm]
   refine⟨⟨⟨s.1,zX _ _ _,rfl,?_,?_,?_⟩,?_⟩,?_,?_⟩
   ·have:=pin s (.head _)
    lia
   ·show Cp (P++s.1::L.map (·.1)) P.length<=s.2.toNat
    rw[zY]
    lia
   ·show s.2.toNat+s.1.sz<=j9 n (P++s.1::L.map (·.1)) P.length
    rw[uN]
    have hn:=h1.2.2
    generalize hR:L.map (·.1)=R at h2
    cases R with
    | nil=>show s.2.toNat+s.1.sz<=n;lia
    | cons t R=>have:=(h2.hd).1;show s.2.toNat+s.1.sz<=t.st;lia
   ·show WOk n (mvT (P++s.1::L.map (·.1)) P.length s.2.toNat) _
    rw[hmv];exact i.1
   ·show iK (mvT (P++s.1::L.map (·.1)) P.length s.2.toNat) _=_
    rw[hmv];exact i.2.1
   ·show wPr (P++s.1::L.map (·.1)) (P.length,s.1.nm,s.2.toNat)+iM (mvT (P++s.1::L.map (·.1)) P.length s.2.toNat) _=_
    rw[hmv,i.2.2]
    have e1:wPr (P++s.1::L.map (·.1)) (P.length,s.1.nm,s.2.toNat)=s.1.sz:=by
     simp only[wPr,zX]
     rw[if_neg (by lia)]
    rw[e1]
    unfold ml szN
    rw[List.filter_cons_of_pos (by simpa using q),List.map_cons,List.sum_cons]
  ·have hm:mid s=s.1:=if_neg q
   have i:=ih (P++[mid s]) (s.2+(s.1.sz:Int)) (by rw[jw,hm];lia) ch.2 ⟨h2.asc,λr hr=>⟨Nat.zero_le _,(h2.bd r hr).2⟩⟩ (λs hs=>pin s (.tail _ hs))
   rw[hl,List.append_assoc,List.append_assoc,List.singleton_append,List.singleton_append] at i
   rw[show lm P.length (s::L)=lm (P.length+1) L by rw[lm,if_neg q],List.map_cons,List.map_cons]
   rw[hm] at i ⊢
   refine⟨i.1,i.2.1,?_⟩
   rw[i.2.2]
   unfold ml
   rw[List.filter_cons_of_neg (by simpa using q)]
def ChD:Int->List Sp2->Prop
 | _,[]=>True
 | b,s::ss=>s.2+(s.1.sz:Int)<=b/\ChD s.2 ss
theorem ChS.le{b:Int}:∀{ss:List Sp2} {e:Int},ChS b e ss->e<=b/\∀s∈ss,e<=s.2/\s.2+(s.1.sz:Int)<=b
 | [],_,h=>⟨h,λ_ z=>by cases z⟩
 | s::ss,e,h=>by
  obtain⟨i1,i2⟩:=ChS.le h.2
  have:=h.1
  refine⟨by lia,λt ht=>?_⟩
  rcases List.mem_cons.mp ht with rfl|ht
  ·exact⟨h.1,i1⟩
  ·have:=i2 t ht
   exact⟨by lia,this.2⟩
theorem Cq:∀{xs:List Sp2} {b:Int} {s:Sp2},ChD b xs->(∀t∈xs,s.2+(s.1.sz:Int)<=t.2)->s.2+(s.1.sz:Int)<=b->ChD b (xs++[s])
 | [],_,_,_,_,h=>⟨h,trivial⟩
 | x::xs,_,_,g,a,_=>⟨g.1,Cq g.2 (λt ht=>a t (.tail _ ht)) (a x (.head _))⟩
theorem ChS.rev{b:Int}:∀{ss:List Sp2} {e:Int},ChS b e ss->ChD b ss.reverse
 | [],_,_=>trivial
 | s::ss,e,h=>by
  rw[List.reverse_cons]
  obtain⟨i1,i2⟩:=ChS.le h.2
  exact Cq (ChS.rev h.2) (λt ht=>(i2 t (List.mem_reverse.mp ht)).1) i1
theorem XJ{s:Sp2}(h:¬ (s.1.st:Int)<s.2):mid s=tgt s:=by
 unfold mid tgt
 by_cases q:s.2<(s.1.st:Int)
 ·rw[if_pos q]
 ·rw[if_neg q]
  have:s.2.toNat=s.1.st:=by lia
  rw[this]
  rfl
theorem TQ{n:Nat}(L:List Sp2):∀(D:List Rw) (b:Int),(iu n D:Int)=b->ChD b L->(L.map (·.1)).Pairwise (λr s=>s.st+s.sz<=r.st)->(∀s∈L,0<=s.2)->(∀s∈L,0<s.1.pn->s.2=(s.1.st:Int)) ->
  WOk n ((L.map mid).reverse++D) (rm L)/\iK ((L.map mid).reverse++D) (rm L)=(L.map tgt).reverse++D/\iM ((L.map mid).reverse++D) (rm L)=szN (mr L):=by
 induction L with
 | nil=>intro D b _ _ _ _ _;exact⟨trivial,rfl,rfl⟩
 | cons s L ih =>
  intro D b he ch pw nn pin
  obtain⟨p1,p2⟩:=List.pairwise_cons.mp (show ((s.1::L.map (·.1)).Pairwise (λr s=>s.st+s.sz<=r.st)) from pw)
  have h0:=nn s (.head _)
  have hc:=ch.1
  have i:=ih (tgt s::D) s.2 (by show ((s.2.toNat:Nat):Int)=s.2;lia) ch.2 p2 (λs hs=>nn s (.tail _ hs)) (λs hs=>pin s (.tail _ hs))
  rw[List.map_cons,List.map_cons,List.reverse_cons,List.reverse_cons,List.append_assoc,List.append_assoc,List.singleton_append,List.singleton_append]
  by_cases q:(s.1.st:Int)<s.2
  ·have hm:mid s=s.1:=if_neg (by lia)
   have hl:L.length=(L.map mid).reverse.length:=by simp
   rw[show rm (s::L)=(L.length,s.1.nm,s.2.toNat)::rm L by rw[rm,if_pos q],hm]
   have hmv:mvT ((L.map mid).reverse++s.1::D) L.length s.2.toNat=(L.map mid).reverse++tgt s::D:=by rw[hl,zW];rfl
   have hat:((L.map mid).reverse++s.1::D)[L.length]?=some s.1:=by rw[hl];exact zX _ _ _
   refine⟨⟨⟨s.1,hat,rfl,?_,?_,?_⟩,?_⟩,?_,?_⟩
   ·have:=pin s (.head _)
    lia
   ·show Cp ((L.map mid).reverse++s.1::D) L.length<=s.2.toNat
    rw[hl,zY]
    cases L with
    | nil=>exact Nat.zero_le _
    | cons t L =>
     rw[List.map_cons,List.reverse_cons,jw]
     have a1:=p1 t.1 (by simp)
     have a2:=ch.2.1
     have a3:=nn t (by simp)
     unfold mid
     split
     ·show t.2.toNat+t.1.sz<=_;lia
     ·show t.1.st+t.1.sz<=_;lia
   ·show s.2.toNat+s.1.sz<=j9 n ((L.map mid).reverse++s.1::D) L.length
    rw[hl,uN]
    cases D with
    | nil=>simp only[iu] at he;show s.2.toNat+s.1.sz<=n;lia
    | cons t D=>simp only[iu] at he;show s.2.toNat+s.1.sz<=t.st;lia
   ·show WOk n (mvT ((L.map mid).reverse++s.1::D) L.length s.2.toNat) _
    rw[hmv];exact i.1
   ·show iK (mvT ((L.map mid).reverse++s.1::D) L.length s.2.toNat) _=_
    rw[hmv];exact i.2.1
   ·show wPr ((L.map mid).reverse++s.1::D) (L.length,s.1.nm,s.2.toNat)+iM (mvT ((L.map mid).reverse++s.1::D) L.length s.2.toNat) _=_
    rw[hmv,i.2.2]
    have e1:wPr ((L.map mid).reverse++s.1::D) (L.length,s.1.nm,s.2.toNat)=s.1.sz:=by
     simp only[wPr,hat]
     rw[if_neg (by lia)]
    rw[e1]
    unfold mr szN
    rw[List.filter_cons_of_pos (by simpa using q),List.map_cons,List.sum_cons]
  ·rw[show rm (s::L)=rm L by rw[rm,if_neg q],XJ q]
   refine⟨i.1,i.2.1,?_⟩
   rw[i.2.2]
   unfold mr
   rw[List.filter_cons_of_neg (by simpa using q)]
def m_(L:List Sp2):List Mv:=lm 0 L++rm L.reverse
theorem O8{n:Nat}{L:List Sp2}(ch:ChS n 0 L)(ok:OkA 0 n (L.map (·.1)))(pin:∀s∈L,0<s.1.pn->s.2=(s.1.st:Int)) :
  WOk n (L.map (·.1)) (m_ L)/\iM (L.map (·.1)) (m_ L)=szN (ml L)+szN (mr L.reverse):=by
 have a:=TJ L [] 0 (Int.le_refl _) ch ok pin
 have c:=ChS.le ch
 have b:=TQ (n:=n) L.reverse [] n rfl (ChS.rev ch) (by rw[List.map_reverse];exact List.pairwise_reverse.mpr ok.asc) (λs hs=>(c.2 s (List.mem_reverse.mp hs)).1) (λs hs=>pin s (List.mem_reverse.mp hs))
 rw[List.map_reverse,List.reverse_reverse,List.append_nil] at b
 simp only[List.nil_append,List.length_nil] at a
 unfold m_
 refine⟨Ii a.1 (by rw[a.2.1];exact b.1),?_⟩
 rw[Ij,a.2.1,a.2.2,b.2.2]
theorem O9(L:List Sp2):mr L.reverse=(mr L).reverse:=List.filter_reverse ..
theorem abf(L:List Sp2):∀k,(lm k L).map (λm=>(m.2.1,((m.2.2:Nat):Int)))=(ml L).map λs=>(s.1.nm,((s.2.toNat:Nat):Int)):=by
 induction L with
 | nil=>intro k;rfl
 | cons s L ih =>
  intro k
  unfold ml
  by_cases q:s.2<(s.1.st:Int)
  ·rw[lm,if_pos q,List.filter_cons_of_pos (by simpa using q),List.map_cons,List.map_cons,ih];rfl
  ·rw[lm,if_neg q,List.filter_cons_of_neg (by simpa using q),ih];rfl
theorem abg(L:List Sp2):(rm L).map (λm=>(m.2.1,((m.2.2:Nat):Int)))=(mr L).map λs=>(s.1.nm,((s.2.toNat:Nat):Int)):=by
 induction L with
 | nil=>rfl
 | cons s L ih =>
  unfold mr
  by_cases q:(s.1.st:Int)<s.2
  ·rw[rm,if_pos q,List.filter_cons_of_pos (by simpa using q),List.map_cons,List.map_cons,ih];rfl
  ·rw[rm,if_neg q,List.filter_cons_of_neg (by simpa using q),ih];rfl
def qL(L:List Sp2):List Sp2:=ml L++(mr L).reverse
theorem Cr{L:List Sp2}(nn:∀s∈L,0<=s.2):(m_ L).map (λm=>(m.2.1,((m.2.2:Nat):Int)))=(qL L).map λs=>(s.1.nm,s.2):=by
 unfold m_ qL
 rw[List.map_append,abf,abg,O9,<- List.map_append]
 refine List.map_congr_left λs hs=>?_
 have:0<=s.2:=nn s (by
  rcases List.mem_append.mp hs with hs|hs
  ·exact(List.mem_filter.mp hs).1
  ·exact(List.mem_filter.mp (List.mem_reverse.mp hs)).1)
 congr 1
 lia
end M87
namespace M75
open L2 M82 M87
def cB:List (Rw×Int)->Int->Option Int
 | [],x=>if x<=0 then some 0 else none
 | (r,g)::t,x=>if x<=0 then some 0 else if 0<r.pn then none else (cB t (x-g)).map λy=>(r.sz:Int)+y
theorem lG{bs:List (Rw×Int)}{x:Int}(h:x<=0):cB bs x=some 0:=by
 cases bs with
 | nil=>unfold cB;rw[if_pos h]
 | cons c t=>obtain⟨r,g⟩:=c;unfold cB;rw[if_pos h]
def qM(n:Nat):Nat->List Rw->List Int
 | e,[]=>[(n:Int)-(e:Int)]
 | e,r::t=>((r.st:Int)-(e:Int))::qM n (r.st+r.sz) t
def edR:List Rw->Nat
 | []=>0
 | r::_=>r.st+r.sz
def rg(n:Nat):List Rw->List (Rw×Int)
 | []=>[]
 | r::D=>(r,(iu n D:Int)-((r.st:Int)+(r.sz:Int)))::rg n D
def lg:List Rw->List (Rw×Int)
 | []=>[]
 | r::D=>(r,(r.st:Int)-(edR D:Int))::lg D
theorem Ik(n e:Nat)(t:List Rw):qM n e t=((iu n t:Int)-(e:Int))::(qM n e t).tail:=by cases t <;> rfl
theorem O_(n:Nat):∀(t:List Rw) (e:Nat),t.zip (qM n e t).tail=rg n t
 | [],_=>rfl
 | r::t,e=>by
  show (r::t).zip (qM n (r.st+r.sz) t)=_
  rw[Ik,List.zip_cons_cons,O_ n t]
  show (r,(iu n t:Int)-((r.st+r.sz:Nat):Int))::rg n t=_
  rw[Int.natCast_add]
  rfl
theorem Il(n:Nat):∀(g:Nat) (t:List Rw) (e:Nat),(t.drop g).zip ((qM n e t).drop (g+1))=rg n (t.drop g)
 | 0,t,e=>by rw[List.drop_zero,List.drop_one];exact O_ n t e
 | g+1,[],e=>by simp[rg]
 | g+1,r::t,e=>Il n g t (r.st+r.sz)
def wO:Nat->List Rw->List Int
 | _,[]=>[]
 | e,r::t=>((r.st:Int)-(e:Int))::wO (r.st+r.sz) t
def j_:Nat->List Rw->Nat
 | e,[]=>e
 | _,r::t=>j_ (r.st+r.sz) t
theorem xR(n:Nat):∀(t:List Rw) (e g:Nat),g<=t.length->(qM n e t).take g=wO e (t.take g)
 | t,e,0,_=>by rw[List.take_zero,List.take_zero];rfl
 | [],_,g+1,h=>absurd h (by simp)
 | r::t,e,g+1,h=>by
  show ((r.st:Int)-(e:Int))::(qM n (r.st+r.sz) t).take g=_
  rw[xR n t _ g (by simpa using h)]
  rfl
theorem xT(r:Rw):∀(t:List Rw) (e:Nat),wO e (t++[r])=wO e t++[(r.st:Int)-(j_ e t:Int)]
 | [],_=>rfl
 | s::t,e=>by
  show _::wO _ (t++[r])=_
  rw[xT r t]
  rfl
theorem Cu:∀(t:List Rw) (e:Nat),(wO e t).length=t.length
 | [],_=>rfl
 | _::t,_=>by show (wO _ t).length+1=_;rw[Cu t];rfl
theorem nj(r:Rw):∀(t:List Rw) (e:Nat),j_ e (t++[r])=r.st+r.sz
 | [],_=>rfl
 | _::t,_=>nj r t _
theorem tE(t:List Rw):edR t.reverse=j_ 0 t:=by
 rcases List.eq_nil_or_concat t with rfl|⟨s,r,rfl⟩
 ·rfl
 ·rw[List.concat_eq_append,List.reverse_append,nj];rfl
theorem XM{P:List Rw->Prop}(t:List Rw)(h0:P [])(h1:∀s r,P s->P (s++[r])):P t:=by
 have:∀k (t:List Rw),t.length=k->P t:=by
  intro k
  induction k with
  | zero=>intro t h;rw[List.eq_nil_of_length_eq_zero h];exact h0
  | succ k ih =>
   intro t h
   rcases List.eq_nil_or_concat t with rfl|⟨s,r,rfl⟩
   ·exact h0
   ·rw[List.concat_eq_append] at h ⊢
    exact h1 s r (ih s (by simpa using h))
 exact this _ t rfl
theorem XQ(t:List Rw):(t.zip (wO 0 t)).reverse=lg t.reverse:=by
 refine XM (P:=λt=>(t.zip (wO 0 t)).reverse=lg t.reverse) t rfl λs r ih=>?_
 show ((s++[r]).zip (wO 0 (s++[r]))).reverse=lg (s++[r]).reverse
 rw[xT,List.zip_append (Cu s 0).symm,List.reverse_append,ih,List.reverse_append]
 show (r,(r.st:Int)-(j_ 0 s:Int))::lg s.reverse=(r,(r.st:Int)-(edR s.reverse:Int))::lg s.reverse
 rw[tE]
theorem TV(n:Nat){t:List Rw}{g:Nat}(h:g<=t.length):((t.take g).zip ((qM n 0 t).take g)).reverse=lg (t.take g).reverse:=by
 rw[xR n t 0 g h]
 exact XQ _
theorem Io(n:Nat):∀(t:List Rw) (g e:Nat),g<=t.length->(qM n e t)[g]?=some ((iu n (t.drop g):Int)-(j_ e (t.take g):Int))
 | t,0,e,_=>by rw[Ik];rfl
 | [],g+1,_,h=>absurd h (by simp)
 | r::t,g+1,e,h=>by
  show (qM n _ t)[g]?=_
  rw[Io n t g _ (by simpa using h)]
  rfl
def rgt(n:Nat):List Rw->Int->List Sp2
 | [],_=>[]
 | r::D,y=>(r,(r.st:Int)+max y 0)::rgt n D (y-((iu n D:Int)-((r.st:Int)+(r.sz:Int))))
def lft:List Rw->Int->List Sp2
 | [],_=>[]
 | r::D,x=>(r,(r.st:Int)-max x 0)::lft D (x-((r.st:Int)-(edR D:Int)))
def tgs(n g:Nat)(x y:Int)(rs:List Rw):List Sp2:=(lft (rs.take g).reverse x).reverse++rgt n (rs.drop g) y
theorem iy{r:Rw}{g x:Int}{t:List (Rw×Int)}(h:cB ((r,g)::t) x≠none)(g0:0<=g):cB t (x-g)≠none/\(0<x->r.pn=0):=by
 by_cases hx:x<=0
 ·exact⟨by rw[lG (by lia)];simp,λz=>by lia⟩
 ·unfold cB at h
  rw[if_neg hx] at h
  by_cases hp:0<r.pn
  ·rw[if_pos hp] at h
   exact absurd rfl h
  ·rw[if_neg hp] at h
   refine⟨λz=>?_,λ_=>by lia⟩
   rw[z] at h
   exact h rfl
theorem kh{x:Int}(h:cB [] x≠none):x<=0:=by
 by_cases hx:x<=0
 ·exact hx
 ·unfold cB at h
  rw[if_neg hx] at h
  exact absurd rfl h
theorem uO{n e:Nat}{r:Rw}{D:List Rw}(h:OkA e n (r::D)):r.st+r.sz<=iu n D:=by
 cases D with
 | nil=>exact h.hd.2.2
 | cons s D=>exact h.tail.hd.1
theorem Cv{b:Nat}{r:Rw}{D:List Rw}(h:OkD b (r::D)):edR D<=r.st:=by
 cases D with
 | nil=>exact Nat.zero_le _
 | cons s D=>exact(h.tail.bd s List.mem_cons_self).2
theorem Pa{n:Nat}:∀(D:List Rw) (lo:Nat) (y e:Int),OkA lo n D->cB (rg n D) y≠none->e<=(iu n D:Int)+max y 0->ChS n e (rgt n D y)
 | [],_,y,e,_,h,l=>by
  have:=kh h
  show e<=(n:Int)
  have l:e<=(n:Int)+max y 0:=l
  lia
 | r::D,lo,y,e,ok,h,l=>by
  have b:=uO ok
  have c:=iy h (by lia)
  refine⟨l,Pa D _ _ _ ok.tail c.1 ?_⟩
  show (r.st:Int)+max y 0+(r.sz:Int)<=_
  lia
theorem Pb:∀(D:List Rw) (b:Nat) (x:Int),OkD b D->cB (lg D) x≠none->ChS ((edR D:Int)-max x 0) 0 (lft D x).reverse
 | [],_,x,_,h=>by
  have:=kh h
  show (0:Int)<=((0:Nat):Int)-max x 0
  lia
 | r::D,b,x,ok,h=>by
  have e:=Cv ok
  have c:=iy h (by lia)
  show ChS _ 0 (((r,(r.st:Int)-max x 0)::lft D _).reverse)
  rw[List.reverse_cons]
  refine ChS.app (Pb D _ _ ok.tail c.1) ⟨?_,?_⟩
  ·show (edR D:Int)-max _ 0<=(r.st:Int)-max x 0
   lia
  ·show (r.st:Int)-max x 0+(r.sz:Int)<=((r.st+r.sz:Nat):Int)-max x 0
   lia
theorem iU{e n:Nat}:∀{A B:List Rw},OkA e n (A++B)->OkA e n A/\OkA (j_ e A) n B
 | [],B,h=>⟨.nil,h⟩
 | r::A,B,h=>by
  have t:=iU (A:=A) h.tail
  exact⟨OkA.cons h.hd t.1,t.2⟩
theorem uP{e n:Nat}(h:e<=n):∀{A B:List Rw},OkA e n (A++B)->j_ e A<=iu n B
 | [],[],_=>h
 | [],s::_,ok=>ok.hd.1
 | r::A,B,ok=>uP ok.hd.2.2 (A:=A) ok.tail
theorem XR{n g:Nat}{x y:Int}{rs:List Rw}(ok:OkA 0 n rs)(hx:cB (lg (rs.take g).reverse) x≠none)(hy:cB (rg n (rs.drop g)) y≠none):ChS n 0 (tgs n g x y rs):=by
 have ok2:OkA 0 n (rs.take g++rs.drop g):=by rw[List.take_append_drop];exact ok
 obtain⟨o1,o2⟩:=iU ok2
 have l:=uP (Nat.zero_le n) ok2
 refine ChS.app (Pb _ _ _ o1.rev hx) (Pa _ _ _ _ o2 hy ?_)
 rw[tE]
 lia
theorem Ip(n:Nat):∀(D:List Rw) (y:Int),(rgt n D y).map (·.1)=D
 | [],_=>rfl
 | r::D,y=>by show r::(rgt n D _).map (·.1)=_;rw[Ip n D]
theorem Ir:∀(D:List Rw) (x:Int),(lft D x).map (·.1)=D
 | [],_=>rfl
 | r::D,x=>by show r::(lft D _).map (·.1)=_;rw[Ir D]
theorem TX(n g:Nat)(x y:Int)(rs:List Rw):(tgs n g x y rs).map (·.1)=rs:=by
 unfold tgs
 rw[List.map_append,List.map_reverse,Ir,Ip,List.reverse_reverse,List.take_append_drop]
theorem Iu{n:Nat}:∀(D:List Rw) (lo:Nat) (y:Int),OkA lo n D->cB (rg n D) y≠none->∀s∈rgt n D y,0<s.1.pn->s.2=(s.1.st:Int)
 | [],_,_,_,_=>λ_ h=>by cases h
 | r::D,lo,y,ok,h=>λs hs hp=>by
  have b:=uO ok
  have c:=iy h (by lia)
  rcases List.mem_cons.mp hs with rfl|hs
  ·have:¬ 0<y:=λz=>by have:=c.2 z;have hp:0<r.pn:=hp;lia
   show (r.st:Int)+max y 0=r.st
   lia
  ·exact Iu D _ _ ok.tail c.1 s hs hp
theorem Iw:∀(D:List Rw) (b:Nat) (x:Int),OkD b D->cB (lg D) x≠none->∀s∈lft D x,0<s.1.pn->s.2=(s.1.st:Int)
 | [],_,_,_,_=>λ_ h=>by cases h
 | r::D,b,x,ok,h=>λs hs hp=>by
  have e:=Cv ok
  have c:=iy h (by lia)
  rcases List.mem_cons.mp hs with rfl|hs
  ·have:¬ 0<x:=λz=>by have:=c.2 z;have hp:0<r.pn:=hp;lia
   show (r.st:Int)-max x 0=r.st
   lia
  ·exact Iw D _ _ ok.tail c.1 s hs hp
theorem TY{n g:Nat}{x y:Int}{rs:List Rw}(ok:OkA 0 n rs)(hx:cB (lg (rs.take g).reverse) x≠none)(hy:cB (rg n (rs.drop g)) y≠none):∀s∈tgs n g x y rs,0<s.1.pn->s.2=(s.1.st:Int):=λs hs hp=>by
 have ok2:OkA 0 n (rs.take g++rs.drop g):=by rw[List.take_append_drop];exact ok
 obtain⟨o1,o2⟩:=iU ok2
 rcases List.mem_append.mp hs with hs|hs
 ·exact Iw _ _ _ o1.rev hx s (List.mem_reverse.mp hs) hp
 ·exact Iu _ _ _ o2 hy s hs hp
theorem Pg{n:Nat}:∀(D:List Rw) (y:Int),∀s∈rgt n D y,(s.1.st:Int)<=s.2
 | [],_=>λ_ h=>by cases h
 | r::D,y=>λs hs=>by
  rcases List.mem_cons.mp hs with rfl|hs
  ·show (r.st:Int)<=(r.st:Int)+max y 0
   lia
  ·exact Pg D _ s hs
theorem Ph:∀(D:List Rw) (x:Int),∀s∈lft D x,s.2<=(s.1.st:Int)
 | [],_=>λ_ h=>by cases h
 | r::D,x=>λs hs=>by
  rcases List.mem_cons.mp hs with rfl|hs
  ·show (r.st:Int)-max x 0<=(r.st:Int)
   lia
  ·exact Ph D _ s hs
theorem T3(n g:Nat)(x y:Int)(rs:List Rw):qL (tgs n g x y rs)=(ml (lft (rs.take g).reverse x)).reverse++(mr (rgt n (rs.drop g) y)).reverse:=by
 have a:ml (rgt n (rs.drop g) y)=[]:=List.filter_eq_nil_iff.mpr λs hs=>by have:=Pg _ _ s hs;simp;lia
 have b:mr (lft (rs.take g).reverse x)=[]:=List.filter_eq_nil_iff.mpr λs hs=>by have:=Ph _ _ s hs;simp;lia
 unfold qL tgs
 rw[show ml ((lft (rs.take g).reverse x).reverse++rgt n (rs.drop g) y)=ml (lft (rs.take g).reverse x).reverse++ml (rgt n (rs.drop g) y) from List.filter_append ..,show mr ((lft (rs.take g).reverse x).reverse++rgt n (rs.drop g) y)=mr (lft (rs.take g).reverse x).reverse++mr (rgt n (rs.drop g) y) from List.filter_append ..,O9,a,b,List.append_nil,List.reverse_nil,List.nil_append]
 congr 1
 exact List.filter_reverse ..
theorem Cw:∀(D:List Rw) (b:Nat) (x:Int),OkD b D->x<=0->ml (lft D x)=[]
 | [],_,_,_,_=>rfl
 | r::D,b,x,ok,h=>by
  have e:=Cv ok
  show List.filter _ ((r,(r.st:Int)-max x 0)::lft D _)=[]
  rw[List.filter_cons_of_neg (by simp;lia)]
  exact Cw D _ _ ok.tail (by lia)
theorem Pj{r:Rw}{D:List Rw}{x:Int}(h:0<x):ml (lft (r::D) x)=(r,(r.st:Int)-x)::ml (lft D (x-((r.st:Int)-(edR D:Int)))):=by
 show List.filter _ ((r,(r.st:Int)-max x 0)::lft D _)=_
 rw[List.filter_cons_of_pos (by simp;lia),Int.max_eq_left (by lia)]
 rfl
theorem Cy{n:Nat}:∀(D:List Rw) (lo:Nat) (y:Int),OkA lo n D->y<=0->mr (rgt n D y)=[]
 | [],_,_,_,_=>rfl
 | r::D,lo,y,ok,h=>by
  have b:=uO ok
  show List.filter _ ((r,(r.st:Int)+max y 0)::rgt n D _)=[]
  rw[List.filter_cons_of_neg (by simp;lia)]
  exact Cy D _ _ ok.tail (by lia)
theorem Pn{n:Nat}{r:Rw}{D:List Rw}{y:Int}(h:0<y):mr (rgt n (r::D) y)=(r,(r.st:Int)+y)::mr (rgt n D (y-((iu n D:Int)-((r.st:Int)+(r.sz:Int))))):=by
 show List.filter _ ((r,(r.st:Int)+max y 0)::rgt n D _)=_
 rw[List.filter_cons_of_pos (by simp;lia),Int.max_eq_left (by lia)]
 rfl
def cap:List (Rw×Int)->Int
 | []=>0
 | (r,g)::t=>if 0<r.pn then 0 else g+cap t
theorem uQ:∀{t:List (Rw×Int)},(∀c∈t,0<=c.2)->0<=cap t
 | [],_=>Int.le_refl _
 | (r,g)::t,h=>by
  have:=uQ (t:=t) λc hc=>h c (List.mem_cons_of_mem _ hc)
  have:=h (r,g) List.mem_cons_self
  unfold cap
  split
  ·exact Int.le_refl _
  ·lia
theorem kj:∀{t:List (Rw×Int)} {x:Int},(∀c∈t,0<=c.2)->(cB t x≠none ↔ x<=cap t)
 | [],x,_=>⟨kh,λh=>by have h:x<=0:=h;rw[lG h];simp⟩
 | (r,g)::t,x,h=>by
  have g0:=h (r,g) List.mem_cons_self
  have ht:=λc hc=>h c (List.mem_cons_of_mem _ hc)
  have nn:=uQ ht
  have ih:=kj (t:=t) (x:=x-g) ht
  by_cases hx:x<=0
  ·refine⟨λ_=>?_,λ_=>by rw[lG hx];simp⟩
   have:=uQ h
   lia
  ·unfold cB cap
   rw[if_neg hx]
   by_cases hp:0<r.pn
   ·rw[if_pos hp,if_pos hp]
    exact⟨λz=>absurd rfl z,λz=>by lia⟩
   ·rw[if_neg hp,if_neg hp]
    rw[show ((cB t (x-g)).map λy=>(r.sz:Int)+y)≠none ↔ cB t (x-g)≠none by cases cB t (x-g) <;> simp,ih]
    have g0:0<=g:=g0
    lia
theorem Iz{n:Nat}:∀{D:List Rw} {lo:Nat},OkA lo n D->∀c∈rg n D,0<=c.2
 | [],_,_=>λ_ h=>by cases h
 | r::D,lo,ok=>λc hc=>by
  rcases List.mem_cons.mp hc with rfl|hc
  ·have:=uO ok
   show 0<=(iu n D:Int)-((r.st:Int)+(r.sz:Int))
   lia
  ·exact Iz ok.tail c hc
theorem IK:∀{D:List Rw} {b:Nat},OkD b D->∀c∈lg D,0<=c.2
 | [],_,_=>λ_ h=>by cases h
 | r::D,b,ok=>λc hc=>by
  rcases List.mem_cons.mp hc with rfl|hc
  ·have:=Cv ok
   show 0<=(r.st:Int)-(edR D:Int)
   lia
  ·exact IK ok.tail c hc
def qN(n:Nat):Int->Nat->List Rw->List Int
 | a,e,[]=>[a+((n:Int)-(e:Int))]
 | a,e,r::t=>(a+(((r.st:Int)-(e:Int))+cap (rg n (r::t))))::qN n (if 0<r.pn then 0 else a+((r.st:Int)-(e:Int))) (r.st+r.sz) t
theorem IV{n:Nat}{a:Int}{e:Nat}{t:List Rw}:∃u,qN n a e t=(a+(((iu n t:Int)-(e:Int))+cap (rg n t)))::u:=by
 cases t with
 | nil=>exact⟨[],by show [a+((n:Int)-(e:Int))]=[a+(((n:Int)-(e:Int))+0)];rw[Int.add_zero]⟩
 | cons r t=>exact⟨_,rfl⟩
theorem uR{n:Nat}{s:Int}:∀(t:List Rw) (a:Int) (e:Nat) (f u:Int),a=(e:Int)-f-u->((∃x∈qN n a e t,s<=x) ↔ ∃w∈iQ n f u t,s<=w.2.2)
 | [],a,e,f,u,h=>by
  simp only[qN,iQ,List.mem_singleton]
  constructor
  ·rintro ⟨x,rfl,l⟩
   exact⟨_,rfl,by show s<=(n:Int)-f-u;lia⟩
  ·rintro ⟨w,rfl,l⟩
   have l:s<=(n:Int)-f-u:=l
   exact⟨_,rfl,by lia⟩
 | r::t,a,e,f,u,h=>by
  by_cases hp:0<r.pn
  ·have ih:=uR (n:=n) (s:=s) t 0 (r.st+r.sz) ((r.st:Int)+(r.sz:Int)) 0 (by rw[Int.natCast_add];lia)
   simp only[qN,iQ,if_pos hp,List.mem_cons,exists_eq_or_imp,cap,rg]
   rw[ih]
   constructor
   ·rintro (l|l)
    ·exact .inl (by show s<=(r.st:Int)-f-u;lia)
    ·exact .inr l
   ·rintro (l|l)
    ·have l:s<=(r.st:Int)-f-u:=l
     exact .inl (by lia)
    ·exact .inr l
  ·have ih:=uR (n:=n) (s:=s) t (a+((r.st:Int)-(e:Int))) (r.st+r.sz) f (u+(r.sz:Int)) (by rw[Int.natCast_add];lia)
   obtain⟨v,hv⟩:=IV (n:=n) (a:=a+((r.st:Int)-(e:Int))) (e:=r.st+r.sz) (t:=t)
   simp only[qN,iQ,if_neg hp,List.mem_cons,exists_eq_or_imp]
   rw[ih]
   refine⟨λz=>z.elim (λl=>ih.mp ?_) id,.inr⟩
   rw[hv]
   refine⟨_,List.mem_cons_self,?_⟩
   rw[Int.natCast_add]
   simp only[cap,rg,if_neg hp] at l
   lia
theorem IW{n:Nat}:∀(t A:List Rw) (g:Nat),g<=t.length->(qN n (cap (lg A)) (edR A) t)[g]?=some (cap (lg ((t.take g).reverse++A))+(((iu n (t.drop g):Int)-(edR ((t.take g).reverse++A):Int))+cap (rg n (t.drop g))))
 | t,A,0,_=>by
  obtain⟨u,hu⟩:=IV (n:=n) (a:=cap (lg A)) (e:=edR A) (t:=t)
  rw[hu]
  rfl
 | [],_,g+1,h=>absurd h (by simp)
 | r::t,A,g+1,h=>by
  have ih:=IW (n:=n) t (r::A) g (by simpa using h)
  show (qN n (if 0<r.pn then 0 else cap (lg A)+((r.st:Int)-(edR A:Int))) (r.st+r.sz) t)[g]?=_
  have e1:(if 0<r.pn then (0:Int) else cap (lg A)+((r.st:Int)-(edR A:Int)))=cap (lg (r::A)):=by
   show _=if 0<r.pn then 0 else ((r.st:Int)-(edR A:Int))+cap (lg A)
   split
   ·rfl
   ·lia
  rw[e1]
  rw[show (qN n (cap (lg (r::A))) (r.st+r.sz) t)[g]?=_ from ih]
  rw[List.take_succ_cons,List.drop_succ_cons,List.reverse_cons,List.append_assoc]
  rfl
theorem Cz(n:Nat):∀(t:List Rw) (a:Int) (e:Nat),(qN n a e t).length=t.length+1
 | [],_,_=>rfl
 | _::t,_,_=>by show (qN n _ _ t).length+1=_;rw[Cz n t];rfl
theorem Pq{n:Nat}{s:Int}{rs:List Rw}(ok:OkA 0 n rs)(s0:0<=s):(∃g,g<=rs.length/\∃b,0<=b/\b<=s/\cB (lg (rs.take g).reverse) b≠none/\cB (rg n (rs.drop g)) (max 0 (s-((iu n (rs.drop g):Int)-(edR (rs.take g).reverse:Int))-b))≠none) ↔ ∃w∈iQ n 0 0 rs,s<=w.2.2:=by
 rw[<- uR rs 0 0 0 0 (by simp)]
 have at_:=λg h=>IW (n:=n) rs [] g h
 have both:∀g,OkA 0 n (rs.take g++rs.drop g):=λg=>by rw[List.take_append_drop];exact ok
 constructor
 ·rintro ⟨g,hg,b,b0,bs,h1,h2⟩
  obtain⟨o1,o2⟩:=iU (both g)
  rw[kj (IK o1.rev)] at h1
  rw[kj (Iz o2)] at h2
  have e:=at_ g hg
  rw[List.append_nil] at e
  exact⟨_,List.mem_of_getElem? e,by lia⟩
 ·rintro ⟨x,hx,l⟩
  obtain⟨g,e⟩:=List.getElem?_of_mem hx
  have hg:g<=rs.length:=by
   have h:g<(qN n 0 0 rs).length:=(List.getElem?_eq_some_iff.mp e).1
   rw[Cz] at h
   lia
  have e2:=at_ g hg
  rw[List.append_nil] at e2
  rw[show (qN n (cap (lg [])) (edR []) rs)[g]?=some x from e] at e2
  have e2:=Option.some.inj e2
  obtain⟨o1,o2⟩:=iU (both g)
  have c1:=uQ (IK o1.rev)
  have c2:=uQ (Iz o2)
  have lb:=uP (Nat.zero_le n) (both g)
  rw[<- tE] at lb
  refine⟨g,hg,min s (cap (lg (rs.take g).reverse)),by lia,by lia,?_,?_⟩
  ·rw[kj (IK o1.rev)];lia
  ·rw[kj (Iz o2)];lia
theorem CG{e n:Nat}:∀{A B:List Rw},OkA e n A->OkA (j_ e A) n B->OkA e n (A++B)
 | [],_,_,h=>h
 | _::_,_,h,g=>OkA.cons h.hd (CG h.tail g)
theorem XS{e e' n:Nat}:∀{B:List Rw},OkA e n B->e'<=iu n B->OkA e' n B
 | [],_,_=>.nil
 | _::_,h,l=>OkA.cons ⟨l,h.hd.2⟩ h.tail
theorem K1(t:List Rw):O7 t=j_ 0 t:=by
 rcases List.eq_nil_or_concat t with rfl|⟨s,r,rfl⟩
 ·rfl
 ·rw[List.concat_eq_append,jw,nj]
theorem zZ{T:List Rw}{k:Nat}{r:Rw}(h:T[k]?=some r):T=T.take k++r::T.drop (k+1)/\(T.take k).length=k:=by
 obtain⟨hk,e⟩:=List.getElem?_eq_some_iff.mp h
 refine⟨?_,by rw[List.length_take];lia⟩
 rw[<- e,<- List.drop_eq_getElem_cons hk,List.take_append_drop]
theorem Gw{T:List Rw}{k to:Nat}{r:Rw}(h:T[k]?=some r):mvT T k to=T.take k++wN r to::T.drop (k+1):=by
 obtain⟨e,l⟩:=zZ h
 have:=zW (T.take k) r (T.drop (k+1)) to
 rw[<- e,l] at this
 exact this
theorem abh{n:Nat}{T:List Rw}{k to:Nat}{r:Rw}(ok:OkA 0 n T)(h:T[k]?=some r)(lo:Cp T k<=to)(hi:to+r.sz<=j9 n T k):OkA 0 n (mvT T k to):=by
 obtain⟨e,l⟩:=zZ h
 have lw:=zY (T.take k) r (T.drop (k+1))
 have hg:=uN n (T.take k) r (T.drop (k+1))
 rw[<- e,l] at lw hg
 rw[lw,K1] at lo
 have ok2:=ok
 rw[e] at ok2
 obtain⟨o1,o2⟩:=iU ok2
 have hb:to+r.sz<=iu n (T.drop (k+1)):=by
  rw[hg] at hi
  cases hd:T.drop (k+1) with
  | nil=>rw[hd] at hi;exact hi
  | cons s D=>rw[hd] at hi;exact hi
 have hn:iu n (T.drop (k+1))<=n:=by
  cases hd:T.drop (k+1) with
  | nil=>exact Nat.le_refl _
  | cons s D=>rw[hd] at o2;have:=o2.tail.hd.2;show s.st<=n;lia
 rw[Gw h]
 exact CG o1 (OkA.cons ⟨lo,o2.hd.2.1,by show to+r.sz<=n;lia⟩ (XS o2.tail hb))
theorem Vf{T:List Rw}{k to:Nat}{r:Rw}(h:T[k]?=some r):(mvT T k to).map (·.nm)=T.map (·.nm):=by
 obtain⟨e,l⟩:=zZ h
 rw[Gw h]
 conv=>rhs;rw[e]
 rw[List.map_append,List.map_append]
 rfl
theorem T4{T:List Rw}{k to:Nat}{r:Rw}(nd:(T.map (·.nm)).Nodup)(h:T[k]?=some r):(T.filter (λs=>decide (s.nm≠r.nm))++[wN r to]).Perm (mvT T k to):=by
 obtain⟨e,l⟩:=zZ h
 rw[Gw h]
 have nd2:=nd
 rw[e,List.map_append,List.nodup_append] at nd2
 obtain⟨n1,n2,n3⟩:=nd2
 have n4:=(List.nodup_cons.mp (show (r.nm::(T.drop (k+1)).map (·.nm)).Nodup from n2)).1
 have f:T.filter (λs=>decide (s.nm≠r.nm))=T.take k++T.drop (k+1):=by
  conv=>lhs;rw[e]
  rw[List.filter_append,List.filter_cons_of_neg (by simp)]
  congr 1
  ·exact List.filter_eq_self.mpr λs hs=>decide_eq_true λz=>n3 _ (List.mem_map_of_mem hs) _ List.mem_cons_self z
  ·exact List.filter_eq_self.mpr λs hs=>decide_eq_true λz=>n4 (z▸List.mem_map_of_mem (f:=λr:Rw=>r.nm) hs)
 rw[f,List.append_assoc]
 exact List.Perm.append_left _ List.perm_append_comm
end M75
namespace K75
open PySem L2 PyProof.Rows
def top(i:Nat):Stmt:=PySem.Challenge.pw_slideroom_k75_stuck_papers.main.body.getD i (.Pass ⟨0,0,0,0⟩)
abbrev nu:Stmt:=top 21
theorem rR:aW ["thing"] ["thing"] (aG nu):=⟨rfl,rfl,rfl,by decide +kernel,rfl,by decide +kernel,by decide +kernel⟩
abbrev qO:Stmt:=top 23
theorem uT:aW ["thing","low"] ["thing","low"] (aG qO):=⟨rfl,rfl,rfl,by decide +kernel,rfl,by decide +kernel,by decide +kernel⟩
abbrev kE:Stmt:=top 24
theorem oN:aW ["thing","low","high"] ["thing","low","high"] (aG kE):=⟨rfl,rfl,rfl,by decide +kernel,rfl,by decide +kernel,by decide +kernel⟩
abbrev qP:Stmt:=top 25
theorem uU:aW ["thing"] ["thing"] (aG qP):=⟨rfl,rfl,rfl,by decide +kernel,rfl,by decide +kernel,by decide +kernel⟩
abbrev qQ:Stmt:=top 26
theorem uV:aW ["thing"] ["thing"] (aG qQ):=⟨rfl,rfl,rfl,by decide +kernel,rfl,by decide +kernel,by decide +kernel⟩
abbrev uW:Stmt:=top 28
theorem xU:aW ["stretch"] ["stretch"] (aG uW):=⟨rfl,rfl,rfl,by decide +kernel,rfl,by decide +kernel,by decide +kernel⟩
abbrev uX:Stmt:=top 32
theorem xV:aW ["thing"] ["thing"] (aG uX):=⟨rfl,rfl,rfl,by decide +kernel,rfl,by decide +kernel,by decide +kernel⟩
abbrev nA:Stmt:=top 33
theorem rT:aW ["row"] ["row"] (aG nA):=⟨rfl,rfl,rfl,by decide +kernel,rfl,by decide +kernel,by decide +kernel⟩
abbrev nF:Stmt:=top 34
theorem rW:aW ["many","row","ahead","other"] ["many","row","ahead"] (aG nF):=⟨rfl,rfl,rfl,by decide +kernel,rfl,by decide +kernel,by decide +kernel⟩
abbrev kI:Stmt:=top 35
theorem oO:aW ["many","rows","at"] ["many","rows"] (aG kI):=⟨rfl,rfl,rfl,by decide +kernel,rfl,by decide +kernel,by decide +kernel⟩
abbrev z6:Stmt:=top 29
theorem CJ:aW ["one","other"] ["one","other"] (aG z6):=⟨rfl,rfl,rfl,by decide +kernel,rfl,by decide +kernel,by decide +kernel⟩
abbrev qT:Stmt:=top 66
theorem uY:aW ["_law_script","_law_k"] ["_law_script","_law_k"] (aG qT):=⟨rfl,rfl,rfl,by decide +kernel,rfl,by decide +kernel,by decide +kernel⟩
abbrev Pr:Stmt:=top 67
theorem Pu:aW ["_law_cell"] ["_law_cell"] (aG Pr):=⟨rfl,rfl,rfl,by decide +kernel,rfl,by decide +kernel,by decide +kernel⟩
abbrev Gx:Stmt:=top 68
theorem I_:aW ["_law_box_here","_law_many_here","_law_digit","_law_number"] ["_law_box_here","_law_many_here"] (aG Gx):=⟨rfl,rfl,rfl,by decide +kernel,rfl,by decide +kernel,by decide +kernel⟩
abbrev z7:Stmt:=top 69
theorem CK:aW ["_law_box_here","_law_many_here","_law_letters","_law_tail","_law_first","_law_names_here","_law_k","_law_name"] ["_law_box_here","_law_many_here"] (aG z7):=⟨rfl,rfl,rfl,by decide +kernel,rfl,by decide +kernel,by decide +kernel⟩
abbrev Gy:Stmt:=top 71
theorem Ja:aW ["_law_box_here"] ["_law_box_here"] (aG Gy):=⟨rfl,rfl,rfl,by decide +kernel,rfl,by decide +kernel,by decide +kernel⟩
abbrev Gz:Stmt:=top 70
theorem Jb:aW ["_law_box_here","_law_many_here","_law_most","_law_names_here","_law_pinned","_law_rows_here","_law_at","_law_k","_law_left","_law_near","_law_far","_law_gap","_law_wide","_law_size","_law_pins"] ["_law_box_here","_law_many_here"] (aG Gz):=⟨rfl,rfl,rfl,by decide +kernel,rfl,by decide +kernel,by decide +kernel⟩
abbrev z8:Stmt:=top 72
theorem CN:aW ["_law_box_here","_law_some","_law_left","_law_found"] ["_law_box_here","_law_some"] (aG z8):=⟨rfl,rfl,rfl,by decide +kernel,rfl,by decide +kernel,by decide +kernel⟩
abbrev z9:Stmt:=top 22
theorem iR:aW ["thing"] ["thing"] (aG z9):=⟨rfl,rfl,rfl,by decide +kernel,rfl,by decide +kernel,by decide +kernel⟩
abbrev uZ:Stmt:=top 38
theorem xW:aW ["thing"] ["thing"] (aG uZ):=⟨rfl,rfl,rfl,by decide +kernel,rfl,by decide +kernel,by decide +kernel⟩
abbrev qU:Stmt:=top 39
theorem u5:aW ["layout","name","to","blocks","at","least","behind"] ["layout","name","to"] (aG qU):=⟨rfl,rfl,rfl,by decide +kernel,rfl,by decide +kernel,by decide +kernel⟩
abbrev u6:Stmt:=top 40
theorem xX:aW ["layout","name","to","moved_ahead","block"] ["layout","name","to","moved_ahead"] (aG u6):=⟨rfl,rfl,rfl,by decide +kernel,rfl,by decide +kernel,by decide +kernel⟩
abbrev GC:Stmt:=top 41
theorem Jc:aW ["layout","moves","steps","name","to","moved_ahead"] ["layout","moves"] (aG GC):=⟨rfl,rfl,rfl,by decide +kernel,rfl,by decide +kernel,by decide +kernel⟩
abbrev GD:Stmt:=top 42
theorem Jd:aW ["layout","moves"] ["layout","moves"] (aG GD):=⟨rfl,rfl,rfl,by decide +kernel,rfl,by decide +kernel,by decide +kernel⟩
abbrev u9:Stmt:=top 44
theorem xY:aW ["layout","gaps","behind","block"] ["layout"] (aG u9):=⟨rfl,rfl,rfl,by decide +kernel,rfl,by decide +kernel,by decide +kernel⟩
abbrev Aa:Stmt:=top 45
theorem CQ:aW ["size"] ["size"] (aG Aa):=⟨rfl,rfl,rfl,by decide +kernel,rfl,by decide +kernel,by decide +kernel⟩
abbrev u_:Stmt:=top 46
theorem xZ:aW ["block","beyond","cells","size","row","longer","price"] ["block","beyond","cells","size"] (aG u_):=⟨rfl,rfl,rfl,by decide +kernel,rfl,by decide +kernel,by decide +kernel⟩
abbrev GF:Stmt:=top 47
theorem Je:aW ["layout","size","gaps","table","at","block"] ["layout","size"] (aG GF):=⟨rfl,rfl,rfl,by decide +kernel,rfl,by decide +kernel,by decide +kernel⟩
abbrev Ab:Stmt:=top 48
theorem CT:aW ["layout","size","gaps","blocks","falling","at"] ["layout","size"] (aG Ab):=⟨rfl,rfl,rfl,by decide +kernel,rfl,by decide +kernel,by decide +kernel⟩
abbrev vd:Stmt:=top 49
theorem yc:aW ["layout","size"] ["layout","size"] (aG vd):=⟨rfl,rfl,rfl,by decide +kernel,rfl,by decide +kernel,by decide +kernel⟩
abbrev qW:Stmt:=top 50
theorem vf:aW ["layout","first","behind"] ["layout","first","behind"] (aG qW):=⟨rfl,rfl,rfl,by decide +kernel,rfl,by decide +kernel,by decide +kernel⟩
abbrev Ac:Stmt:=top 51
theorem CV:aW ["layout","first","behind"] ["layout","first","behind"] (aG Ac):=⟨rfl,rfl,rfl,by decide +kernel,rfl,by decide +kernel,by decide +kernel⟩
abbrev kJ:Stmt:=top 52
theorem oR:aW ["layout","stretches","first","block"] ["layout"] (aG kJ):=⟨rfl,rfl,rfl,by decide +kernel,rfl,by decide +kernel,by decide +kernel⟩
abbrev Ad:Stmt:=top 57
theorem CW:aW ["size"] ["size"] (aG Ad):=⟨rfl,rfl,rfl,by decide +kernel,rfl,by decide +kernel,by decide +kernel⟩
abbrev qX:Stmt:=top 58
theorem vg:aW ["gap","cells","size","left","right","choices","by","at_right"] ["gap","cells","size","left","right"] (aG qX):=⟨rfl,rfl,rfl,by decide +kernel,rfl,by decide +kernel,by decide +kernel⟩
abbrev Ae:Stmt:=top 59
theorem CZ:aW ["layout","size","tables","choices","gap","cells"] ["layout","size"] (aG Ae):=⟨rfl,rfl,rfl,by decide +kernel,rfl,by decide +kernel,by decide +kernel⟩
abbrev vh:Stmt:=top 60
theorem yg:aW ["layout","gap","by","blocks","gaps","moves","at"] ["layout","gap","by"] (aG vh):=⟨rfl,rfl,rfl,by decide +kernel,rfl,by decide +kernel,by decide +kernel⟩
abbrev qY:Stmt:=top 61
theorem vm:aW ["layout","gap","by","blocks","gaps","moves","at"] ["layout","gap","by"] (aG qY):=⟨rfl,rfl,rfl,by decide +kernel,rfl,by decide +kernel,by decide +kernel⟩
abbrev vo:Stmt:=top 62
theorem yh:aW ["layout","gap","start"] ["layout","gap"] (aG vo):=⟨rfl,rfl,rfl,by decide +kernel,rfl,by decide +kernel,by decide +kernel⟩
abbrev GJ:Stmt:=top 63
theorem Jf:aW ["layout","size","choice","gap","at_right","moves"] ["layout","size"] (aG GJ):=⟨rfl,rfl,rfl,by decide +kernel,rfl,by decide +kernel,by decide +kernel⟩
abbrev qZ:Stmt:=top 64
theorem vp:aW ["layout","size","told","stretches"] ["layout","size","told"] (aG qZ):=⟨rfl,rfl,rfl,by decide +kernel,rfl,by decide +kernel,by decide +kernel⟩
abbrev vq:Stmt:=top 73
theorem yj:aW ["_law_thing"] ["_law_thing"] (aG vq):=⟨rfl,rfl,rfl,by decide +kernel,rfl,by decide +kernel,by decide +kernel⟩
abbrev jJ:Stmt:=top 74
theorem mK:aW ["_law_many_here","_law_rows_here","_law_found","_law_first","_law_used","_law_name","_law_start","_law_size","_law_pins"] ["_law_many_here","_law_rows_here"] (aG jJ):=⟨rfl,rfl,rfl,by decide +kernel,rfl,by decide +kernel,by decide +kernel⟩
abbrev q_:Stmt:=top 75
theorem vA:aW ["_law_box_here","_law_row","_law_at","_law_number"] ["_law_box_here","_law_row"] (aG q_):=⟨rfl,rfl,rfl,by decide +kernel,rfl,by decide +kernel,by decide +kernel⟩
abbrev GK:Stmt:=top 76
theorem Jg:aW ["_law_box_here","_law_row","_law_middle","_law_less"] ["_law_box_here","_law_row"] (aG GK):=⟨rfl,rfl,rfl,by decide +kernel,rfl,by decide +kernel,by decide +kernel⟩
abbrev rA:Stmt:=top 77
theorem vB:aW ["_law_box_here","_law_due","_law_k","_law_way","_law_ahead","_law_row","_law_behind"] ["_law_box_here","_law_due"] (aG rA):=⟨rfl,rfl,rfl,by decide +kernel,rfl,by decide +kernel,by decide +kernel⟩
abbrev vC:Stmt:=top 78
theorem yp:aW ["_law_thing","_law_due","_law_row","_law_other"] ["_law_thing","_law_due"] (aG vC):=⟨rfl,rfl,rfl,by decide +kernel,rfl,by decide +kernel,by decide +kernel⟩
abbrev vD:Stmt:=top 79
theorem yq:aW ["_law_layout","_law_size","_law_due","_law_good","_law_paper","_law_lap","_law_told"] ["_law_layout","_law_size","_law_due","_law_good"] (aG vD):=⟨rfl,rfl,rfl,by decide +kernel,rfl,by decide +kernel,by decide +kernel⟩
abbrev rB:Stmt:=top 80
theorem vG:aW ["_law_layout","_law_size","_law_thing","_law_good","_law_handed","_law_found"] ["_law_layout","_law_size","_law_thing","_law_good"] (aG rB):=⟨rfl,rfl,rfl,by decide +kernel,rfl,by decide +kernel,by decide +kernel⟩
abbrev oU:Stmt:=top 81
theorem Px:aW ["_law_script","_law_k","_law_box_here","_law_many_here","_law_rows_here","_law_due","_law_most","_law_some","_law_size","_law_layout","_law_good","_law_first","_law_other","_law_thing"] ["_law_script"] (aG oU):=⟨rfl,rfl,rfl,by decide +kernel,rfl,by decide +kernel,by decide +kernel⟩
abbrev lH:Stmt:=inClass (top 36) 0
theorem C_:aW ["self","many","rows"] ["self","many","rows"] (aG lH):=⟨rfl,rfl,rfl,by decide +kernel,rfl,by decide +kernel,by decide +kernel⟩
abbrev rC:Stmt:=inClass (top 36) 1
theorem vH:aW ["self"] ["self"] (aG rC):=⟨rfl,rfl,rfl,by decide +kernel,rfl,by decide +kernel,by decide +kernel⟩
abbrev vI:Stmt:=inClass (top 36) 2
theorem yr:aW ["self"] ["self"] (aG vI):=⟨rfl,rfl,rfl,by decide +kernel,rfl,by decide +kernel,by decide +kernel⟩
abbrev vJ:Stmt:=inClass (top 36) 3
theorem yt:aW ["self","name","row"] ["self","name"] (aG vJ):=⟨rfl,rfl,rfl,by decide +kernel,rfl,by decide +kernel,by decide +kernel⟩
abbrev vK:Stmt:=inClass (top 36) 5
theorem yu:aW ["self","name","to","row","others"] ["self","name","to"] (aG vK):=⟨rfl,rfl,rfl,by decide +kernel,rfl,by decide +kernel,by decide +kernel⟩
abbrev Af:Stmt:=inClass (top 55) 0
theorem Dc:aW ["self","cost","number","moves","stretch"] ["self","cost","number","moves","stretch"] (aG Af):=⟨rfl,rfl,rfl,by decide +kernel,rfl,by decide +kernel,by decide +kernel⟩
abbrev rD:Stmt:=inClass (top 55) 1
theorem vL:aW ["self"] ["self"] (aG rD):=⟨rfl,rfl,rfl,by decide +kernel,rfl,by decide +kernel,by decide +kernel⟩
abbrev Ag:Stmt:=inClass (top 56) 0
theorem Dd:aW ["self","stretches"] ["self","stretches"] (aG Ag):=⟨rfl,rfl,rfl,by decide +kernel,rfl,by decide +kernel,by decide +kernel⟩
abbrev rE:Stmt:=inClass (top 54) 0
theorem vM:aW ["self"] ["self"] (aG rE):=⟨rfl,rfl,rfl,by decide +kernel,rfl,by decide +kernel,by decide +kernel⟩
abbrev nH:Stmt:=inClass (top 56) 1
theorem rY:aW ["self"] ["self"] (aG nH):=⟨rfl,rfl,rfl,by decide +kernel,rfl,by decide +kernel,by decide +kernel⟩
structure Txt(K:W.Frag)(mg:Str->Option Value)(c:Nat->Addr)(R CL CP CS aF aq:Addr):Prop where
 vN:HasDef K mg "is_whole" nu
 yw:HasDef K mg "is_from" qO
 rZ:HasDef K mg "is_within" kE
 yx:HasDef K mg "is_many" qP
 yC:HasDef K mg "is_name" qQ
 Df:HasDef K mg "end_of" uW
 Dg:HasDef K mg "is_row" uX
 vO:HasDef K mg "cells_of" nA
 vP:HasDef K mg "need_row" nF
 su:HasDef K mg "need_rows" kI
 Jh:HasDef K mg "share_cells" z6
 yD:HasDef K mg "_law_cell_at" qT
 Vg:HasDef K mg "_law_box" Pr
 Py:HasDef K mg "_law_take" Gx
 Ji:HasDef K mg "_law_names" z7
 Pz:HasDef K mg "_law_many" Gy
 PB:HasDef K mg "_law_rows" Gz
 Jj:HasDef K mg "_law_mixed" z8
 oV:HasDef K mg "has_truth" z9
 Dh:HasDef K mg "is_pair" uZ
 yE:HasDef K mg "is_slide" qU
 Di:HasDef K mg "step_of" u6
 PJ:HasDef K mg "gone_through" GC
 PK:HasDef K mg "slid" GD
 Dj:HasDef K mg "gaps_of" u9
 Jk:HasDef K mg "row_at_end" Aa
 Dk:HasDef K mg "row_beside" u_
 PL:HasDef K mg "left_prices" GF
 Jl:HasDef K mg "right_prices" Ab
 Dm:HasDef K mg "prices" vd
 yF:HasDef K mg "blocks_between" qW
 Jm:HasDef K mg "free_between" Ac
 sy:HasDef K mg "stretches_of" kJ
 Jo:HasDef K mg "need_size" Ad
 yG:HasDef K mg "choices_at" qX
 Jp:HasDef K mg "least_choice" Ae
 Dn:HasDef K mg "slides_to_lesser" vh
 yH:HasDef K mg "slides_to_greater" qY
 Dp:HasDef K mg "hole_at_gap" vo
 PN:HasDef K mg "plan" GJ
 yI:HasDef K mg "is_stuck" qZ
 Dq:HasDef K mg "_law_whole" vq
 oW:HasDef K mg "_law_stretches" jJ
 yJ:HasDef K mg "_law_turned" q_
 PX:HasDef K mg "_law_cut" GK
 yK:HasDef K mg "_law_forged" rA
 Dr:HasDef K mg "_law_alike" vC
 Ds:HasDef K mg "_law_paper_right" vD
 yL:HasDef K mg "_law_judged" rB
 bJ:mg "isinstance" = none
 yM:mg "int" = none
 nJ:mg "bool" = none
 Vh:mg "str" = none
 fG:mg "list" = none
 iV:mg "tuple" = none
 iW:mg "len" = none
 Du:mg "all" = none
 gj:mg "range" = none
 Dv:mg "sorted" = none
 kO:mg "max" = none
 Dw:mg "min" = none
 Vi:mg "sum" = none
 kW:mg "enumerate" = none
 Vj:mg "zip" = none
 jK:mg "reversed" = none
 Jq:mg "any" = none
 yN:mX mg "LETTERS" (.str LET)
 oX:mX mg "NAME_SIGNS" (.str SGN)
 oY:mX mg "MOST_SIGNS" (.int 8)
 kY:mX mg "FEWEST_CELLS" (.int 16)
 jL:mX mg "MOST_CELLS" (.int 240)
 mL:mX mg "MOST_BLOCKS" (.int 40)
 g_R:mg "RoomError" = some (.ref R)
 c_R:(W.clsIn K R).isSome=true
 t_R:W.typeIn K (.ref R)=some (.type "type")
 m_R:W.mroIn K R (.type "BaseException")=some true
 clL:Cls K CL
 yO:mg "Layout" = some (.ref CL)
 bw:dO K CL "many"
 bB:dO K CL "rows"
 clP:Cls K CP
 Ah:mg "Plan" = some (.ref CP)
 bC:dO K CP "cost"
 aM:dO K CP "number"
 aQ:dO K CP "moves"
 aK:dO K CP "stretch"
 clS:Cls K CS
 vQ:mg "Stuck" = some (.ref CS)
 aC:dO K CS "stretches"
 yP:W.codeHdIn K aF aq=true
 Jr:∃f,(∃fd,Fun K "__init__" "Layout.__init__" lH f fd/\fd.code=.ref aF)/\Mk K CL f
 yQ:∃f,FnAt K "blocks" "Layout.blocks" rC f/\Meth K CL "blocks" f
 Dy:∃f,FnAt K "names" "Layout.names" vI f/\Meth K CL "names" f
 Dz:∃f,FnAt K "block" "Layout.block" vJ f/\Meth K CL "block" f
 DG:∃f,FnAt K "moved" "Layout.moved" vK f/\Meth K CL "moved" f
 Js:∃f,FnAt K "__init__" "Plan.__init__" Af f/\Mk K CP f
 yR:∃f,FnAt K "brings" "Plan.brings" rD f/\Meth K CP "brings" f
 Jt:∃f,FnAt K "__init__" "Stuck.__init__" Ag f/\Mk K CS f
 yS:∃f,FnAt K "brings" "Paper.brings" rE f/\Meth K CS "brings" f
 vR:∃f,FnAt K "counted" "Stuck.counted" nH f/\Meth K CS "counted" f
 P0:W.specialIn K (.builtin "object.__class__") "__get__" = some (some (.builtin "getset_descriptor.__get__"))
 P_:W.takesIn K (.builtin "object.__class__")=some true
 Ju:W.findIn K (.ref CP) "__class__" = some (some (.builtin "object.__class__"))
 Jv:W.mroIn K CP (.type "object")=some true
 Jw:W.findIn K (.ref CS) "__class__" = some (some (.builtin "object.__class__"))
 Jx:W.mroIn K CS (.type "object")=some true
local macro_rules|`(tactic| k_room)=>`(tactic| first
 | with_reducible assumption
 | with_unfolding_all exact rfl
 | with_unfolding_all exact Nat.le_of_ble_eq_true rfl
 | lia
 | (with_reducible refine cI ?_;first|lia|(simp only[List.length_cons,List.length_nil,List.length_map,List.length_append,List.length_replicate,fX,List.length_take,List.length_drop,List.length_set];lia))
 | (with_reducible refine B_ ?_;first|lia|(simp only[List.length_cons,List.length_nil,List.length_map,List.length_append,List.length_replicate,fX,List.length_take,List.length_drop,List.length_set];lia))
 | (simp only[List.length_cons,List.length_nil,List.length_map,List.length_append,List.length_replicate,fX,List.length_take,List.length_drop,List.length_set];lia)
 | decide)
local macro_rules|`(tactic| k_mem)=>`(tactic| first
 | with_reducible assumption
 | decide
 | lia
 | (simp only[List.length_cons,List.length_nil,List.length_map,List.length_append,List.length_replicate,fX,List.length_take,List.length_drop,List.length_set];lia))
set_option hygiene false in
local macro_rules|`(tactic| k_meth)=>`(tactic| first
 | with_reducible refine go1 ?_
 | (clear F;intro H_ a_ dx_ (F:SH _ _ _ _ _) (ex_:Gb _ _ _ _);have exA_:=ExA.mk ex_)
 | (clear F;intro H_ (F:SH _ _ _ _ _))
 | (clear F;intro H_ p_ (F:SH _ _ _ _ _))
 | (clear F;intro H_ x_ dx_ (F:SH _ _ _ _ _))
 | (clear F;intro H_ p_ ys_ l_ (F:SH _ _ _ _ _))
 | with_reducible refine sd (by k_room) ?_
 | (intro (r_:Int) (x_:Int) (y_:Int) (z_:Int) lo_ hi_)
 | (intro (x_:Int) (y_:Int))
 | (intro (c_:Int))
 | with_reducible refine U3 (by k_mem) ?_
 | with_reducible refine U4 (by k_mem) ?_
 | with_reducible refine NP (by k_mem) ?_
 | with_reducible refine NQ (by k_mem) ?_)
def vU:Sp:=λvs H Q _=>∃cs:List Nat,vs=[.str (tx cs)]/\gZ cs/\∀H',Same H H'->Q (.bl true) H'
def DK:Sp:=λvs H Q _=>∃(p q:Addr) (a b c d:Int),vs=[.ref p,.ref q]/\H p=some (.tup [.int a,.int b])/\H q=some (.tup [.int c,.int d])/\Q (.bl (decide (a<c+d) && decide (c<a+b))) H
def DN:Sp:=λvs H Q _=>∃(q:Addr) (r:Rw),vs=[.ref q]/\H q=some (.tup (d8 r))/\∀p H',Same H H'->H' p=some (.tup [.int (r.st:Nat),.int (r.sz:Nat)])->Q (.ref p) H'
def yU:Sp:=λvs H Q _=>∃(q:Addr) (r:Rw),vs=[.ref q]/\H q=some (.tup (d8 r))/\gZ r.nm/\1<=r.sz/\∀H',Same H H'->Q (.bl true) H'
def sE:Sp:=λvs H Q _=>∃(n:Nat) (q l:Addr) (r:Rw) (ys:List V) (rs:List Rw),vs=[.int (n:Nat),.ref q,.ref l]/\H q=some (.tup (d8 r))/\H l=some (.lst ys)/\aH H ys (aX rs)/\GoodR n r/\(∀s∈rs,Apart s r)/\∀H',Same H H'->Q .non H'
def oZ:Sp:=λvs H Q _=>∃(n:Nat) (l:Addr) (ys:List V) (rs:List Rw),vs=[.int (n:Nat),.ref l]/\H l=some (.lst ys)/\aH H ys (aX rs)/\Lay n rs/\∀H',Same H H'->Q .non H'
section
variable{H:Hp}{Q:VK}{E:XK}{cs:List Nat}{p q l:Addr}{a b c d:Int}{r:Rw}{n:Nat}{ys:List V}{rs:List Rw}
instance X3:Go (vU [.str (tx cs)] H Q E) (Sd (gZ cs) (∀H',Same H H'->Q (.bl true) H')):=⟨λs=>⟨cs,rfl,s.1,s.2⟩⟩
instance abj[h:Hat H p (.tup [.int a,.int b])][h2:Hat H q (.tup [.int c,.int d])]:Go (DK [.ref p,.ref q] H Q E) (Q (.bl (decide (a<c+d) && decide (c<a+b))) H):=⟨λk=>⟨p,q,a,b,c,d,rfl,h.e,h2.e,k⟩⟩
instance abk[h:Hat H q (.tup (d8 r))]:Go (DN [.ref q] H Q E) (∀p H',Same H H'->H' p=some (.tup [.int (r.st:Nat),.int (r.sz:Nat)])->Q (.ref p) H'):=⟨λk=>⟨q,r,rfl,h.e,k⟩⟩
instance YW[h:Hat H q (.tup (d8 r))]:Go (yU [.ref q] H Q E) (Sd (gZ r.nm/\1<=r.sz) (∀H',Same H H'->Q (.bl true) H')):=⟨λs=>⟨q,r,rfl,h.e,s.1.1,s.1.2,s.2⟩⟩
instance Vk[h:Hat H q (.tup (d8 r))][h2:Hat H l (.lst ys)][t:TpA H ys (aX rs)]:Go (sE [.int (n:Nat),.ref q,.ref l] H Q E) (Sd (GoodR n r/\∀s∈rs,Apart s r) (∀H',Same H H'->Q .non H')):=⟨λs=>⟨n,q,l,r,ys,rs,rfl,h.e,h2.e,t.e,s.1.1,s.1.2,s.2⟩⟩
instance T5[h2:Hat H l (.lst ys)][t:TpA H ys (aX rs)]:Go (oZ [.int (n:Nat),.ref l] H Q E) (Sd (Lay n rs) (∀H',Same H H'->Q .non H')):=⟨λs=>⟨n,l,ys,rs,rfl,h2.e,t.e,s.1,s.2⟩⟩
instance abl{H0:Hp}{M:List Addr}{L:List (Addr×HO)}{I:List Im}{xs:List V}{Z:Addr->Hp->Prop}[F:SH H0 M H L I]:Go (∀p H',Same H H'->H' p=some (.tup xs)->Z p H') (∀H' p,SH H0 M H' L (.tup p xs::I)->Z p H'):=⟨λk p H' s e=>k H' p ((F.same s).Kz e)⟩
theorem K3{i:Nat}(t:aH H ys (aX rs)):aH H (ys.take i) (aX (rs.take i)):=by
 refine⟨?_,λj r e=>?_⟩
 ·rw[bL,List.length_take,List.length_take,t.1,bL]
 ·unfold aX at e
  rw[List.map_take,List.getElem?_take] at e
  split at e
  ·rename_i hj
   obtain⟨q,e1,e2⟩:=t.2 j r e
   exact⟨q,by rw[List.getElem?_take,if_pos hj];exact e1,e2⟩
  ·cases e
theorem DP{i:Nat}:nW ys none (some (i:Int))=ys.take i:=by
 unfold nW
 rw[HT.Hr]
 show (ys.drop 0).take (min i ys.length-0)=_
 rw[List.drop_zero,Nat.sub_zero]
 by_cases h:i<=ys.length
 ·rw[show min i ys.length=i by lia]
 ·rw[List.take_of_length_le (by lia),List.take_of_length_le (by lia)]
end
section
variable{H:Hp}{l:Addr}{x y z v:V}{r:List V}{R:Hp->Prop}
instance ac0[h:Hat H l (.lst (x::r))]:Go (BL (.ref l) (.int 0) v H R) (∀H',Off l H H'->H' l=some (.lst (v::r))->R H'):=⟨λk=>Gm h.e (j:=0) (by unfold ixN;rw[if_pos (by decide),if_pos (by simp only[List.length_cons];lia)];rfl) k⟩
def DQ:Sp:=λvs H Q _=>∃(p:Addr) (a b c m:Int),vs=[.ref p,.int m]/\H p=some (.lst [.int a,.int b,.int c])/\0<m/\m<1073741824/\∀(r a' b' c':Int) (H':Hp),0<=r->r<m->Kp p H H'->H' p=some (.lst [.int a',.int b',.int c'])->Q (.int r) H'
instance abm{Q:VK}{E:XK}{p:Addr}{a b c m:Int}[h:Hat H p (.lst [.int a,.int b,.int c])]:Go (DQ [.ref p,.int m] H Q E) (Sd (0<m/\m<1073741824) (∀r a' b' c':Int,0<=r->r<m->∀H',Kp p H H'->H' p=some (.lst [.int a',.int b',.int c'])->Q (.int r) H')):=⟨λs=>⟨p,a,b,c,m,rfl,h.e,s.1.1,s.1.2,λr a' b' c' H' h0 h1 f e=>s.2 r a' b' c' h0 h1 H' f e⟩⟩
instance ac1[h:Hat H l (.lst (x::y::z::r))]:Go (BL (.ref l) (.int 2) v H R) (∀H',Off l H H'->H' l=some (.lst (x::y::v::r))->R H'):=⟨λk=>Gm h.e (j:=2) (by unfold ixN;rw[if_pos (by decide),if_pos (by simp only[List.length_cons];lia)];rfl) k⟩
end
section
variable{P:Program}{w:World}{K:W.Frag}{mg:Str->Option Value}{base:Heap}{c:Nat->Addr}{aF aq R CL CP CS:Addr}
theorem eV(T:Txt K mg c R CL CP CS aF aq):Def P w K mg base CX0 1 "is_whole" ["thing"] (uI K):=by
 refine bQ T.vN rR (λvs H Q E h=>?_) (λ_ _ _ _ _ _=>el1 λ_=>rfl) (λf cdv A outer s H vs Q E hr h=>?_)
 ·obtain⟨x,n,rfl,_⟩:=h
  rfl
 ·obtain⟨x,n,rfl,ty,k⟩:=h
  have nd:=rR.nd
  refine⟨_,(aB (aV (fO (aY cV rfl T.bJ boot_isinstance (aj (pv 0) (aj (fC (T := "int") rfl T.yM boot_int) ao))) (gV (Lz (aY cV rfl T.bJ boot_isinstance (aj (pv 0) (aj (fC (T := "bool") rfl T.nJ boot_bool) ao)))))))),?_⟩
  clear nd 
  rw[show start ["thing"] [x]=[some (x)] from rfl]
  try dsimp only[cO,bW]
  rw[M6] at k
  repeat k_meth
  refine w_is ty (M7 ty) ?_
  repeat k_meth
  refine i_b (λh=>?_) (λh=>?_)
  ·repeat k_meth
   refine w_is ty (oE ty) ?_
   repeat k_meth
   rw[h] at k
   exact k
  ·rw[h] at k
   exact k
theorem dj(T:Txt K mg c R CL CP CS aF aq):Def P w K mg base CX0 2 "is_from" ["thing","low"] (m7 K):=by
 have eV:=eV (P:=P) (w:=w) (base:=base) T
 refine bQ T.yw uT (λvs H Q E h=>?_) (λ_ _ _ _ _ _=>el2 λ_ _=>rfl) (λf cdv A outer s H vs Q E hr h=>?_)
 ·obtain⟨x,n,lo,rfl,_⟩:=h
  rfl
 ·obtain⟨x,n,lo,rfl,ty,k⟩:=h
  have nd:=uT.nd
  refine⟨_,(aB (aV (fO (aJ eV hr (aj (pv 0) ao)) (gV (dJ wW (pv 1) (pv 0) (bR _)))))),?_⟩
  clear nd eV
  rw[show start ["thing","low"] [x,.int lo]=[some (x),some (.int lo)] from rfl]
  try dsimp only[cO,bW]
  repeat k_meth
  refine Ib ty ?_
  repeat k_meth
  cases x with
  | int i =>
   refine i_T rfl ?_
   repeat k_meth
   exact k
  | _=>exact i_F rfl k
theorem cR(T:Txt K mg c R CL CP CS aF aq):Def P w K mg base CX0 2 "is_within" ["thing","low","high"] (jG K):=by
 have eV:=eV (P:=P) (w:=w) (base:=base) T
 refine bQ T.rZ oN (λvs H Q E h=>?_) (λ_ _ _ _ _ _=>el3 λ_ _ _=>rfl) (λf cdv A outer s H vs Q E hr h=>?_)
 ·obtain⟨x,n,lo,hi,rfl,_⟩:=h
  rfl
 ·obtain⟨x,n,lo,hi,rfl,ty,k⟩:=h
  have nd:=oN.nd
  refine⟨_,(aB (aV (fO (aJ eV hr (aj (pv 0) ao)) (gV (Mj wW wW (pv 1) (pv 0) (pv 2)))))),?_⟩
  clear nd eV
  rw[show start ["thing","low","high"] [x,.int lo,.int hi]=[some (x),some (.int lo),some (.int hi)] from rfl]
  try dsimp only[cO,bW]
  repeat k_meth
  refine Ib ty ?_
  repeat k_meth
  cases x with
  | int i =>
   refine i_T rfl ?_
   repeat k_meth
   have k:Q (.bl (decide (lo<=i) && decide (i<=hi))) H:=k
   refine fW (λh=>?_) (λh=>?_)
   ·repeat k_meth
    rw[decide_eq_true h,Bool.true_and] at k
    exact k
   ·rw[decide_eq_false h,Bool.false_and] at k
    exact k
  | _=>exact i_F rfl k
theorem lJ(T:Txt K mg c R CL CP CS aF aq):Def P w K mg base CX0 3 "is_many" ["thing"] (uJ K):=by
 have cR:=cR (P:=P) (w:=w) (base:=base) T
 refine bQ T.yx uU (λvs H Q E h=>?_) (λ_ _ _ _ _ _=>el1 λ_=>rfl) (λf cdv A outer s H vs Q E hr h=>?_)
 ·obtain⟨x,n,rfl,_⟩:=h
  rfl
 ·obtain⟨x,n,rfl,ty,k⟩:=h
  have nd:=uU.nd
  refine⟨_,(aB (aV (aJ cR hr (aj (pv 0) (aj (nZ T.kY) (aj (nZ T.jL) ao)))))),?_⟩
  clear nd cR
  rw[show start ["thing"] [x]=[some (x)] from rfl]
  try dsimp only[cO,bW]
  repeat k_meth
  exact Og ty k
theorem zsix(T:Txt K mg c R CL CP CS aF aq):ak K CL "many"/\ak K CL "rows"/\ak K CP "cost"/\ak K CP "number"/\ak K CP "moves"/\ak K CP "stretch"/\ak K CS "stretches":=⟨⟨T.clL,T.bw⟩,⟨T.clL,T.bB⟩,⟨T.clP,T.bC⟩,⟨T.clP,T.aM⟩,⟨T.clP,T.aQ⟩,⟨T.clP,T.aK⟩,⟨T.clS,T.aC⟩⟩
theorem cC(T:Txt K mg c R CL CP CS aF aq):Def P w K mg base CX0 1 "end_of" ["stretch"] qD:=by
 refine bQ T.Df xU (λvs H Q E h=>?_) (λ_ _ _ _ _ _=>el1 λ_=>rfl) (λf cdv A outer s H vs Q E hr h=>?_)
 ·obtain⟨q,a,b,rfl,_⟩:=h
  rfl
 ·obtain⟨q,a,b,rfl,h,k⟩:=h
  have nd:=xU.nd
  refine⟨_,(aB (aV (aR cG (aZ bT (pv 0) aA (λ_ _=>rfl)) (aZ bT (pv 0) aA (λ_ _=>rfl))))),?_⟩
  clear nd 
  rw[show start ["stretch"] [.ref q]=[some (.ref q)] from rfl]
  try dsimp only[cO,bW]
  obtain⟨bD,bF,bG,aN,aU,aL,aD⟩:=zsix T
  have o_h:=Old.mk (M:=[]) h nm0
  have F:SH H [] H [] []:=SH.nil
  repeat k_meth
  exact k
theorem lK(T:Txt K mg c R CL CP CS aF aq):Def P w K mg base CX0 1 "_law_cell_at" ["_law_script","_law_k"] (uK K):=by
 refine bQ T.yD uY (λvs H Q E h=>?_) (λ_ _ _ _ _ _=>el2 λ_ _=>rfl) (λf cdv A outer s H vs Q E hr h=>?_)
 ·obtain⟨a,ns,m,rfl,_⟩:=h
  rfl
 ·obtain⟨a,ns,m,rfl,hS,m0,k⟩:=h
  have nd:=uY.nd
  refine⟨_,(au (cF (bU rJ (pv 1) (aY dB rfl T.iW boot_len (aj (pv 0) ao)) (bR _)) (aB (aV (aZ bO (pv 0) (pv 1) (λ_ _=>rfl)))) bI)
   (aB (aV (aR cG (aR jZ aA (pv 1)) aA)))),?_⟩
  clear nd 
  rw[show start ["_law_script","_law_k"] [.ref a,.int m]=[some (.ref a),some (.int m)] from rfl]
  try dsimp only[cO,bW]
  obtain⟨bD,bF,bG,aN,aU,aL,aD⟩:=zsix T
  have aeP:=W9.mk (M:=[]) hS nm0
  have F:SH H [] H [] []:=SH.nil
  repeat k_meth
  refine fW (λh=>?_) (λh=>?_)
  ·repeat k_meth
   obtain⟨v,e,mm⟩:=M8 (xs:=ns.map V.int) m0 h
   obtain⟨c,_,rfl⟩:=List.mem_map.mp mm
   exact Nv hS e (k c)
  ·repeat k_meth
   exact k _
theorem Jy(T:Txt K mg c R CL CP CS aF aq):Def P w K mg base CX0 1 "_law_box" ["_law_cell"] zT:=by
 refine bQ T.Vg Pu (λvs H Q E h=>?_) (λ_ _ _ _ _ _=>el1 λ_=>rfl) (λf cdv A outer s H vs Q E hr h=>?_)
 ·obtain⟨c,rfl,_⟩:=h
  rfl
 ·obtain⟨c,rfl,k⟩:=h
  have nd:=Pu.nd
  refine⟨_,(aB (aV (bV (aj (aR jZ (aY (fu rfl) rfl T.kO boot_max (aj aA (aj (pv 0) ao))) (eY qz rfl T.yM boot_int (aj (dJ Zh (pv 0) (aR Mg aA aA) (bR _)) ao))) (aj (aR jB (pv 0) aA) (aj aA ao)))))),?_⟩
  clear nd 
  rw[show start ["_law_cell"] [.int c]=[some (.int c)] from rfl]
  try dsimp only[cO,bW]
  obtain⟨bD,bF,bG,aN,aU,aL,aD⟩:=zsix T
  have F:SH H [] H [] []:=SH.nil
  repeat k_meth
  exact k _ _ _ _ SH.nwC
theorem bM(T:Txt K mg c R CL CP CS aF aq):Def P w K mg base CX0 1 "_law_take" ["_law_box_here","_law_many_here"] DQ:=by
 refine bQ T.Py I_ (λvs H Q E h=>?_) (λ_ _ _ _ _ _=>el2 λ_ _=>rfl) (λf cdv A outer s H vs Q E hr h=>?_)
 ·obtain⟨p,a,b,c,m,rfl,_⟩:=h
  rfl
 ·obtain⟨p,a,b,c,m,rfl,hp,m0,m1,k⟩:=h
  have nd:=I_.nd
  refine⟨_,(au (cF (bU jU (aZ bO (pv 0) aA (λ_ _=>rfl)) aA (bR _)) (au (aP (i:=2) nd rfl (Or.inl rfl) (aR jB (aZ bO (pv 0) aA (λ_ _=>rfl)) (pv 1)))
    (au (Fd (aR nR (aZ bO (pv 0) aA (λ_ _=>rfl)) (pv 1)) (Fb (pv 0) aA qx))
    (aB (aV (pv 2))))) bI)
   (au (Fd (aR cG (aZ bO (pv 0) aA (λ_ _=>rfl)) aA) (Fb (pv 0) aA qx))
   (au (aP (i:=3) nd rfl (Or.inl rfl) (aR jB (aR jZ (aR cG (aZ bO (pv 0) aA (λ_ _=>rfl)) (aR jZ aA (aZ bO (pv 0) aA (λ_ _=>rfl)))) aA) aA))
   (au (aP (i:=3) nd rfl (Or.inl rfl) (aR jB (aR jZ (pv 3) (pv 3)) aA))
   (aB (aV (aR jB (aR nR (aR jB (aR jZ (aR cG (pv 3) (aZ bO (pv 0) aA (λ_ _=>rfl))) (aR cG (pv 3) aA)) aA) aA) (pv 1)))))))),?_⟩
  clear nd 
  rw[show start ["_law_box_here","_law_many_here","_law_digit","_law_number"] [.ref p,.int m]=[some (.ref p),some (.int m),none,none] from rfl]
  try dsimp only[cO,bW]
  obtain⟨bD,bF,bG,aN,aU,aL,aD⟩:=zsix T
  have F:SH H [p] H [(p,.lst [.int a,.int b,.int c])] []:=SH.nil.iI List.mem_cons_self hp rfl (by simp)
  repeat k_meth
  refine fW (λh=>?_) (λh=>?_)
  ·repeat k_meth
   exact k _ _ _ _ _ (Int.emod_nonneg _ (by lia)) (Int.emod_lt_of_pos _ m0) F.kpo aO
  ·repeat k_meth
   exact k _ _ _ _ _ (Int.emod_nonneg _ (by lia)) (Int.emod_lt_of_pos _ m0) F.kpo aO
theorem lM(T:Txt K mg c R CL CP CS aF aq):Def P w K mg base CX0 1 "is_name" ["thing"] vU:=by
 refine bQ T.yC uV (λvs H Q E h=>?_) (λ_ _ _ _ _ _=>el1 λ_=>rfl) (λf cdv A outer s H vs Q E hr h=>?_)
 ·obtain⟨cs,rfl,_⟩:=h
  rfl
 ·obtain⟨cs,rfl,ok,k⟩:=h
  have nd:=uV.nd
  refine⟨_,(au (cF (PW.pt (rH (dG (cT (aY cV rfl T.bJ boot_isinstance (aj (pv 0) (aj (fC (T := "str") rfl T.Vh boot_str) ao))))) (mV (dG (Bo wW wW aA (aY dB rfl T.iW boot_len (aj (pv 0) ao)) (nZ T.oY)))))) (aB (aV fH)) bI)
   (aB (aV (fO (dJ Ow (aZ uo (pv 0) aA (λ_ _=>rfl)) (nZ T.yN) (by with_unfolding_all rfl)) (gV (aY (n6 rfl) rfl T.Du boot_all (aj (fj (N:=["sign"]) (nt:=1) (fr:=[]) (V9 (pv 0)) (λ_ _ _ _=>(bN (i:=0) (show (["sign"]:List Str).Nodup from by decide +kernel) rfl (Or.inl rfl))) (λ_ _ _ _=>eZ) (λ_ _ _ _=>(dJ Ow (pv 0) (nZ T.oX) (by with_unfolding_all rfl)))) ao))))))),?_⟩
  clear nd 
  rw[show start ["thing"] [.str (tx cs)]=[some (.str (tx cs))] from rfl]
  try dsimp only[cO,bW]
  obtain⟨bD,bF,bG,aN,aU,aL,aD⟩:=zsix T
  have F:SH H [] H [] []:=SH.nil
  have h1:=ok.lo
  have h2:=ok.hi
  repeat k_meth
  intro c hc
  repeat k_meth
  rw[Td,ok.hd c hc]
  repeat k_meth
  refine Xw (F:=λc=>V.bl true) (by lia) rfl (λc H' R hm s kk=>?_) ?_
  ·clear F
   have F:SH H' [] H' [] []:=SH.nil
   repeat k_meth
   rw[Te,ok.all c hm]
   exact kk _ (Same.refl _)
  ·have e:(cs.map λ_=>V.bl true)=(List.replicate cs.length true).map V.bl:=by
    rw[List.map_replicate,List.map_const']
   rw[e]
   repeat k_meth
   rw[show (List.replicate cs.length true).all id=true by simp]
   exact k _ F.sm
theorem tG(T:Txt K mg c R CL CP CS aF aq):Def P w K mg base CX0 2 "share_cells" ["one","other"] DK:=by
 have cC:=cC (P:=P) (w:=w) (base:=base) T
 refine bQ T.Jh CJ (λvs H Q E h=>?_) (λ_ _ _ _ _ _=>el2 λ_ _=>rfl) (λf cdv A outer s H vs Q E hr h=>?_)
 ·obtain⟨p,q,a,b,c,d,rfl,_⟩:=h
  rfl
 ·obtain⟨p,q,a,b,c,d,rfl,hp,hq,k⟩:=h
  have nd:=CJ.nd
  refine⟨_,(aB (aV (fO (dJ rJ (aZ bT (pv 0) aA (λ_ _=>rfl)) (aJ cC hr (aj (pv 1) ao)) (bR _)) (gV (dJ rJ (aZ bT (pv 1) aA (λ_ _=>rfl)) (aJ cC hr (aj (pv 0) ao)) (bR _)))))),?_⟩
  clear nd cC
  rw[show start ["one","other"] [.ref p,.ref q]=[some (.ref p),some (.ref q)] from rfl]
  try dsimp only[cO,bW]
  obtain⟨bD,bF,bG,aN,aU,aL,aD⟩:=zsix T
  have iT:=Old.mk (M:=[]) hp nm0
  have K4:=Old.mk (M:=[]) hq nm0
  have F:SH H [] H [] []:=SH.nil
  repeat k_meth
  refine fW (λh=>?_) (λh=>?_)
  ·repeat k_meth
   rw[decide_eq_true h,Bool.true_and] at k
   exact k
  ·rw[decide_eq_false h,Bool.false_and] at k
   exact k
theorem b_(T:Txt K mg c R CL CP CS aF aq):Def P w K mg base CX0 1 "cells_of" ["row"] DN:=by
 refine bQ T.vO rT (λvs H Q E h=>?_) (λ_ _ _ _ _ _=>el1 λ_=>rfl) (λf cdv A outer s H vs Q E hr h=>?_)
 ·obtain⟨q,r,rfl,_⟩:=h
  rfl
 ·obtain⟨q,r,rfl,hq,k⟩:=h
  have nd:=rT.nd
  refine⟨_,(aB (aV (cU (aj (aZ bT (pv 0) aA (λ_ _=>rfl)) (aj (aZ bT (pv 0) aA (λ_ _=>rfl)) ao))))),?_⟩
  clear nd 
  rw[show start ["row"] [.ref q]=[some (.ref q)] from rfl]
  try dsimp only[cO,bW]
  obtain⟨bD,bF,bG,aN,aU,aL,aD⟩:=zsix T
  have K4:=Old.mk (M:=[]) hq nm0
  have F:SH H [] H [] []:=SH.nil
  repeat k_meth
  exact k _ _ F.sm aO
theorem o_(T:Txt K mg c R CL CP CS aF aq):Def P w K mg base CX0 3 "is_row" ["thing"] yU:=by
 have lM:=lM (P:=P) (w:=w) (base:=base) T
 have dj:=dj (P:=P) (w:=w) (base:=base) T
 refine bQ T.Dg xV (λvs H Q E h=>?_) (λ_ _ _ _ _ _=>el1 λ_=>rfl) (λf cdv A outer s H vs Q E hr h=>?_)
 ·obtain⟨q,r,rfl,_⟩:=h
  rfl
 ·obtain⟨q,r,rfl,hq,ok,hz,k⟩:=h
  have nd:=xV.nd
  refine⟨_,(au (cF (PW.pt (rH (dG (cT (aY cV rfl T.bJ boot_isinstance (aj (pv 0) (aj (fC (T := "tuple") rfl T.iV boot_tuple) ao))))) (mV (bU Mi (aY dB rfl T.iW boot_len (aj (pv 0) ao)) aA (bR _))))) (aB (aV fH)) bI)
   (aB (aV (fO (aJ lM hr (aj (aZ bT (pv 0) aA (λ_ _=>rfl)) ao)) (fO (aJ dj hr (aj (aZ bT (pv 0) aA (λ_ _=>rfl)) (aj aA ao))) (fO (aJ dj hr (aj (aZ bT (pv 0) aA (λ_ _=>rfl)) (aj aA ao))) (gV (aJ dj hr (aj (aZ bT (pv 0) aA (λ_ _=>rfl)) (aj aA ao)))))))))),?_⟩
  clear nd lM dj
  rw[show start ["thing"] [.ref q]=[some (.ref q)] from rfl]
  try dsimp only[cO,bW]
  obtain⟨bD,bF,bG,aN,aU,aL,aD⟩:=zsix T
  have K4:=Old.mk (M:=[]) hq nm0
  have F:SH H [] H [] []:=SH.nil
  have e4:(((d8 r).length:Nat):Int)=4:=rfl
  repeat k_meth
  exact k _ F.sm
theorem jM(T:Txt K mg c R CL CP CS aF aq):Def P w K mg base CX0 4 "need_row" ["many","row","ahead"] sE:=by
 have o_:=o_ (P:=P) (w:=w) (base:=base) T
 have cC:=cC (P:=P) (w:=w) (base:=base) T
 have tG:=tG (P:=P) (w:=w) (base:=base) T
 have b_:=b_ (P:=P) (w:=w) (base:=base) T
 refine bQ T.vP rW (λvs H Q E h=>?_) (λ_ _ _ _ _ _=>el3 λ_ _ _=>rfl) (λf cdv A outer s H vs Q E hr h=>?_)
 ·obtain⟨n,q,l,r,ys,rs,rfl,_⟩:=h
  rfl
 ·obtain⟨n,q,l,r,ys,rs,rfl,hq,hl,tp,gd,ap,k⟩:=h
  have nd:=rW.nd
  refine⟨_,(au (cF (dG (cT (aJ o_ hr (aj (pv 1) ao)))) cW bI)
   (au (cF (bU jU (aJ cC hr (aj (aJ b_ hr (aj (pv 1) ao)) ao)) (pv 0) (bR _)) cW bI)
   (au (dX PassesOwn.never rfl (dh (pv 2)) (bN (i:=3) nd rfl (Or.inl rfl)) (aB (cF (bU gG (aZ bT (pv 3) aA (λ_ _=>rfl)) (aZ bT (pv 1) aA (λ_ _=>rfl)) (bR _)) cW bI)))
   (aB (dX PassesOwn.never rfl (dh (pv 2)) (bN (i:=3) nd rfl (Or.inl rfl)) (aB (cF (cT (aJ tG hr (aj (aJ b_ hr (aj (pv 1) ao)) (aj (aJ b_ hr (aj (pv 3) ao)) ao)))) cW bI))))))),?_⟩
  clear nd o_ cC tG b_
  rw[show start ["many","row","ahead","other"] [.int (n:Nat),.ref q,.ref l]=[some (.int (n:Nat)),some (.ref q),some (.ref l),none] from rfl]
  try dsimp only[cO,bW]
  obtain⟨bD,bF,bG,aN,aU,aL,aD⟩:=zsix T
  have K4:=Old.mk (M:=[]) hq nm0
  have K5:=Old.mk (M:=[]) hl nm0
  have jx:=gk.mk tp
  have F:SH H [] H [] []:=SH.nil
  have ok:gZ r.nm/\1<=r.sz:=⟨gd.nm,gd.sz⟩
  have le:=gd.le
  repeat k_meth
  refine f9 (xs:=ys) (λi σ' H'=>∃o3:Option V,σ'=[some (.int (n:Nat)),some (.ref q),some (.ref l),o3]/\SH H [] H' [] []) ⟨_,rfl,F.Gs⟩ ?_ ?_ ?_
  ·clear F
   rintro i σ' H' _ ⟨_,rfl,F⟩
   exact SqA.e
  ·clear F
   rintro i v σ' H' hv ⟨_,rfl,F⟩
   obtain⟨s,q1,e1,rfl,e2⟩:=d7 tp hv
   have vV:=Old.mk (M:=[]) e2 nm0
   have ne:¬ tx s.nm=tx r.nm:=λz=>(ap s (List.mem_of_getElem? e1)).1 (qF z)
   repeat k_meth
   exact⟨_,rfl,F⟩
  ·clear F
   rintro σ' H' ⟨_,rfl,F⟩
   repeat k_meth
   refine f9 (xs:=ys) (λi σ' H'=>∃o3:Option V,σ'=[some (.int (n:Nat)),some (.ref q),some (.ref l),o3]/\SH H [] H' [] []) ⟨_,rfl,F.Gs⟩ ?_ ?_ ?_
   ·clear F
    rintro i σ' H' _ ⟨_,rfl,F⟩
    exact SqA.e
   ·clear F
    rintro i v σ' H' hv ⟨_,rfl,F⟩
    obtain⟨s,q1,e1,rfl,e2⟩:=d7 tp hv
    have vV:=Old.mk (M:=[]) e2 nm0
    have ne:=(ap s (List.mem_of_getElem? e1)).2
    repeat k_meth
    have e5:(decide (((r.st:Nat):Int)<((s.st:Nat):Int)+((s.sz:Nat):Int)) && decide (((s.st:Nat):Int)<((r.st:Nat):Int)+((r.sz:Nat):Int)))=false:=by
     rcases ne with ne|ne
     ·rw[decide_eq_false (by lia),Bool.false_and]
     ·rw[decide_eq_false (show ¬ ((s.st:Nat):Int)<((r.st:Nat):Int)+((r.sz:Nat):Int) by lia),Bool.and_false]
    rw[e5]
    repeat k_meth
    exact⟨_,rfl,F.Gs⟩
   ·clear F
    rintro σ' H' ⟨_,rfl,F⟩
    repeat k_meth
    exact k _ F.sm
theorem iY(T:Txt K mg c R CL CP CS aF aq):Def P w K mg base CX0 5 "need_rows" ["many","rows"] oZ:=by
 have jM:=jM (P:=P) (w:=w) (base:=base) T
 refine bQ T.su oO (λvs H Q E h=>?_) (λ_ _ _ _ _ _=>el2 λ_ _=>rfl) (λf cdv A outer s H vs Q E hr h=>?_)
 ·obtain⟨n,l,ys,rs,rfl,_⟩:=h
  rfl
 ·obtain⟨n,l,ys,rs,rfl,hl,tp,ly,k⟩:=h
  have nd:=oO.nd
  refine⟨_,(au (cF (dG (cT (aY cV rfl T.bJ boot_isinstance (aj (pv 1) (aj (fC (T := "list") rfl T.fG boot_list) ao))))) cW bI)
   (au (cF (bU jU (aY dB rfl T.iW boot_len (aj (pv 1) ao)) (nZ T.mL) (bR _)) cW bI)
   (aB (dX PassesOwn.never rfl (fQ rfl T.gj (aj (aY dB rfl T.iW boot_len (aj (pv 1) ao)) ao)) (bN (i:=2) nd rfl (Or.inl rfl)) (aB (dw (aJ jM hr (aj (pv 0) (aj (aZ bO (pv 1) (pv 2) (λ_ _=>rfl)) (aj (jl uz (pv 1) k_ (lB (pv 2))) ao)))))))))),?_⟩
  clear nd jM
  rw[show start ["many","rows","at"] [.int (n:Nat),.ref l]=[some (.int (n:Nat)),some (.ref l),none] from rfl]
  try dsimp only[cO,bW]
  obtain⟨bD,bF,bG,aN,aU,aL,aD⟩:=zsix T
  have K5:=Old.mk (M:=[]) hl nm0
  have jx:=gk.mk tp
  have F:SH H [] H [] []:=SH.nil
  have few:=ly.few
  have yl:ys.length=rs.length:=by rw[tp.1,bL]
  repeat k_meth
  rw[show ((ys.length:Nat):Int).toNat=ys.length by lia]
  refine jq (λi σ' H'=>∃o2:Option V,σ'=[some (.int (n:Nat)),some (.ref l),o2]/\SH H [] H' [] []) ⟨_,rfl,F⟩ ?_ ?_
  ·clear F
   rintro i σ' H' hi ⟨_,rfl,F⟩
   obtain⟨s,q1,e1,e0,e2⟩:=d7 tp (i:=i) (v:=ys[i]) (by simp)
   have vV:=Old.mk (M:=[]) e2 nm0
   have a1:AtI ys (i:Int) (.ref q1):=⟨cD (by rw[<- e0];simp)⟩
   have gd:=ly.good s (List.mem_of_getElem? e1)
   have ap:∀t∈rs.take i,Apart t s:=λt ht=>by
    have h1:=ly.ap
    obtain⟨hi2,rfl⟩:=List.getElem?_eq_some_iff.mp e1
    obtain⟨j,hj,rfl⟩:=List.getElem_of_mem ht
    rw[List.length_take] at hj
    rw[List.getElem_take]
    exact List.pairwise_iff_getElem.mp h1 j i (by lia) hi2 (by lia)
   have side:=And.intro gd ap
   repeat k_meth
   rw[DP] at F
   have tp2:TpA H_ (ys.take i) (aX (rs.take i)):=⟨(K3 tp).same F.sm⟩
   repeat k_meth
   exact⟨_,rfl,F.Gs⟩
  ·clear F
   rintro σ' H' ⟨_,rfl,F⟩
   repeat k_meth
   exact k _ F.sm
end
def lF(n:Int)(p:Addr):List (Str×V):=gW "rows" (.ref p) (gW "many" (.int n) [])
theorem T6{n:Int}{p:Addr}:(lF n p).lookup ("many" : Str)=some (.int n):=by unfold lF;rw[eU,if_neg (by decide),eU,if_pos rfl]
theorem T7{n:Int}{p:Addr}:(lF n p).lookup ("rows" : Str)=some (.ref p):=by unfold lF;rw[eU,if_pos rfl]
theorem tH{n:Int}{p:Addr}{m:Str}(h1:m ≠ "rows")(h2:m ≠ "many"):(lF n p).lookup m=none:=by unfold lF;rw[eU,if_neg h1,eU,if_neg h2];rfl
class T8(n:Nat)(rs:List Rw)(as:outParam (List Rw)):Prop where
 p:rs.Perm as
 l:Lay n as
 a:Asc as
def DR(CL P:Addr)(pos:Pos)(qual:Str):Sp:=λvs H Q _=>∃(x dx l:Addr) (n:Nat) (ys:List V) (rs as:List Rw) (ps:Array Value),vs=[.ref x,.int (n:Nat),.ref l]/\H x=some (.ins CL dx [])/\H l=some (.lst ys)/\aH H ys (aX rs)/\T8 n rs as/\16<=n/\n<=240/\H P=some (.tbl ps)/\TabOk pos qual ps H /\
 ∀(p:Addr) (zs:List V) (ps':Array Value) (H':Hp),(∀b u,b≠x->b≠P->H b=some u->H' b=some u)->H' x=some (.ins CL dx (lF n p))->H' p=some (.lst zs)->aH H' zs (aX as)->(∀b u,H b=some u->b≠p)->H' P=some (.tbl ps')->TabOk pos qual ps' H'->Q .non H'
def vW(CL:Addr):Sp:=λvs H Q _=>∃(x p dx:Addr) (n:Nat) (zs:List V),vs=[.ref x]/\H x=some (.ins CL dx (lF (n:Nat) p))/\H p=some (.lst zs)/\∀q H',New H H' q (.lst zs)->Q (.ref q) H'
section
variable{CL P x dx l p:Addr}{pos:Pos}{qual:Str}{H H0:Hp}{M:List Addr}{L:List (Addr×HO)}{I:List Im}{Q:VK}{E:XK}{n:Nat}{m:Int}{ys zs:List V}{rs as:List Rw}{ps:Array Value}
instance ac2:FLk (lF m p) "many" (.int m):=⟨T6⟩
instance ac3:FLk (lF m p) "rows" (.ref p):=⟨T7⟩
instance YX:FNo (lF m p) "blocks":=⟨tH (by decide) (by decide)⟩
instance abn:FNo (lF m p) "names":=⟨tH (by decide) (by decide)⟩
instance abo:FNo (lF m p) "block":=⟨tH (by decide) (by decide)⟩
instance abp:FNo (lF m p) "moved":=⟨tH (by decide) (by decide)⟩
instance X4[h:Hat H x (.ins CL dx (lF (n:Nat) p))][h2:Hat H p (.lst zs)]:Go (vW CL [.ref x] H Q E) (∀q H',New H H' q (.lst zs)->Q (.ref q) H'):=⟨λk=>⟨x,p,dx,n,zs,rfl,h.e,h2.e,k⟩⟩
instance abq[h:Hat H x (.ins CL dx [])][h2:Hat H l (.lst ys)][t:TpA H ys (aX rs)][e:Hat H P (.tbl ps)][F:SH H0 M H L I][tb:KJ I pos qual ps][la:T8 n rs as]:Go (DR CL P pos qual [.ref x,.int (n:Nat),.ref l] H Q E)
  (Sd (16<=n/\n<=240) (∀(ps':Array Value) (H1:Hp),Kp P H H1->H1 P=some (.tbl ps')->TabOk pos qual ps' H1->∀(p:Addr) (zs:List V) (H2:Hp),New H1 H2 p (.lst zs)->aH H2 zs (aX as)->∀H3,Off x H2 H3->H3 x=some (.ins CL dx (lF n p))->Q .non H3)):=by
 refine⟨λs=>⟨x,dx,l,n,ys,rs,as,ps,rfl,h.e,h2.e,t.e,la,s.1.1,s.1.2,e.e,F.im _ tb.m,λp zs ps' H' keep ex ep tz fr eP tk=>?_⟩⟩
 have hx:=h.e
 have hP:=e.e
 have nxp:x≠p:=fr x _ hx
 have nPp:P≠p:=fr P _ hP
 have nPx:P≠x:=λz=>by rw[z,hx] at hP;cases hP
 let H2:Hp:=λb=>if b=x then H x else H' b
 let H1:Hp:=λb=>if b=p then none else H2 b
 have h2x:H2 x=H x:=if_pos rfl
 have h2n:∀{b:Addr},b≠x->H2 b=H' b:=λn=>if_neg n
 have h1n:∀{b:Addr},b≠p->H1 b=H2 b:=λn=>if_neg n
 refine s.2 ps' H1 (λb u nb eb=>?_) ?_ ?_ p zs H2 ⟨λb u eb=>?_,?_,λb u eb z=>?_⟩ ?_ H' (λb nb=>(h2n nb).symm) ex
 ·have n1:b≠p:=fr b u eb
  rw[h1n n1]
  by_cases hb:b=x
  ·rw[hb,h2x,<- hb]
   exact eb
  ·rw[h2n hb]
   exact keep b u hb nb eb
 ·rw[h1n nPp,h2n nPx]
  exact eP
 ·rcases tk with tk|⟨c',oc,vs,t',e1,e2,e3⟩
  ·exact .inl tk
  ·refine .inr ⟨c',oc,vs,t',e1,?_,e3⟩
   have n1:c'≠p:=λz=>by rw[z,ep] at e2;cases e2
   have n2:c'≠x:=λz=>by rw[z,ex] at e2;cases e2
   rw[h1n n1,h2n n2]
   exact e2
 ·by_cases hb:b=p
  ·have:H1 b=none:=if_pos hb
   rw[this] at eb
   cases eb
  ·rw[h1n hb] at eb
   exact eb
 ·rw[h2n (Ne.symm nxp)]
  exact ep
 ·have:H1 b=none:=if_pos z
  rw[this] at eb
  cases eb
 ·refine⟨tz.1,λj r ej=>?_⟩
  obtain⟨q,e1,e2⟩:=tz.2 j r ej
  refine⟨q,e1,?_⟩
  rw[h2n (λz=>by rw[z,ex] at e2;cases e2)]
  exact e2
end
abbrev cZ:Pos:=⟨118,37,118,55⟩
abbrev cJ:Str := "Layout.__init__.<locals>.<lambda>"
section
variable{P:Program}{w:World}{K:W.Frag}{mg:Str->Option Value}{base:Heap}{c:Nat->Addr}{aF aq R CL CP CS:Addr}
theorem gM(T:Txt K mg c R CL CP CS aF aq)(B:Bm mg base):Mak P w K mg base CX0 6 "Layout" CL ["self","many","rows"] (DR CL aq cZ cJ):=by
 have iY:=iY (P:=P) (w:=w) (base:=base) T
 have lJ:=lJ (P:=P) (w:=w) (base:=base) T
 obtain⟨f,hf,hm⟩:=T.Jr
 refine(KD (k:=5) hf C_ (λvs H Q E h=>?_) (λ_ _ _ _ _ _=>el3 λ_ _ _=>rfl) (λf A outer s H vs Q E hr h=>?_)).mak hm T.yO
 ·obtain⟨x,dx,l,n,ys,rs,as,ps,rfl,_⟩:=h
  rfl
 ·obtain⟨x,dx,l,n,ys,rs,as,ps,rfl,hx,hl,tp,la,h16,mD,hP,tk,k⟩:=h
  have nd:=C_.nd
  refine⟨_,(au (cF (dG (cT (aJ lJ hr (aj (pv 1) ao)))) cW bI)
   (au (dw (aJ iY hr (aj (pv 1) (aj (pv 2) ao))))
   (au (mW (pv 0) (pv 1) rfl)
   (aB (mW (pv 0) (N_ (Gu rfl hr) rfl T.Dv boot_sorted (aj (pv 2) ao) (Xp (qual:=cJ) B rfl T.yP (by with_unfolding_all rfl) ⟨rfl,rfl,rfl,by with_unfolding_all rfl,by decide +kernel,by decide⟩)) rfl))))),?_⟩
  clear nd iY lJ
  rw[show start ["self","many","rows"] [.ref x,.int (n:Nat),.ref l]=[some (.ref x),some (.int (n:Nat)),some (.ref l)] from rfl]
  try dsimp only[cO,bW]
  obtain⟨bD,bF,bG,aN,aU,aL,aD⟩:=zsix T
  have nxP:x≠aq:=λz=>by rw[z,hP] at hx;cases hx
  have nlx:l≠x:=λz=>by rw[z,hx] at hl;cases hl
  have nlP:l≠aq:=λz=>by rw[z,hP] at hl;cases hl
  have nm2:∀{b:Addr},b≠x->b≠aq->b ∉ [x,aq]:=λa b z=>by
   rcases List.mem_cons.mp z with z|z
   ·exact a z
   ·exact b (List.mem_singleton.mp z)
  have F:SH H [x,aq] H [(x,.ins CL dx []),(aq,.tbl ps)] [.tps ys (aX rs),gY cZ cJ ps]:=(((SH.nil.iI (List.mem_cons_of_mem _ List.mem_cons_self) hP rfl (by simp)).iI List.mem_cons_self hx rfl (by simp[Ne.symm nxP])).j7 tk).gH tp
  have K5:=Old.mk (M:=[x,aq]) hl (nm2 nlx nlP)
  have ly:=la.l.perm la.p.symm
  have few:=ly.few
  have e1:(decide (16<=(n:Int)) && decide ((n:Int)<=240))=true:=by rw[decide_eq_true (by lia),decide_eq_true (by lia)];rfl
  repeat k_meth
  rw[e1]
  repeat k_meth
  intro f_ ps_
  repeat k_meth
  intro D zs H8 n8 so
  have t8:=KN (H:=H_) TpA.e la.p (la.a.lt la.l.good) so
  replace F:=F.newR n8 (t8.same n8.s)
  repeat k_meth
  exact k D zs ps_ _ (λb u n1 n2 e=>F.fr b u (nm2 n1 n2) e) aO aO TpA.e (F.fresh (LkL.m (o:=.lst zs)) (nm2 (SH.neC (F:=F)) (SH.neC (F:=F)))) aO SH.tab
theorem bf(T:Txt K mg c R CL CP CS aF aq):Met P w K mg base CX0 1 CL "blocks" ["self"] (vW CL):=by
 obtain⟨f,hf,hm⟩:=T.yQ
 refine(gh (k:=0) hf vH (λvs H Q E h=>?_) (λ_ _ _ _ _ _=>el1 λ_=>rfl) (λf cdv A outer s H vs Q E hr h=>?_)).met hm
 ·obtain⟨x,p,dx,n,zs,rfl,_⟩:=h
  rfl
 ·obtain⟨x,p,dx,n,zs,rfl,hx,hp,k⟩:=h
  have nd:=vH.nd
  refine⟨_,(aB (aV (eY fK rfl T.fG boot_list (aj (iD (pv 0) rfl) ao)))),?_⟩
  clear nd 
  rw[show start ["self"] [.ref x]=[some (.ref x)] from rfl]
  try dsimp only[cO,bW]
  obtain⟨bD,bF,bG,aN,aU,aL,aD⟩:=zsix T
  have jh:=Old.mk (M:=[]) hx nm0
  have iT:=Old.mk (M:=[]) hp nm0
  have F:SH H [] H [] []:=SH.nil
  repeat k_meth
  exact k _ _ SH.nwC
end
def DW:Sp:=λvs H Q _=>∃(bx:Addr) (x y z:Int),vs=[.ref bx]/\H bx=some (.lst [.int x,.int y,.int z])/\∀(n:Nat) (x' y' z':Int) (H':Hp),16<=n->n<=240->Kp bx H H'->H' bx=some (.lst [.int x',.int y',.int z'])->Q (.int (n:Nat)) H'
def DX:Sp:=λvs H Q _=>∃(bx:Addr) (x y z:Int) (m:Nat),vs=[.ref bx,.int (m:Nat)]/\H bx=some (.lst [.int x,.int y,.int z])/\m<=40/\∀(x' y' z':Int) (nms:List (List Nat)) (p:Addr) (H':Hp),nms.length=m->(∀cs∈nms,gZ cs)->nms.Nodup->Kp bx H H'->H' bx=some (.lst [.int x',.int y',.int z'])->H' p=some (.lst (nms.map λcs=>.str (tx cs)))->(∀b u,H b=some u->b≠p)->Q (.ref p) H'
def DY:Sp:=λvs H Q _=>∃(bx:Addr) (x y z:Int) (n:Nat),vs=[.ref bx,.int (n:Nat)]/\H bx=some (.lst [.int x,.int y,.int z])/\16<=n/\n<=240/\∀(x' y' z':Int) (rs:List Rw) (p:Addr) (ys:List V) (H':Hp),Lay n rs->Asc rs->Kp bx H H'->H' bx=some (.lst [.int x',.int y',.int z'])->H' p=some (.lst ys)->aH H' ys (aX rs)->(∀b u,H b=some u->b≠p)->Q (.ref p) H'
def D_:Sp:=λvs H Q _=>∃(bx l:Addr) (x y z:Int) (ys:List V) (rs:List Rw),vs=[.ref bx,.ref l]/\H bx=some (.lst [.int x,.int y,.int z])/\H l=some (.lst ys)/\aH H ys (aX rs)/\rs.length<=1000/\bx≠l/\∀(x' y' z':Int) (qs:List Rw) (p:Addr) (zs:List V) (H':Hp),qs.Perm rs->Kp bx H H'->H' bx=some (.lst [.int x',.int y',.int z'])->H' p=some (.lst zs)->aH H' zs (aX qs)->(∀b u,H b=some u->b≠p)->Q (.ref p) H'
theorem two_steps{H H':Hp}{bx p:Addr}{b3 o:HO}{R:Hp->Prop}(hb:∃u,H bx=some u)(kp:Kp bx H H')(eb:H' bx=some b3)(ep:H' p=some o)(fr:∀b u,H b=some u->b≠p)(k:∀H1,Kp bx H H1->H1 bx=some b3->New H1 H' p o->R H'):R H':=by
 obtain⟨u0,hb⟩:=hb
 have nb:bx≠p:=fr bx _ hb
 have h1:∀{b:Addr},b≠p->(λb=>if b=p then none else H' b:Hp) b=H' b:=λn=>if_neg n
 refine k (λb=>if b=p then none else H' b) (λb u n e=>?_) ?_ ⟨λb u e=>?_,ep,λb u e z=>?_⟩
 ·rw[h1 (fr b u e)]
  exact kp b u n e
 ·exact(h1 nb).trans eb
 ·have e:(if b=p then none else H' b)=some u:=e
  split at e
  ·cases e
  ·exact e
 ·have e:(if b=p then none else H' b)=some u:=e
  rw[if_pos z] at e
  cases e
section
variable{bx l:Addr}{x y z:Int}{H:Hp}{Q:VK}{E:XK}{n m:Nat}{ys:List V}{rs:List Rw}
instance abr[h:Hat H bx (.lst [.int x,.int y,.int z])]:Go (DW [.ref bx] H Q E) (∀(x' y' z':Int) (n:Nat),16<=n->n<=240->∀H',Kp bx H H'->H' bx=some (.lst [.int x',.int y',.int z'])->Q (.int (n:Nat)) H'):=⟨λk=>⟨bx,x,y,z,rfl,h.e,λn x' y' z' H' h1 h2 f e=>k x' y' z' n h1 h2 H' f e⟩⟩
instance abt[h:Hat H bx (.lst [.int x,.int y,.int z])]:Go (DX [.ref bx,.int (m:Nat)] H Q E) (Sd (m<=40) (∀(x' y' z':Int) (nms:List (List Nat)),nms.length=m->(∀cs∈nms,gZ cs)->nms.Nodup->∀H1,Kp bx H H1->H1 bx=some (.lst [.int x',.int y',.int z'])->∀p H2,New H1 H2 p (.lst (nms.map λcs=>.str (tx cs)))->Q (.ref p) H2)) :=
 ⟨λs=>⟨bx,x,y,z,m,rfl,h.e,s.1,λx' y' z' nms p H' h1 h2 h3 f e e2 fr=>two_steps (R:=λH'=>Q (.ref p) H') ⟨_,h.e⟩ f e e2 fr λH1 f1 e1 n1=>s.2 x' y' z' nms h1 h2 h3 H1 f1 e1 p H' n1⟩⟩
instance abu[h:Hat H bx (.lst [.int x,.int y,.int z])]:Go (DY [.ref bx,.int (n:Nat)] H Q E) (Sd (16<=n/\n<=240) (∀(x' y' z':Int) (rs:List Rw),Lay n rs->Asc rs->∀H1,Kp bx H H1->H1 bx=some (.lst [.int x',.int y',.int z'])->∀p ys H2,New H1 H2 p (.lst ys)->aH H2 ys (aX rs)->Q (.ref p) H2)) :=
 ⟨λs=>⟨bx,x,y,z,n,rfl,h.e,s.1.1,s.1.2,λx' y' z' rs p ys H' h1 h2 f e e2 t fr=>two_steps (R:=λH'=>Q (.ref p) H') ⟨_,h.e⟩ f e e2 fr λH1 f1 e1 n1=>s.2 x' y' z' rs h1 h2 H1 f1 e1 p ys H' n1 t⟩⟩
instance abv{H0:Hp}{M:List Addr}{L:List (Addr×HO)}{I:List Im}[h:Hat H bx (.lst [.int x,.int y,.int z])][h2:Hat H l (.lst ys)][t:TpA H ys (aX rs)][F:SH H0 M H L I][ne:KC L bx l]:Go (D_ [.ref bx,.ref l] H Q E) (Sd (rs.length<=1000) (∀(x' y' z':Int) (qs:List Rw),qs.Perm rs->∀H1,Kp bx H H1->H1 bx=some (.lst [.int x',.int y',.int z'])->∀p zs H2,New H1 H2 p (.lst zs)->aH H2 zs (aX qs)->Q (.ref p) H2)) :=
 ⟨λs=>⟨bx,l,x,y,z,ys,rs,rfl,h.e,h2.e,t.e,s.1,ne.ne F.nd,λx' y' z' qs p zs H' h1 f e e2 t fr=>two_steps (R:=λH'=>Q (.ref p) H') ⟨_,h.e⟩ f e e2 fr λH1 f1 e1 n1=>s.2 x' y' z' qs h1 H1 f1 e1 p zs H' n1 t⟩⟩
end
def letter(s:Nat):Nat:=97+s % 26
theorem yV{s:Int}{c:Nat}(h0:0<=s)(h:(List.range' 97 26)[(s % 26).toNat]?=some c):c=letter s.toNat:=by
 have h1:(s % 26).toNat<26:=by lia
 rw[List.getElem?_eq_getElem (by simpa using h1),List.getElem_range'] at h
 have:=Option.some.inj h
 unfold letter
 lia
theorem jN(s:Nat):oK (letter s)=true:=by
 unfold oK letter
 rw[decide_eq_true (by lia),decide_eq_true (by lia)]
 rfl
def nameA(s:Nat)(tl:List Nat)(k:Nat):List Nat:=[letter (s+k / 8)]++tl.take (k % 8)
theorem Ea{nms:List (List Nat)}(h:∀(i j:Nat) a b,i<j->nms[i]?=some a->nms[j]?=some b->a≠b):nms.Nodup:=by
 rw[List.Nodup,List.pairwise_iff_getElem]
 intro i j hi hj hij
 exact h i j _ _ hij (by simp) (by simp)
theorem join_one:∀cs:List Nat,Str.join (Str.ofString "") (cs.map λc=>tx [c])=tx cs:=by
 have e0:Str.ofString "" = tx []:=by decide +kernel
 rw[e0]
 intro cs
 induction cs with
 | nil=>rfl
 | cons c t ih =>
  cases t with
  | nil=>rfl
  | cons d u =>
   show tx [c]++tx []++Str.join (tx []) ((d::u).map λc=>tx [c])=_
   rw[ih,qG,qG]
   rfl
instance ac4{K:W.Frag}{H:Hp}{Q:VK}{p:Addr}{cs:List Nat}[h:SqA K H p (cs.map λc=>V.str (tx [c]))]:Go (rJoin K (.str (Str.ofString "")) [.ref p] H Q) (Sd (cs.length<=1000) (Q (.str (tx cs)) H)):=⟨λs=>⟨_,p,cs.map λc=>tx [c],rfl,rfl,by rw[List.map_map];exact h.e,by decide,by
 rw[List.map_map,List.length_map]
 have:(cs.map ((λt:Str=>t.length) ∘ λc=>tx [c]))=cs.map λ_=>1:=rfl
 rw[this,List.map_const']
 have hs:(List.replicate cs.length 1).sum=cs.length:=by simp
 have:=s.1
 lia,by rw[join_one];exact s.2⟩⟩
instance aeQ{K:W.Frag}{H:Hp}{z:Str}{R:Prop}:Go (tyV K "str" (.str z) H/\R) R:=⟨λk=>⟨by first|exact .inr (.inr rfl)|exact .inr rfl|exact⟨_,rfl⟩|trivial,k⟩⟩
structure lN(tl:List Nat):Prop where
 len:tl.length=7
 hd:∀c,tl[0]?=some c->c∈[97,98,122]
 all:∀c∈tl,c∈[97,98,122,48,49,57,113]
theorem lN.sgn{tl:List Nat}(h:lN tl):∀c∈tl,(oK c || Ie c)=true:=λc hc=>by
 have:=h.all c hc
 simp only[List.mem_cons,List.not_mem_nil,or_false] at this
 rcases this with rfl|rfl|rfl|rfl|rfl|rfl|rfl <;> rfl
def mO(s:Nat)(tl:List Nat)(k r:Nat):List Nat:=([letter (s+5*k)]++List.replicate (k / 26) 48)++tl.take r
theorem K6{s k:Nat}{tl:List Nat}(h:lN tl):gZ (nameA s tl k):=by
 refine⟨?_,?_,λc hc=>?_,λc hc=>?_⟩
 ·simp[nameA]
 ·simp only[nameA,List.length_append,List.length_singleton,List.length_take]
  lia
 ·have:some (letter (s+k / 8))=some c:=hc
  cases this
  exact jN _
 ·rcases List.mem_append.mp hc with hc|hc
  ·rw[List.mem_singleton.mp hc,jN]
   rfl
  ·exact h.sgn c (List.mem_of_mem_take hc)
theorem Qa{s k r:Nat}{tl:List Nat}(h:lN tl)(hr:r<7)(hk:k<52):gZ (mO s tl k r):=by
 refine⟨?_,?_,λc hc=>?_,λc hc=>?_⟩
 ·simp[mO]
 ·simp only[mO,List.length_append,List.length_singleton,List.length_take,List.length_replicate]
  lia
 ·have:some (letter (s+5*k))=some c:=hc
  cases this
  exact jN _
 ·rcases List.mem_append.mp hc with hc|hc
  ·rcases List.mem_append.mp hc with hc|hc
   ·rw[List.mem_singleton.mp hc,jN]
    rfl
   ·rw[(List.mem_replicate.mp hc).2]
    rfl
  ·exact h.sgn c (List.mem_of_mem_take hc)
theorem GP{s:Nat}{tl:List Nat}(h:tl.length=7){i j:Nat}(hi:i<40)(hj:j<40)(e:nameA s tl i=nameA s tl j):i=j:=by
 have e1:=congrArg List.length e
 simp only[nameA,List.length_append,List.length_singleton,List.length_take,h] at e1
 have e2:letter (s+i / 8)=letter (s+j / 8):=by
  have:=congrArg (λl:List Nat=>l[0]?) e
  exact Option.some.inj this
 unfold letter at e2
 lia
theorem K7{s:Nat}{tl:List Nat}(h:lN tl){i j r t:Nat}(hi:i<40)(hj:j<40)(hij:i<j)(e:mO s tl i r=mO s tl j t):False:=by
 have e2:letter (s+5*i)=letter (s+5*j):=by
  have:=congrArg (λl:List Nat=>l[0]?) e
  exact Option.some.inj this
 unfold letter at e2
 have e3:j=i+26:=by lia
 have e4:i / 26=0:=by lia
 have e5:j / 26=1:=by lia
 have e6:tl.take r=[48]++tl.take t:=by
  unfold mO at e
  rw[e4,e5] at e
  simp only[List.replicate,List.append_nil,List.cons_append,List.nil_append,List.cons.injEq] at e
  exact e.2
 cases tl with
 | nil=>have:=h.len;simp at this
 | cons c u =>
  cases r with
  | zero=>simp at e6
  | succ r =>
   have e7:c=48:=by
    have:=congrArg (λl:List Nat=>l[0]?) e6
    simpa using this
   have:=h.hd c rfl
   rw[e7] at this
   simp at this
section
variable{P:Program}{w:World}{K:W.Frag}{mg:Str->Option Value}{base:Heap}{c:Nat->Addr}{aF aq R CL CP CS:Addr}
theorem Ai(T:Txt K mg c R CL CP CS aF aq):Def P w K mg base CX0 2 "_law_many" ["_law_box_here"] DW:=by
 have bM:=bM (P:=P) (w:=w) (base:=base) T
 refine bQ T.Pz Ja (λvs H Q E h=>?_) (λ_ _ _ _ _ _=>el1 λ_=>rfl) (λf cdv A outer s H vs Q E hr h=>?_)
 ·obtain⟨bx,x,y,z,rfl,_⟩:=h
  rfl
 ·obtain⟨bx,x,y,z,rfl,hbx,k⟩:=h
  have nd:=Ja.nd
  refine⟨_,(aB (aV (aZ bO (bV (aj aA (aj (aR cG aA (aJ bM hr (aj (pv 0) (aj aA ao)))) (aj (aR cG aA (aJ bM hr (aj (pv 0) (aj aA ao)))) (aj aA ao))))) (aY (fu rfl) rfl T.kO boot_max (aj aA (aj (aR cP (aJ bM hr (aj (pv 0) (aj aA ao))) aA) ao))) (λ_ _=>rfl)))),?_⟩
  clear nd bM
  rw[show start ["_law_box_here"] [.ref bx]=[some (.ref bx)] from rfl]
  try dsimp only[cO,bW]
  obtain⟨bD,bF,bG,aN,aU,aL,aD⟩:=zsix T
  have F:SH H [bx] H [(bx,.lst [.int x,.int y,.int z])] []:=SH.nil.iI List.mem_cons_self hbx rfl (by simp)
  repeat k_meth
  refine HY SqA.e (by lia) (by show max 0 (r_-4)<(4:Int);lia) λv hv=>?_
  obtain⟨g,hg,rfl⟩:∃g:Nat,(16<=g/\g<=240)/\v=.int (g:Nat):=by
   simp only[List.mem_cons,List.not_mem_nil,or_false] at hv
   rcases hv with rfl|rfl|rfl|rfl
   ·exact⟨16,by lia,rfl⟩
   ·rename_i r1 _ _ _ _ _ _ r2 _ _ _ _ _ _ _
    exact⟨(16+r1).toNat,by lia,by congr 1;lia⟩
   ·rename_i r1 _ _ _ _ _ _ r2 _ _ _ _ _ _ _
    exact⟨(16+r2).toNat,by lia,by congr 1;lia⟩
   ·exact⟨240,by lia,rfl⟩
  repeat k_meth
  exact k g _ _ _ _ hg.1 hg.2 F.kpo aO
theorem tK(T:Txt K mg c R CL CP CS aF aq):Def P w K mg base CX0 2 "_law_names" ["_law_box_here","_law_many_here"] DX:=by
 have bM:=bM (P:=P) (w:=w) (base:=base) T
 refine bQ T.Ji CK (λvs H Q E h=>?_) (λ_ _ _ _ _ _=>el2 λ_ _=>rfl) (λf cdv A outer s H vs Q E hr h=>?_)
 ·obtain⟨bx,x,y,z,m,rfl,_⟩:=h
  rfl
 ·obtain⟨bx,x,y,z,m,rfl,hbx,h40,k⟩:=h
  have nd:=CK.nd
  refine⟨_,(au (aP (i:=2) nd rfl (Or.inr rfl) mU)
   (au (aP (i:=3) nd rfl (Or.inr rfl) (aR sX (aZ uo mU (aJ bM hr (aj (pv 0) (aj aA ao))) (λ_ _=>rfl)) (Ss mU (fj (N:=["_law_k","_law_box_here"]) (nt:=1) (fr:=[0]) (fQ rfl T.gj (aj aA ao)) (λ_ _ _ _=>(bN (i:=0) (show (["_law_k","_law_box_here"]:List Str).Nodup from by decide +kernel) rfl (Or.inl rfl))) (λ_ _ _ _=>eZ) (λ_ _ _ _=>(aZ uo mU (aJ bM hr (aj (pv 1) (aj aA ao))) (λ_ _=>rfl)))))))
   (au (aP (i:=4) nd rfl (Or.inr rfl) (aJ bM hr (aj (pv 0) (aj aA ao))))
   (au (cF (bU gG (aJ bM hr (aj (pv 0) (aj aA ao))) aA (bR _)) (aB (aV (fj (N:=["_law_k","_law_letters","_law_tail","_law_first"]) (nt:=1) (fr:=[2,3,4]) (fQ rfl T.gj (aj (pv 1) ao)) (λ_ _ _ _=>(bN (i:=0) (show (["_law_k","_law_letters","_law_tail","_law_first"]:List Str).Nodup from by decide +kernel) rfl (Or.inl rfl))) (λ_ _ _ _=>eZ) (λ_ _ _ _=>(aR sX (aZ uo (pv 1) (aR jB (aR cG (pv 3) (aR nR (pv 0) aA)) aA) (λ_ _=>rfl)) (Oo (pv 2) (aR jB (pv 0) aA))))))) bI)
   (au (aP (i:=5) nd rfl (Or.inl rfl) (bV ao))
   (au (dX PassesOwn.never rfl (fQ rfl T.gj (aj (pv 1) ao)) (bN (i:=6) nd rfl (Or.inl rfl)) (au (aP (i:=7) nd rfl (Or.inl rfl) (aR sX (aZ uo (pv 2) (aR jB (aR cG (pv 4) (aR jZ aA (pv 6))) aA) (λ_ _=>rfl)) (aR S9 mU (aR nR (pv 6) aA))))
    (aB (dw (cX (pv 5) (aR sX (pv 7) (Oo (pv 3) (aJ bM hr (aj (pv 0) (aj aA ao))))))))))
   (aB (aV (pv 5))))))))),?_⟩
  clear nd bM
  rw[show start ["_law_box_here","_law_many_here","_law_letters","_law_tail","_law_first","_law_names_here","_law_k","_law_name"] [.ref bx,.int (m:Nat)]=[some (.ref bx),some (.int (m:Nat)),none,none,none,none,none,none] from rfl]
  try dsimp only[cO,bW]
  obtain⟨bD,bF,bG,aN,aU,aL,aD⟩:=zsix T
  have F:SH H [bx] H [(bx,.lst [.int x,.int y,.int z])] []:=SH.nil.iI List.mem_cons_self hbx rfl (by simp)
  rw[show Str.ofString "abcdefghijklmnopqrstuvwxyz" = tx (List.range' 97 26) by decide +kernel,show Str.ofString "abz" = tx [97,98,122] by decide +kernel,show Str.ofString "abz019q" = tx [97,98,122,48,49,57,113] by decide +kernel,show Str.ofString "0" = tx [48] by decide +kernel]
  repeat k_meth
  intro c0 hc0
  have hc0:=List.mem_of_getElem? hc0
  repeat k_meth
  have e26:(List.range' 97 26).length=26:=by simp
  refine N6 (n:=6) (fvs:=[some (.ref bx)]) (λacc i ys H'=>∃(cs:List Nat) (x y z:Int),cs.length=i/\(∀c∈cs,c∈[97,98,122,48,49,57,113])/\ys=cs.map (λc=>V.str (tx [c]))/\SH H [bx] H' [(acc,.lst ys),(bx,.lst [.int x,.int y,.int z])] []) (BK adv HF) (by decide) rfl (λacc H' n=>⟨[],x_,y_,z_,rfl,by simp,rfl,F.newL n⟩) ?_ ?_ ?_
  ·clear F
   rintro acc i ys H' ⟨cs,x,y,z,h1,_,rfl,F⟩
   exact⟨aO,by rw[List.length_map];exact h1⟩
  ·clear F
   rintro acc i ys H' R hi ⟨cs,x,y,z,h1,h2,rfl,F⟩ kk
   repeat k_meth
   intro c hc
   refine kk _ _ aO ?_
   repeat k_meth
   refine⟨cs++[c],_,_,_,by simp[h1],λd hd=>?_,by simp,F⟩
   rcases List.mem_append.mp hd with hd|hd
   ·exact h2 d hd
   ·rw[List.mem_singleton.mp hd]
    exact List.mem_of_getElem? hc
  ·clear F
   rintro acc ys H' ⟨tl0,x,y,z,h1,h2,rfl,F⟩
   repeat k_meth
   generalize htl:[c0]++tl0=tl
   have tk:lN tl:=by
    subst htl
    refine⟨by simp[h1],λc hc=>?_,λc hc=>?_⟩
    ·have:some c0=some c:=hc
     cases this
     exact hc0
    ·rcases List.mem_append.mp hc with hc|hc
     ·rw[List.mem_singleton.mp hc]
      simp only[List.mem_cons,List.not_mem_nil,or_false] at hc0 ⊢
      lia
     ·exact h2 c hc
   have h7:=tk.len
   rename_i sh _ _ _ sh0 _ _
   refine fW (λh=>?_) (λh=>?_)
   ·repeat k_meth
    refine zQ (n:=m) (fvs:=[some (.str (tx (List.range' 97 26))),some (.str (tx tl)),some (.int sh)]) (F:=λj=>V.str (tx (nameA sh.toNat tl j))) (BK (Wc rfl) HF) (by lia) (by lia) rfl (λi H' hi s8 Q8 q8=>?_) ?_
    ·repeat k_meth
     intro c hc
     have e3:=yV (by lia) hc
     subst e3
     repeat k_meth
     have e4:[letter (sh+(i:Int) / 8).toNat]++tl.take ((i:Int) % 8).toNat=nameA sh.toNat tl i:=by
      unfold nameA
      rw[show (sh+(i:Int) / 8).toNat=sh.toNat+i / 8 by lia,show ((i:Int) % 8).toNat=i % 8 by lia]
     rw[e4]
     exact q8
    ·repeat k_meth
     have e5:(List.range m).map (λj=>V.str (tx (nameA sh.toNat tl j)))=((List.range m).map (nameA sh.toNat tl)).map λcs=>V.str (tx cs):=by
      rw[List.map_map]
      rfl
     rw[e5] at F
     refine k _ _ _ _ _ _ (by simp) (λcs hcs=>?_) (Ea λi j a b hij ha hb z=>?_) F.kpo aO aO (F.fresh (LkL.m (o:=.lst _)) (nm1 (SH.neC (F:=F))))
     ·obtain⟨j,_,rfl⟩:=List.mem_map.mp hcs
      exact K6 tk
     ·have h3:=(List.getElem?_eq_some_iff.mp hb).1
      rw[List.length_map,List.length_range] at h3
      rw[List.getElem?_map,List.getElem?_range (by lia)] at ha hb
      cases ha
      cases hb
      have:=GP h7 (by lia) (by lia) z
      lia
   ·repeat k_meth
    rename Addr=>nl
    rw[show ((m:Nat):Int).toNat=m by lia]
    refine jq (λi σ' H'=>∃(o6 o7:Option V) (nms:List (List Nat)) (x y z:Int),σ'=[some (.ref bx),some (.int (m:Nat)),some (.str (tx (List.range' 97 26))),some (.str (tx tl)),some (.int sh),some (.ref nl),o6,o7]/\nms.length=i/\(∀(j:Nat) cs,nms[j]?=some cs->∃r,r<7/\cs=mO sh.toNat tl j r)/\SH H [bx] H' [(nl,.lst (nms.map λcs=>V.str (tx cs))),(bx,.lst [.int x,.int y,.int z])] []) ⟨_,_,[],_,_,_,rfl,rfl,λj cs e=>by simp at e,F.Gs (L':=[(nl,.lst []),(bx,.lst [.int x_,.int y_,.int z_])])⟩ ?_ ?_
    ·clear F
     rintro i σ' H' hi ⟨_,_,nms,x,y,z,rfl,hl,hn,F⟩
     repeat k_meth
     intro c hc
     have e3:=yV (by lia) hc
     subst e3
     repeat k_meth
     refine⟨_,_,nms++[mO sh.toNat tl i r_.toNat],x_,y_,z_,rfl,by simp[hl],λj cs e=>?_,?_⟩
     ·by_cases hj:j<nms.length
      ·rw[List.getElem?_append_left hj] at e
       exact hn j cs e
      ·have hj2:=(List.getElem?_eq_some_iff.mp e).1
       rw[List.length_append,List.length_singleton] at hj2
       obtain rfl:j=i:=by lia
       rw[List.getElem?_append_right (by lia),hl,Nat.sub_self] at e
       cases e
       exact⟨r_.toNat,by lia,rfl⟩
     ·have e4:[letter (sh+5*(i:Int)).toNat]++List.replicate ((i:Int) / 26).toNat 48++tl.take r_.toNat=mO sh.toNat tl i r_.toNat:=by
       unfold mO
       rw[show (sh+5*(i:Int)).toNat=sh.toNat+5*i by lia,show ((i:Int) / 26).toNat=i / 26 by lia]
      rw[e4] at F
      rw[List.map_append]
      exact F
    ·clear F
     rintro σ' H' ⟨_,_,nms,x,y,z,rfl,hl,hn,F⟩
     repeat k_meth
     refine k _ _ _ nms _ _ hl (λcs hcs=>?_) (Ea λi j a b hij ha hb z=>?_) F.kpo aO aO (F.fresh (LkL.m (o:=.lst _)) (nm1 (SH.neC (F:=F))))
     ·obtain⟨j,hj,e⟩:=List.getElem_of_mem hcs
      obtain⟨r,hr,rfl⟩:=hn j cs (by rw[<- e];simp)
      exact Qa tk hr (by lia)
     ·have h3:=(List.getElem?_eq_some_iff.mp hb).1
      obtain⟨r,hr,rfl⟩:=hn i a ha
      obtain⟨t,ht,rfl⟩:=hn j b hb
      exact K7 tk (by lia) (by lia) hij z
end
theorem Vl{v:V}{xs:List Int}{lo hi:Int}(hv:v∈xs.map V.int)(h:∀a∈xs,lo<=a/\a<hi)(h0:0<=lo):∃g:Nat,v=.int (g:Nat)/\lo<=(g:Int)/\(g:Int)<hi:=by
 obtain⟨a,ha,rfl⟩:=List.mem_map.mp hv
 have:=h a ha
 exact⟨a.toNat,by congr 1;lia,by lia,by lia⟩
theorem Qc{v:V}{a b c d lo hi:Int}(hv:v∈[V.int a,V.int b,V.int c,V.int d])(h:0<=lo/\(lo<=a/\a<hi)/\(lo<=b/\b<hi)/\(lo<=c/\c<hi)/\(lo<=d/\d<hi)):∃g:Nat,v=.int (g:Nat)/\lo<=(g:Int)/\(g:Int)<hi :=
 Vl (xs:=[a,b,c,d]) hv (λz hz=>by
  simp only[List.mem_cons,List.not_mem_nil,or_false] at hz
  rcases hz with rfl|rfl|rfl|rfl
  ·exact h.2.1
  ·exact h.2.2.1
  ·exact h.2.2.2.1
  ·exact h.2.2.2.2) h.1
theorem lay_of{n at_:Nat}{rs:List Rw}{nms:List (List Nat)}(h1:at_<=n)(as:Asc rs)(ok:∀r∈rs,gZ r.nm/\1<=r.sz/\r.st+r.sz<=at_)(sb:(rs.map (·.nm)).Sublist nms)(nd:nms.Nodup)(h40:nms.length<=40):Lay n rs:=by
 refine⟨λr hr=>⟨(ok r hr).1,(ok r hr).2.1,by have:=(ok r hr).2.2;lia⟩,?_,?_⟩
 ·have h2:rs.Pairwise λr s=>r.nm≠s.nm:=List.pairwise_map.mp (nd.sublist sb)
  exact h2.imp₂ (λa b h3 h4=>⟨h3,.inl h4⟩) as
 ·have:=sb.length_le
  rw[List.length_map] at this
  lia
theorem Eb{rs:List Rw}{r:Rw}{at_:Nat}(h:Asc rs)(ok:∀s∈rs,s.st+s.sz<=at_)(hr:at_<=r.st):Asc (rs++[r]):=by
 unfold Asc
 rw[List.pairwise_append]
 refine⟨h,List.pairwise_singleton _ _,λa ha b hb=>?_⟩
 rw[List.mem_singleton.mp hb]
 have:=ok a ha
 lia
theorem jO(rs:List Rw)(r:Rw):aX (rs++[r])=aX rs++[d8 r]:=by unfold aX;rw[List.map_append];rfl
theorem Aj{c:TT}{tb:TS}{D:Ends}{σ:L2.St}{H:Hp}(Pv:Nat->L2.St->Hp->Prop)(h0:∃m,Pv m σ H)
  (hs:∀m σ H,Pv m σ H->c σ H λb H1=>if b=true then ∃N:L2.St->Hp->Prop,(∀σ' H',N σ' H'->∃m',m'<m/\Pv m' σ' H')/\tb { D with nx:=N,ct:=N,bk:=D.nx } σ H1 else D.nx σ H1):L_ c tb D σ H:=⟨Pv,h0,hs⟩
theorem X5(rs:List Rw):∀r∈aX rs,∀v∈r,cQ v=true:=by
 intro r hr v hv
 obtain⟨x,_,rfl⟩:=List.mem_map.mp hr
 simp only[List.mem_cons,List.not_mem_nil,or_false] at hv
 rcases hv with rfl|rfl|rfl|rfl <;> rfl
instance YZ{K:W.Frag}{H:Hp}{Q:VK}{p b:Addr}{ys:List V}{rs:List Rw}[h:Hat H p (.lst ys)][t:TpA H ys (aX rs)][h2:Hat H b (.lst [])]:Go (R9 K (.ref p) (.ref b) H Q) (Q (.bl (!decide (aX rs=[]))) H):=⟨Oh (zs:=[]) h.e t.e (X5 _) h2.e⟩
theorem GQ{H:Hp}{ys:List V}{rs:List Rw}{i:Nat}(t:aH H ys (aX rs)):aH H (ys.eraseIdx i) (aX (rs.eraseIdx i)):=by
 have hl:ys.length=rs.length:=by rw[t.1,bL]
 refine⟨by rw[bL,List.length_eraseIdx,List.length_eraseIdx,hl],λj r e=>?_⟩
 unfold aX at e
 rw[List.getElem?_map,List.getElem?_eraseIdx] at e
 rw[List.getElem?_eraseIdx]
 split at e
 ·rename_i hj
  have e2:(aX rs)[j]?=some r:=by unfold aX;rw[List.getElem?_map];exact e
  rw[if_pos hj]
  exact t.2 j r e2
 ·rename_i hj
  have e2:(aX rs)[j+1]?=some r:=by unfold aX;rw[List.getElem?_map];exact e
  rw[if_neg hj]
  exact t.2 (j+1) r e2
theorem GR{α:Type}{ls:List α}{i:Nat}{r:α}(h:ls[i]?=some r):(ls.eraseIdx i++[r]).Perm ls:=by
 induction ls generalizing i with
 | nil=>simp at h
 | cons a t ih =>
  cases i with
  | zero =>
   simp at h
   subst h
   exact List.perm_append_comm
  | succ i=>exact(ih (by simpa using h)).cons a
section
variable{P:Program}{w:World}{K:W.Frag}{mg:Str->Option Value}{base:Heap}{c:Nat->Addr}{aF aq R CL CP CS:Addr}
theorem Ak(T:Txt K mg c R CL CP CS aF aq):Def P w K mg base CX0 3 "_law_rows" ["_law_box_here","_law_many_here"] DY:=by
 have tK:=tK (P:=P) (w:=w) (base:=base) T
 have bM:=bM (P:=P) (w:=w) (base:=base) T
 refine bQ T.PB Jb (λvs H Q E h=>?_) (λ_ _ _ _ _ _=>el2 λ_ _=>rfl) (λf cdv A outer s H vs Q E hr h=>?_)
 ·obtain⟨bx,x,y,z,n,rfl,_⟩:=h
  rfl
 ·obtain⟨bx,x,y,z,n,rfl,hbx,h16,mD,k⟩:=h
  have nd:=Jb.nd
  refine⟨_,(au (aP (i:=2) nd rfl (Or.inl rfl) (aZ bO (bV (aj (aJ bM hr (aj (pv 0) (aj aA ao))) (aj aA ao))) (eY qz rfl T.yM boot_int (aj (dJ gG (aJ bM hr (aj (pv 0) (aj aA ao))) aA (bR _)) ao)) (λ_ _=>rfl)))
   (au (aP (i:=3) nd rfl (Or.inl rfl) (aJ tK hr (aj (pv 0) (aj (pv 2) ao))))
   (au (aP (i:=4) nd rfl (Or.inl rfl) (aJ bM hr (aj (pv 0) (aj aA ao))))
   (au (aP (i:=5) nd rfl (Or.inl rfl) (bV ao))
   (au (aP (i:=6) nd rfl (Or.inl rfl) aA)
   (au (dX PassesOwn.never rfl (fQ rfl T.gj (aj (pv 2) ao)) (bN (i:=7) nd rfl (Or.inl rfl)) (au (aP (i:=8) nd rfl (Or.inl rfl) (aR cP (pv 1) (pv 6)))
    (aB (cF (bU jU (pv 8) aA (bR _)) (au (aP (i:=9) nd rfl (Or.inl rfl) (aJ bM hr (aj (pv 0) (aj (aY (qy rfl) rfl T.Dw boot_min (aj (pv 8) (aj aA ao))) ao))))
     (au (aP (i:=10) nd rfl (Or.inl rfl) (aJ bM hr (aj (pv 0) (aj (pv 8) ao))))
     (au (aP (i:=11) nd rfl (Or.inl rfl) (aZ bO (bV (aj aA (aj aA (aj (pv 9) (aj (pv 10) ao))))) (aJ bM hr (aj (pv 0) (aj aA ao))) (λ_ _=>rfl)))
     (au (aP (i:=12) nd rfl (Or.inl rfl) (aZ bO (bV (aj aA (aj aA (aj aA (aj aA ao))))) (aJ bM hr (aj (pv 0) (aj aA ao))) (λ_ _=>rfl)))
     (au (aP (i:=13) nd rfl (Or.inl rfl) (aR cG aA (aJ bM hr (aj (pv 0) (aj (aY (qy rfl) rfl T.Dw boot_min (aj (aR cP (pv 8) (pv 11)) (aj (pv 12) ao))) ao)))))
     (au (aP (i:=14) nd rfl (Or.inl rfl) (aR jZ (aR cG aA (aJ bM hr (aj (pv 0) (aj aA ao)))) (eY qz rfl T.yM boot_int (aj (fO (dJ gG (aJ bM hr (aj (pv 0) (aj aA ao))) aA (bR _)) (gV (dJ jU (pv 4) aA (bR _)))) ao))))
     (au (dw (cX (pv 5) (cU (aj (aZ bO (pv 3) (pv 7) (λ_ _=>rfl)) (aj (aR cG (pv 6) (pv 11)) (aj (pv 13) (aj (pv 14) ao)))))))
     (aB (aP (i:=6) nd rfl (Or.inl rfl) (aR cG (aR cG (pv 6) (pv 11)) (pv 13))))))))))) bI))))
   (aB (aV (pv 5))))))))),?_⟩
  clear nd tK bM
  rw[show start ["_law_box_here","_law_many_here","_law_most","_law_names_here","_law_pinned","_law_rows_here","_law_at","_law_k","_law_left","_law_near","_law_far","_law_gap","_law_wide","_law_size","_law_pins"] [.ref bx,.int (n:Nat)]=[some (.ref bx),some (.int (n:Nat)),none,none,none,none,none,none,none,none,none,none,none,none,none] from rfl]
  try dsimp only[cO,bW]
  obtain⟨bD,bF,bG,aN,aU,aL,aD⟩:=zsix T
  have F:SH H [bx] H [(bx,.lst [.int x,.int y,.int z])] []:=SH.nil.iI List.mem_cons_self hbx rfl (by simp)
  repeat k_meth
  have hidx:0<=(if decide (r_=0)=true then (1:Int) else 0)/\(if decide (r_=0)=true then (1:Int) else 0)<2:=by split <;> lia
  refine HY SqA.e hidx.1 hidx.2 λv hv=>?_
  obtain⟨m,rfl,hm0,hm⟩:=Vl (lo:=0) (hi:=41) (xs:=[_,40]) hv (λa ha=>by
   simp only[List.mem_cons,List.not_mem_nil,or_false] at ha
   rcases ha with rfl|rfl <;> lia) (by lia)
  clear hv hidx
  repeat k_meth
  intro nms nl nk nn
  repeat k_meth
  rename Addr=>rwA
  have⟨pd,hpd⟩:∃pd,pd=r_:=⟨_,rfl⟩
  rw[<- hpd]
  rw[show ((m:Nat):Int).toNat=m by lia]
  refine jq (λi σ' H'=>∃(o7 o8 o9 o10 o11 o12 o13 o14:Option V) (at_:Nat) (rs:List Rw) (ys:List V) (x y z:Int),σ'=[some (.ref bx),some (.int (n:Nat)),some (.int (m:Nat)),some (.ref p_),some (.int pd),some (.ref rwA),some (.int (at_:Nat)),o7,o8,o9,o10,o11,o12,o13,o14]/\at_<=n/\Asc rs/\(∀r∈rs,gZ r.nm/\1<=r.sz/\r.st+r.sz<=at_)/\(rs.map (·.nm)).Sublist (nms.take i)/\ys.length=rs.length/\SH H [bx] H' [(rwA,.lst ys),(p_,.lst (nms.map λcs=>V.str (tx cs))),(bx,.lst [.int x,.int y,.int z])] [.tps ys (aX rs)]) ⟨_,_,_,_,_,_,_,_,0,[],[],x_,y_,z_,rfl,Nat.zero_le _,List.Pairwise.nil,by simp,List.nil_sublist _,rfl,(F.gH (ys:=[]) (rs:=aX []) aH.nil).sub SbC.s SbI.s⟩ ?_ ?_
  ·clear F hpd lo_ hi_
   rintro i σ' H' hi ⟨_,_,_,_,_,_,_,_,at_,rs,ys,x,y,z,rfl,hat,as,ok,sb,yl,F⟩
   obtain⟨nm0,hnm⟩:∃nm0,nms[i]?=some nm0:=⟨nms[i]'(by lia),by simp⟩
   have a1:AtI (nms.map λcs=>V.str (tx cs)) (i:Int) (.str (tx nm0)):=⟨cD (by rw[List.getElem?_map,hnm];rfl)⟩
   have tkn:nms.take (i+1)=nms.take i++[nm0]:=by rw[List.take_succ,hnm];rfl
   have few:rs.length<=40:=by
    have:=sb.length_le
    rw[List.length_map,List.length_take] at this
    lia
   repeat k_meth
   refine fW (λh=>?_) (λh=>?_)
   ·repeat k_meth
    refine HY SqA.e lo_ hi_ λv hv=>?_
    obtain⟨g,rfl,hg0,hg⟩:=Qc (lo:=0) (hi:=(n:Int)-(at_:Int)) hv (by lia)
    clear hv
    repeat k_meth
    refine HY SqA.e lo_ hi_ λv hv=>?_
    obtain⟨wd,rfl,hw0,hw⟩:=Qc (lo:=1) (hi:=241) hv (by lia)
    clear hv
    repeat k_meth
    rename_i zz _ _ _ zlo zhi _ r1 _ _ _ afO afP _
    obtain⟨z1,rfl⟩:∃z1:Nat,zz=(z1:Int):=⟨zz.toNat,by lia⟩
    refine fW (λh0=>?_) (λh0=>?_)
    ·repeat k_meth
     rename Addr=>tq
     obtain⟨pn,hpn⟩:∃pn:Nat,(1+r1)*(if decide (pd > 0)=true then (1:Int) else 0)=(pn:Int):=⟨((1+r1)*(if decide (pd > 0)=true then (1:Int) else 0)).toNat,by have:0<=(1+r1)*(if decide (pd > 0)=true then (1:Int) else 0):=Int.mul_nonneg (by lia) (by split <;> lia);lia⟩
     rw[hpn] at F ⊢
     rw[show [V.str (tx nm0),V.int ((at_:Int)+(g:Int)),V.int (1+(z1:Int)),V.int (pn:Int)]=d8 ⟨nm0,at_+g,1+z1,pn⟩ by simp[d8]] at F
     have F2:=SH.app (ys:=ys) (rs:=aX rs) (q:=tq) (r:=d8 ⟨nm0,at_+g,1+z1,pn⟩) F (LkP.m) (LkI.m)
     rw[<- jO] at F2
     rw[show (at_:Int)+(g:Int)+(1+(z1:Int))=((at_+g+(1+z1):Nat):Int) by lia]
     refine⟨_,_,_,_,_,_,_,_,at_+g+(1+z1),rs++[⟨nm0,at_+g,1+z1,pn⟩],ys++[.ref tq],x_,y_,z_,rfl,by lia,Eb as (λs hs=>(ok s hs).2.2) (by show at_<=at_+g;lia),λs hs=>?_,?_,by simp[yl],F2.sub SbC.s SbI.s⟩
     ·rcases List.mem_append.mp hs with hs|hs
      ·have:=ok s hs
       exact⟨this.1,this.2.1,by lia⟩
      ·rw[List.mem_singleton.mp hs]
       exact⟨nk _ (List.mem_of_getElem? hnm),by show 1<=1+z1;lia,by show at_+g+(1+z1)<=_;lia⟩
     ·rw[List.map_append,tkn]
      exact List.Sublist.append sb (List.Sublist.refl _)
    ·repeat k_meth
     rename Addr=>tq
     obtain⟨pn,hpn⟩:∃pn:Nat,(1+r1)*(if false=true then (1:Int) else 0)=(pn:Int):=⟨((1+r1)*(if false=true then (1:Int) else 0)).toNat,by have:0<=(1+r1)*(if false=true then (1:Int) else 0):=Int.mul_nonneg (by lia) (by split <;> lia);lia⟩
     rw[hpn] at F ⊢
     rw[show [V.str (tx nm0),V.int ((at_:Int)+(g:Int)),V.int (1+(z1:Int)),V.int (pn:Int)]=d8 ⟨nm0,at_+g,1+z1,pn⟩ by simp[d8]] at F
     have F2:=SH.app (ys:=ys) (rs:=aX rs) (q:=tq) (r:=d8 ⟨nm0,at_+g,1+z1,pn⟩) F (LkP.m) (LkI.m)
     rw[<- jO] at F2
     rw[show (at_:Int)+(g:Int)+(1+(z1:Int))=((at_+g+(1+z1):Nat):Int) by lia]
     refine⟨_,_,_,_,_,_,_,_,at_+g+(1+z1),rs++[⟨nm0,at_+g,1+z1,pn⟩],ys++[.ref tq],x_,y_,z_,rfl,by lia,Eb as (λs hs=>(ok s hs).2.2) (by show at_<=at_+g;lia),λs hs=>?_,?_,by simp[yl],F2.sub SbC.s SbI.s⟩
     ·rcases List.mem_append.mp hs with hs|hs
      ·have:=ok s hs
       exact⟨this.1,this.2.1,by lia⟩
      ·rw[List.mem_singleton.mp hs]
       exact⟨nk _ (List.mem_of_getElem? hnm),by show 1<=1+z1;lia,by show at_+g+(1+z1)<=_;lia⟩
     ·rw[List.map_append,tkn]
      exact List.Sublist.append sb (List.Sublist.refl _)
   ·repeat k_meth
    exact⟨_,_,_,_,_,_,_,_,at_,rs,ys,x,y,z,rfl,hat,as,ok,sb.trans (by rw[tkn];exact List.sublist_append_left _ _),yl,F⟩
  ·clear F
   rintro σ' H' ⟨_,_,_,_,_,_,_,_,at_,rs,ys,x,y,z,rfl,hat,as,ok,sb,yl,F⟩
   repeat k_meth
   exact k _ _ _ rs _ ys _ (lay_of hat as ok sb (nn.sublist (List.take_sublist _ _)) (by rw[List.length_take];lia)) as F.kpo aO aO TpA.e (F.fresh (LkL.m (o:=.lst _)) (nm1 (SH.neC (F:=F))))
theorem tL(T:Txt K mg c R CL CP CS aF aq):Def P w K mg base CX0 2 "_law_mixed" ["_law_box_here","_law_some"] D_:=by
 have bM:=bM (P:=P) (w:=w) (base:=base) T
 refine bQ T.Jj CN (λvs H Q E h=>?_) (λ_ _ _ _ _ _=>el2 λ_ _=>rfl) (λf cdv A outer s H vs Q E hr h=>?_)
 ·obtain⟨bx,l,x,y,z,ys,rs,rfl,_⟩:=h
  rfl
 ·obtain⟨bx,l,x,y,z,ys,rs,rfl,hbx,hl,tp,hz,nbl,k⟩:=h
  have nd:=CN.nd
  refine⟨_,(au (aP (i:=2) nd rfl (Or.inl rfl) (eY fK rfl T.fG boot_list (aj (pv 1) ao)))
   (au (aP (i:=3) nd rfl (Or.inl rfl) (bV ao))
   (au (tY PassesOwn.never (bU (uE hr) (pv 2) (bV ao) (bR _)) (aB (dw (cX (pv 3) (Tc (pv 2) (aJ bM hr (aj (pv 0) (aj (aY dB rfl T.iW boot_len (aj (pv 2) ao)) ao))))))))
   (aB (aV (pv 3)))))),?_⟩
  clear nd bM
  rw[show start ["_law_box_here","_law_some","_law_left","_law_found"] [.ref bx,.ref l]=[some (.ref bx),some (.ref l),none,none] from rfl]
  try dsimp only[cO,bW]
  obtain⟨bD,bF,bG,aN,aU,aL,aD⟩:=zsix T
  have F:SH H [bx] H [(bx,.lst [.int x,.int y,.int z])] []:=SH.nil.iI List.mem_cons_self hbx rfl (by simp)
  have K5:=Old.mk (M:=[bx]) hl (nm1 (Ne.symm nbl))
  have yl:ys.length=rs.length:=by rw[tp.1,bL]
  replace F:=F.gH tp
  repeat k_meth
  rename Addr=>fd
  refine Aj (λm σ' H'=>∃(ls fs:List Rw) (yl yf:List V) (x y z:Int),σ'=[some (.ref bx),some (.ref l),some (.ref p_),some (.ref fd)]/\m=ls.length/\(fs++ls).Perm rs/\yl.length=ls.length/\yf.length=fs.length/\SH H [bx] H' [(p_,.lst yl),(fd,.lst yf),(bx,.lst [.int x,.int y,.int z])] [.tps yl (aX ls),.tps yf (aX fs)]) ⟨rs.length,rs,[],ys,[],x,y,z,rfl,rfl,List.Perm.refl _,yl,rfl,(F.gH (ys:=[]) (rs:=aX []) aH.nil).sub SbC.s SbI.s⟩ ?_
  clear F
  rintro m σ' H' ⟨ls,fs,yl',yf,x,y,z,rfl,rfl,pm,h1,h2,F⟩
  have pl:=pm.length_eq
  rw[List.length_append] at pl
  repeat k_meth
  by_cases hn:aX ls=[]
  ·repeat k_meth
   have e0:ls=[]:=List.map_eq_nil_iff.mp hn
   rw[e0,List.append_nil] at pm
   exact k _ _ _ fs _ yf _ pm F.kpo aO aO TpA.e (F.fresh (LkL.m (o:=.lst _)) (nm1 (SH.neC (F:=F))))
  ·have hp:0<ls.length:=by
    cases ls with
    | nil=>exact absurd rfl hn
    | cons a t=>simp
   repeat k_meth
   refine⟨λσ' H'=>∃m',m'<ls.length/\_,λσ' H' h=>h,?_⟩
   repeat k_meth
   intro v hv
   repeat k_meth
   obtain⟨r,q,e1,rfl,e2⟩:=d7 (H:=H_) (rs:=ls) TpA.e hv
   have t1:=GQ (H:=H_) (ys:=yl') (rs:=ls) (i:=r_.toNat) TpA.e
   have t2:aH H_ (yf++[.ref q]) (aX (fs++[r])):=by
    rw[jO]
    exact aH.snoc (TpA.e (H:=H_) (ys:=yf) (rs:=aX fs)) e2
   have hlt:=(List.getElem?_eq_some_iff.mp e1).1
   refine⟨ls.length-1,by lia,ls.eraseIdx r_.toNat,fs++[r],yl'.eraseIdx r_.toNat,yf++[.ref q],x_,y_,z_,rfl,?_,?_,?_,?_,((F.gH t2).gH t1).sub SbC.s SbI.s⟩
   ·rw[List.length_eraseIdx,if_pos hlt]
   ·refine List.Perm.trans ?_ pm
    rw[List.append_assoc]
    exact(List.perm_append_comm.trans (GR e1)).append_left fs
   ·rw[List.length_eraseIdx,List.length_eraseIdx,h1]
   ·rw[List.length_append,List.length_append,h2]
    rfl
end
theorem X6{K:W.Frag}{l:Addr}{xs:List V}{rows:List (List V)}{σ fvs:L2.St}{fr:List Nat}{c:TT}{te:TE}{H:Hp}{Q:VK}{P:List V->Bool}(hq:H l=some (.lst xs))(tp:aH H xs rows)(hz:xs.length<=1000000)(hf:(fr.map λi=>(σ[i]?).getD none)=fvs)
  (G:Nat->List V->Hp->Prop) (st:∀i ys H1 H2,(∀q u,H1 q=some (.tup u)->H2 q=some (.tup u))->G i ys H1->G i ys H2) (g0:G 0 [] H)
  (abw:∀(i:Nat) (q:Addr) r (H':Hp) (R:Bool->Hp->Prop),rows[i]?=some r->Same H H'->H' q=some (.tup r)->(∀H2,Same H' H2->R (P r) H2)->c (some (.ref q)::fvs) H' R)
  (abx:∀(i:Nat) (q:Addr) r ys (H':Hp) (R:VK),rows[i]?=some r->P r=true->Same H H'->H' q=some (.tup r)->G i ys H'->(∀y H2,Same H' H2->G (i+1) (ys++[y]) H2->R y H2)->te (some (.ref q)::fvs) H' R)
  (skip:∀(i:Nat) r ys (H':Hp),rows[i]?=some r->P r=false->G i ys H'->G (i+1) ys H')
  (k:∀p ys H',New H H' p (.lst ys)->G xs.length ys H'->Q (.ref p) H'):dz (Itl K l) 1 fr (bK 0) c te σ H Q:=by
 intro acc hacc
 subst hf
 have BP:∀b u,H b=some u->b≠acc:=λb u e=>cj e hacc
 have n0:New H (upd H acc (.lst [])) acc (.lst []):=.mk' hacc
 refine ou (gB (xs:=xs)) (λi ys H'=>H' acc=some (.lst ys)/\Same H H'/\ys.length<=i/\G i ys H') ⟨n0.e,n0.s,Nat.le_refl _,st _ _ _ _ (λq u e=>n0.s _ _ e) g0⟩ (λi ys H' _ h=>⟨h.2.1.seq (SqL.of hq),h.1⟩) ?_ ?_
 ·rintro i x tv ys H' hx hi ⟨ha,hs,hl,hg⟩ htv
  obtain⟨t0,rfl⟩:∃a,tv=[a]:=List.length_eq_one_iff.mp htv
  obtain⟨r,q,e1,rfl,e2⟩:=lE tp hx
  refine wn0 ?_
  refine abw i q r H' _ e1 hs (hs _ _ e2) λH2 s2=>?_
  have g2:=st _ _ _ _ (λq u e=>s2 _ _ e) hg
  have ha2:H2 acc=some (.lst ys):=s2 _ _ ha
  by_cases hp:P r=true
  ·rw[hp,if_pos rfl]
   refine abx i q r ys H2 _ e1 hp (hs.trans s2) (s2 _ _ (hs _ _ e2)) g2 λy H3 s3 g3=>⟨Nat.lt_of_le_of_lt hl (Nat.lt_of_lt_of_le hi (cI hz)),s3 _ _ ha2,jV.next (tv:=[some (.ref q)]) hi ⟨cA,λb u e=>?_,by rw[List.length_append,List.length_singleton];lia,st _ _ _ _ (λq' u e=>?_) g3⟩ rfl⟩
   ·rw[bZ (BP b u e)]
    exact s3 _ _ (s2 _ _ (hs _ _ e))
   ·have e3:H3 acc=some (.lst ys):=s3 _ _ ha2
    rw[bZ (λz=>by rw[z,e3] at e;cases e)]
    exact e
  ·have hp:P r=false:=by simpa using hp
   rw[hp,if_neg (by decide)]
   exact jV.next (tv:=[some (.ref q)]) hi ⟨ha2,hs.trans s2,by lia,skip i r ys H2 e1 hp g2⟩ rfl
 ·rintro ys H' ⟨ha,hs,_,hg⟩
  exact k acc ys H' ⟨hs,ha,BP⟩ hg
section
variable{K:W.Frag}{H:Hp}{Q:VK}{p q l:Addr}{ns:List Int}{c:Int}
instance ac5[h:SqA K H l (ns.map V.int)]:Go (Oa K [.ref l] H Q) (Sd ((∀n∈ns,0<=n/\n<=1000000)/\ns.length<=1000000) (Q (.int ns.sum) H)):=⟨λs=>w_sumL h.e s.1.1 s.1.2 s.2⟩
end
def gp(rs:List Rw):List Int×Int:=rs.foldl (λg r=>(g.1++[(r.st:Int)-g.2],(r.st:Int)+(r.sz:Int))) ([],0)
theorem Jz(rs:List Rw)(r:Rw):gp (rs++[r])=((gp rs).1++[(r.st:Int)-(gp rs).2],(r.st:Int)+(r.sz:Int)):=by unfold gp;rw[List.foldl_append];rfl
theorem vX(rs:List Rw):(gp rs).1.length=rs.length:=by
 have:∀(rs:List Rw) (g:List Int×Int),(rs.foldl (λg r=>(g.1++[(r.st:Int)-g.2],(r.st:Int)+(r.sz:Int))) g).1.length=g.1.length+rs.length:=by
  intro rs
  induction rs with
  | nil=>intro g;rfl
  | cons r t ih=>intro g;rw[List.foldl_cons,ih];simp;lia
 have:=this rs ([],0)
 simpa[gp] using this
def bH(n:Nat)(rs:List Rw):List Int:=(gp rs).1++[(n:Int)-(gp rs).2]
theorem eX{rs:List Rw}{i:Nat}{r:Rw}(h:rs[i]?=some r):rs.take (i+1)=rs.take i++[r]:=by rw[List.take_succ,h];rfl
def within(a b:Int)(r:Rw):Bool:=decide (a<=(r.st:Int)) && decide ((r.st:Int)<b)
def dZ(rs:List Rw)(a b:Int):Int:=b-a-((rs.filter (within a b)).map λr=>(r.sz:Int)).sum
def yW(CL:Addr):Sp:=λvs H Q _=>∃(x p dx:Addr) (n:Nat) (zs:List V) (rs:List Rw),vs=[.ref x]/\H x=some (.ins CL dx (lF (n:Nat) p))/\H p=some (.lst zs)/\aH H zs (aX rs)/\rs.length<=40/\∀q H',New H H' q (.lst ((bH n rs).map V.int))->Q (.ref q) H'
def vY(CL:Addr):Sp:=λvs H Q _=>∃(x p dx:Addr) (n:Nat) (zs:List V) (rs:List Rw) (a b:Int),vs=[.ref x,.int a,.int b]/\H x=some (.ins CL dx (lF (n:Nat) p))/\H p=some (.lst zs)/\aH H zs (aX rs)/\rs.length<=40/\∀q ys H',New H H' q (.lst ys)->aH H' ys (aX (rs.filter (within a b)))->Q (.ref q) H'
def Ec(CL:Addr):Sp:=λvs H Q _=>∃(x p dx:Addr) (n:Nat) (zs:List V) (rs:List Rw) (a b:Int),vs=[.ref x,.int a,.int b]/\H x=some (.ins CL dx (lF (n:Nat) p))/\H p=some (.lst zs)/\aH H zs (aX rs)/\(rs.length<=40/\∀r∈rs,r.sz<=240)/\∀H',Same H H'->Q (.int (dZ rs a b)) H'
section
variable{CL x p dx l:Addr}{H:Hp}{Q:VK}{E:XK}{n:Nat}{zs:List V}{rs:List Rw}{a b:Int}
instance Y0[h:Hat H x (.ins CL dx (lF (n:Nat) p))][h2:Hat H p (.lst zs)][t:TpA H zs (aX rs)]:Go (yW CL [.ref x] H Q E) (Sd (rs.length<=40) (∀q H',New H H' q (.lst ((bH n rs).map V.int))->Q (.ref q) H')):=⟨λs=>⟨x,p,dx,n,zs,rs,rfl,h.e,h2.e,t.e,s.1,s.2⟩⟩
instance X7[h:Hat H x (.ins CL dx (lF (n:Nat) p))][h2:Hat H p (.lst zs)][t:TpA H zs (aX rs)]:Go (vY CL [.ref x,.int a,.int b] H Q E) (Sd (rs.length<=40) (∀q ys H',New H H' q (.lst ys)->aH H' ys (aX (rs.filter (within a b)))->Q (.ref q) H')):=⟨λs=>⟨x,p,dx,n,zs,rs,a,b,rfl,h.e,h2.e,t.e,s.1,s.2⟩⟩
instance aby[h:Hat H x (.ins CL dx (lF (n:Nat) p))][h2:Hat H p (.lst zs)][t:TpA H zs (aX rs)]:Go (Ec CL [.ref x,.int a,.int b] H Q E) (Sd (rs.length<=40/\∀r∈rs,r.sz<=240) (∀H',Same H H'->Q (.int (dZ rs a b)) H')):=⟨λs=>⟨x,p,dx,n,zs,rs,a,b,rfl,h.e,h2.e,t.e,s.1,s.2⟩⟩
end
def X8(a b:Int)(r:List V):Bool:=match r with
 | [_,.int s,_,_]=>decide (a<=s) && decide (s<b)
 | _=>false
theorem K8(rs:List Rw)(a b:Int):(aX rs).filter (X8 a b)=aX (rs.filter (within a b)):=by
 unfold aX
 rw[List.filter_map]
 rfl
theorem yX{rows:List (List V)}{i:Nat}{r:List V}(h:rows[i]?=some r):rows.take (i+1)=rows.take i++[r]:=by rw[List.take_succ,h];rfl
theorem T9{H1 H2:Hp}{ys:List V}{rows:List (List V)}(s:∀q u,H1 q=some (.tup u)->H2 q=some (.tup u))(t:aH H1 ys rows):aH H2 ys rows:=⟨t.1,λj r e=>let ⟨q,a,b⟩:=t.2 j r e;⟨q,a,s _ _ b⟩⟩
section
variable{P:Program}{w:World}{K:W.Frag}{mg:Str->Option Value}{base:Heap}{c:Nat->Addr}{aF aq R CL CP CS:Addr}
theorem cg(T:Txt K mg c R CL CP CS aF aq):Def P w K mg base CX0 2 "gaps_of" ["layout"] (yW CL):=by
 have bf:=bf (P:=P) (w:=w) (base:=base) T
 have cC:=cC (P:=P) (w:=w) (base:=base) T
 have b_:=b_ (P:=P) (w:=w) (base:=base) T
 refine bQ T.Dj xY (λvs H Q E h=>?_) (λ_ _ _ _ _ _=>el1 λ_=>rfl) (λf cdv A outer s H vs Q E hr h=>?_)
 ·obtain⟨x,p,dx,n,zs,rs,rfl,_⟩:=h
  rfl
 ·obtain⟨x,p,dx,n,zs,rs,rfl,hx,hp,tp,few,k⟩:=h
  have nd:=xY.nd
  refine⟨_,(au (aP (i:=1) nd rfl (Or.inl rfl) (bV ao))
   (au (aP (i:=2) nd rfl (Or.inl rfl) aA)
   (au (dX PassesOwn.never rfl (dh (fB (pv 0) T.clL bf hr)) (bN (i:=3) nd rfl (Or.inl rfl)) (au (dw (cX (pv 1) (aR cP (aZ bT (pv 3) aA (λ_ _=>rfl)) (pv 2))))
    (aB (aP (i:=2) nd rfl (Or.inl rfl) (aJ cC hr (aj (aJ b_ hr (aj (pv 3) ao)) ao))))))
   (aB (aV (aR dW (pv 1) (bV (aj (aR cP (iD (pv 0) rfl) (pv 2)) ao)))))))),?_⟩
  clear nd bf cC b_
  rw[show start ["layout","gaps","behind","block"] [.ref x]=[some (.ref x),none,none,none] from rfl]
  try dsimp only[cO,bW]
  obtain⟨bD,bF,bG,aN,aU,aL,aD⟩:=zsix T
  have jh:=Old.mk (M:=[]) hx nm0
  have iT:=Old.mk (M:=[]) hp nm0
  have jx:=gk.mk tp
  have F:SH H [] H [] []:=SH.nil
  repeat k_meth
  rename_i _ gl
  rename Addr=>bl
  refine f9 (xs:=zs) (λi σ' H'=>∃o3:Option V,σ'=[some (.ref x),some (.ref gl),some (.int (gp (rs.take i)).2),o3]/\SH H [] H' [(gl,.lst ((gp (rs.take i)).1.map V.int)),(bl,.lst zs)] []) ⟨_,rfl,F.Gs (L':=[(gl,.lst []),(bl,.lst zs)])⟩ ?_ ?_ ?_
  ·clear F
   rintro i σ' H' _ ⟨_,rfl,F⟩
   exact SqA.e
  ·clear F
   rintro i v σ' H' hv ⟨_,rfl,F⟩
   obtain⟨r,q1,e1,rfl,e2⟩:=d7 tp hv
   have vV:=Old.mk (M:=[]) e2 nm0
   have gl1:=vX (rs.take i)
   rw[List.length_take] at gl1
   repeat k_meth
   refine⟨_,by rw[eX e1,Jz],?_⟩
   rw[eX e1,Jz]
   simp only[List.map_append,List.map_cons,List.map_nil]
   exact F.Gs
  ·clear F
   rintro σ' H' ⟨_,rfl,F⟩
   have gl1:=vX rs
   rw[show zs.length=rs.length by rw[tp.1,bL],List.take_length] at F ⊢
   repeat k_meth
   rw[show (gp rs).1.map V.int++[V.int ((n:Int)-(gp rs).2)]=(bH n rs).map V.int by unfold bH;rw[List.map_append];rfl] at F
   exact k _ _ SH.nwC
theorem lO(T:Txt K mg c R CL CP CS aF aq):Def P w K mg base CX0 2 "blocks_between" ["layout","first","behind"] (vY CL):=by
 have bf:=bf (P:=P) (w:=w) (base:=base) T
 refine bQ T.yF vf (λvs H Q E h=>?_) (λ_ _ _ _ _ _=>el3 λ_ _ _=>rfl) (λf cdv A outer s H vs Q E hr h=>?_)
 ·obtain⟨x,p,dx,n,zs,rs,a,b,rfl,_⟩:=h
  rfl
 ·obtain⟨x,p,dx,n,zs,rs,a,b,rfl,hx,hp,tp,few,k⟩:=h
  have nd:=vf.nd
  refine⟨_,(aB (aV (fj (N:=["block","first","behind"]) (nt:=1) (fr:=[1,2]) (dh (fB (pv 0) T.clL bf hr)) (λ_ _ _ _=>(bN (i:=0) (show (["block","first","behind"]:List Str).Nodup from by decide +kernel) rfl (Or.inl rfl))) (λ_ _ _ _=>Hx (Bo wW rJ (pv 1) (aZ (jF (K:=K) rfl) (pv 0) aA (λ_ _=>rfl)) (pv 2))) (λ_ _ _ _=>(pv 0))))),?_⟩
  clear nd bf
  rw[show start ["layout","first","behind"] [.ref x,.int a,.int b]=[some (.ref x),some (.int a),some (.int b)] from rfl]
  try dsimp only[cO,bW]
  obtain⟨bD,bF,bG,aN,aU,aL,aD⟩:=zsix T
  have jh:=Old.mk (M:=[]) hx nm0
  have iT:=Old.mk (M:=[]) hp nm0
  have jx:=gk.mk tp
  have F:SH H [] H [] []:=SH.nil
  have yl:zs.length=rs.length:=by rw[tp.1,bL]
  repeat k_meth
  refine X6 (P:=X8 a b) (fvs:=[some (.int a),some (.int b)]) aO (TpA.e (rs:=aX rs)) (by lia) rfl (λi ys H'=>aH H' ys (((aX rs).take i).filter (X8 a b))) (λi ys H1 H2 s t=>T9 s t) aH.nil (λi q1 r H' R e1 s1 e2 kk=>?_) (λi q1 r ys H' R e1 hp s1 e2 g kk=>?_) (λi r ys H' e1 hp g=>by rw[yX e1,List.filter_append,List.filter_cons_of_neg (by simp[hp]),List.filter_nil,List.append_nil];exact g) λq ys H' n1 g=>?_
  ·clear F
   have F:SH H' [] H' [] []:=SH.nil
   obtain⟨s,_,rfl⟩:=List.mem_map.mp (List.mem_of_getElem? e1)
   have vV:=Old.mk (M:=[]) e2 nm0
   have kk:∀H2,Same H' H2->R (decide (a<=(s.st:Int)) && decide ((s.st:Int)<b)) H2:=kk
   repeat k_meth
   refine fW (λh=>?_) (λh=>?_)
   ·repeat k_meth
    rw[decide_eq_true h,Bool.true_and] at kk
    exact kk _ (Same.refl _)
   ·repeat k_meth
    rw[decide_eq_false h,Bool.false_and] at kk
    exact kk _ (Same.refl _)
  ·repeat k_meth
   refine kk _ _ (Same.refl _) ?_
   rw[yX e1,List.filter_append,List.filter_cons_of_pos hp,List.filter_nil]
   exact aH.snoc g e2
  ·rw[List.take_of_length_le (by rw[bL];lia),K8] at g
   replace F:=F.newR n1 g
   repeat k_meth
   exact k _ _ _ SH.nwC TpA.e
theorem pA(T:Txt K mg c R CL CP CS aF aq):Def P w K mg base CX0 3 "free_between" ["layout","first","behind"] (Ec CL):=by
 have lO:=lO (P:=P) (w:=w) (base:=base) T
 refine bQ T.Jm CV (λvs H Q E h=>?_) (λ_ _ _ _ _ _=>el3 λ_ _ _=>rfl) (λf cdv A outer s H vs Q E hr h=>?_)
 ·obtain⟨x,p,dx,n,zs,rs,a,b,rfl,_⟩:=h
  rfl
 ·obtain⟨x,p,dx,n,zs,rs,a,b,rfl,hx,hp,tp,few,k⟩:=h
  have nd:=CV.nd
  refine⟨_,(aB (aV (aR cP (aR cP (pv 2) (pv 1)) (aY (Kv rfl) rfl T.Vi boot_sum (aj (fj (N:=["block"]) (nt:=1) (fr:=[]) (dh (aJ lO hr (aj (pv 0) (aj (pv 1) (aj (pv 2) ao))))) (λ_ _ _ _=>(bN (i:=0) (show (["block"]:List Str).Nodup from by decide +kernel) rfl (Or.inl rfl))) (λ_ _ _ _=>eZ) (λ_ _ _ _=>(aZ (jF (K:=K) rfl) (pv 0) aA (λ_ _=>rfl)))) ao))))),?_⟩
  clear nd lO
  rw[show start ["layout","first","behind"] [.ref x,.int a,.int b]=[some (.ref x),some (.int a),some (.int b)] from rfl]
  try dsimp only[cO,bW]
  obtain⟨bD,bF,bG,aN,aU,aL,aD⟩:=zsix T
  have jh:=Old.mk (M:=[]) hx nm0
  have iT:=Old.mk (M:=[]) hp nm0
  have jx:=gk.mk tp
  have F:SH H [] H [] []:=SH.nil
  have aeR:=few.1
  have fl:(rs.filter (within a b)).length<=40:=Nat.le_trans (List.length_filter_le _ _) few.1
  repeat k_meth
  refine jo (F:=λr=>r.getD 2 .non) aO (TpA.e (rs:=aX (rs.filter (within a b)))) (by lia) rfl (λq r H1 R hr s1 e1 kk=>?_) ?_
  ·clear F
   have F:SH H1 [] H1 [] []:=SH.nil
   obtain⟨s,_,rfl⟩:=List.mem_map.mp hr
   have X_:=Old.mk (M:=[]) e1 nm0
   repeat k_meth
   exact kk _ (Same.refl _)
  ·have e5:(aX (rs.filter (within a b))).map (λr=>r.getD 2 V.non)=((rs.filter (within a b)).map λr=>((r.sz:Nat):Int)).map V.int:=by
    unfold aX
    rw[List.map_map,List.map_map]
    rfl
   rw[e5]
   have side:(∀n∈(rs.filter (within a b)).map λr=>((r.sz:Nat):Int),0<=n/\n<=1000000)/\((rs.filter (within a b)).map λr=>((r.sz:Nat):Int)).length<=1000000:=by
    refine⟨λn hn=>?_,by rw[List.length_map];lia⟩
    obtain⟨r,hr,rfl⟩:=List.mem_map.mp hn
    have:=few.2 r (List.mem_filter.mp hr).1
    lia
   repeat k_meth
   exact k _ F.sm
end
abbrev W3:=Int×Int×Int
abbrev pB(w:W3):List V:=[V.int w.1,V.int w.2.1,V.int w.2.2]
def bY(ws:List W3):List (List V):=ws.map pB
theorem cM(ws:List W3):(bY ws).length=ws.length:=List.length_map ..
theorem jP(ws:List W3)(w:W3):bY (ws++[w])=bY ws++[pB w]:=by unfold bY;rw[List.map_append];rfl
theorem rF(ws:List W3):∀r∈bY ws,∀v∈r,cQ v=true:=by
 intro r hr v hv
 obtain⟨x,_,rfl⟩:=List.mem_map.mp hr
 simp only[List.mem_cons,List.not_mem_nil,or_false] at hv
 rcases hv with rfl|rfl|rfl <;> rfl
def spF(r0 rs:List Rw):List W3×Int:=rs.foldl (λg r=>if 0<r.pn then (g.1++[(g.2,(r.st:Int),dZ r0 g.2 r.st)],(r.st:Int)+(r.sz:Int)) else g) ([],0)
theorem gO(r0 rs:List Rw)(r:Rw):spF r0 (rs++[r])=if 0<r.pn then ((spF r0 rs).1++[((spF r0 rs).2,(r.st:Int),dZ r0 (spF r0 rs).2 r.st)],(r.st:Int)+(r.sz:Int)) else spF r0 rs:=by unfold spF;rw[List.foldl_append];rfl
def c7(n:Nat)(rs:List Rw):List W3:=(spF rs rs).1++[((spF rs rs).2,(n:Int),dZ rs (spF rs rs).2 n)]
theorem Vm{P:List Rw->Prop}(h0:P [])(h1:∀rs r,P rs->P (rs++[r]))(rs:List Rw):P rs:=by
 have:∀n,∀rs:List Rw,rs.length=n->P rs:=by
  intro n
  induction n with
  | zero=>intro rs h;rw[List.length_eq_zero_iff.mp h];exact h0
  | succ n ih =>
   intro rs h
   have hne:rs≠[]:=λz=>by rw[z] at h;simp at h
   have e:=List.dropLast_concat_getLast hne
   rw[<- e]
   exact h1 _ _ (ih _ (by rw[List.length_dropLast];lia))
 exact this rs.length rs rfl
theorem Am(r0 rs:List Rw):(spF r0 rs).1.length<=rs.length:=by
 induction rs using Vm with
 | h0=>exact Nat.le_refl _
 | h1 rs r ih =>
  rw[gO]
  split
  ·simp only[List.length_append,List.length_singleton];lia
  ·simp only[List.length_append,List.length_singleton];lia
def pC(CL:Addr):Sp:=λvs H Q _=>∃(x p dx:Addr) (n:Nat) (zs:List V) (rs:List Rw),vs=[.ref x]/\H x=some (.ins CL dx (lF (n:Nat) p))/\H p=some (.lst zs)/\aH H zs (aX rs)/\(rs.length<=40/\∀r∈rs,r.sz<=240)/\∀q ys H',New H H' q (.lst ys)->aH H' ys (bY (c7 n rs))->Q (.ref q) H'
section
variable{K:W.Frag}{CL x p dx l q a:Addr}{H H0:Hp}{M:List Addr}{L:List (Addr×HO)}{I:List Im}{Q:VK}{E:XK}{n:Nat}{xs ys zs:List V}{rs:List Rw}{ws:List W3}{Z:Addr->Hp->Prop}{t0 te:TE}{nt:Nat}{fr:List Nat}{g:TG}{cc:TT}{σ fvs:L2.St}{i:Int}
instance T_[h:Hat H x (.ins CL dx (lF (n:Nat) p))][h2:Hat H p (.lst zs)][t:TpA H zs (aX rs)]:Go (pC CL [.ref x] H Q E) (Sd (rs.length<=40/\∀r∈rs,r.sz<=240) (∀q ys H',New H H' q (.lst ys)->aH H' ys (bY (c7 n rs))->Q (.ref q) H')):=⟨λs=>⟨x,p,dx,n,zs,rs,rfl,h.e,h2.e,t.e,s.1,s.2⟩⟩
instance abA[F:SH H0 M H L I]:Go (∀p ys H',New H H' p (.lst ys)->aH H' ys (bY ws)->Z p H') (∀H' p ys,ys.length=ws.length->SH H0 M H' ((p,.lst ys)::L) (.tps ys (bY ws)::I)->Z p H'):=⟨λk p ys H' n t=>k H' p ys (by rw[t.1,cM]) (F.newR n t)⟩
instance abB:Go (jm (Ze K t0) nt fr g cc te σ H Q) (t0 σ H λx H1=>∃a,x=.ref a/\(∃xs,SqT K H1 a xs)/\dz (Itt K a) nt fr g cc te σ H1 Q):=⟨id⟩
instance ac6[h:SqB K H a xs]:Go (∃a',V.ref a=.ref a'/\(∃xs,SqT K H a' xs)/\dz (Itt K a') nt fr g cc te σ H Q) (dz (Itt K a) nt fr g cc te σ H Q):=⟨λk=>⟨a,rfl,⟨xs,h.e⟩,k⟩⟩
theorem K9{J:It}{Lk:Hp->Prop}(it:L2.ItemsOf J xs Lk)(hz:xs.length<=1000000)(hf:(fr.map λi=>(σ[i]?).getD none)=fvs)(hL:∀H',Same H H'->Lk H')
  (turn:∀(v:V) (H':Hp) (R:VK),v∈xs->Same H H'->(∀H2,Same H' H2->R (.bl true) H2)->te (some v::fvs) H' R) (k:∀p H',New H H' p (.lst ((List.replicate xs.length true).map V.bl))->Q (.ref p) H'):dz J 1 fr (bK 0) mJ te σ H Q:=by
 refine comp_map (P:=λi y=>y=.bl true) it hz hf hL (λi v H' R hv s kk=>turn v H' R (List.mem_of_getElem? hv) s λH2 s2=>kk _ _ s2 rfl) λp H' ys n hl hP=>k p H' ?_
 have e:ys=(List.replicate xs.length true).map V.bl:=by
  rw[List.map_replicate,List.eq_replicate_iff]
  refine⟨hl,λb hb=>?_⟩
  obtain⟨i,hi,e⟩:=List.getElem_of_mem hb
  exact hP i b (by rw[<- e];simp)
 rw[e] at n
 exact n
end
theorem Ua{H:Hp}{ws:List W3}{ys:List V}{i:Nat}{v:V}(h:aH H ys (bY ws))(e:ys[i]?=some v):∃w q,ws[i]?=some w/\v=.ref q/\H q=some (.tup (pB w)):=by
 obtain⟨r,q,e1,e2,e3⟩:=lE h e
 unfold bY at e1
 rw[List.getElem?_map] at e1
 cases e4:ws[i]? with
 | none=>rw[e4] at e1;cases e1
 | some w=>rw[e4] at e1;cases e1;exact⟨w,q,rfl,e2,e3⟩
section
variable{P:Program}{w:World}{K:W.Frag}{mg:Str->Option Value}{base:Heap}{c:Nat->Addr}{aF aq R CL CP CS:Addr}
theorem d9(T:Txt K mg c R CL CP CS aF aq):Def P w K mg base CX0 4 "stretches_of" ["layout"] (pC CL):=by
 have bf:=bf (P:=P) (w:=w) (base:=base) T
 have cC:=cC (P:=P) (w:=w) (base:=base) T
 have pA:=pA (P:=P) (w:=w) (base:=base) T
 have b_:=b_ (P:=P) (w:=w) (base:=base) T
 refine bQ T.sy oR (λvs H Q E h=>?_) (λ_ _ _ _ _ _=>el1 λ_=>rfl) (λf cdv A outer s H vs Q E hr h=>?_)
 ·obtain⟨x,p,dx,n,zs,rs,rfl,_⟩:=h
  rfl
 ·obtain⟨x,p,dx,n,zs,rs,rfl,hx,hp,tp,few,k⟩:=h
  have nd:=oR.nd
  refine⟨_,(au (aP (i:=1) nd rfl (Or.inl rfl) (bV ao))
   (au (aP (i:=2) nd rfl (Or.inl rfl) aA)
   (au (dX PassesOwn.never rfl (dh (fB (pv 0) T.clL bf hr)) (bN (i:=3) nd rfl (Or.inl rfl)) (aB (cF (bU jU (aZ bT (pv 3) aA (λ_ _=>rfl)) aA (bR _)) (au (dw (cX (pv 1) (cU (aj (pv 2) (aj (aZ bT (pv 3) aA (λ_ _=>rfl)) (aj (aJ pA hr (aj (pv 0) (aj (pv 2) (aj (aZ bT (pv 3) aA (λ_ _=>rfl)) ao)))) ao))))))
     (aB (aP (i:=2) nd rfl (Or.inl rfl) (aJ cC hr (aj (aJ b_ hr (aj (pv 3) ao)) ao))))) bI)))
   (au (dw (cX (pv 1) (cU (aj (pv 2) (aj (iD (pv 0) rfl) (aj (aJ pA hr (aj (pv 0) (aj (pv 2) (aj (iD (pv 0) rfl) ao)))) ao))))))
   (aB (aV (pv 1))))))),?_⟩
  clear nd bf cC pA b_
  rw[show start ["layout","stretches","first","block"] [.ref x]=[some (.ref x),none,none,none] from rfl]
  try dsimp only[cO,bW]
  obtain⟨bD,bF,bG,aN,aU,aL,aD⟩:=zsix T
  have jh:=Old.mk (M:=[]) hx nm0
  have iT:=Old.mk (M:=[]) hp nm0
  have jx:=gk.mk tp
  have F:SH H [] H [] []:=SH.nil
  have aeR:=few.1
  repeat k_meth
  rename_i _ sl
  rename Addr=>bl
  refine f9 (xs:=zs) (λi σ' H'=>∃(o3:Option V) (ys:List V),σ'=[some (.ref x),some (.ref sl),some (.int (spF rs (rs.take i)).2),o3]/\ys.length=(spF rs (rs.take i)).1.length/\SH H [] H' [(sl,.lst ys),(bl,.lst zs)] [.tps ys (bY (spF rs (rs.take i)).1)]) ⟨_,[],rfl,rfl,(F.gH (ys:=[]) (rs:=bY []) aH.nil).sub SbC.s (λ_ h=>h)⟩ ?_ ?_ ?_
  ·clear F
   rintro i σ' H' _ ⟨_,ys,rfl,yl,F⟩
   exact SqA.e
  ·clear F
   rintro i v σ' H' hv ⟨_,ys,rfl,yl,F⟩
   obtain⟨r,q1,e1,rfl,e2⟩:=d7 tp hv
   have vV:=Old.mk (M:=[]) e2 nm0
   have sl1:=Am rs (rs.take i)
   rw[List.length_take] at sl1
   repeat k_meth
   refine fW (λh=>?_) (λh=>?_)
   ·have hp:0<r.pn:=by lia
    repeat k_meth
    rename Addr=>zz
    have F2:=SH.app (ys:=ys) (rs:=bY (spF rs (rs.take i)).1) (q:=p_) (r:=pB ((spF rs (rs.take i)).2,(r.st:Int),dZ rs (spF rs (rs.take i)).2 r.st)) F (LkP.m) (LkI.m)
    rw[<- jP] at F2
    refine⟨_,ys++[.ref p_],by rw[eX e1,gO,if_pos hp],by rw[eX e1,gO,if_pos hp];simp[yl],?_⟩
    rw[eX e1,gO,if_pos hp]
    exact F2.sub SbC.s SbI.s
   ·have hp:¬ 0<r.pn:=by lia
    repeat k_meth
    refine⟨_,ys,by rw[eX e1,gO,if_neg hp],by rw[eX e1,gO,if_neg hp];exact yl,?_⟩
    rw[eX e1,gO,if_neg hp]
    exact F
  ·clear F
   rintro σ' H' ⟨_,ys,rfl,yl,F⟩
   have sl1:=Am rs rs
   rw[show zs.length=rs.length by rw[tp.1,bL],List.take_length] at F yl ⊢
   repeat k_meth
   rename Addr=>tq
   have F2:=SH.app (ys:=ys) (rs:=bY (spF rs rs).1) (q:=tq) (r:=pB ((spF rs rs).2,(n:Int),dZ rs (spF rs rs).2 n)) F (LkP.m) (LkI.m)
   rw[<- jP] at F2
   exact k _ _ _ (SH.nwC (F:=F2)) (F2.tps List.mem_cons_self)
end
abbrev PR:=List (Option Int)
def pV:Option Int->V
 | none=>.non
 | some i=>.int i
def ji(s:Nat):PR:=some 0::List.replicate s none
def GX(r:Rw)(b:PR)(c:Int)(x:Nat):Option Int:=((b[((x:Int)-c).toNat]?).getD none).map λy=>(r.sz:Int)+y
def nM(r:Rw)(b:PR)(c:Int)(s:Nat):PR:=if 0<r.pn then ji s else some 0::(List.range s).map λj=>GX r b c (j+1)
theorem pD(s:Nat):(ji s).length=s+1:=by simp[ji]
theorem Ed(r:Rw)(b:PR)(c:Int)(s:Nat):(nM r b c s).length=s+1:=by unfold nM;split <;> simp[ji]
theorem Yb(s:Nat):(ji s).map pV=V.int 0::List.replicate s V.non:=by simp[ji,pV]
def prf(r:Rw)(b:PR)(c:Int)(s i:Nat):PR:=some 0::((List.range i).map (λj=>GX r b c (j+1))++List.replicate (s-i) none)
theorem Qd(r:Rw)(b:PR)(c:Int)(s:Nat):prf r b c s 0=ji s:=by simp[prf,ji]
theorem Ub{r:Rw}{b:PR}{c:Int}{s:Nat}(h:¬ 0<r.pn):prf r b c s s=nM r b c s:=by
 unfold prf nM
 rw[if_neg h]
 simp
theorem Qe{r:Rw}{b:PR}{c:Int}{s i:Nat}(h:i<s):prf r b c s (i+1)=(prf r b c s i).set (i+1) (GX r b c (i+1)):=by
 unfold prf
 rw[List.set_cons_succ,List.set_append_right _ _ (by simp)]
 obtain⟨d,hd⟩:∃d,s-i=d+1:=⟨s-i-1,by lia⟩
 rw[show s-(i+1)=d by lia,hd,List.replicate_succ,List.length_map,List.length_range,Nat.sub_self,List.set_cons_zero,List.range_succ,List.map_append,List.append_assoc]
 rfl
theorem Qf{r:Rw}{b:PR}{c:Int}{s i:Nat}(h:i<s)(e:GX r b c (i+1)=none):prf r b c s (i+1)=prf r b c s i:=by
 unfold prf
 obtain⟨d,hd⟩:∃d,s-i=d+1:=⟨s-i-1,by lia⟩
 rw[show s-(i+1)=d by lia,hd,List.replicate_succ,List.range_succ,List.map_append,List.append_assoc,List.map_cons,List.map_nil,e]
 rfl
theorem Uc{r:Rw}{b:PR}{c:Int}{s i:Nat}(h:i<=s):(prf r b c s i).length=s+1:=by
 unfold prf
 simp
 lia
def Ef:Sp:=λvs H Q _=>∃s:Nat,vs=[.int (s:Nat)]/\s<=240/\∀q H',New H H' q (.lst ((ji s).map pV))->Q (.ref q) H'
def yZ:Sp:=λvs H Q _=>∃(q l:Addr) (r:Rw) (b:PR) (c:Int) (s:Nat),vs=[.ref q,.ref l,.int c,.int (s:Nat)]/\H q=some (.tup (d8 r))/\H l=some (.lst (b.map pV))/\b.length=s+1/\(s<=240/\0<=c)/\∀z H',New H H' z (.lst ((nM r b c s).map pV))->Q (.ref z) H'
section
variable{H:Hp}{Q:VK}{E:XK}{q l:Addr}{r:Rw}{b:PR}{c:Int}{s:Nat}
instance abC:Go (Ef [.int (s:Nat)] H Q E) (Sd (s<=240) (∀q H',New H H' q (.lst ((ji s).map pV))->Q (.ref q) H')):=⟨λk=>⟨s,rfl,k.1,k.2⟩⟩
end
section
variable{P:Program}{w:World}{K:W.Frag}{mg:Str->Option Value}{base:Heap}{c:Nat->Addr}{aF aq R CL CP CS:Addr}
theorem fM(T:Txt K mg c R CL CP CS aF aq):Def P w K mg base CX0 1 "row_at_end" ["size"] Ef:=by
 refine bQ T.Jk CQ (λvs H Q E h=>?_) (λ_ _ _ _ _ _=>el1 λ_=>rfl) (λf cdv A outer s H vs Q E hr h=>?_)
 ·obtain⟨s,rfl,_⟩:=h
  rfl
 ·obtain⟨s,rfl,hs,k⟩:=h
  have nd:=CQ.nd
  refine⟨_,(aB (aV (aR dW (bV (aj aA ao)) (aR RW (bV (aj jz ao)) (pv 0))))),?_⟩
  clear nd 
  rw[show start ["size"] [.int (s:Nat)]=[some (.int (s:Nat))] from rfl]
  try dsimp only[cO,bW]
  obtain⟨bD,bF,bG,aN,aU,aL,aD⟩:=zsix T
  have F:SH H [] H [] []:=SH.nil
  repeat k_meth
  rw[show [V.int 0]++List.replicate s V.non=(ji s).map pV from(Yb s).symm] at F
  exact k _ _ SH.nwC
theorem gP(T:Txt K mg c R CL CP CS aF aq):Def P w K mg base CX0 2 "row_beside" ["block","beyond","cells","size"] yZ:=by
 have fM:=fM (P:=P) (w:=w) (base:=base) T
 refine bQ T.Dk xZ (λvs H Q E h=>?_) (λ_ _ _ _ _ _=>el4 λ_ _ _ _=>rfl) (λf cdv A outer s H vs Q E hr h=>?_)
 ·obtain⟨q,l,r,b,c,s,rfl,_⟩:=h
  rfl
 ·obtain⟨q,l,r,b,c,s,rfl,hq,hl,bl,side,k⟩:=h
  have nd:=xZ.nd
  refine⟨_,(au (aP (i:=4) nd rfl (Or.inl rfl) (aJ fM hr (aj (pv 3) ao)))
   (au (cF (bU jU (aZ bT (pv 0) aA (λ_ _=>rfl)) aA (bR _)) (aB (aV (pv 4))) bI)
   (au (dX PassesOwn.never rfl (J1 rfl T.gj (aj aA (aj (aR cG (pv 3) aA) ao))) (bN (i:=5) nd rfl (Or.inl rfl)) (au (aP (i:=6) nd rfl (Or.inl rfl) (aZ bO (pv 1) (aY (fu rfl) rfl T.kO boot_max (aj aA (aj (aR cP (pv 5) (pv 2)) ao))) (λ_ _=>rfl)))
    (aB (cF (bU uD (pv 6) jz (bR _)) (aB (Fd (aR cG (aZ bT (pv 0) aA (λ_ _=>rfl)) (pv 6)) (Fb (pv 4) (pv 5) qx))) bI))))
   (aB (aV (pv 4)))))),?_⟩
  clear nd fM
  rw[show start ["block","beyond","cells","size","row","longer","price"] [.ref q,.ref l,.int c,.int (s:Nat)]=[some (.ref q),some (.ref l),some (.int c),some (.int (s:Nat)),none,none,none] from rfl]
  try dsimp only[cO,bW]
  obtain⟨bD,bF,bG,aN,aU,aL,aD⟩:=zsix T
  have K4:=Old.mk (M:=[]) hq nm0
  have K5:=Old.mk (M:=[]) hl nm0
  have F:SH H [] H [] []:=SH.nil
  obtain⟨Qg,c0⟩:=side
  repeat k_meth
  refine fW (λh=>?_) (λh=>?_)
  ·repeat k_meth
   rw[show ji s=nM r b c s from(if_pos (by lia)).symm] at F
   exact k _ _ SH.nwC
  repeat k_meth
  rename Addr=>rw_
  rw[show ((s:Int)+1-1).toNat=s by lia]
  refine SM (λj σ' H'=>∃(o5 o6:Option V),σ'=[some (.ref q),some (.ref l),some (.int c),some (.int (s:Nat)),some (.ref rw_),o5,o6]/\SH H [] H' [(rw_,.lst ((prf r b c s j).map pV))] []) ⟨_,_,rfl,by rw[Qd];exact F⟩ ?_ ?_
  ·clear F
   rintro j σ' H' hj ⟨_,_,rfl,F⟩
   obtain⟨y,hy⟩:∃y,b[((((j+1:Nat):Int))-c).toNat]?=some y:=⟨_,List.getElem?_eq_getElem (by lia)⟩
   have abD:AtI (b.map pV) (max 0 (1+(j:Int)-c)) (pV y):=⟨by
    rw[show max 0 (1+(j:Int)-c)=(((((j+1:Nat):Int))-c).toNat:Int) by lia]
    exact cD (by rw[List.getElem?_map,hy];rfl)⟩
   have ev:GX r b c (j+1)=y.map λz=>(r.sz:Int)+z:=by unfold GX;rw[hy];rfl
   have pl:=Uc (r:=r) (b:=b) (c:=c) (s:=s) (i:=j) (by lia)
   cases y with
   | none =>
    have aeS:AtI (b.map pV) (max 0 (1+(j:Int)-c)) .non:=abD
    repeat k_meth
    rw[Qf hj ev]
    exact⟨_,_,rfl,F⟩
   | some z =>
    have aeS:AtI (b.map pV) (max 0 (1+(j:Int)-c)) (.int z):=abD
    repeat k_meth
    rw[show (1+(j:Int)).toNat=j+1 by lia,show V.int ((r.sz:Int)+z)=pV (some ((r.sz:Int)+z)) from rfl,<- List.map_set] at F
    rw[Qe hj,ev]
    exact⟨_,_,rfl,F⟩
  ·clear F
   rintro σ' H' ⟨_,_,rfl,F⟩
   rw[Ub (by lia)] at F
   repeat k_meth
   exact k _ _ SH.nwC
end
instance Y4{H:Hp}{Q:VK}{E:XK}{q l:Addr}{r:Rw}{b:PR}{c:Int}{s:Nat}[h:Hat H q (.tup (d8 r))][h2:Hat H l (.lst (b.map pV))]:Go (yZ [.ref q,.ref l,.int c,.int (s:Nat)] H Q E) (Sd (b.length=s+1) (Sd (s<=240/\0<=c) (∀z H',New H H' z (.lst ((nM r b c s).map pV))->Q (.ref z) H'))):=⟨λk=>⟨q,l,r,b,c,s,rfl,h.e,h2.e,k.1,k.2.1,k.2.2⟩⟩
def h_(H:Hp)(ys:List V)(T:List PR):Prop:=ys.length=T.length/\∀(j:Nat) (r:PR),T[j]?=some r->∃q:Addr,ys[j]?=some (V.ref q)/\H q=some (.lst (r.map pV))
theorem h_.kept{H H':Hp}{ys:List V}{T:List PR}(h:h_ H ys T)(k:∀q u,V.ref q∈ys->H q=some u->H' q=some u):h_ H' ys T:=⟨h.1,λj r e=>by
 obtain⟨q,a,b⟩:=h.2 j r e
 exact⟨q,a,k q _ (List.mem_of_getElem? a) b⟩⟩
theorem h_.nil{H:Hp}:h_ H [] []:=⟨rfl,λj r e=>by cases e⟩
theorem h_.snoc{H:Hp}{ys:List V}{T:List PR}{q:Addr}{r:PR}(h:h_ H ys T)(e:H q=some (.lst (r.map pV))):h_ H (ys++[.ref q]) (T++[r]):=by
 refine⟨by simp[h.1],λj r' e'=>?_⟩
 rcases Nat.lt_or_ge j T.length with hj|hj
 ·rw[List.getElem?_append_left hj] at e'
  obtain⟨q',a,b⟩:=h.2 j r' e'
  exact⟨q',by rw[List.getElem?_append_left (by rw[h.1];exact hj)];exact a,b⟩
 ·rw[List.getElem?_append_right hj] at e'
  cases h0:j-T.length with
  | zero =>
   rw[h0] at e'
   cases e'
   exact⟨q,by rw[List.getElem?_append_right (by rw[h.1];exact hj),h.1,h0];rfl,e⟩
  | succ d=>rw[h0] at e';simp at e'
theorem h_.rev{H:Hp}{ys:List V}{T:List PR}(h:h_ H ys T):h_ H ys.reverse T.reverse:=by
 refine⟨by simp[h.1],λj r e=>?_⟩
 have hj:j<T.length:=by have:=(List.getElem?_eq_some_iff.mp e).1;simpa using this
 rw[List.getElem?_reverse hj] at e
 obtain⟨q,a,b⟩:=h.2 _ r e
 exact⟨q,by rw[List.getElem?_reverse (by rw[h.1];exact hj),h.1];exact a,b⟩
def gw(rs:List Rw)(gs:List Int)(s:Nat):Nat->PR
 | 0=>ji s
 | i+1=>match rs[i]? with
  | some r=>nM r (gw rs gs s i) (gs.getD i 0) s
  | none=>ji s
def kZ(rs:List Rw)(gs:List Int)(s m:Nat):List PR:=(List.range (m+1)).map (gw rs gs s)
theorem za(rs:List Rw)(gs:List Int)(s i:Nat):(gw rs gs s i).length=s+1:=by
 cases i with
 | zero=>exact pD s
 | succ i =>
  unfold gw
  cases rs[i]? with
  | none=>exact pD s
  | some r=>exact Ed _ _ _ _
theorem GZ{rs:List Rw}{gs:List Int}{s m:Nat}{r:Rw}(h:rs[m]?=some r):kZ rs gs s (m+1)=kZ rs gs s m++[nM r (gw rs gs s m) (gs.getD m 0) s]:=by
 unfold kZ
 rw[List.range_succ,List.map_append,List.map_cons,List.map_nil]
 congr 2
 show gw rs gs s (m+1)=_
 rw[gw,h]
theorem Qh{rs:List Rw}{gs:List Int}{s m:Nat}:(kZ rs gs s m)[m]?=some (gw rs gs s m):=by
 unfold kZ
 rw[List.getElem?_map,List.getElem?_range (by lia)]
 rfl
def Ud(CL:Addr):Sp:=λvs H Q _=>∃(x p dx:Addr) (n:Nat) (zs:List V) (rs:List Rw) (s:Nat),vs=[.ref x,.int (s:Nat)]/\H x=some (.ins CL dx (lF (n:Nat) p))/\H p=some (.lst zs)/\aH H zs (aX rs)/\rs.length<=40/\s<=240/\(∀g∈bH n rs,0<=g)/\∀q ys H',Same H H'->H' q=some (.lst ys)->h_ H' ys (kZ rs (bH n rs) s rs.length)->(∀a u,H a=some u->a≠q/\V.ref a ∉ ys)->V.ref q ∉ ys->Q (.ref q) H'
section
variable{P:Program}{w:World}{K:W.Frag}{mg:Str->Option Value}{base:Heap}{c:Nat->Addr}{aF aq R CL CP CS:Addr}
theorem Ao(T:Txt K mg c R CL CP CS aF aq):Def P w K mg base CX0 3 "left_prices" ["layout","size"] (Ud CL):=by
 have cg:=cg (P:=P) (w:=w) (base:=base) T
 have fM:=fM (P:=P) (w:=w) (base:=base) T
 have bf:=bf (P:=P) (w:=w) (base:=base) T
 have gP:=gP (P:=P) (w:=w) (base:=base) T
 refine bQ T.PL Je (λvs H Q E h=>?_) (λ_ _ _ _ _ _=>el2 λ_ _=>rfl) (λf cdv A outer s H vs Q E hr h=>?_)
 ·obtain⟨x,p,dx,n,zs,rs,s,rfl,_⟩:=h
  rfl
 ·obtain⟨x,p,dx,n,zs,rs,s,rfl,hx,hp,tp,few,Qg,Yc,k⟩:=h
  have nd:=Je.nd
  refine⟨_,(au (aP (i:=2) nd rfl (Or.inl rfl) (aJ cg hr (aj (pv 0) ao)))
   (au (aP (i:=3) nd rfl (Or.inl rfl) (bV (aj (aJ fM hr (aj (pv 1) ao)) ao)))
   (au (dX PassesOwn.never rfl (HN rfl T.kW (aj (fB (pv 0) T.clL bf hr) ao)) (tX rfl (eG (bN (i:=4) nd rfl (Or.inl rfl)) (eG (bN (i:=5) nd rfl (Or.inl rfl)) nQ))) (aB (dw (cX (pv 3) (aJ gP hr (aj (pv 5) (aj (aZ bO (pv 3) (pv 4) (λ_ _=>rfl)) (aj (aZ bO (pv 2) (pv 4) (λ_ _=>rfl)) (aj (pv 1) ao)))))))))
   (aB (aV (pv 3)))))),?_⟩
  clear nd cg fM bf gP
  rw[show start ["layout","size","gaps","table","at","block"] [.ref x,.int (s:Nat)]=[some (.ref x),some (.int (s:Nat)),none,none,none,none] from rfl]
  try dsimp only[cO,bW]
  obtain⟨bD,bF,bG,aN,aU,aL,aD⟩:=zsix T
  have jh:=Old.mk (M:=[]) hx nm0
  have iT:=Old.mk (M:=[]) hp nm0
  have jx:=gk.mk tp
  have F:SH H [] H [] []:=SH.nil
  have aeT:rs.length<=40:=few
  have yl:zs.length=rs.length:=by rw[tp.1,bL]
  have gl_:(bH n rs).length=rs.length+1:=by unfold bH;rw[List.length_append,vX];rfl
  repeat k_meth
  rename_i _ gl _ er _ tb
  rename Addr=>bl
  have fre:∀a u,H a=some u->V.ref a ∉ [V.ref er]:=λa u e hm=>by
   cases List.mem_singleton.mp hm
   exact F.fresh (LkL.m (o:=.lst _)) nm0 er u e rfl
  refine Ia (xs:=zs) (λi σ' H'=>∃(o4 o5:Option V) (ys:List V),σ'=[some (.ref x),some (.int (s:Nat)),some (.ref gl),some (.ref tb),o4,o5]/\h_ H' ys (kZ rs (bH n rs) s i)/\(∀a u,H a=some u->V.ref a ∉ ys)/\V.ref tb ∉ ys/\SH H [] H' [(bl,.lst zs),(tb,.lst ys),(gl,.lst ((bH n rs).map V.int))] []) ⟨_,_,[.ref er],rfl,h_.snoc h_.nil aO,fre,λhm=>SH.neC (F:=F) (a:=tb) (b:=er) (by simpa using hm),F.sub SbC.s SbI.s⟩ ?_ ?_ ?_
  ·clear F
   rintro i σ' H' _ ⟨_,_,ys,rfl,_,_,_,F⟩
   exact SqA.e
  ·clear F
   rintro i v T σ' H' H2 hv ⟨_,_,ys,rfl,ls,fr,nt,F⟩ nw
   obtain⟨r,q1,e1,rfl,e2⟩:=d7 tp hv
   obtain⟨ql,hl,eql⟩:=ls.2 i _ Qh
   have sm0:=F.sm
   have ysl:ys.length<sizeLine:=by
    have h1:=ls.1
    have h2:=(List.getElem?_eq_some_iff.mp e1).1
    unfold kZ at h1
    rw[List.length_map,List.length_range] at h1
    rw[sizeLine_eq]
    lia
   have htb:H' tb=some (.lst ys):=aO
   have hgl:H' gl=some (.lst ((bH n rs).map V.int)):=aO
   have ne1:gl≠tb:=SH.neC (F:=F)
   have e3:=F.sm _ _ e2
   have ne2:q1≠tb:=λz=>by rw[z,htb] at e3;cases e3
   have ne3:ql≠tb:=λz=>nt (by rw[<- z];exact List.mem_of_getElem? hl)
   have back:∀(H4:Hp) (zs2:List V),Kp tb H' H4->H4 tb=some (.lst zs2)->SH H [] H4 [(bl,.lst zs),(tb,.lst zs2),(gl,.lst ((bH n rs).map V.int))] []:=λH4 zs2 kp e=>F.kpL kp e LkU.u
   clear F
   have F:SH H' [tb] H' [(tb,.lst ys)] []:=SH.nil.iI List.mem_cons_self htb rfl (by simp)
   have aeU:=Old.mk (M:=[tb]) hgl (nm1 ne1)
   have abE:=Old.mk (M:=[tb]) e3 (nm1 ne2)
   have aeV:=Old.mk (M:=[tb]) eql (nm1 ne3)
   replace F:=(F.same nw.s).Kz nw.e
   have aeW:AtI ys ((i:Nat):Int) (.ref ql):=⟨cD hl⟩
   obtain⟨gv,hgv⟩:∃gv,(bH n rs)[i]?=some gv:=⟨_,List.getElem?_eq_getElem (by have:=(List.getElem?_eq_some_iff.mp e1).1;lia)⟩
   have aeX:AtI ((bH n rs).map V.int) ((i:Nat):Int) (.int gv):=⟨cD (by rw[List.getElem?_map,hgv];rfl)⟩
   have bl1:=za rs (bH n rs) s i
   have sd1:s<=240/\0<=gv:=⟨Qg,Yc gv (List.mem_of_getElem? hgv)⟩
   repeat k_meth
   refine⟨_,_,ys++[.ref p_],rfl,?_,λa u e hm=>?_,λhm=>?_,back _ _ F.kpo aO⟩
   ·rw[GZ e1,show (bH n rs).getD i 0=gv by rw[List.getD_eq_getElem?_getD,hgv];rfl]
    exact h_.snoc (ls.kept λq u hm e=>F.fr q u (nm1 λz=>nt (z▸hm)) e) aO
   ·rcases List.mem_append.mp hm with hm|hm
    ·exact fr a u e hm
    ·exact F.fresh (LkL.m (o:=.lst _)) (nm1 (SH.neC (F:=F))) a u (sm0 _ _ e) (by simpa using hm)
   ·rcases List.mem_append.mp hm with hm|hm
    ·exact nt hm
    ·exact SH.neC (F:=F) (a:=tb) (b:=p_) (by simpa using hm)
  ·clear F
   rintro σ' H' ⟨_,_,ys,rfl,ls,fr,nt,F⟩
   rw[yl] at ls
   repeat k_meth
   exact k tb ys _ F.sm aO ls (λa u e=>⟨F.fresh (LkL.m (o:=.lst _)) nm0 a u e,fr a u e⟩) nt
end
def eF(rs:List Rw)(gs:List Int)(s:Nat):Nat->PR
 | 0=>ji s
 | i+1=>match rs[rs.length-1-i]? with
  | some r=>nM r (eF rs gs s i) (gs.getD (rs.length-i) 0) s
  | none=>ji s
def gF(rs:List Rw)(gs:List Int)(s m:Nat):List PR:=(List.range (m+1)).map (eF rs gs s)
theorem vZ(rs:List Rw)(gs:List Int)(s i:Nat):(eF rs gs s i).length=s+1:=by
 cases i with
 | zero=>exact pD s
 | succ i =>
  unfold eF
  cases rs[rs.length-1-i]? with
  | none=>exact pD s
  | some r=>exact Ed _ _ _ _
theorem Eh{rs:List Rw}{gs:List Int}{s m:Nat}{r:Rw}(h:rs[rs.length-1-m]?=some r):gF rs gs s (m+1)=gF rs gs s m++[nM r (eF rs gs s m) (gs.getD (rs.length-m) 0) s]:=by
 unfold gF
 rw[List.range_succ,List.map_append,List.map_cons,List.map_nil]
 congr 2
 show eF rs gs s (m+1)=_
 rw[eF,h]
theorem K_{rs:List Rw}{gs:List Int}{s m:Nat}:(gF rs gs s m)[m]?=some (eF rs gs s m):=by
 unfold gF
 rw[List.getElem?_map,List.getElem?_range (by lia)]
 rfl
theorem Ue{ys:List V}{v:V}{n:Nat}(hn:ys.length=n+1)(h:ys[n]?=some v):AtI ys (-1) v:=⟨by
 unfold atI ixN
 rw[if_neg (by decide),if_pos (by lia),Option.bind_some,show (-1+(ys.length:Int)).toNat=n by lia]
 exact h⟩
instance ac7{K:W.Frag}{ta:TA}{σ:L2.St}{H:Hp}{Q:VK}:Go (U0 K ta σ H Q) (ta σ H λvs H1=>∃a xs,vs=[.ref a]/\SqL K H1 a xs/\∀l H',New H1 H' l (.lst xs.reverse)->Q (.ref l) H'):=⟨id⟩
theorem h_.has{H:Hp}{ys:List V}{T:List PR}{q:Addr}(h:h_ H ys T)(hm:V.ref q∈ys):∃u,H q=some u:=by
 obtain⟨j,hj⟩:=List.getElem?_of_mem hm
 have hl:j<T.length:=by have:=(List.getElem?_eq_some_iff.mp hj).1;rw[h.1] at this;exact this
 obtain⟨q',a,b⟩:=h.2 j _ (List.getElem?_eq_getElem hl)
 rw[hj] at a
 cases a
 exact⟨_,b⟩
def Qi(CL:Addr):Sp:=λvs H Q _=>∃(x p dx:Addr) (n:Nat) (zs:List V) (rs:List Rw) (s:Nat),vs=[.ref x,.int (s:Nat)]/\H x=some (.ins CL dx (lF (n:Nat) p))/\H p=some (.lst zs)/\aH H zs (aX rs)/\rs.length<=40/\s<=240/\(∀g∈bH n rs,0<=g)/\∀q ys H',Same H H'->H' q=some (.lst ys)->h_ H' ys (gF rs (bH n rs) s rs.length).reverse->(∀a u,H a=some u->a≠q/\V.ref a ∉ ys)->V.ref q ∉ ys->Q (.ref q) H'
section
variable{P:Program}{w:World}{K:W.Frag}{mg:Str->Option Value}{base:Heap}{c:Nat->Addr}{aF aq R CL CP CS:Addr}
theorem tM(T:Txt K mg c R CL CP CS aF aq):Def P w K mg base CX0 3 "right_prices" ["layout","size"] (Qi CL):=by
 have cg:=cg (P:=P) (w:=w) (base:=base) T
 have bf:=bf (P:=P) (w:=w) (base:=base) T
 have fM:=fM (P:=P) (w:=w) (base:=base) T
 have gP:=gP (P:=P) (w:=w) (base:=base) T
 refine bQ T.Jl CT (λvs H Q E h=>?_) (λ_ _ _ _ _ _=>el2 λ_ _=>rfl) (λf cdv A outer s H vs Q E hr h=>?_)
 ·obtain⟨x,p,dx,n,zs,rs,s,rfl,_⟩:=h
  rfl
 ·obtain⟨x,p,dx,n,zs,rs,s,rfl,hx,hp,tp,few,Qg,Yc,k⟩:=h
  have nd:=CT.nd
  refine⟨_,(au (aP (i:=2) nd rfl (Or.inl rfl) (aJ cg hr (aj (pv 0) ao)))
   (au (aP (i:=3) nd rfl (Or.inl rfl) (fB (pv 0) T.clL bf hr))
   (au (aP (i:=4) nd rfl (Or.inl rfl) (bV (aj (aJ fM hr (aj (pv 1) ao)) ao)))
   (au (dX PassesOwn.never rfl (KR rfl T.gj (aj (aR cP (aY dB rfl T.iW boot_len (aj (pv 3) ao)) aA) (aj (Hh zH aA) (aj (Hh zH aA) ao)))) (bN (i:=5) nd rfl (Or.inl rfl)) (aB (dw (cX (pv 4) (aJ gP hr (aj (aZ bO (pv 3) (pv 5) (λ_ _=>rfl)) (aj (aZ bO (pv 4) (Hh zH aA) (λ_ _=>rfl)) (aj (aZ bO (pv 2) (aR cG (pv 5) aA) (λ_ _=>rfl)) (aj (pv 1) ao)))))))))
   (aB (aV (m5 rfl rfl T.fG rfl T.jK (aj (pv 4) ao)))))))),?_⟩
  clear nd cg bf fM gP
  rw[show start ["layout","size","gaps","blocks","falling","at"] [.ref x,.int (s:Nat)]=[some (.ref x),some (.int (s:Nat)),none,none,none,none] from rfl]
  try dsimp only[cO,bW]
  obtain⟨bD,bF,bG,aN,aU,aL,aD⟩:=zsix T
  have jh:=Old.mk (M:=[]) hx nm0
  have iT:=Old.mk (M:=[]) hp nm0
  have jx:=gk.mk tp
  have F:SH H [] H [] []:=SH.nil
  have aeT:rs.length<=40:=few
  have yl:zs.length=rs.length:=by rw[tp.1,bL]
  have gl_:(bH n rs).length=rs.length+1:=by unfold bH;rw[List.length_append,vX];rfl
  repeat k_meth
  rename_i _ gl _ bl _ er
  rename Addr=>tb
  have fre:∀a u,H a=some u->V.ref a ∉ [V.ref er]:=λa u e hm=>by
   cases List.mem_singleton.mp hm
   exact F.fresh (LkL.m (o:=.lst _)) nm0 er u e rfl
  rw[show ((zs.length:Int)-1+1).toNat=rs.length by lia]
  refine S8 (λi σ' H'=>∃(o5:Option V) (ys:List V),σ'=[some (.ref x),some (.int (s:Nat)),some (.ref gl),some (.ref bl),some (.ref tb),o5]/\h_ H' ys (gF rs (bH n rs) s i)/\(∀a u,H a=some u->V.ref a ∉ ys)/\V.ref tb ∉ ys/\SH H [] H' [(bl,.lst zs),(tb,.lst ys),(gl,.lst ((bH n rs).map V.int))] []) ⟨_,[.ref er],rfl,h_.snoc h_.nil aO,fre,λhm=>SH.neC (F:=F) (a:=tb) (b:=er) (by simpa using hm),F.sub SbC.s SbI.s⟩ ?_ ?_
  ·clear F
   rintro i σ' H' hi ⟨_,ys,rfl,ls,fr,nt,F⟩
   obtain⟨r,e1⟩:∃r,rs[rs.length-1-i]?=some r:=⟨_,List.getElem?_eq_getElem (by lia)⟩
   obtain⟨v,hv⟩:∃v,zs[rs.length-1-i]?=some v:=⟨_,List.getElem?_eq_getElem (by lia)⟩
   obtain⟨r',q1,e1',rfl,e2⟩:=d7 tp hv
   rw[e1] at e1'
   cases e1'
   obtain⟨ql,hl,eql⟩:=ls.2 i _ K_
   have ysn:ys.length=i+1:=by
    have h1:=ls.1
    unfold gF at h1
    rw[List.length_map,List.length_range] at h1
    exact h1
   have sm0:=F.sm
   have ysl:ys.length<sizeLine:=by rw[sizeLine_eq];lia
   have htb:H' tb=some (.lst ys):=aO
   have hgl:H' gl=some (.lst ((bH n rs).map V.int)):=aO
   have hbl:H' bl=some (.lst zs):=aO
   have ne1:gl≠tb:=SH.neC (F:=F)
   have ne4:bl≠tb:=SH.neC (F:=F)
   have e3:=F.sm _ _ e2
   have ne2:q1≠tb:=λz=>by rw[z,htb] at e3;cases e3
   have ne3:ql≠tb:=λz=>nt (by rw[<- z];exact List.mem_of_getElem? hl)
   have back:∀(H4:Hp) (zs2:List V),Kp tb H' H4->H4 tb=some (.lst zs2)->SH H [] H4 [(bl,.lst zs),(tb,.lst zs2),(gl,.lst ((bH n rs).map V.int))] []:=λH4 zs2 kp e=>F.kpL kp e LkU.u
   clear F
   have F:SH H' [tb] H' [(tb,.lst ys)] []:=SH.nil.iI List.mem_cons_self htb rfl (by simp)
   have aeU:=Old.mk (M:=[tb]) hgl (nm1 ne1)
   have afQ:=Old.mk (M:=[tb]) hbl (nm1 ne4)
   have abE:=Old.mk (M:=[tb]) e3 (nm1 ne2)
   have aeV:=Old.mk (M:=[tb]) eql (nm1 ne3)
   have aeW:AtI ys (-1) (.ref ql):=Ue ysn hl
   have afR:AtI zs ((zs.length:Int)-1+(i:Int)*(-1)) (.ref q1):=⟨by rw[show (zs.length:Int)-1+(i:Int)*(-1)=((rs.length-1-i:Nat):Int) by lia];exact cD hv⟩
   obtain⟨gv,hgv⟩:∃gv,(bH n rs)[rs.length-i]?=some gv:=⟨_,List.getElem?_eq_getElem (by lia)⟩
   have aeX:AtI ((bH n rs).map V.int) ((zs.length:Int)-1+(i:Int)*(-1)+1) (.int gv):=⟨by rw[show (zs.length:Int)-1+(i:Int)*(-1)+1=((rs.length-i:Nat):Int) by lia];exact cD (by rw[List.getElem?_map,hgv];rfl)⟩
   have bl1:=vZ rs (bH n rs) s i
   have sd1:s<=240/\0<=gv:=⟨Qg,Yc gv (List.mem_of_getElem? hgv)⟩
   repeat k_meth
   refine⟨_,ys++[.ref p_],rfl,?_,λa u e hm=>?_,λhm=>?_,back _ _ F.kpo aO⟩
   ·rw[Eh e1,show (bH n rs).getD (rs.length-i) 0=gv by rw[List.getD_eq_getElem?_getD,hgv];rfl]
    exact h_.snoc (ls.kept λq u hm e=>F.fr q u (nm1 λz=>nt (z▸hm)) e) aO
   ·rcases List.mem_append.mp hm with hm|hm
    ·exact fr a u e hm
    ·exact F.fresh (LkL.m (o:=.lst _)) (nm1 (SH.neC (F:=F))) a u (sm0 _ _ e) (by simpa using hm)
   ·rcases List.mem_append.mp hm with hm|hm
    ·exact nt hm
    ·exact SH.neC (F:=F) (a:=tb) (b:=p_) (by simpa using hm)
  ·clear F
   rintro σ' H' ⟨_,ys,rfl,ls,fr,nt,F⟩
   repeat k_meth
   refine⟨tb,ys,rfl,SqA.e,λq H2 nw=>?_⟩
   have sm0:=F.sm
   refine k q _ _ (sm0.trans nw.s) nw.e (ls.kept λq u _ e=>nw.s _ _ e).rev (λa u e=>⟨nw.n a u (sm0 _ _ e),λhm=>fr a u e (List.mem_reverse.mp hm)⟩) λhm=>?_
   obtain⟨u,hu⟩:=ls.has (List.mem_reverse.mp hm)
   exact nw.n q u hu rfl
end
open M22 M82 M87
class LyA(rs:List Rw)(n:outParam Nat):Prop where
 l:Lay n rs
 a:Asc rs
 h:n<=240
 g:16<=n
theorem Aq{n:Nat}{rs:List Rw}(h:Lay n rs):(rs.map (·.nm)).Nodup:=List.pairwise_map.mpr (h.ap.imp λh=>h.1)
theorem LyA.ok{n:Nat}{rs:List Rw}(h:LyA rs n):OkA 0 n rs:=⟨h.a,λr hr=>⟨Nat.zero_le _,(h.l.good r hr).sz,(h.l.good r hr).le⟩⟩
theorem abF{rs:List Rw}(h:(rs.map (·.nm)).Nodup){i:Nat}{r s:Rw}(e:rs[i]?=some s)(hr:r∈rs)(hn:s.nm=r.nm):s=r:=by
 obtain⟨j,hj,rfl⟩:=List.getElem_of_mem hr
 obtain⟨hi,rfl⟩:=List.getElem?_eq_some_iff.mp e
 have:=(List.getElem_inj (i:=i) (j:=j) (h₀:=by simpa using hi) (h₁:=by simpa using hj) h).mp (by simpa using hn)
 subst this
 rfl
structure LyH(CL:Addr)(H:Hp)(x p dx:Addr)(n:Nat)(zs:List V)(rs:List Rw):Prop where
 x:H x=some (.ins CL dx (lF (n:Nat) p))
 p:H p=some (.lst zs)
 t:aH H zs (aX rs)
theorem LyH.same{CL:Addr}{H H':Hp}{x p dx:Addr}{n:Nat}{zs:List V}{rs:List Rw}(h:LyH CL H x p dx n zs rs)(s:Same H H'):LyH CL H' x p dx n zs rs:=⟨s _ _ h.x,s _ _ h.p,h.t.same s⟩
class LyQ(CL:Addr)(H:Hp)(x:Addr)(p dx:outParam Addr)(n:outParam Nat)(zs:outParam (List V))(rs:outParam (List Rw)):Prop where
 e:LyH CL H x p dx n zs rs
instance aeY{CL:Addr}{H:Hp}{x p dx:Addr}{n:Nat}{zs:List V}{rs:List Rw}[h:Hat H x (.ins CL dx (lF (n:Nat) p))][h2:Hat H p (.lst zs)][t:TpA H zs (aX rs)]:LyQ CL H x p dx n zs rs:=⟨⟨h.e,h2.e,t.e⟩⟩
abbrev Ug(rs:List Rw):List V:=(rs.map (·.nm)).map λcs=>V.str (tx cs)
def zf(CL:Addr):Sp:=λvs H Q _=>∃(x p dx:Addr) (n:Nat) (zs:List V) (rs:List Rw),vs=[.ref x]/\LyH CL H x p dx n zs rs/\LyA rs n/\∀q H',New H H' q (.lst (Ug rs))->Q (.ref q) H'
def zj(CL:Addr):Sp:=λvs H Q _=>∃(x p dx:Addr) (n:Nat) (zs:List V) (rs:List Rw) (r:Rw),vs=[.ref x,.str (tx r.nm)]/\LyH CL H x p dx n zs rs/\LyA rs n/\r∈rs/\∀q H',Same H H'->H' q=some (.tup (d8 r))->Q (.ref q) H'
def JB:Sp:=λvs H Q _=>∃(t:Addr) (a b:V),vs=[.ref t]/\H t=some (.tup [a,b])/\Q (.bl true) H
structure Sld(n:Nat)(rs:List Rw)(r:Rw)(k to:Nat):Prop where
 at_:rs[k]?=some r
 pn:r.pn=0
 lo:Cp rs k<=to
 hi:to+r.sz<=j9 n rs k
def v7(CL:Addr):Sp:=λvs H Q _=>∃(x p dx:Addr) (n:Nat) (zs:List V) (rs:List Rw) (r:Rw) (k to:Nat),vs=[.ref x,.str (tx r.nm),.int (to:Nat)]/\LyH CL H x p dx n zs rs/\LyA rs n/\Sld n rs r k to/\∀H',Same H H'->Q (.bl true) H'
def zp(CL:Addr):Sp:=λvs H Q _=>∃(x p dx l:Addr) (n:Nat) (zs:List V) (rs:List Rw) (r:Rw) (k to:Nat) (nms:List (List Nat)),vs=[.ref x,.str (tx r.nm),.int (to:Nat),.ref l]/\LyH CL H x p dx n zs rs/\LyA rs n/\Sld n rs r k to/\H l=some (.lst (nms.map λcs=>V.str (tx cs)))/\(nms.length<=40/\¬ r.nm∈nms)/\∀q H',Same H H'->H' q=some (.tup [.str (tx r.nm),.int (r.st:Nat),.int (r.sz:Nat),.int (to:Nat)])->Q (.ref q) H'
section
variable{CL x p dx l t q:Addr}{H:Hp}{Q:VK}{E:XK}{n k to:Nat}{zs:List V}{rs:List Rw}{r:Rw}{a b:V}{nms:List (List Nat)}
class Uh(n:Nat)(rs:List Rw)(r:Rw)(k:outParam Nat)(to:Nat):Prop where
 e:Sld n rs r k to
instance Y5[h:LyQ CL H x p dx n zs rs][ly:LyA rs n]:Go (zf CL [.ref x] H Q E) (∀q H',New H H' q (.lst (Ug rs))->Q (.ref q) H'):=⟨λk=>⟨x,p,dx,n,zs,rs,rfl,h.e,ly,k⟩⟩
instance Y6[h:LyQ CL H x p dx n zs rs][ly:LyA rs n]:Go (zj CL [.ref x,.str (tx r.nm)] H Q E) (Sd (r∈rs) (∀q H',Same H H'->H' q=some (.tup (d8 r))->Q (.ref q) H')):=⟨λs=>⟨x,p,dx,n,zs,rs,r,rfl,h.e,ly,s.1,s.2⟩⟩
instance ac8[h:Hat H t (.tup [a,b])]:Go (JB [.ref t] H Q E) (Q (.bl true) H):=⟨λk=>⟨t,a,b,rfl,h.e,k⟩⟩
instance Yd[h:LyQ CL H x p dx n zs rs][ly:LyA rs n][s:Uh n rs r k to]:Go (v7 CL [.ref x,.str (tx r.nm),.int (to:Nat)] H Q E) (∀H',Same H H'->Q (.bl true) H'):=⟨λk1=>⟨x,p,dx,n,zs,rs,r,k,to,rfl,h.e,ly,s.e,k1⟩⟩
instance Y7[h:LyQ CL H x p dx n zs rs][ly:LyA rs n][s:Uh n rs r k to][h2:Hat H l (.lst (nms.map λcs=>V.str (tx cs)))]:Go (zp CL [.ref x,.str (tx r.nm),.int (to:Nat),.ref l] H Q E) (Sd (nms.length<=40/\¬ r.nm∈nms) (∀q H',Same H H'->H' q=some (.tup [.str (tx r.nm),.int (r.st:Nat),.int (r.sz:Nat),.int (to:Nat)])->Q (.ref q) H')):=⟨λk1=>⟨x,p,dx,l,n,zs,rs,r,k,to,nms,rfl,h.e,ly,s.e,h2.e,k1.1,k1.2⟩⟩
end
theorem Qj{T:List Rw}{k:Nat}{r0:Rw}(h:T[k]?=some r0):Cp T (k+1)=r0.st+r0.sz:=by
 show (match T[k]? with|some r=>r.st+r.sz|none=>0)=_
 rw[h]
theorem JC{n:Nat}{T:List Rw}{k:Nat}{s:Rw}(h:T[k+1]?=some s):j9 n T k=s.st:=by
 unfold j9
 rw[h]
theorem Ei{n:Nat}{T:List Rw}{k:Nat}(h:T.length<=k+1):j9 n T k=n:=by
 unfold j9
 rw[List.getElem?_eq_none h]
section
variable{P:Program}{w:World}{K:W.Frag}{mg:Str->Option Value}{base:Heap}{c:Nat->Addr}{aF aq R CL CP CS:Addr}
theorem lQ(T:Txt K mg c R CL CP CS aF aq):Met P w K mg base CX0 1 CL "names" ["self"] (zf CL):=by
 obtain⟨f,hf,hm⟩:=T.Dy
 refine(gh (k:=0) hf yr (λvs H Q E h=>?_) (λ_ _ _ _ _ _=>el1 λ_=>rfl) (λf cdv A outer s H vs Q E hr h=>?_)).met hm
 ·obtain⟨x,p,dx,n,zs,rs,rfl,_⟩:=h
  rfl
 ·obtain⟨x,p,dx,n,zs,rs,rfl,ly,lya,k⟩:=h
  have nd:=yr.nd
  refine⟨_,(aB (aV (fj (N:=["row"]) (nt:=1) (fr:=[]) (dh (iD (pv 0) rfl)) (λ_ _ _ _=>(bN (i:=0) (show (["row"]:List Str).Nodup from by decide +kernel) rfl (Or.inl rfl))) (λ_ _ _ _=>eZ) (λ_ _ _ _=>(aZ (jF (K:=K) rfl) (pv 0) aA (λ_ _=>rfl)))))),?_⟩
  clear nd 
  rw[show start ["self"] [.ref x]=[some (.ref x)] from rfl]
  try dsimp only[cO,bW]
  have hx:=ly.x
  have hp:=ly.p
  have tp:=ly.t
  have few:=lya.l.few
  have mD:=lya.h
  have zl:zs.length=rs.length:=by rw[tp.1,bL]
  obtain⟨bD,bF,bG,aN,aU,aL,aD⟩:=zsix T
  have jh:=Old.mk (M:=[]) hx nm0
  have iT:=Old.mk (M:=[]) hp nm0
  have jx:=gk.mk tp
  have F:SH H [] H [] []:=SH.nil
  repeat k_meth
  refine jo (F:=λr=>r.getD 0 .non) aO (TpA.e (rs:=aX rs)) (by lia) rfl (λq r H1 R hr s1 e1 kk=>?_) λl H1 n1=>?_
  ·clear F
   have F:SH H1 [] H1 [] []:=SH.nil
   obtain⟨s,_,rfl⟩:=List.mem_map.mp hr
   have X_:=Old.mk (M:=[]) e1 nm0
   repeat k_meth
   exact kk _ (Same.refl _)
  ·rw[show (aX rs).map (λr=>r.getD 0 V.non)=Ug rs by unfold aX Ug;rw[List.map_map,List.map_map];rfl] at n1
   replace F:=F.newL n1
   repeat k_meth
   exact k _ _ SH.nwC
theorem fY(T:Txt K mg c R CL CP CS aF aq):Met P w K mg base CX0 1 CL "block" ["self","name"] (zj CL):=by
 obtain⟨f,hf,hm⟩:=T.Dz
 refine(gh (k:=0) hf yt (λvs H Q E h=>?_) (λ_ _ _ _ _ _=>el2 λ_ _=>rfl) (λf cdv A outer s H vs Q E hr h=>?_)).met hm
 ·obtain⟨x,p,dx,n,zs,rs,r,rfl,_⟩:=h
  rfl
 ·obtain⟨x,p,dx,n,zs,rs,r,rfl,ly,lya,hr0,k⟩:=h
  have nd:=yt.nd
  refine⟨_,(au (dX PassesOwn.never rfl (dh (iD (pv 0) rfl)) (bN (i:=2) nd rfl (Or.inl rfl)) (aB (cF (bU gG (aZ bT (pv 2) aA (λ_ _=>rfl)) (pv 1) (bR _)) (aB (aV (pv 2))) bI)))
   cW),?_⟩
  clear nd 
  rw[show start ["self","name","row"] [.ref x,.str (tx r.nm)]=[some (.ref x),some (.str (tx r.nm)),none] from rfl]
  try dsimp only[cO,bW]
  have hx:=ly.x
  have hp:=ly.p
  have tp:=ly.t
  have few:=lya.l.few
  have mD:=lya.h
  have zl:zs.length=rs.length:=by rw[tp.1,bL]
  obtain⟨bD,bF,bG,aN,aU,aL,aD⟩:=zsix T
  have jh:=Old.mk (M:=[]) hx nm0
  have iT:=Old.mk (M:=[]) hp nm0
  have jx:=gk.mk tp
  have F:SH H [] H [] []:=SH.nil
  have nd:=Aq lya.l
  repeat k_meth
  refine f9 (xs:=zs) (λi σ' H'=>∃o2:Option V,σ'=[some (.ref x),some (.str (tx r.nm)),o2]/\(∀s∈rs.take i,s≠r)/\SH H [] H' [] []) ⟨_,rfl,by simp,F⟩ ?_ ?_ ?_
  ·clear F
   rintro i σ' H' _ ⟨_,rfl,_,F⟩
   exact SqA.e
  ·clear F
   rintro i v σ' H' hv ⟨_,rfl,hn,F⟩
   obtain⟨s,q1,e1,rfl,e2⟩:=d7 tp hv
   have vV:=Old.mk (M:=[]) e2 nm0
   by_cases hs:s=r
   ·subst hs
    have eqn:tx s.nm=tx s.nm:=rfl
    repeat k_meth
    exact k q1 _ F.sm aO
   ·have ne:¬ tx s.nm=tx r.nm:=λz=>hs (abF nd e1 hr0 (qF z))
    repeat k_meth
    refine⟨_,rfl,λs' hs'=>?_,F⟩
    rw[List.take_succ,e1] at hs'
    rcases List.mem_append.mp hs' with hs'|hs'
    ·exact hn s' hs'
    ·have:s'=s:=by simpa using hs'
     rw[this]
     exact hs
  ·clear F
   rintro σ' H' ⟨_,rfl,hn,F⟩
   rw[zl,List.take_length] at hn
   exact absurd rfl (hn r hr0)
theorem pG(T:Txt K mg c R CL CP CS aF aq):Def P w K mg base CX0 1 "is_pair" ["thing"] JB:=by
 refine bQ T.Dh xW (λvs H Q E h=>?_) (λ_ _ _ _ _ _=>el1 λ_=>rfl) (λf cdv A outer s H vs Q E hr h=>?_)
 ·obtain⟨t,a,b,rfl,_⟩:=h
  rfl
 ·obtain⟨t,a,b,rfl,ht,k⟩:=h
  have nd:=xW.nd
  refine⟨_,(aB (aV (fO (aY cV rfl T.bJ boot_isinstance (aj (pv 0) (aj (fC (T := "tuple") rfl T.iV boot_tuple) ao))) (gV (dJ gG (aY dB rfl T.iW boot_len (aj (pv 0) ao)) aA (bR _)))))),?_⟩
  clear nd 
  rw[show start ["thing"] [.ref t]=[some (.ref t)] from rfl]
  try dsimp only[cO,bW]
  obtain⟨bD,bF,bG,aN,aU,aL,aD⟩:=zsix T
  have afS:=Old.mk (M:=[]) ht nm0
  have F:SH H [] H [] []:=SH.nil
  repeat k_meth
  exact k
theorem lR(T:Txt K mg c R CL CP CS aF aq):Def P w K mg base CX0 3 "is_slide" ["layout","name","to"] (v7 CL):=by
 have bf:=bf (P:=P) (w:=w) (base:=base) T
 have cR:=cR (P:=P) (w:=w) (base:=base) T
 have cC:=cC (P:=P) (w:=w) (base:=base) T
 have lQ:=lQ (P:=P) (w:=w) (base:=base) T
 have b_:=b_ (P:=P) (w:=w) (base:=base) T
 refine bQ T.yE u5 (λvs H Q E h=>?_) (λ_ _ _ _ _ _=>el3 λ_ _ _=>rfl) (λf cdv A outer s H vs Q E hr h=>?_)
 ·obtain⟨x,p,dx,n,zs,rs,r,k0,to,rfl,_⟩:=h
  rfl
 ·obtain⟨x,p,dx,n,zs,rs,r,k0,to,rfl,ly,lya,sl,k⟩:=h
  have nd:=u5.nd
  refine⟨_,(au (aP (i:=3) nd rfl (Or.inl rfl) (fB (pv 0) T.clL bf hr))
   (au (aP (i:=4) nd rfl (Or.inl rfl) (XD (fB (pv 0) T.clL lQ hr) (pv 1)))
   (au (aP (i:=5) nd rfl (Or.inl rfl) (tV (bU gG (pv 4) aA (bR _)) aA (aJ cC hr (aj (aJ b_ hr (aj (aZ bO (pv 3) (aR cP (pv 4) aA) (λ_ _=>rfl)) ao)) ao))))
   (au (aP (i:=6) nd rfl (Or.inl rfl) (tV (bU gG (pv 4) (aR cP (aY dB rfl T.iW boot_len (aj (pv 3) ao)) aA) (bR _)) (iD (pv 0) rfl) (aZ bT (aZ bO (pv 3) (aR cG (pv 4) aA) (λ_ _=>rfl)) aA (λ_ _=>rfl))))
   (aB (aV (aJ cR hr (aj (pv 2) (aj (pv 5) (aj (aR cP (pv 6) (aZ bT (aZ bO (pv 3) (pv 4) (λ_ _=>rfl)) aA (λ_ _=>rfl))) ao)))))))))),?_⟩
  clear nd bf cR cC lQ b_
  rw[show start ["layout","name","to","blocks","at","least","behind"] [.ref x,.str (tx r.nm),.int (to:Nat)]=[some (.ref x),some (.str (tx r.nm)),some (.int (to:Nat)),none,none,none,none] from rfl]
  try dsimp only[cO,bW]
  have hx:=ly.x
  have hp:=ly.p
  have tp:=ly.t
  have few:=lya.l.few
  have mD:=lya.h
  have zl:zs.length=rs.length:=by rw[tp.1,bL]
  obtain⟨bD,bF,bG,aN,aU,aL,aD⟩:=zsix T
  have jh:=Old.mk (M:=[]) hx nm0
  have iT:=Old.mk (M:=[]) hp nm0
  have jx:=gk.mk tp
  have F:SH H [] H [] []:=SH.nil
  obtain⟨hr,pn,lo,hi⟩:=sl
  have hk:=(List.getElem?_eq_some_iff.mp hr).1
  have ix:aa6 (rs.map (·.nm)) r.nm k0:=⟨by rw[List.getElem?_map,hr];rfl,Aq lya.l⟩
  obtain⟨q1,e1,e2⟩:∃q1,zs[k0]?=some (.ref q1)/\H q1=some (.tup (d8 r)):=tp.2 k0 _ (by unfold aX;rw[List.getElem?_map,hr];rfl)
  have vV:=Old.mk (M:=[]) e2 nm0
  have a1:AtI zs ((k0:Nat):Int) (.ref q1):=⟨cD e1⟩
  rcases Nat.lt_or_ge (k0+1) rs.length with hl|hl
  ·rcases Nat.eq_zero_or_pos k0 with hk0|hk0
   ·obtain⟨s1,hs1⟩:∃s1,rs[k0+1]?=some s1:=⟨_,List.getElem?_eq_getElem hl⟩
    obtain⟨q2,f1,f2⟩:∃q2,zs[k0+1]?=some (.ref q2)/\H q2=some (.tup (d8 s1)):=tp.2 (k0+1) _ (by unfold aX;rw[List.getElem?_map,hs1];rfl)
    have aeZ:=Old.mk (M:=[]) f2 nm0
    have a2:AtI zs (((k0:Nat):Int)+1) (.ref q2):=⟨by rw[show ((k0:Nat):Int)+1=((k0+1:Nat):Int) by lia];exact cD f1⟩
    rw[JC hs1] at hi
    repeat k_meth
    rw[decide_eq_true (show 0<=(to:Int) by lia),decide_eq_true (show (to:Int)<=(s1.st:Int)-(r.sz:Int) by lia)]
    exact k _ F.sm
   ·obtain⟨r0,hr0⟩:∃r0,rs[k0-1]?=some r0:=⟨_,List.getElem?_eq_getElem (by lia)⟩
    have lw:=Qj hr0
    rw[show k0-1+1=k0 by lia] at lw
    rw[lw] at lo
    obtain⟨q0,d1,d2⟩:∃q0,zs[k0-1]?=some (.ref q0)/\H q0=some (.tup (d8 r0)):=tp.2 (k0-1) _ (by unfold aX;rw[List.getElem?_map,hr0];rfl)
    have ae0:=Old.mk (M:=[]) d2 nm0
    have a0:AtI zs (((k0:Nat):Int)-1) (.ref q0):=⟨by rw[show ((k0:Nat):Int)-1=((k0-1:Nat):Int) by lia];exact cD d1⟩
    obtain⟨s1,hs1⟩:∃s1,rs[k0+1]?=some s1:=⟨_,List.getElem?_eq_getElem hl⟩
    obtain⟨q2,f1,f2⟩:∃q2,zs[k0+1]?=some (.ref q2)/\H q2=some (.tup (d8 s1)):=tp.2 (k0+1) _ (by unfold aX;rw[List.getElem?_map,hs1];rfl)
    have aeZ:=Old.mk (M:=[]) f2 nm0
    have a2:AtI zs (((k0:Nat):Int)+1) (.ref q2):=⟨by rw[show ((k0:Nat):Int)+1=((k0+1:Nat):Int) by lia];exact cD f1⟩
    rw[JC hs1] at hi
    repeat k_meth
    rw[decide_eq_true (show (r0.st:Int)+(r0.sz:Int)<=(to:Int) by lia),decide_eq_true (show (to:Int)<=(s1.st:Int)-(r.sz:Int) by lia)]
    exact k _ F.sm
  ·rcases Nat.eq_zero_or_pos k0 with hk0|hk0
   ·rw[Ei hl] at hi
    repeat k_meth
    rw[decide_eq_true (show 0<=(to:Int) by lia),decide_eq_true (show (to:Int)<=(n:Int)-(r.sz:Int) by lia)]
    exact k _ F.sm
   ·obtain⟨r0,hr0⟩:∃r0,rs[k0-1]?=some r0:=⟨_,List.getElem?_eq_getElem (by lia)⟩
    have lw:=Qj hr0
    rw[show k0-1+1=k0 by lia] at lw
    rw[lw] at lo
    obtain⟨q0,d1,d2⟩:∃q0,zs[k0-1]?=some (.ref q0)/\H q0=some (.tup (d8 r0)):=tp.2 (k0-1) _ (by unfold aX;rw[List.getElem?_map,hr0];rfl)
    have ae0:=Old.mk (M:=[]) d2 nm0
    have a0:AtI zs (((k0:Nat):Int)-1) (.ref q0):=⟨by rw[show ((k0:Nat):Int)-1=((k0-1:Nat):Int) by lia];exact cD d1⟩
    rw[Ei hl] at hi
    repeat k_meth
    rw[decide_eq_true (show (r0.st:Int)+(r0.sz:Int)<=(to:Int) by lia),decide_eq_true (show (to:Int)<=(n:Int)-(r.sz:Int) by lia)]
    exact k _ F.sm
theorem pH(T:Txt K mg c R CL CP CS aF aq):Def P w K mg base CX0 4 "step_of" ["layout","name","to","moved_ahead"] (zp CL):=by
 have fY:=fY (P:=P) (w:=w) (base:=base) T
 have lR:=lR (P:=P) (w:=w) (base:=base) T
 refine bQ T.Di xX (λvs H Q E h=>?_) (λ_ _ _ _ _ _=>el4 λ_ _ _ _=>rfl) (λf cdv A outer s H vs Q E hr h=>?_)
 ·obtain⟨x,p,dx,l,n,zs,rs,r,k0,to,nms,rfl,_⟩:=h
  rfl
 ·obtain⟨x,p,dx,l,n,zs,rs,r,k0,to,nms,rfl,ly,lya,sl,hl,side,k⟩:=h
  have nd:=xX.nd
  refine⟨_,(au (aP (i:=4) nd rfl (Or.inl rfl) (Gi (pv 0) T.clL fY hr (aj (pv 1) ao)))
   (au (cF (bU J_ (pv 1) (pv 3) (by with_unfolding_all rfl)) cW bI)
   (au (cF (bU jU (aZ bT (pv 4) aA (λ_ _=>rfl)) aA (bR _)) cW bI)
   (au (cF (dG (cT (aJ lR hr (aj (pv 0) (aj (pv 1) (aj (pv 2) ao)))))) cW bI)
   (aB (aV (cU (aj (pv 1) (aj (aZ bT (pv 4) aA (λ_ _=>rfl)) (aj (aZ bT (pv 4) aA (λ_ _=>rfl)) (aj (pv 2) ao))))))))))),?_⟩
  clear nd fY lR
  rw[show start ["layout","name","to","moved_ahead","block"] [.ref x,.str (tx r.nm),.int (to:Nat),.ref l]=[some (.ref x),some (.str (tx r.nm)),some (.int (to:Nat)),some (.ref l),none] from rfl]
  try dsimp only[cO,bW]
  have hx:=ly.x
  have hp:=ly.p
  have tp:=ly.t
  have few:=lya.l.few
  have mD:=lya.h
  have zl:zs.length=rs.length:=by rw[tp.1,bL]
  obtain⟨bD,bF,bG,aN,aU,aL,aD⟩:=zsix T
  have jh:=Old.mk (M:=[]) hx nm0
  have iT:=Old.mk (M:=[]) hp nm0
  have K5:=Old.mk (M:=[]) hl nm0
  have jx:=gk.mk tp
  have F:SH H [] H [] []:=SH.nil
  have hr:r∈rs:=List.mem_of_getElem? sl.at_
  have pn:=sl.pn
  have sla:Uh n rs r k0 to:=⟨sl⟩
  obtain⟨afT,ni⟩:=side
  repeat k_meth
  exact k _ _ F.sm aO
end
open M22 M82 M87 M75
theorem Ye{n:Nat}{rs:List Rw}(h:Lay n rs):(rs.map (·.nm)).Nodup:=by
 rw[List.Nodup,List.pairwise_map]
 exact h.ap.imp λh=>h.1
theorem Qk{n:Nat}{rs qs:List Rw}(h:Lay n rs)(e:qs.map (·.nm)=rs.map (·.nm))(ok:OkA 0 n qs):Lay n qs:=by
 have hl:qs.length=rs.length:=by have:=congrArg List.length e;simpa using this
 refine⟨λr hr=>⟨?_,(ok.bd r hr).2.1,(ok.bd r hr).2.2⟩,?_,by rw[hl];exact h.few⟩
 ·have:r.nm∈rs.map (·.nm):=e▸List.mem_map_of_mem hr
  obtain⟨s,hs,e2⟩:=List.mem_map.mp this
  rw[<- e2]
  exact(h.good s hs).nm
 ·have nd:(qs.map (·.nm)).Nodup:=e▸Ye h
  rw[List.Nodup,List.pairwise_map] at nd
  exact nd.imp₂ (λ{a b} h1 h2=>⟨h1,.inl h2⟩) ok.asc
def mvV(m:Mv):List V:=[.str (tx m.2.1),.int (m.2.2:Nat)]
def Ej(ms:List Mv):List (List V):=ms.map mvV
theorem Ql(ms:List Mv):(Ej ms).length=ms.length:=List.length_map ..
structure Yg(n:Nat)(rs:List Rw)(ms:List Mv):Prop where
 few:rs.length<=40
 fem:ms.length<=40
 ok:WOk n rs ms
 ndm:(ms.map (·.2.1)).Nodup
 ndr:(rs.map (·.nm)).Nodup
theorem Vn{H:Hp}{ms:List Mv}{ys:List V}{i:Nat}{v:V}(h:aH H ys (Ej ms))(e:ys[i]?=some v):∃w q,ms[i]?=some w/\v=.ref q/\H q=some (.tup (mvV w)):=by
 obtain⟨r,q,e1,e2,e3⟩:=lE h e
 unfold Ej at e1
 rw[List.getElem?_map] at e1
 cases e4:ms[i]? with
 | none=>rw[e4] at e1;cases e1
 | some w=>rw[e4] at e1;cases e1;exact⟨w,q,rfl,e2,e3⟩
theorem pI{n:Nat}{rs:List Rw}{r:Rw}{k to:Nat}(h:LyA rs n)(s:Sld n rs r k to):LyA (mvT rs k to) n:=by
 have ok:=abh h.ok s.at_ s.lo s.hi
 exact⟨Qk h.l (Vf s.at_) ok,ok.asc,h.h,h.g⟩
theorem Qm{n:Nat}{rs:List Rw}{r:Rw}{k to:Nat}(h:LyA rs n)(s:Sld n rs r k to):T8 n (rs.filter (λs=>decide (s.nm≠r.nm))++[wN r to]) (mvT rs k to):=⟨T4 (Aq h.l) s.at_,(pI h s).l,(pI h s).a⟩
def La(CL P:Addr)(pos:Pos)(qual:Str):Sp:=λvs H Q _=>∃(x p dx:Addr) (n:Nat) (zs:List V) (rs:List Rw) (r:Rw) (k to:Nat) (ps:Array Value),vs=[.ref x,.str (tx r.nm),.int (to:Nat)]/\LyH CL H x p dx n zs rs/\LyA rs n/\Sld n rs r k to/\H P=some (.tbl ps)/\TabOk pos qual ps H /\
 ∀(y dy q:Addr) (ys:List V) (ps':Array Value) (H':Hp),Kp P H H'->H' y=some (.ins CL dy (lF n q))->H' q=some (.lst ys)->aH H' ys (aX (mvT rs k to))->(∀b u,H b=some u->b≠y/\b≠q)->y≠q->H' P=some (.tbl ps')->TabOk pos qual ps' H'->Q (.ref y) H'
def jj:List Rw->List Mv->List (List V)
 | _,[]=>[]
 | T,m::ms=>(match T[m.1]? with
  | some r=>[V.str (tx r.nm),V.int (r.st:Nat),V.int (r.sz:Nat),V.int (m.2.2:Nat)]
  | none=>[])::jj (mvT T m.1 m.2.2) ms
def Ui(CL P:Addr)(pos:Pos)(qual:Str):Sp:=λvs H Q _=>∃(x p dx m:Addr) (n:Nat) (zs ws:List V) (rs:List Rw) (ms:List Mv) (ps:Array Value),vs=[.ref x,.ref m]/\LyH CL H x p dx n zs rs/\LyA rs n/\H m=some (.lst ws)/\aH H ws (Ej ms)/\Yg n rs ms/\H P=some (.tbl ps)/\TabOk pos qual ps H /\
 ∀(t s y dy q:Addr) (ss ys:List V) (ps':Array Value) (H':Hp),SH H [P] H' [(s,.lst ss),(P,.tbl ps')] [.tup t [.ref s,.ref y],.tps ss (jj rs ms),gY pos qual ps']->LyH CL H' y q dy n ys (iK rs ms)->Q (.ref t) H'
theorem Qn{n:Nat}:∀{ms:List Mv} {T:List Rw},WOk n T ms->(jj T ms).map (λr=>r.getD 0 V.non)=(ms.map (·.2.1)).map λcs=>V.str (tx cs)
 | [],_,_=>rfl
 | m::ms,T,h=>by
  obtain⟨⟨r,hr,hn,_⟩,h2⟩:=h
  unfold jj
  rw[List.map_cons,List.map_cons,List.map_cons,Qn h2,hr,<- hn]
  rfl
theorem JD:∀(ms:List Mv) (T:List Rw),(jj T ms).length=ms.length
 | [],_=>rfl
 | m::ms,T=>by unfold jj;rw[List.length_cons,JD ms,List.length_cons]
theorem Qo:∀{ms:List Mv} {T:List Rw} {i:Nat} {m:Mv} {r:Rw},ms[i]?=some m->(iK T (ms.take i))[m.1]?=some r->(jj T ms)[i]?=some [V.str (tx r.nm),V.int (r.st:Nat),V.int (r.sz:Nat),V.int (m.2.2:Nat)]
 | [],_,_,_,_,h,_=>by simp at h
 | a::ms,T,0,m,r,h,g=>by
  cases h
  unfold jj
  rw[show T[a.1]?=some r from g]
  rfl
 | a::ms,T,i+1,m,r,h,g=>by
  unfold jj
  exact Qo (ms:=ms) (T:=mvT T a.1 a.2.2) (i:=i) (by simpa using h) g
theorem Qp{n:Nat}:∀{ms:List Mv} {T:List Rw} {i:Nat} {m:Mv},WOk n T ms->ms[i]?=some m->∃r,r.nm=m.2.1/\Sld n (iK T (ms.take i)) r m.1 m.2.2
 | [],_,_,_,_,h=>by simp at h
 | a::ms,T,0,m,w,h=>by
  cases h
  obtain⟨⟨r,hr,hn,hp,lo,hi⟩,_⟩:=w
  exact⟨r,hn,hr,hp,lo,hi⟩
 | a::ms,T,i+1,m,w,h=>Qp (ms:=ms) (T:=mvT T a.1 a.2.2) (i:=i) w.2 (by simpa using h)
theorem JF{n:Nat}:∀{ms:List Mv} {T:List Rw},WOk n T ms->∀w∈jj T ms,∃(a:Str) (b c d:Int),w=[.str a,.int b,.int c,.int d]
 | [],_,_=>λ_ h=>by cases h
 | m::ms,T,h=>λw hw=>by
  obtain⟨⟨r,hr,_⟩,h2⟩:=h
  unfold jj at hw
  rw[hr] at hw
  rcases List.mem_cons.mp hw with rfl|hw
  ·exact⟨_,_,_,_,rfl⟩
  ·exact JF h2 w hw
theorem Lb{ms:List Mv}{T:List Rw}{i:Nat}{m:Mv}(h:ms[i]?=some m):iK T (ms.take (i+1))=mvT (iK T (ms.take i)) m.1 m.2.2:=by
 rw[List.take_succ,h]
 unfold iK
 rw[Option.toList_some,List.foldl_append]
 rfl
theorem cL{H:Hp}{a b:Addr}{o1 o2:HO}(h1:H a=some o1)(h2:H b=some o2)(n:o1≠o2):a≠b:=λz=>by
 rw[z,h2] at h1
 exact n (Option.some.inj h1).symm
theorem nm2{a b c:Addr}(h:a≠b)(g:a≠c):a ∉ [b,c]:=by simp[h,g]
section
variable{P:Program}{w:World}{K:W.Frag}{mg:Str->Option Value}{base:Heap}{c:Nat->Addr}{aF aq R CL CP CS:Addr}
theorem lV(T:Txt K mg c R CL CP CS aF aq)(B:Bm mg base):Met P w K mg base CX0 8 CL "moved" ["self","name","to"] (La CL aq cZ cJ):=by
 have fY:=fY (P:=P) (w:=w) (base:=base) T
 have gM:=gM (P:=P) (w:=w) (base:=base) T B
 have dj:=dj (P:=P) (w:=w) (base:=base) T
 obtain⟨f,hf,hm⟩:=T.DG
 refine(gh (k:=7) hf yu (λvs H Q E h=>?_) (λ_ _ _ _ _ _=>el3 λ_ _ _=>rfl) (λf cdv A outer s H vs Q E hr h=>?_)).met hm
 ·obtain⟨x,p,dx,n,zs,rs,r,k0,to,ps,rfl,_⟩:=h
  rfl
 ·obtain⟨x,p,dx,n,zs,rs,r,k0,to,ps,rfl,ly,lya,sl,hP,tk,k⟩:=h
  have nd:=yu.nd
  refine⟨_,(au (aP (i:=3) nd rfl (Or.inl rfl) (Gi (pv 0) T.clL fY hr (aj (pv 1) ao)))
   (au (cF (dG (cT (aJ dj hr (aj (pv 2) (aj aA ao))))) cW bI)
   (au (Hz (i:=4) nd rfl (Or.inl rfl) (N:=["other","name"]) (nt:=1) (fr:=[1]) (dh (iD (pv 0) rfl)) (λ_ _ _ _=>(bN (i:=0) (show (["other","name"]:List Str).Nodup from by decide +kernel) rfl (Or.inl rfl))) (λ_ _ _ _=>Hx (bU Mi (aZ (jF (K:=K) rfl) (pv 0) aA (λ_ _=>rfl)) (pv 1) (bR _))) (λ_ _ _ _=>(pv 0)))
   (aB (aV (sZ gM hr (aj (iD (pv 0) rfl) (aj (aR dW (pv 4) (bV (aj (cU (aj (pv 1) (aj (pv 2) (aj (aZ bT (pv 3) aA (λ_ _=>rfl)) (aj (aZ bT (pv 3) aA (λ_ _=>rfl)) ao))))) ao))) ao)))))))),?_⟩
  clear nd fY gM dj
  rw[show start ["self","name","to","row","others"] [.ref x,.str (tx r.nm),.int (to:Nat)]=[some (.ref x),some (.str (tx r.nm)),some (.int (to:Nat)),none,none] from rfl]
  try dsimp only[cO,bW]
  have hx:=ly.x
  have hp:=ly.p
  have tp:=ly.t
  have few:=lya.l.few
  have mD:=lya.h
  have zl:zs.length=rs.length:=by rw[tp.1,bL]
  obtain⟨bD,bF,bG,aN,aU,aL,aD⟩:=zsix T
  have nxP:=cL hx hP (by simp)
  have npP:=cL hp hP (by simp)
  have F:SH H [aq] H [(aq,.tbl ps)] [.tps zs (aX rs),gY cZ cJ ps]:=((SH.nil.iI List.mem_cons_self hP rfl (by simp)).j7 tk).gH tp
  have jh:=Old.mk (M:=[aq]) hx (nm1 nxP)
  have iT:=Old.mk (M:=[aq]) hp (nm1 npP)
  have hr:r∈rs:=List.mem_of_getElem? sl.at_
  have la:=Qm lya sl
  have lym:=pI lya sl
  have sdn:16<=n/\n<=240:=⟨lya.g,lya.h⟩
  repeat k_meth
  refine wM (fvs:=[some (.str (tx r.nm))]) (pr:=λs=>decide (s.nm≠r.nm)) aO (TpA.e (rs:=aX rs)) (by lia) rfl (λq s H1 R hs s1 h1 kk=>?_) λlo ys H1 n1 t1 yl1=>?_
  ·clear F
   have F:SH H1 [] H1 [] []:=SH.nil
   have abG:=Old.mk (M:=[]) h1 nm0
   have kk:=kk _ (Same.refl _)
   by_cases e9:s.nm=r.nm
   ·have e8:tx s.nm=tx r.nm:=by rw[e9]
    rw[decide_eq_false (show ¬ (s.nm≠r.nm) from λz=>z e9)] at kk
    repeat k_meth
    rw[decide_eq_true e8]
    exact kk
   ·have e8:¬ tx s.nm=tx r.nm:=λz=>e9 (qF z)
    rw[decide_eq_true e9] at kk
    repeat k_meth
    rw[decide_eq_false e8]
    exact kk
  ·replace F:=F.newR n1 t1
   clear n1 t1
   have yo:ys.length=(rs.filter λs=>decide (s.nm≠r.nm)).length:=by
    have:=(TpA.e (H:=H1) (ys:=ys) (rs:=aX (rs.filter λs=>decide (s.nm≠r.nm)))).1
    rw[bL] at this
    exact this
   have ol:=List.length_filter_le (λs:Rw=>decide (s.nm≠r.nm)) rs
   repeat k_meth
   rename_i tq _ _ _
   obtain⟨lq,elq⟩:∃z,z=p_:=⟨_,rfl⟩
   subst elq
   rw[show [V.str (tx r.nm),V.int (to:Nat),V.int (r.sz:Nat),V.int (r.pn:Nat)]=d8 (wN r to) from rfl] at F
   replace F:=SH.app (ys:=ys) (rs:=aX (rs.filter λs=>decide (s.nm≠r.nm))) (q:=tq) (r:=d8 (wN r to)) F (LkP.m) (LkI.m)
   rw[<- jO] at F
   repeat k_meth
   intro ps2
   repeat k_meth
   exact k x_ dx_ p_ ys_ ps2 _ F.kpo aO aO TpA.e (λb u e=>⟨F.fresh (LkL.m (o:=.ins CL dx_ (lF (n:Nat) p_))) (nm1 (SH.neC (F:=F))) b u e,F.fresh (LkL.m (o:=.lst ys_)) (nm1 (SH.neC (F:=F))) b u e⟩) (SH.neC (F:=F)) aO SH.tab
end
section
variable{P:Program}{w:World}{K:W.Frag}{mg:Str->Option Value}{base:Heap}{c:Nat->Addr}{aF aq R CL CP CS:Addr}
theorem Ar(T:Txt K mg c R CL CP CS aF aq)(B:Bm mg base):Def P w K mg base CX0 9 "gone_through" ["layout","moves"] (Ui CL aq cZ cJ):=by
 have lV:=lV (P:=P) (w:=w) (base:=base) T B
 have pH:=pH (P:=P) (w:=w) (base:=base) T
 have pG:=pG (P:=P) (w:=w) (base:=base) T
 refine bQ T.PJ Jc (λvs H Q E h=>?_) (λ_ _ _ _ _ _=>el2 λ_ _=>rfl) (λf cdv A outer s H vs Q E hr h=>?_)
 ·obtain⟨x,p,dx,m,n,zs,ws,rs,ms,ps,rfl,_⟩:=h
  rfl
 ·obtain⟨x,p,dx,m,n,zs,ws,rs,ms,ps,rfl,ly,lya,hm,tm,wk,hP,tk,k⟩:=h
  have nd:=Jc.nd
  refine⟨_,(au (cF (PW.pt (rH (dG (cT (aY cV rfl T.bJ boot_isinstance (aj (pv 1) (aj (fC (T := "list") rfl T.fG boot_list) ao))))) (mV (dG (cT (aY (n6 rfl) rfl T.Du boot_all (aj (fj (N:=["move"]) (nt:=1) (fr:=[]) (dh (pv 1)) (λ_ _ _ _=>(bN (i:=0) (show (["move"]:List Str).Nodup from by decide +kernel) rfl (Or.inl rfl))) (λ_ _ _ _=>eZ) (λ_ _ _ _=>(aJ pG hr (aj (pv 0) ao)))) ao))))))) cW bI)
   (au (aP (i:=2) nd rfl (Or.inl rfl) (bV ao))
   (au (dX PassesOwn.never rfl (dh (pv 1)) (tX rfl (eG (bN (i:=3) nd rfl (Or.inl rfl)) (eG (bN (i:=4) nd rfl (Or.inl rfl)) nQ))) (au (Hz (i:=5) nd rfl (Or.inl rfl) (N:=["step"]) (nt:=1) (fr:=[]) (dh (pv 2)) (λ_ _ _ _=>(bN (i:=0) (show (["step"]:List Str).Nodup from by decide +kernel) rfl (Or.inl rfl))) (λ_ _ _ _=>eZ) (λ_ _ _ _=>(aZ (jF (K:=K) rfl) (pv 0) aA (λ_ _=>rfl))))
    (au (dw (cX (pv 2) (aJ pH hr (aj (pv 0) (aj (pv 3) (aj (pv 4) (aj (pv 5) ao)))))))
    (aB (aP (i:=0) nd rfl (Or.inl rfl) (Gi (pv 0) T.clL lV hr (aj (pv 3) (aj (pv 4) ao))))))))
   (aB (aV (cU (aj (pv 2) (aj (pv 0) ao)))))))),?_⟩
  clear nd lV pH pG
  rw[show start ["layout","moves","steps","name","to","moved_ahead"] [.ref x,.ref m]=[some (.ref x),some (.ref m),none,none,none,none] from rfl]
  try dsimp only[cO,bW]
  have hx:=ly.x
  have hp:=ly.p
  have tp:=ly.t
  have few:=lya.l.few
  have mD:=lya.h
  have zl:zs.length=rs.length:=by rw[tp.1,bL]
  obtain⟨bD,bF,bG,aN,aU,aL,aD⟩:=zsix T
  have F:SH H [aq] H [(aq,.tbl ps)] [.tps zs (aX rs),.tps ws (Ej ms),gY cZ cJ ps]:=(((SH.nil.iI List.mem_cons_self hP rfl (by simp)).j7 tk).gH tm).gH tp
  have jh:=Old.mk (M:=[aq]) hx (nm1 (cL hx hP (by simp)))
  have iT:=Old.mk (M:=[aq]) hp (nm1 (cL hp hP (by simp)))
  have afU:=Old.mk (M:=[aq]) hm (nm1 (cL hm hP (by simp)))
  have wl:ws.length=ms.length:=by rw[tm.1,Ql]
  have fem:=wk.fem
  repeat k_meth
  refine K9 (gB (xs:=ws)) (by lia) rfl (λH' s=>s.seq SqA.e) (λv H1 R hv s1 kk=>?_) λl H1 nw=>?_
  ·obtain⟨i,hi⟩:=List.getElem?_of_mem hv
   obtain⟨mm,q1,e1,rfl,e2⟩:=Vn tm hi
   have h1:H1 q1=some (.tup (mvV mm)):=s1 _ _ e2
   clear F
   have F:SH H1 [] H1 [] []:=SH.nil
   have abG:Old H1 [] q1 (.tup [.str (tx mm.2.1),.int (mm.2.2:Nat)]):=Old.mk (M:=[]) h1 nm0
   repeat k_meth
   exact kk _ (Same.refl _)
  replace F:=F.newL nw
  repeat k_meth
  refine⟨l,_,rfl,SqA.e,?_⟩
  rw[show (List.replicate ws.length true).all id=true by simp]
  repeat k_meth
  rename Addr=>st
  have nps:p≠st:=F.fresh (LkL.m (o:=.lst _)) (nm1 (SH.neC (F:=F))) p _ hp
  refine f9 (xs:=ws) (λi σ' H'=>∃(o3 o4 o5:Option V) (y q dy:Addr) (ys ss:List V) (ps:Array Value),σ'=[some (.ref y),some (.ref m),some (.ref st),o3,o4,o5]/\LyH CL H' y q dy n ys (iK rs (ms.take i))/\LyA (iK rs (ms.take i)) n/\q≠st/\ss.length=i/\SH H [aq] H' [(st,.lst ss),(aq,.tbl ps)] [.tps ss ((jj rs ms).take i),gY cZ cJ ps]) ⟨_,_,_,x,p,dx,zs,[],ps,rfl,⟨aO,aO,TpA.e⟩,lya,nps,rfl,(F.gH (ys:=[]) (rs:=(jj rs ms).take 0) (by rw[List.take_zero];exact aH.nil)).sub SbC.s SbI.s⟩ ?_ ?_ ?_
  ·clear F
   rintro i σ' H' _ ⟨_,_,_,y,q,dy,ys,ss,ps1,rfl,lyi,Uj,nq,sl,F⟩
   exact SqA.e
  ·clear F
   rintro i v σ' H' hv ⟨_,_,_,y,q,dy,ys,ss,ps1,rfl,lyi,Uj,nq,sl,F⟩
   obtain⟨mm,q1,e1,rfl,e2⟩:=Vn tm hv
   obtain⟨r,hn,sld⟩:=Qp wk.ok e1
   have ws1:=Lb (T:=rs) e1
   have sat:=Qo (T:=rs) e1 sld.at_
   have afV:i<ms.length:=(List.getElem?_eq_some_iff.mp e1).1
   have nin:¬ mm.2.1∈(ms.take i).map (·.2.1):=λz=>by
    have h1:(ms.map (·.2.1))[i]?=some mm.2.1:=by rw[List.getElem?_map,e1];rfl
    rw[List.map_take] at z
    obtain⟨j,hj,e⟩:=List.getElem_of_mem z
    rw[List.length_take] at hj
    rw[List.getElem_take] at e
    obtain⟨hi,e3⟩:=List.getElem?_eq_some_iff.mp h1
    exact List.pairwise_iff_getElem.mp wk.ndm j i (by lia) hi (by lia) (e.trans e3.symm)
   have afW:Old H [aq] q1 (.tup (mvV mm)):=Old.mk (M:=[aq]) e2 (nm1 (cL e2 hP (by simp)))
   have h1:H' q1=some (.tup (mvV mm)):=aO
   obtain⟨k0,nm,to⟩:=mm
   dsimp only at hn sld ws1 sat nin
   subst hn
   have sla:Uh n (iK rs (ms.take i)) r k0 to:=⟨sld⟩
   have nmf:((ms.take i).map (·.2.1)).length<=40/\¬ r.nm∈(ms.take i).map (·.2.1):=⟨by rw[List.length_map,List.length_take];lia,nin⟩
   have hst:H' st=some (.lst ss):=aO
   have hpt:H' aq=some (.tbl ps1):=aO
   have tk1:TabOk cZ cJ ps1 H':=SH.tab
   have tss:aH H' ss ((jj rs ms).take i):=TpA.e
   have Fo2:SH H [aq] H' ([(st,.lst ss),(aq,.tbl ps1)]++[]) [.tps ss ((jj rs ms).take i),gY cZ cJ ps1]:=F
   have nsP:st≠aq:=cL hst hpt (by simp)
   clear F
   have F:SH H' [st,aq] H' [(st,.lst ss),(aq,.tbl ps1)] [.tps ys (aX (iK rs (ms.take i))),.tps ss ((jj rs ms).take i),gY cZ cJ ps1]:=((((SH.nil.iI (by simp) hpt rfl (by simp)).iI (by simp) hst rfl (by simp[Ne.symm nsP])).j7 tk1).gH tss).gH lyi.t
   have o_y:=Old.mk (M:=[st,aq]) lyi.x (nm2 (cL lyi.x hst (by simp)) (cL lyi.x hpt (by simp)))
   have o_q:=Old.mk (M:=[st,aq]) lyi.p (nm2 nq (cL lyi.p hpt (by simp)))
   have abG:Old H' [st,aq] q1 (.tup [.str (tx r.nm),.int (to:Nat)]):=Old.mk (M:=[st,aq]) h1 (nm2 (cL h1 hst (by simp)) (cL h1 hpt (by simp)))
   repeat k_meth
   refine jo (F:=λr=>r.getD 0 .non) aO (TpA.e (rs:=(jj rs ms).take i)) (by lia) rfl (λq w H1 R hw s1 f1 kk=>?_) λl H1 n1=>?_
   ·obtain⟨a0,b0,c0,d0,rfl⟩:=JF wk.ok w (List.mem_of_mem_take hw)
    clear F
    have F:SH H1 [] H1 [] []:=SH.nil
    have afX:=Old.mk (M:=[]) f1 nm0
    repeat k_meth
    exact kk _ (Same.refl _)
   rw[List.map_take,Qn wk.ok,<- List.map_take,<- List.map_take] at n1
   replace F:=F.newL n1
   repeat k_meth
   have tks:(jj rs ms).take (i+1)=(jj rs ms).take i++[[V.str (tx r.nm),V.int (r.st:Nat),V.int (r.sz:Nat),V.int (to:Nat)]]:=by rw[List.take_succ,sat];rfl
   have F3:=SH.app (ys:=ss) (rs:=(jj rs ms).take i) (q:=p_) (r:=[V.str (tx r.nm),V.int (r.st:Nat),V.int (r.sz:Nat),V.int (to:Nat)]) F (LkP.m) (LkI.m)
   rw[<- tks] at F3
   clear F
   have F:SH H' [st,aq] H_ _ _:=F3
   clear F3
   have h9:H_ st=some (.lst (ss++[.ref p_])):=aO
   refine⟨y,q,dy,n,ys,_,r,k0,to,ps1,rfl,⟨aO,aO,TpA.e⟩,Uj,sld,aO,SH.tab,λy2 dy2 q2 ys2 ps2 H4 kp hy2 hq2 ht2 fr2 afY hP2 tk2=>?_⟩
   have lyn:=pI Uj sld
   rw[<- ws1] at lyn ht2
   replace F:=SH.j7 (st:=TabOk.st) (F.kp kp hP2 LkU.u rfl) tk2
   repeat k_meth
   have F1:SH H' [st,aq] _ [(st,.lst (ss++[.ref p_])),(aq,.tbl ps2)] [.tps (ss++[.ref p_]) ((jj rs ms).take (i+1)),gY cZ cJ ps2]:=F.sub SbC.s SbI.s
   have F2:=SH.over Fo2 F1 rfl
   clear F F1
   simp only[List.cons_append,List.nil_append] at F2
   exact⟨_,_,_,y2,q2,dy2,ys2,ss++[.ref p_],ps2,rfl,⟨hy2,hq2,ht2⟩,lyn,λz=>(fr2 st _ h9).2 z.symm,by rw[List.length_append,sl];rfl,F2.sub SbC.s SbI.s⟩
  ·clear F
   rintro σ' H' ⟨_,_,_,y,q,dy,ys,ss,ps1,rfl,lyi,Uj,nq,sl,F⟩
   rw[wl,List.take_length] at lyi
   rw[wl,<- JD ms rs,List.take_length] at F
   have F0:=λ(_:True)=>F
   clear F
   have F:SH H' [] H' [] []:=SH.nil
   repeat k_meth
   have F2:=((F0 trivial).same F.sm).Kz (aO:H_ p_=some (.tup [.ref st,.ref y]))
   have ly2:=lyi.same F.sm
   clear F F0
   exact k _ st y dy q ss ys ps1 _ (F2.sub SbC.s SbI.s) ly2
end
open M22 M82 M87 M75
def Uk(CL P:Addr)(pos:Pos)(qual:Str):Sp:=λvs H Q _=>∃(x p dx m:Addr) (n:Nat) (zs ws:List V) (rs:List Rw) (ms:List Mv) (ps:Array Value),vs=[.ref x,.ref m]/\LyH CL H x p dx n zs rs/\LyA rs n/\H m=some (.lst ws)/\aH H ws (Ej ms)/\Yg n rs ms/\H P=some (.tbl ps)/\TabOk pos qual ps H /\
 ∀(y dy q:Addr) (ys:List V) (ps':Array Value) (H':Hp),Kp P H H'->H' P=some (.tbl ps')->TabOk pos qual ps' H'->LyH CL H' y q dy n ys (iK rs ms)->Q (.ref y) H'
def zq:Sp:=λvs H Q _=>∃s:Int,vs=[.int s]/\1<=s/\∀H',Same H H'->Q .non H'
abbrev Chc:=Int×Int×Int
def chV(c:Chc):List Int:=[c.1,c.2.1,c.2.2]
def jQ(cs:List Chc):List (List V):=(cs.map chV).map λr=>r.map V.int
def ch2(g b:Int):Option Int->Option Int->List Chc
 | some u,some v=>[(u+v,g,b)]
 | _,_=>[]
def chA(g c:Int)(s:Nat)(l r:PR)(b:Nat):List Chc:=ch2 g b ((l[b]?).getD none) ((r[(max 0 ((s:Int)-c-(b:Int))).toNat]?).getD none)
theorem Ul(g b:Int)(u v:Option Int):(ch2 g b u v).length<=1:=by cases u <;> cases v <;> simp[ch2]
def chF(g c:Int)(s:Nat)(l r:PR)(k:Nat):List Chc:=(List.range k).flatMap (chA g c s l r)
theorem pJ(g c:Int)(s:Nat)(l r:PR)(k:Nat):chF g c s l r (k+1)=chF g c s l r k++chA g c s l r k:=by unfold chF;rw[List.range_succ,List.flatMap_append];simp
theorem Av(g c:Int)(s:Nat)(l r:PR)(k:Nat):(chF g c s l r k).length<=k:=by
 induction k with
 | zero=>exact Nat.le_refl _
 | succ k ih =>
  rw[pJ,List.length_append]
  have:(chA g c s l r k).length<=1:=Ul ..
  lia
theorem Ek(a b:List Chc):jQ (a++b)=jQ a++jQ b:=by unfold jQ;rw[List.map_append,List.map_append]
theorem Qq(a:List Chc):(jQ a).length=a.length:=by unfold jQ;rw[List.length_map,List.length_map]
def v8:Sp:=λvs H Q _=>∃(a b:Addr) (g c:Int) (s:Nat) (l r:PR),vs=[.int g,.int c,.int (s:Nat),.ref a,.ref b]/\H a=some (.lst (l.map pV))/\H b=some (.lst (r.map pV))/\(l.length=s+1/\r.length=s+1)/\(s<=240/\0<=c)/\∀q ys H',New H H' q (.lst ys)->aH H' ys (jQ (chF g c s l r (s+1)))->Q (.ref q) H'
section
variable{CL P x p dx m a b:Addr}{H H0:Hp}{Q:VK}{E:XK}{n s:Nat}{zs ws:List V}{rs:List Rw}{ms:List Mv}{z g c:Int}{l r:PR}{M:List Addr}{L:List (Addr×HO)}{I:List Im}{Z:Addr->Hp->Prop}{cs:List Chc}
instance Y8:Go (zq [.int z] H Q E) (Sd (1<=z) (∀H',Same H H'->Q .non H')):=⟨λk=>⟨z,rfl,k.1,k.2⟩⟩
instance Yh[h:Hat H a (.lst (l.map pV))][h2:Hat H b (.lst (r.map pV))]:Go (v8 [.int g,.int c,.int (s:Nat),.ref a,.ref b] H Q E) (Sd (l.length=s+1/\r.length=s+1) (Sd (s<=240/\0<=c) (∀q ys H',New H H' q (.lst ys)->aH H' ys (jQ (chF g c s l r (s+1)))->Q (.ref q) H'))):=⟨λk=>⟨a,b,g,c,s,l,r,rfl,h.e,h2.e,k.1,k.2.1,k.2.2⟩⟩
instance ae1[F:SH H0 M H L I]:Go (∀p ys H',New H H' p (.lst ys)->aH H' ys (jQ cs)->Z p H') (∀H' p ys,ys.length=cs.length->SH H0 M H' ((p,.lst ys)::L) (.tps ys (jQ cs)::I)->Z p H'):=⟨λk p ys H' n t=>k H' p ys (by rw[t.1,Qq]) (F.newR n t)⟩
end
section
variable{P:Program}{w:World}{K:W.Frag}{mg:Str->Option Value}{base:Heap}{c:Nat->Addr}{aF aq R CL CP CS:Addr}
theorem Aw(T:Txt K mg c R CL CP CS aF aq)(B:Bm mg base):Def P w K mg base CX0 10 "slid" ["layout","moves"] (Uk CL aq cZ cJ):=by
 have Ar:=Ar (P:=P) (w:=w) (base:=base) T B
 refine bQ T.PK Jd (λvs H Q E h=>?_) (λ_ _ _ _ _ _=>el2 λ_ _=>rfl) (λf cdv A outer s H vs Q E hr h=>?_)
 ·obtain⟨x,p,dx,m,n,zs,ws,rs,ms,ps,rfl,_⟩:=h
  rfl
 ·obtain⟨x,p,dx,m,n,zs,ws,rs,ms,ps,rfl,ly,lya,hm,tm,wk,hP,tk,k⟩:=h
  have nd:=Jd.nd
  refine⟨_,(aB (aV (aZ bT (aJ Ar hr (aj (pv 0) (aj (pv 1) ao))) aA (λ_ _=>rfl)))),?_⟩
  clear nd Ar
  rw[show start ["layout","moves"] [.ref x,.ref m]=[some (.ref x),some (.ref m)] from rfl]
  try dsimp only[cO,bW]
  obtain⟨bD,bF,bG,aN,aU,aL,aD⟩:=zsix T
  have F:SH H [] H [] []:=SH.nil
  repeat k_meth
  refine⟨x,p,dx,m,n,zs,ws,rs,ms,ps,rfl,ly,lya,hm,tm,wk,hP,tk,λt s0 y dy q ss ys ps' H' G ly2=>?_⟩
  clear F
  have F:SH H' [] H' [] []:=SH.nil
  have ht:H' t=some (.tup [.ref s0,.ref y]):=G.im (.tup t [.ref s0,.ref y]) (by simp)
  have o_t:=Old.mk (M:=[]) ht nm0
  repeat k_meth
  exact k y dy q ys ps' _ (λb u n e=>G.fr b u (nm1 n) e) (G.at' (aq,.tbl ps') (by simp)) (G.im (gY cZ cJ ps') (by simp)) ly2
theorem iZ(T:Txt K mg c R CL CP CS aF aq):Def P w K mg base CX0 3 "need_size" ["size"] zq:=by
 have dj:=dj (P:=P) (w:=w) (base:=base) T
 refine bQ T.Jo CW (λvs H Q E h=>?_) (λ_ _ _ _ _ _=>el1 λ_=>rfl) (λf cdv A outer s H vs Q E hr h=>?_)
 ·obtain⟨s,rfl,_⟩:=h
  rfl
 ·obtain⟨s,rfl,s1,k⟩:=h
  have nd:=CW.nd
  refine⟨_,(aB (cF (dG (cT (aJ dj hr (aj (pv 0) (aj aA ao))))) cW bI)),?_⟩
  clear nd dj
  rw[show start ["size"] [.int s]=[some (.int s)] from rfl]
  try dsimp only[cO,bW]
  obtain⟨bD,bF,bG,aN,aU,aL,aD⟩:=zsix T
  have F:SH H [] H [] []:=SH.nil
  repeat k_meth
  exact k _ F.sm
theorem lX(T:Txt K mg c R CL CP CS aF aq):Def P w K mg base CX0 1 "choices_at" ["gap","cells","size","left","right"] v8:=by
 refine bQ T.yG vg (λvs H Q E h=>?_) (λ_ _ _ _ _ _=>el5 λ_ _ _ _ _=>rfl) (λf cdv A outer s H vs Q E hr h=>?_)
 ·obtain⟨a,b,g,c0,s,l,r,rfl,_⟩:=h
  rfl
 ·obtain⟨a,b,g,c0,s,l,r,rfl,ha,hb,side,side2,k⟩:=h
  have nd:=vg.nd
  refine⟨_,(au (aP (i:=5) nd rfl (Or.inl rfl) (bV ao))
   (au (dX PassesOwn.never rfl (fQ rfl T.gj (aj (aR cG (pv 2) aA) ao)) (bN (i:=6) nd rfl (Or.inl rfl)) (au (aP (i:=7) nd rfl (Or.inl rfl) (aZ bO (pv 4) (aY (fu rfl) rfl T.kO boot_max (aj aA (aj (aR cP (aR cP (pv 2) (pv 1)) (pv 6)) ao))) (λ_ _=>rfl)))
    (aB (cF (PW.pt (Lw (bU uD (aZ bO (pv 3) (pv 6) (λ_ _=>rfl)) jz (bR _)) (Hg (bU uD (pv 7) jz (bR _))))) (aB (dw (cX (pv 5) (cU (aj (aR cG (aZ bO (pv 3) (pv 6) (λ_ _=>rfl)) (pv 7)) (aj (pv 0) (aj (pv 6) ao))))))) bI))))
   (aB (aV (pv 5))))),?_⟩
  clear nd 
  rw[show start ["gap","cells","size","left","right","choices","by","at_right"] [.int g,.int c0,.int (s:Nat),.ref a,.ref b]=[some (.int g),some (.int c0),some (.int (s:Nat)),some (.ref a),some (.ref b),none,none,none] from rfl]
  try dsimp only[cO,bW]
  obtain⟨bD,bF,bG,aN,aU,aL,aD⟩:=zsix T
  have afZ:=Old.mk (M:=[]) ha nm0
  have af0:=Old.mk (M:=[]) hb nm0
  have F:SH H [] H [] []:=SH.nil
  obtain⟨ll,rl⟩:=side
  obtain⟨Qg,c00⟩:=side2
  repeat k_meth
  rename Addr=>co
  rw[show ((s:Int)+1).toNat=s+1 by lia]
  refine jq (λj σ' H'=>∃(o6 o7:Option V) (ys:List V),σ'=[some (.int g),some (.int c0),some (.int (s:Nat)),some (.ref a),some (.ref b),some (.ref co),o6,o7]/\ys.length=(chF g c0 s l r j).length/\SH H [] H' [(co,.lst ys)] [.tps ys (jQ (chF g c0 s l r j))]) ⟨_,_,[],rfl,rfl,(F.gH (ys:=[]) (rs:=jQ (chF g c0 s l r 0)) aH.nil).sub SbC.s SbI.s⟩ ?_ ?_
  ·clear F
   rintro j σ' H' hj ⟨_,_,ys,rfl,yl,F⟩
   have cl:=Av g c0 s l r j
   obtain⟨u,hu⟩:∃u,l[j]?=some u:=⟨_,List.getElem?_eq_getElem (by lia)⟩
   obtain⟨v,hv⟩:∃v,r[(max 0 ((s:Int)-c0-(j:Int))).toNat]?=some v:=⟨_,List.getElem?_eq_getElem (by lia)⟩
   have a1:AtI (l.map pV) ((j:Nat):Int) (pV u):=⟨cD (by rw[List.getElem?_map,hu];rfl)⟩
   have a2:AtI (r.map pV) (max 0 ((s:Int)-c0-(j:Int))) (pV v):=⟨by
    rw[show max 0 ((s:Int)-c0-(j:Int))=(((max 0 ((s:Int)-c0-(j:Int))).toNat:Nat):Int) by lia]
    exact cD (by rw[List.getElem?_map,hv];rfl)⟩
   have ca:chA g c0 s l r j=ch2 g (j:Int) u v:=by
    unfold chA
    rw[hu,hv]
    rfl
   cases u with
   | none =>
    have a3:AtI (l.map pV) ((j:Nat):Int) .non:=a1
    have e:chF g c0 s l r (j+1)=chF g c0 s l r j:=by rw[pJ,ca];exact List.append_nil _
    cases v with
    | none =>
     have a4:AtI (r.map pV) (max 0 ((s:Int)-c0-(j:Int))) .non:=a2
     repeat k_meth
     exact⟨_,_,ys,rfl,by rw[e];exact yl,by rw[e];exact F.sub SbC.s SbI.s⟩
    | some v =>
     have a4:AtI (r.map pV) (max 0 ((s:Int)-c0-(j:Int))) (.int v):=a2
     repeat k_meth
     exact⟨_,_,ys,rfl,by rw[e];exact yl,by rw[e];exact F.sub SbC.s SbI.s⟩
   | some u =>
    have a3:AtI (l.map pV) ((j:Nat):Int) (.int u):=a1
    cases v with
    | none =>
     have a4:AtI (r.map pV) (max 0 ((s:Int)-c0-(j:Int))) .non:=a2
     have e:chF g c0 s l r (j+1)=chF g c0 s l r j:=by rw[pJ,ca];exact List.append_nil _
     repeat k_meth
     exact⟨_,_,ys,rfl,by rw[e];exact yl,by rw[e];exact F.sub SbC.s SbI.s⟩
    | some v =>
     have a4:AtI (r.map pV) (max 0 ((s:Int)-c0-(j:Int))) (.int v):=a2
     have e:chF g c0 s l r (j+1)=chF g c0 s l r j++[(u+v,g,(j:Int))]:=by rw[pJ,ca];rfl
     repeat k_meth
     have F2:=SH.app (ys:=ys) (rs:=jQ (chF g c0 s l r j)) (q:=p_) (r:=[V.int (u+v),V.int g,V.int (j:Int)]) F (LkP.m) (LkI.m)
     rw[show jQ (chF g c0 s l r j)++[[V.int (u+v),V.int g,V.int (j:Int)]]=jQ (chF g c0 s l r (j+1)) by rw[e,Ek];rfl] at F2
     exact⟨_,_,ys++[.ref p_],rfl,by rw[e,List.length_append,List.length_append,yl];rfl,F2.sub SbC.s SbI.s⟩
  ·clear F
   rintro σ' H' ⟨_,_,ys,rfl,yl,F⟩
   repeat k_meth
   exact k _ _ _ SH.nwC TpA.e
end
open M22 M82 M87 M75
structure Tab(H:Hp)(t l m:Addr)(ys zs:List V)(T U:List PR):Prop where
 t:H t=some (.tup [.ref l,.ref m])
 l:H l=some (.lst ys)
 a:h_ H ys T
 m:H m=some (.lst zs)
 b:h_ H zs U
theorem Tab.same{H H':Hp}{t l m:Addr}{ys zs:List V}{T U:List PR}(h:Tab H t l m ys zs T U)(s:Same H H'):Tab H' t l m ys zs T U:=⟨s _ _ h.t,s _ _ h.l,h.a.kept λq u _ e=>s _ _ e,s _ _ h.m,h.b.kept λq u _ e=>s _ _ e⟩
structure Qs(CL:Addr)(H:Hp)(x p dx:Addr)(n:Nat)(zs:List V)(rs:List Rw)(s:Nat):Prop where
 x:H x=some (.ins CL dx (lF (n:Nat) p))
 p:H p=some (.lst zs)
 t:aH H zs (aX rs)
 few:rs.length<=40
 s1:1<=s
 s2:s<=240
 g:∀g∈bH n rs,0<=g
theorem Qs.same{CL:Addr}{H H':Hp}{x p dx:Addr}{n:Nat}{zs:List V}{rs:List Rw}{s:Nat}(h:Qs CL H x p dx n zs rs s)(sm:Same H H'):Qs CL H' x p dx n zs rs s:=⟨sm _ _ h.x,sm _ _ h.p,h.t.same sm,h.few,h.s1,h.s2,h.g⟩
def Ld(CL:Addr):Sp:=λvs H Q _=>∃(x p dx:Addr) (n:Nat) (zs:List V) (rs:List Rw) (s:Nat),vs=[.ref x,.int (s:Nat)]/\Qs CL H x p dx n zs rs s/\∀t l m ys us H',Same H H'->Tab H' t l m ys us (kZ rs (bH n rs) s rs.length) (gF rs (bH n rs) s rs.length).reverse->(∀a u,H a=some u->a≠m/\V.ref a ∉ ys)->V.ref m ∉ ys/\V.ref l ∉ ys/\l≠m->Q (.ref t) H'
theorem Vo{n:Nat}:∀(rs:List Rw) (g:List Int×Int),Asc rs->(∀r∈rs,g.2<=(r.st:Int)/\r.st+r.sz<=n)->(∀x∈g.1,0<=x)->g.2<=(n:Int) ->
  (∀x∈(rs.foldl (λg r=>(g.1++[(r.st:Int)-g.2],(r.st:Int)+(r.sz:Int))) g).1,0<=x)/\(rs.foldl (λg r=>(g.1++[(r.st:Int)-g.2],(r.st:Int)+(r.sz:Int))) g).2<=(n:Int)
 | [],g,_,_,h1,h2=>⟨h1,h2⟩
 | r::t,g,as,hr,h1,h2=>by
  rw[List.foldl_cons]
  obtain⟨a1,a2⟩:=List.pairwise_cons.mp as
  obtain⟨b1,b2⟩:=hr r List.mem_cons_self
  refine Vo t _ a2 (λs hs=>⟨?_,(hr s (List.mem_cons_of_mem _ hs)).2⟩) (λx hx=>?_) ?_
  ·have:=a1 s hs
   show (r.st:Int)+r.sz<=s.st
   lia
  ·rcases List.mem_append.mp hx with hx|hx
   ·exact h1 x hx
   ·rw[List.mem_singleton.mp hx]
    lia
  ·show (r.st:Int)+r.sz<=n
   lia
theorem pK{n:Nat}{rs:List Rw}(ly:Lay n rs)(as:Asc rs):∀g∈bH n rs,0<=g:=by
 obtain⟨h1,h2⟩:=Vo (n:=n) rs ([],0) as (λr hr=>⟨Int.natCast_nonneg _,(ly.good r hr).le⟩) (by simp) (Int.natCast_nonneg _)
 intro g hg
 unfold bH at hg
 rcases List.mem_append.mp hg with hg|hg
 ·exact h1 g hg
 ·rw[List.mem_singleton.mp hg]
  unfold gp
  lia
theorem gQ(n:Nat)(rs:List Rw):(bH n rs).length=rs.length+1:=by unfold bH;rw[List.length_append,vX];rfl
def gR(n:Nat)(rs:List Rw)(s k:Nat):List Chc:=(List.range k).flatMap λg:Nat=>chF ((g:Nat):Int) ((bH n rs).getD g 0) s (gw rs (bH n rs) s g) (eF rs (bH n rs) s (rs.length-g)) (s+1)
theorem zu(n:Nat)(rs:List Rw)(s k:Nat):gR n rs s (k+1)=gR n rs s k++chF (k:Int) ((bH n rs).getD k 0) s (gw rs (bH n rs) s k) (eF rs (bH n rs) s (rs.length-k)) (s+1):=by unfold gR;rw[List.range_succ,List.flatMap_append];simp
theorem Qt(n:Nat)(rs:List Rw)(s k:Nat):(gR n rs s k).length<=k*(s+1):=by
 induction k with
 | zero=>simp[gR]
 | succ k ih =>
  rw[zu,List.length_append,Nat.succ_mul]
  have:=Av (k:Int) ((bH n rs).getD k 0) s (gw rs (bH n rs) s k) (eF rs (bH n rs) s (rs.length-k)) (s+1)
  lia
def Ax(cs:List Chc):Option Chc:=cs[jH (cs.map chV) (cs.length-1)]?
def lcF(n:Nat)(rs:List Rw)(s:Int):Option Chc:=if (n:Int)<s then none else Ax (gR n rs s.toNat (rs.length+1))
theorem v9{cs:List Chc}(h:Ax cs=none):cs=[]:=by
 unfold Ax at h
 rw[List.getElem?_eq_none_iff] at h
 have:=tD (cs.map chV) (cs.length-1)
 exact List.eq_nil_of_length_eq_zero (by lia)
def wg(CL:Addr):Sp:=λvs H Q _=>∃(x p dx:Addr) (n:Nat) (zs:List V) (rs:List Rw) (s:Int),vs=[.ref x,.int s]/\LyH CL H x p dx n zs rs/\LyA rs n/\1<=s/\((lcF n rs s=none/\∀H',Same H H'->Q .non H')\/∃c,lcF n rs s=some c/\∀q H',Same H H'->H' q=some (.tup [.int c.1,.int c.2.1,.int c.2.2])->Q (.ref q) H')
theorem Um{rs:List Rw}{gs:List Int}{s g m:Nat}(h:g<=m):(kZ rs gs s m)[g]?=some (gw rs gs s g):=by
 unfold kZ
 rw[List.getElem?_map,List.getElem?_range (by lia)]
 rfl
theorem Qu{rs:List Rw}{gs:List Int}{s g m:Nat}(h:g<=m):(gF rs gs s m).reverse[g]?=some (eF rs gs s (m-g)):=by
 have hl:(gF rs gs s m).length=m+1:=by unfold gF;simp
 rw[List.getElem?_reverse (by lia),hl]
 unfold gF
 rw[List.getElem?_map,List.getElem?_range (by lia),show m+1-1-g=m-g by lia]
 rfl
section
variable{P:Program}{w:World}{K:W.Frag}{mg:Str->Option Value}{base:Heap}{c:Nat->Addr}{aF aq R CL CP CS:Addr}
theorem pL(T:Txt K mg c R CL CP CS aF aq):Def P w K mg base CX0 4 "prices" ["layout","size"] (Ld CL):=by
 have cR:=cR (P:=P) (w:=w) (base:=base) T
 have Ao:=Ao (P:=P) (w:=w) (base:=base) T
 have tM:=tM (P:=P) (w:=w) (base:=base) T
 refine bQ T.Dm yc (λvs H Q E h=>?_) (λ_ _ _ _ _ _=>el2 λ_ _=>rfl) (λf cdv A outer s H vs Q E hr h=>?_)
 ·obtain⟨x,p,dx,n,zs,rs,s,rfl,_⟩:=h
  rfl
 ·obtain⟨x,p,dx,n,zs,rs,s,rfl,ly,k⟩:=h
  have nd:=yc.nd
  refine⟨_,(au (cF (dG (cT (aJ cR hr (aj (pv 1) (aj aA (aj (nZ T.jL) ao)))))) cW bI)
   (aB (aV (cU (aj (aJ Ao hr (aj (pv 0) (aj (pv 1) ao))) (aj (aJ tM hr (aj (pv 0) (aj (pv 1) ao))) ao)))))),?_⟩
  clear nd cR Ao tM
  rw[show start ["layout","size"] [.ref x,.int (s:Nat)]=[some (.ref x),some (.int (s:Nat))] from rfl]
  try dsimp only[cO,bW]
  obtain⟨bD,bF,bG,aN,aU,aL,aD⟩:=zsix T
  have F:SH H [] H [] []:=SH.nil
  have sd1:=ly.s1
  have sd2:=ly.s2
  repeat k_meth
  rw[decide_eq_true (show (1:Int)<=(s:Int) by lia),decide_eq_true (show (s:Int)<=240 by lia),show (true && true)=true from rfl]
  repeat k_meth
  refine⟨x,p,dx,n,zs,rs,s,rfl,ly.x,ly.p,ly.t,ly.few,ly.s2,ly.g,λl ys H2 m2 hl ls fr nl=>?_⟩
  replace F:=F.same m2
  have ly2:=ly.same m2
  repeat k_meth
  refine⟨x,p,dx,n,zs,rs,s,rfl,ly2.x,ly2.p,ly2.t,ly2.few,ly2.s2,ly2.g,λm us H3 m3 hm ms fm nm=>?_⟩
  clear F
  have F:SH H3 [] H3 [] []:=SH.nil
  repeat k_meth
  refine k p_ l m ys us _ ((m2.trans m3).trans F.sm) ⟨aO,F.sm _ _ (m3 _ _ hl),ls.kept λq u _ e=>F.sm _ _ (m3 _ _ e),F.sm _ _ hm,ms.kept λq u _ e=>F.sm _ _ e⟩ (λa u e=>⟨(fm a u (m2 _ _ e)).1,(fr a u e).2⟩) ⟨λhh=>?_,nl,(fm l _ hl).1⟩
  obtain⟨u,hu⟩:=ls.has hh
  exact(fm m u hu).1 rfl
theorem tO(T:Txt K mg c R CL CP CS aF aq):Def P w K mg base CX0 5 "least_choice" ["layout","size"] (wg CL):=by
 have pL:=pL (P:=P) (w:=w) (base:=base) T
 have cg:=cg (P:=P) (w:=w) (base:=base) T
 have lX:=lX (P:=P) (w:=w) (base:=base) T
 refine bQ T.Jp CZ (λvs H Q E h=>?_) (λ_ _ _ _ _ _=>el2 λ_ _=>rfl) (λf cdv A outer s H vs Q E hr h=>?_)
 ·obtain⟨x,p,dx,n,zs,rs,s,rfl,_⟩:=h
  rfl
 ·obtain⟨x,p,dx,n,zs,rs,s,rfl,ly,lya,s1,kk⟩:=h
  have nd:=CZ.nd
  refine⟨_,(au (cF (bU jU (pv 1) (iD (pv 0) rfl) (bR _)) (aB (aV jz)) bI)
   (au (aP (i:=2) nd rfl (Or.inl rfl) (aJ pL hr (aj (pv 0) (aj (pv 1) ao))))
   (au (aP (i:=3) nd rfl (Or.inl rfl) (bV ao))
   (au (dX PassesOwn.never rfl (HN rfl T.kW (aj (aJ cg hr (aj (pv 0) ao)) ao)) (tX rfl (eG (bN (i:=4) nd rfl (Or.inl rfl)) (eG (bN (i:=5) nd rfl (Or.inl rfl)) nQ))) (aB (dw (Sx (pv 3) (aJ lX hr (aj (pv 4) (aj (pv 5) (aj (pv 1) (aj (aZ bO (aZ bT (pv 2) aA (λ_ _=>rfl)) (pv 4) (λ_ _=>rfl)) (aj (aZ bO (aZ bT (pv 2) aA (λ_ _=>rfl)) (pv 4) (λ_ _=>rfl)) ao))))))))))
   (aB (aV (N_ (KZ rfl hr) rfl T.Dw boot_min (aj (pv 3) ao) jz))))))),?_⟩
  clear nd pL cg lX
  rw[show start ["layout","size","tables","choices","gap","cells"] [.ref x,.int s]=[some (.ref x),some (.int s),none,none,none,none] from rfl]
  try dsimp only[cO,bW]
  have hx:=ly.x
  have hp:=ly.p
  have tp:=ly.t
  have few:=lya.l.few
  have mD:=lya.h
  have zl:zs.length=rs.length:=by rw[tp.1,bL]
  obtain⟨bD,bF,bG,aN,aU,aL,aD⟩:=zsix T
  have jh:=Old.mk (M:=[]) hx nm0
  have iT:=Old.mk (M:=[]) hp nm0
  have jx:=gk.mk tp
  have F:SH H [] H [] []:=SH.nil
  by_cases hs:(n:Int)<s
  ·have lc:lcF n rs s=none:=if_pos hs
   repeat k_meth
   rcases kk with⟨_,k⟩|⟨c,e,_⟩
   ·exact k _ F.sm
   ·rw[lc] at e
    cases e
  obtain⟨s,rfl⟩:∃s0:Nat,s=(s0:Int):=⟨s.toNat,by lia⟩
  have lys:Qs CL H x p dx n zs rs s:=⟨hx,hp,tp,few,by lia,by lia,pK lya.l lya.a⟩
  have gn:=pK lya.l lya.a
  have gl:=gQ n rs
  repeat k_meth
  refine⟨x,p,dx,n,zs,rs,s,rfl,lys,λt l m ys us H2 s2 tb _ _=>?_⟩
  clear F
  have F:SH H2 [] H2 [] []:=SH.nil
  have hx2:=s2 _ _ hx
  have hp2:=s2 _ _ hp
  have tp2:=tp.same s2
  have aft:=Old.mk (M:=[]) hx2 nm0
  have afu:=Old.mk (M:=[]) hp2 nm0
  have afv:=gk.mk tp2
  have tbt:=tb.t
  have tbl:=tb.l
  have tbm:=tb.m
  have o_t:=Old.mk (M:=[]) tbt nm0
  have o_l:=Old.mk (M:=[]) tbl nm0
  have o_m:=Old.mk (M:=[]) tbm nm0
  clear jh iT jx
  repeat k_meth
  obtain⟨gA,e⟩:∃z,z=p_:=⟨_,rfl⟩
  subst e
  obtain⟨co,e⟩:∃z,z=p_:=⟨_,rfl⟩
  subst e
  refine Ia (xs:=(bH n rs).map V.int) (λi σ' H'=>∃(o4 o5:Option V) (cs:List V),σ'=[some (.ref x),some (.int (s:Nat)),some (.ref t),some (.ref co),o4,o5]/\cs.length=(gR n rs s i).length/\SH H2 [] H' [(gA,.lst ((bH n rs).map V.int)),(co,.lst cs)] [.tps cs (jQ (gR n rs s i))]) ⟨_,_,[],rfl,rfl,(F.gH (ys:=[]) (rs:=jQ (gR n rs s 0)) aH.nil).sub SbC.s SbI.s⟩ ?_ ?_ ?_
  ·clear F
   rintro i σ' H' _ ⟨_,_,cs,rfl,cl,F⟩
   exact SqA.e
  ·clear F
   rintro i v T σ' H' H3 hv ⟨_,_,cs,rfl,cl,F⟩ nw
   rw[List.getElem?_map] at hv
   obtain⟨gv,hg,rfl⟩:∃gv,(bH n rs)[i]?=some gv/\v=.int gv:=by
    cases h:(bH n rs)[i]? with
    | none=>rw[h] at hv;cases hv
    | some g=>rw[h] at hv;exact⟨g,rfl,(Option.some.inj hv).symm⟩
   have hi:=(List.getElem?_eq_some_iff.mp hg).1
   obtain⟨ql,hl,el⟩:=tb.a.2 i _ (Um (by lia))
   obtain⟨qr,hr,er⟩:=tb.b.2 i _ (Qu (by lia))
   have af2:=Old.mk (M:=[]) el nm0
   have af3:=Old.mk (M:=[]) er nm0
   have a1:AtI ys ((i:Nat):Int) (.ref ql):=⟨cD hl⟩
   have a2:AtI us ((i:Nat):Int) (.ref qr):=⟨cD hr⟩
   have sd1:=And.intro (za rs (bH n rs) s i) (vZ rs (bH n rs) s (rs.length-i))
   have sd2:s<=240/\0<=gv:=⟨by lia,gn gv (List.mem_of_getElem? hg)⟩
   have cN:=zu n rs s i
   rw[List.getD_eq_getElem?_getD,hg] at cN
   have cN:gR n rs s (i+1)=gR n rs s i++chF (i:Int) gv s (gw rs (bH n rs) s i) (eF rs (bH n rs) s (rs.length-i)) (s+1):=cN
   have c1:=Qt n rs s i
   have c2:=Av (i:Int) gv s (gw rs (bH n rs) s i) (eF rs (bH n rs) s (rs.length-i)) (s+1)
   have c3:i*(s+1)<=41*241:=Nat.mul_le_mul (by lia) (by lia)
   replace F:=(F.same nw.s).Kz nw.e
   repeat k_meth
   have yl2:ys_.length=(chF (i:Int) gv s (gw rs (bH n rs) s i) (eF rs (bH n rs) s (rs.length-i)) (s+1)).length:=by assumption
   have t1:aH H_ (cs++ys_) (jQ (gR n rs s (i+1))):=by
    rw[cN,Ek]
    exact(F.tps (ys:=cs) (rs:=jQ (gR n rs s i)) (by simp)).app (F.tps (ys:=ys_) (by simp))
   exact⟨_,_,cs++ys_,rfl,by rw[cN,List.length_append,List.length_append,cl,yl2],(F.gH t1).sub SbC.s SbI.s⟩
  ·clear F
   rintro σ' H' ⟨_,_,cs,rfl,cl,F⟩
   rw[List.length_map,gl] at F cl
   repeat k_meth
   have lcE:lcF n rs (s:Int)=Ax (gR n rs s (rs.length+1)):=by unfold lcF;rw[if_neg hs];rfl
   have hco:H' co=some (.lst cs):=aO
   have tc:aH H' cs (((gR n rs s (rs.length+1)).map chV).map λr=>r.map V.int):=TpA.e
   refine⟨co,cs,(gR n rs s (rs.length+1)).map chV,rfl,rfl,hco,tc,λe=>?_,λne q hq=>?_⟩
   ·rcases kk with⟨_,k⟩|⟨c,e2,_⟩
    ·exact k _ (s2.trans F.sm)
    ·have:gR n rs s (rs.length+1)=[]:=by simpa using e
     rw[lcE,this] at e2
     cases e2
   ·rw[List.length_map] at hq
    rcases kk with⟨e2,_⟩|⟨c,e2,k⟩
    ·rw[lcE] at e2
     exact absurd (by rw[v9 e2];rfl) ne
    ·rw[lcE] at e2
     have e3:(((gR n rs s (rs.length+1)).map chV).map λr=>r.map V.int)[jH ((gR n rs s (rs.length+1)).map chV) ((gR n rs s (rs.length+1)).length-1)]?=some ((chV c).map V.int):=by
      rw[List.getElem?_map,List.getElem?_map,show (gR n rs s (rs.length+1))[jH ((gR n rs s (rs.length+1)).map chV) ((gR n rs s (rs.length+1)).length-1)]?=some c from e2]
      rfl
     obtain⟨q2,f1,f2⟩:=tc.2 _ _ e3
     rw[hq] at f1
     cases f1
     exact k q _ (s2.trans F.sm) f2
end
open M22 M82 M87 M75
theorem El{f b:Int}{B:List Rw}(h:∀r∈B,f<=(r.st:Int)/\(r.st:Int)<b):B.filter (within f b)=B:=List.filter_eq_self.mpr λr hr=>by
 have:=h r hr
 unfold within
 rw[decide_eq_true this.1,decide_eq_true this.2]
 rfl
theorem rG{f b:Int}{B:List Rw}(h:∀r∈B,(r.st:Int)<f\/b<=(r.st:Int)):B.filter (within f b)=[]:=List.filter_eq_nil_iff.mpr λr hr=>by
 unfold within
 rcases h r hr with h|h
 ·rw[decide_eq_false (by lia)];simp
 ·rw[decide_eq_false (p:=(r.st:Int)<b) (by lia)];simp
theorem Uo{n:Nat}{r0:List Rw}(ok:OkA 0 n r0):∀(rs A B:List Rw) (f u:Int) (g:List W3),r0=A++B++rs->(∀a∈A,(a.st:Int)<f)->(∀b∈B,f<=(b.st:Int))->(∀s∈rs,f<=(s.st:Int))->u=(B.map λr=>(r.sz:Int)).sum ->
  (rs.foldl (λg r=>if 0<r.pn then (g.1++[(g.2,(r.st:Int),dZ r0 g.2 r.st)],(r.st:Int)+(r.sz:Int)) else g) (g,f)).1++[((rs.foldl (λg r=>if 0<r.pn then (g.1++[(g.2,(r.st:Int),dZ r0 g.2 r.st)],(r.st:Int)+(r.sz:Int)) else g) (g,f)).2,(n:Int),dZ r0 (rs.foldl (λg r=>if 0<r.pn then (g.1++[(g.2,(r.st:Int),dZ r0 g.2 r.st)],(r.st:Int)+(r.sz:Int)) else g) (g,f)).2 n)]=g++iQ n f u rs:=by
 intro rs
 induction rs with
 | nil =>
  intro A B f u g e hA hB _ hu
  have:dZ r0 f n=(n:Int)-f-u:=by
   unfold dZ
   rw[e,List.append_nil,List.filter_append,rG λr hr=>.inl (hA r hr),El λr hr=>⟨hB r hr,by have:=ok.bd r (by rw[e];simp[hr]);lia⟩,List.nil_append,hu]
  show g++[(f,(n:Int),dZ r0 f n)]=_
  rw[this]
  rfl
 | cons r rs ih =>
  intro A B f u g e hA hB hs hu
  have aw:=ok.asc
  rw[e,List.pairwise_append] at aw
  have aw2:=List.pairwise_cons.mp aw.2.1
  have br:=ok.bd r (by rw[e];simp)
  rw[List.foldl_cons]
  by_cases hp:0<r.pn
  ·have:dZ r0 f r.st=(r.st:Int)-f-u:=by
    unfold dZ
    rw[e,List.filter_append,List.filter_append,rG λr hr=>.inl (hA r hr),El λb hb=>⟨hB b hb,by have:=aw.2.2 b (by simp[hb]) r (by simp);have:=ok.bd b (by rw[e];simp[hb]);lia⟩,rG (B:=r::rs) λs hs=>.inr (by
     rcases List.mem_cons.mp hs with rfl|hs
     ·lia
     ·have:=aw2.1 s hs;lia),List.nil_append,List.append_nil,hu]
   rw[iQ,if_pos hp]
   simp only[if_pos hp,this]
   have i:=ih (A++B++[r]) [] ((r.st:Int)+(r.sz:Int)) 0 (g++[(f,(r.st:Int),(r.st:Int)-f-u)]) (by rw[e];simp) (λa ha=>by
    rcases List.mem_append.mp ha with ha|ha
    ·have:=aw.2.2 a ha r (by simp);lia
    ·rw[List.mem_singleton.mp ha];lia) (λb hb=>by cases hb) (λs hs=>by have:=aw2.1 s hs;lia) rfl
   rw[i,List.append_assoc]
   rfl
  ·rw[iQ,if_neg hp]
   simp only[if_neg hp]
   exact ih A (B++[r]) f (u+(r.sz:Int)) g (by rw[e];simp) hA (λb hb=>by
    rcases List.mem_append.mp hb with hb|hb
    ·exact hB b hb
    ·rw[List.mem_singleton.mp hb];exact hs r (.head _)) (λs h=>hs s (.tail _ h)) (by rw[List.map_append,List.sum_append,<- hu];simp)
theorem G3{n:Nat}{rs:List Rw}(ok:OkA 0 n rs):c7 n rs=iQ n 0 0 rs:=Uo ok rs [] [] 0 0 [] rfl (λa h=>by cases h) (λa h=>by cases h) (λs _=>by lia) rfl
def abH(rs:List Rw)(gs:List Int)(s g:Nat):PR:=(List.range (s+1)).map λx=>cB ((rs.take g).reverse.zip (gs.take g).reverse) (x:Nat)
def abI(rs:List Rw)(gs:List Int)(s g:Nat):PR:=(List.range (s+1)).map λx=>cB ((rs.drop g).zip (gs.drop (g+1))) (x:Nat)
def psh(bs:List (Rw×Int))(s:Nat):PR:=(List.range (s+1)).map λx=>cB bs (x:Nat)
theorem JG(s:Nat):psh [] s=ji s:=by
 unfold psh ji
 rw[List.range_succ_eq_map,List.map_cons,List.map_map]
 congr 1
 refine List.eq_replicate_iff.mpr ⟨by simp,λo ho=>?_⟩
 obtain⟨x,_,rfl⟩:=List.mem_map.mp ho
 show cB [] ((x+1:Nat):Int)=none
 unfold cB
 rw[if_neg (by lia)]
theorem JH{r:Rw}{c:Int}{bs:List (Rw×Int)}{s:Nat}(c0:0<=c):psh ((r,c)::bs) s=nM r (psh bs s) c s:=by
 unfold nM
 have hx:∀x:Nat,cB ((r,c)::bs) ((x+1:Nat):Int)=if 0<r.pn then none else (cB bs (((x+1:Nat):Int)-c)).map λy=>(r.sz:Int)+y:=λx=>by
  rw[cB,if_neg (by lia)]
 have h0:cB ((r,c)::bs) ((0:Nat):Int)=some 0:=lG (by lia)
 by_cases hp:0<r.pn
 ·rw[if_pos hp]
  unfold psh ji
  rw[List.range_succ_eq_map,List.map_cons,List.map_map,h0]
  congr 1
  refine List.eq_replicate_iff.mpr ⟨by simp,λo ho=>?_⟩
  obtain⟨x,_,rfl⟩:=List.mem_map.mp ho
  show cB ((r,c)::bs) ((x+1:Nat):Int)=none
  rw[hx,if_pos hp]
 ·rw[if_neg hp]
  unfold psh
  rw[List.range_succ_eq_map,List.map_cons,List.map_map,h0]
  congr 1
  refine List.map_congr_left λx hxs=>?_
  have hxs:=List.mem_range.mp hxs
  show cB ((r,c)::bs) ((x+1:Nat):Int)=_
  rw[hx,if_neg hp]
  unfold GX
  have hi:((((x+1:Nat):Int))-c).toNat<s+1:=by lia
  rw[<- List.range_succ_eq_map,List.getElem?_map,List.getElem?_range hi]
  show _=(cB bs ((((((x+1:Nat):Int))-c).toNat:Nat):Int)).map _
  by_cases hc:c<=((x+1:Nat):Int)
  ·rw[show ((((((x+1:Nat):Int))-c).toNat:Nat):Int)=((x+1:Nat):Int)-c by lia]
  ·rw[lG (x:=((x+1:Nat):Int)-c) (by lia),lG (by lia)]
theorem Em{rs:List Rw}{gs:List Int}{s:Nat}(hl:gs.length=rs.length+1)(hg:∀g∈gs,0<=g):∀i,i<=rs.length->gw rs gs s i=abH rs gs s i
 | 0,_=>by
  show ji s=psh _ s
  simp[JG]
 | i+1,hi=>by
  have hr:rs[i]?=some rs[i]:=List.getElem?_eq_getElem (by lia)
  have hc:gs[i]?=some gs[i]:=List.getElem?_eq_getElem (by lia)
  have ih:=Em (s:=s) hl hg i (by lia)
  rw[gw,hr,ih,List.getD_eq_getElem?_getD,hc]
  show nM rs[i] (psh _ s) gs[i] s=psh _ s
  rw[<- JH (hg _ (List.getElem_mem _))]
  have e1:rs.take (i+1)=rs.take i++[rs[i]]:=by rw[List.take_succ,hr];rfl
  have e2:gs.take (i+1)=gs.take i++[gs[i]]:=by rw[List.take_succ,hc];rfl
  rw[e1,e2,List.reverse_append,List.reverse_append]
  rfl
theorem zx{rs:List Rw}{gs:List Int}{s:Nat}(hl:gs.length=rs.length+1)(hg:∀g∈gs,0<=g):∀i,i<=rs.length->eF rs gs s i=abI rs gs s (rs.length-i)
 | 0,_=>by
  show ji s=psh _ s
  simp[JG]
 | i+1,hi=>by
  have hr:rs[rs.length-1-i]?=some rs[rs.length-1-i]:=List.getElem?_eq_getElem (by lia)
  have hc:gs[rs.length-i]?=some gs[rs.length-i]:=List.getElem?_eq_getElem (by lia)
  have ih:=zx (s:=s) hl hg i (by lia)
  rw[eF,hr,ih,List.getD_eq_getElem?_getD,hc]
  show nM rs[rs.length-1-i] (psh _ s) gs[rs.length-i] s=psh _ s
  rw[<- JH (hg _ (List.getElem_mem _))]
  congr 1
  have e1:rs.drop (rs.length-(i+1))=rs[rs.length-1-i]::rs.drop (rs.length-i):=by
   rw[show rs.length-(i+1)=rs.length-1-i by lia,List.drop_eq_getElem_cons (by lia),show rs.length-1-i+1=rs.length-i by lia]
  have e2:gs.drop (rs.length-(i+1)+1)=gs[rs.length-i]::gs.drop (rs.length-i+1):=by
   rw[show rs.length-(i+1)+1=rs.length-i by lia,List.drop_eq_getElem_cons (by lia)]
  rw[e1,e2,List.zip_cons_cons]
theorem JK{n:Nat}{rs:List Rw}(ly:Lay n rs):∀w∈c7 n rs,w.2.2<=(n:Int):=by
 have sm:∀a b:Int,dZ rs a b<=b-a:=λa b=>by
  have:0<=((rs.filter (within a b)).map λr=>(r.sz:Int)).sum:=by
   have h:∀l:List Int,(∀x∈l,0<=x)->0<=l.sum:=λl=>by
    induction l with
    | nil=>intro _;simp
    | cons a t ih=>intro h;have:=h a List.mem_cons_self;have:=ih λx hx=>h x (List.mem_cons_of_mem _ hx);rw[List.sum_cons];lia
   refine h _ λx hx=>?_
   obtain⟨r,_,rfl⟩:=List.mem_map.mp hx
   exact Int.natCast_nonneg _
  unfold dZ
  lia
 have aux:∀pre:List Rw,(∀r∈pre,r∈rs)->0<=(spF rs pre).2/\∀w∈(spF rs pre).1,w.2.2<=(n:Int):=by
  intro pre
  induction pre using Vm with
  | h0=>intro _;exact⟨Int.le_refl _,λw hw=>by cases hw⟩
  | h1 pre r ih =>
   intro hm
   have hi:=ih λs hs=>hm s (List.mem_append_left _ hs)
   have g:=(ly.good r (hm r (by simp))).le
   rw[gO]
   split
   ·refine⟨by show (0:Int)<=(r.st:Int)+(r.sz:Int);lia,λw hw=>?_⟩
    rcases List.mem_append.mp hw with hw|hw
    ·exact hi.2 w hw
    ·rw[List.mem_singleton.mp hw]
     have:=sm (spF rs pre).2 r.st
     have:=hi.1
     show dZ rs (spF rs pre).2 r.st<=n
     lia
   ·exact hi
 intro w hw
 have a:=aux rs λr hr=>hr
 rcases List.mem_append.mp hw with hw|hw
 ·exact a.2 w hw
 ·rw[List.mem_singleton.mp hw]
  have:=sm (spF rs rs).2 n
  show dZ rs (spF rs rs).2 n<=n
  lia
theorem G4(n:Nat)(rs:List Rw):bH n rs=qM n 0 rs:=by
 have h:∀(rs:List Rw) (acc:List Int) (e:Nat),(rs.foldl (λg r=>(g.1++[(r.st:Int)-g.2],(r.st:Int)+(r.sz:Int))) (acc,(e:Int))).1++[(n:Int)-(rs.foldl (λg r=>(g.1++[(r.st:Int)-g.2],(r.st:Int)+(r.sz:Int))) (acc,(e:Int))).2]=acc++qM n e rs:=by
  intro rs
  induction rs with
  | nil=>intro acc e;rfl
  | cons r t ih =>
   intro acc e
   rw[List.foldl_cons]
   have:=ih (acc++[(r.st:Int)-(e:Int)]) (r.st+r.sz)
   rw[Int.natCast_add] at this
   show _++[_-_]=_
   rw[this,List.append_assoc]
   rfl
 exact(h rs [] 0).trans (List.nil_append _)
theorem JL{α β:Type}:∀{a:List α} {b:List β},a.length=b.length->a.reverse.zip b.reverse=(a.zip b).reverse
 | [],[],_=>rfl
 | [],_::_,h=>absurd h (by simp)
 | _::_,[],h=>absurd h (by simp)
 | x::a,y::b,h=>by
  rw[List.reverse_cons,List.reverse_cons,List.zip_append (by simpa using h),JL (by simpa using h)]
  show _++[(x,y)]=((x,y)::a.zip b).reverse
  rw[List.reverse_cons]
theorem zy{n:Nat}{rs:List Rw}{s g b:Nat}(lya:LyA rs n)(hg:g<=rs.length)(hb:b<=s):(gw rs (bH n rs) s g)[b]?=some (cB (lg (rs.take g).reverse) (b:Nat)):=by
 rw[Em (gQ n rs) (pK lya.l lya.a) g hg]
 unfold abH
 rw[List.getElem?_map,List.getElem?_range (by lia)]
 have e:(rs.take g).length=((bH n rs).take g).length:=by rw[List.length_take,List.length_take,gQ];lia
 rw[JL e,G4,TV n hg]
 rfl
theorem G5{n:Nat}{rs:List Rw}{s g y:Nat}(lya:LyA rs n)(hg:g<=rs.length)(hy:y<=s):(eF rs (bH n rs) s (rs.length-g))[y]?=some (cB (rg n (rs.drop g)) (y:Nat)):=by
 rw[zx (gQ n rs) (pK lya.l lya.a) _ (Nat.sub_le _ _)]
 unfold abI
 rw[List.getElem?_map,List.getElem?_range (by lia),show rs.length-(rs.length-g)=g by lia,G4,Il]
 rfl
def jW(n:Nat)(rs:List Rw)(g:Nat):Int:=(iu n (rs.drop g):Int)-(edR (rs.take g).reverse:Int)
theorem wj{n:Nat}{rs:List Rw}{g:Nat}(hg:g<=rs.length):(bH n rs)[g]?=some (jW n rs g):=by
 rw[G4,Io n rs g 0 hg]
 unfold jW
 rw[tE]
structure Uq(n:Nat)(rs:List Rw)(s:Nat)(c:Chc)(g b:Nat):Prop where
 eg:c.2.1=(g:Int)
 eb:c.2.2=(b:Int)
 hg:g<=rs.length
 hb:b<=s
 ex:∃u v,cB (lg (rs.take g).reverse) (b:Nat)=some u/\cB (rg n (rs.drop g)) (max 0 ((s:Int)-jW n rs g-(b:Int)))=some v/\c.1=u+v
theorem Ur{g b:Int}{u v:Option Int}{c:Chc}(h:c∈ch2 g b u v):∃x y,u=some x/\v=some y/\c=(x+y,g,b):=by
 cases u with
 | none=>cases h
 | some x =>
  cases v with
  | none=>cases h
  | some y=>exact⟨x,y,rfl,rfl,List.mem_singleton.mp h⟩
theorem En{n:Nat}{rs:List Rw}{s:Nat}(lya:LyA rs n)(c:Chc):c∈gR n rs s (rs.length+1) ↔ ∃g b,Uq n rs s c g b:=by
 have gp:=λg (hg:g<=rs.length)=>wj (n:=n) hg
 have nn:=pK lya.l lya.a
 have idx:∀g b:Nat,g<=rs.length->b<=s->((eF rs (bH n rs) s (rs.length-g))[(max 0 ((s:Int)-jW n rs g-(b:Int))).toNat]?).getD none=cB (rg n (rs.drop g)) (max 0 ((s:Int)-jW n rs g-(b:Int))):=λg b hg hb=>by
  have h0:=nn _ (List.mem_of_getElem? (gp g hg))
  rw[G5 lya hg (by lia),Option.getD_some]
  congr 1
  lia
 constructor
 ·intro h
  obtain⟨g,hg,h⟩:=List.mem_flatMap.mp h
  have hg:=List.mem_range.mp hg
  have hg:g<=rs.length:=by lia
  obtain⟨b,hb,h⟩:=List.mem_flatMap.mp h
  have hb:=List.mem_range.mp hb
  have hb:b<=s:=by lia
  rw[List.getD_eq_getElem?_getD,gp g hg,Option.getD_some] at h
  obtain⟨u,v,e1,e2,rfl⟩:=Ur h
  rw[zy lya hg hb,Option.getD_some] at e1
  rw[idx g b hg hb] at e2
  exact⟨g,b,rfl,rfl,hg,hb,u,v,e1,e2,rfl⟩
 ·rintro ⟨g,b,⟨eg,eb,hg,hb,u,v,e1,e2,e3⟩⟩
  refine List.mem_flatMap.mpr ⟨g,List.mem_range.mpr (by lia),List.mem_flatMap.mpr ⟨b,List.mem_range.mpr (by lia),?_⟩⟩
  rw[List.getD_eq_getElem?_getD,gp g hg,Option.getD_some]
  unfold chA
  rw[zy lya hg hb,Option.getD_some,idx g b hg hb,e1,e2]
  show c∈[(u+v,(g:Int),(b:Int))]
  rw[List.mem_singleton,<- e3,<- eg,<- eb]
theorem JM{n:Nat}{rs:List Rw}{s:Nat}{c:Chc}(lya:LyA rs n)(h:lcF n rs (s:Int)=some c):s<=n/\∃g b,Uq n rs s c g b:=by
 unfold lcF at h
 by_cases hs:(n:Int)<(s:Int)
 ·rw[if_pos hs] at h;cases h
 ·rw[if_neg hs] at h
  exact⟨by lia,(En lya c).mp (List.mem_of_getElem? h)⟩
theorem Us{n:Nat}{rs:List Rw}{s:Nat}(lya:LyA rs n):lcF n rs (s:Int)=none ↔ ∀w∈c7 n rs,w.2.2<(s:Int):=by
 have ri:=Pq (s:=(s:Int)) lya.ok (by lia)
 rw[<- G3 lya.ok] at ri
 have le:=JK lya.l
 constructor
 ·intro h w hw
  by_cases hs:(n:Int)<(s:Int)
  ·have:=le w hw;lia
  ·by_cases l:w.2.2<(s:Int)
   ·exact l
   ·exfalso
    obtain⟨g,hg,b,b0,bs,h1,h2⟩:=ri.mpr ⟨w,hw,by lia⟩
    unfold lcF at h
    rw[if_neg hs] at h
    have hn:gR n rs s (rs.length+1)=[]:=v9 h
    obtain⟨u,hu⟩:=Option.ne_none_iff_exists'.mp h1
    obtain⟨v,hv⟩:=Option.ne_none_iff_exists'.mp h2
    have bb:((b.toNat:Nat):Int)=b:=by lia
    have:(u+v,(g:Int),b)∈gR n rs s (rs.length+1):=(En lya _).mpr ⟨g,b.toNat,rfl,bb.symm,hg,by lia,u,v,by rw[bb];exact hu,by rw[bb];exact hv,rfl⟩
    rw[hn] at this
    cases this
 ·intro h
  cases e:lcF n rs (s:Int) with
  | none=>rfl
  | some c =>
   exfalso
   obtain⟨_,g,b,⟨eg,eb,hg,hb,u,v,e1,e2,e3⟩⟩:=JM lya e
   obtain⟨w,hw,l⟩:=ri.mp ⟨g,hg,(b:Int),by lia,by lia,by rw[e1];simp,by rw[show (s:Int)-((iu n (rs.drop g):Int)-(edR (rs.take g).reverse:Int))-(b:Int)=(s:Int)-jW n rs g-(b:Int) from rfl,e2];simp⟩
   have:=h w hw
   lia
abbrev mvS(s:Sp2):List V:=[.str (tx s.1.nm),.int s.2]
abbrev gq(ss:List Sp2):List (List V):=ss.map mvS
open M22 M82 M87 M75
def zA(CL:Addr):Sp:=λvs H Q _=>∃(x p dx:Addr) (n:Nat) (zs:List V) (rs:List Rw) (g b:Nat),vs=[.ref x,.int (g:Nat),.int (b:Nat)]/\LyH CL H x p dx n zs rs/\LyA rs n/\g<=rs.length/\cB (lg (rs.take g).reverse) (b:Nat)≠none/\∀q ys H',New H H' q (.lst ys)->aH H' ys (gq (ml (lft (rs.take g).reverse (b:Nat))).reverse)->Q (.ref q) H'
def wu(CL:Addr):Sp:=λvs H Q _=>∃(x p dx:Addr) (n:Nat) (zs:List V) (rs:List Rw) (g:Nat) (y:Int),vs=[.ref x,.int (g:Nat),.int y]/\LyH CL H x p dx n zs rs/\LyA rs n/\g<=rs.length/\cB (rg n (rs.drop g)) y≠none/\∀q ys H',New H H' q (.lst ys)->aH H' ys (gq (mr (rgt n (rs.drop g) y)).reverse)->Q (.ref q) H'
def zB(CL:Addr):Sp:=λvs H Q _=>∃(x p dx:Addr) (n:Nat) (zs:List V) (rs:List Rw) (g:Nat),vs=[.ref x,.int (g:Nat)]/\LyH CL H x p dx n zs rs/\LyA rs n/\g<=rs.length/\∀t H',Same H H'->H' t=some (.tup [.int (edR (rs.take g).reverse:Nat),.int (jW n rs g)])->Q (.ref t) H'
theorem Eo(a:List Sp2):(gq a).length=a.length:=List.length_map ..
theorem Ep(a:List Sp2):gq a.reverse=(gq a).reverse:=List.map_reverse
theorem JN:∀(D:List Rw) (x:Int),(lft D x).length=D.length
 | [],_=>rfl
 | _::D,_=>by show (lft D _).length+1=_;rw[JN D];rfl
theorem JQ(n:Nat):∀(D:List Rw) (x:Int),(rgt n D x).length=D.length
 | [],_=>rfl
 | _::D,_=>by show (rgt n D _).length+1=_;rw[JQ n D];rfl
theorem wz{rs:List Rw}{k:Nat}{r:Rw}(h:rs[k]?=some r):(rs.take (k+1)).reverse=r::(rs.take k).reverse:=by
 rw[List.take_succ,h,Option.toList_some,List.reverse_append]
 rfl
theorem drop_cons{rs:List Rw}{k:Nat}{r:Rw}(h:rs[k]?=some r):rs.drop k=r::rs.drop (k+1):=by
 obtain⟨hk,e⟩:=List.getElem?_eq_some_iff.mp h
 rw[<- e]
 exact List.drop_eq_getElem_cons hk
theorem Er{n:Nat}{rs:List Rw}(ok:OkA 0 n rs)(k:Nat):OkD n (rs.take k).reverse:=by
 have ok2:OkA 0 n (rs.take k++rs.drop k):=by rw[List.take_append_drop];exact ok
 exact(iU ok2).1.rev
theorem Es{n:Nat}{rs:List Rw}(ok:OkA 0 n rs)(k:Nat):OkA (j_ 0 (rs.take k)) n (rs.drop k):=by
 have ok2:OkA 0 n (rs.take k++rs.drop k):=by rw[List.take_append_drop];exact ok
 exact(iU ok2).2
theorem Ut{n:Nat}{rs:List Rw}{k:Nat}{r:Rw}(h:rs[k]?=some r):(bH n rs)[k]?=some ((r.st:Int)-(edR (rs.take k).reverse:Int)):=by
 rw[wj (by have:=(List.getElem?_eq_some_iff.mp h).1;lia)]
 unfold jW
 rw[drop_cons h]
 rfl
theorem Uu{n:Nat}{rs:List Rw}{k:Nat}{r:Rw}(h:rs[k]?=some r):(bH n rs)[k+1]?=some ((iu n (rs.drop (k+1)):Int)-((r.st:Int)+(r.sz:Int))):=by
 rw[wj (by have:=(List.getElem?_eq_some_iff.mp h).1;lia)]
 unfold jW
 rw[wz h]
 show some ((iu n (rs.drop (k+1)):Int)-((r.st+r.sz:Nat):Int))=_
 rw[Int.natCast_add]
section
variable{P:Program}{w:World}{K:W.Frag}{mg:Str->Option Value}{base:Heap}{c:Nat->Addr}{aF aq R CL CP CS:Addr}
theorem pN(T:Txt K mg c R CL CP CS aF aq):Def P w K mg base CX0 3 "slides_to_lesser" ["layout","gap","by"] (zA CL):=by
 have bf:=bf (P:=P) (w:=w) (base:=base) T
 have cg:=cg (P:=P) (w:=w) (base:=base) T
 refine bQ T.Dn yg (λvs H Q E h=>?_) (λ_ _ _ _ _ _=>el3 λ_ _ _=>rfl) (λf cdv A outer s H vs Q E hr h=>?_)
 ·obtain⟨x,p,dx,n,zs,rs,g,b,rfl,_⟩:=h
  rfl
 ·obtain⟨x,p,dx,n,zs,rs,g,b,rfl,ly,lya,hg,hb,k⟩:=h
  have nd:=yg.nd
  refine⟨_,(au (aP (i:=3) nd rfl (Or.inl rfl) (fB (pv 0) T.clL bf hr))
   (au (aP (i:=4) nd rfl (Or.inl rfl) (aJ cg hr (aj (pv 0) ao)))
   (au (aP (i:=5) nd rfl (Or.inl rfl) (bV ao))
   (au (aP (i:=6) nd rfl (Or.inl rfl) (aR cP (pv 1) aA))
   (au (tY PassesOwn.never (bU jU (pv 2) aA (bR _)) (au (dw (cX (pv 5) (cU (aj (aZ bT (aZ bO (pv 3) (pv 6) (λ_ _=>rfl)) aA (λ_ _=>rfl)) (aj (aR cP (aZ bT (aZ bO (pv 3) (pv 6) (λ_ _=>rfl)) aA (λ_ _=>rfl)) (pv 2)) ao)))))
    (au (aP (i:=2) nd rfl (Or.inl rfl) (aR cP (pv 2) (aZ bO (pv 4) (pv 6) (λ_ _=>rfl))))
    (aB (aP (i:=6) nd rfl (Or.inl rfl) (aR cP (pv 6) aA))))))
   (aB (aV (m5 rfl rfl T.fG rfl T.jK (aj (pv 5) ao))))))))),?_⟩
  clear nd bf cg
  rw[show start ["layout","gap","by","blocks","gaps","moves","at"] [.ref x,.int (g:Nat),.int (b:Nat)]=[some (.ref x),some (.int (g:Nat)),some (.int (b:Nat)),none,none,none,none] from rfl]
  try dsimp only[cO,bW]
  have hx:=ly.x
  have hp:=ly.p
  have tp:=ly.t
  have few:=lya.l.few
  have mD:=lya.h
  have zl:zs.length=rs.length:=by rw[tp.1,bL]
  obtain⟨bD,bF,bG,aN,aU,aL,aD⟩:=zsix T
  have jh:=Old.mk (M:=[]) hx nm0
  have iT:=Old.mk (M:=[]) hp nm0
  have jx:=gk.mk tp
  have F:SH H [] H [] []:=SH.nil
  have gl:=gQ n rs
  repeat k_meth
  obtain⟨mv_,e⟩:∃z,z=p_:=⟨_,rfl⟩
  subst e
  obtain⟨gA,e⟩:∃z,z=p_:=⟨_,rfl⟩
  subst e
  obtain⟨bA,e⟩:∃z,z=p_:=⟨_,rfl⟩
  subst e
  refine Aj (λq σ' H'=>∃(x':Int) (dn:List Sp2) (ys:List V),σ'=[some (.ref x),some (.int (g:Nat)),some (.int x'),some (.ref bA),some (.ref gA),some (.ref mv_),some (.int ((q:Nat)-1:Int))]/\q<=g/\cB (lg (rs.take q).reverse) x'≠none/\dn++ml (lft (rs.take q).reverse x')=ml (lft (rs.take g).reverse (b:Nat))/\ys.length=dn.length/\dn.length+q<=g/\SH H [] H' [(mv_,.lst ys),(gA,.lst ((bH n rs).map V.int)),(bA,.lst zs)] [.tps ys (gq dn)]) ⟨g,(b:Nat),[],[],rfl,Nat.le_refl _,hb,List.nil_append _,rfl,by simp,(F.gH (ys:=[]) (rs:=gq []) aH.nil).sub SbC.s SbI.s⟩ ?_
  clear F
  rintro q σ' H' ⟨x',dn,ys,rfl,qg,sG,dne,yl,dl,F⟩
  repeat k_meth
  refine fW (λh=>?_) (λh=>?_)
  ·obtain⟨q0,rfl⟩:∃q0,q=q0+1:=⟨q-1,by
    cases q with
    | zero=>have:=kh (show cB [] x'≠none from sG);lia
    | succ q=>rfl⟩
   obtain⟨r,hr⟩:∃r,rs[q0]?=some r:=⟨_,List.getElem?_eq_getElem (by lia)⟩
   have od:=Er lya.ok (q0+1)
   rw[wz hr] at sG dne od
   have el:=Cv od
   have pc:=iy sG (by lia)
   rw[Pj h] at dne
   obtain⟨q1,e1,e2⟩:∃q1,zs[q0]?=some (.ref q1)/\H q1=some (.tup (d8 r)):=tp.2 q0 _ (by unfold aX;rw[List.getElem?_map,hr];rfl)
   have vV:=Old.mk (M:=[]) e2 nm0
   have a1:AtI zs (((q0+1:Nat):Int)-1) (.ref q1):=⟨by rw[show (((q0+1:Nat):Int)-1)=((q0:Nat):Int) by lia];exact cD e1⟩
   have a2:AtI ((bH n rs).map V.int) (((q0+1:Nat):Int)-1) (.int ((r.st:Int)-(edR (rs.take q0).reverse:Int))):=⟨by rw[show (((q0+1:Nat):Int)-1)=((q0:Nat):Int) by lia];exact cD (by rw[List.getElem?_map,Ut hr];rfl)⟩
   refine⟨λσ' H'=>∃m',m'<q0+1/\_,λσ' H' h=>h,?_⟩
   repeat k_meth
   have F2:=SH.app (ys:=ys) (rs:=gq dn) (q:=p_) (r:=[V.str (tx r.nm),V.int ((r.st:Int)-x')]) F (LkP.m) (LkI.m)
   rw[show gq dn++[[V.str (tx r.nm),V.int ((r.st:Int)-x')]]=gq (dn++[(r,(r.st:Int)-x')]) by unfold gq;rw[List.map_append];rfl] at F2
   rw[show (((q0+1:Nat):Int)-1-1)=((q0:Nat):Int)-1 by lia]
   exact⟨q0,by lia,_,dn++[(r,(r.st:Int)-x')],ys++[.ref p_],rfl,by lia,pc.1,by rw[List.append_assoc];exact dne,by rw[List.length_append,List.length_append,yl];rfl,by rw[List.length_append];show dn.length+1+q0<=g;lia,F2.sub SbC.s SbI.s⟩
  ·rw[Cw _ _ _ (Er lya.ok q) (by lia),List.append_nil] at dne
   subst dne
   repeat k_meth
   refine⟨mv_,ys,rfl,SqA.e,λl H2 nw=>?_⟩
   have tr:aH H' ys.reverse (gq (ml (lft (rs.take g).reverse (b:Nat))).reverse):=by rw[Ep];exact(TpA.e (H:=H')).rev
   replace F:=F.newL nw
   exact k l _ _ SH.nwC (tr.same nw.s)
theorem lY(T:Txt K mg c R CL CP CS aF aq):Def P w K mg base CX0 3 "slides_to_greater" ["layout","gap","by"] (wu CL):=by
 have bf:=bf (P:=P) (w:=w) (base:=base) T
 have cg:=cg (P:=P) (w:=w) (base:=base) T
 refine bQ T.yH vm (λvs H Q E h=>?_) (λ_ _ _ _ _ _=>el3 λ_ _ _=>rfl) (λf cdv A outer s H vs Q E hr h=>?_)
 ·obtain⟨x,p,dx,n,zs,rs,g,y,rfl,_⟩:=h
  rfl
 ·obtain⟨x,p,dx,n,zs,rs,g,y,rfl,ly,lya,hg,hb,k⟩:=h
  have nd:=vm.nd
  refine⟨_,(au (aP (i:=3) nd rfl (Or.inl rfl) (fB (pv 0) T.clL bf hr))
   (au (aP (i:=4) nd rfl (Or.inl rfl) (aJ cg hr (aj (pv 0) ao)))
   (au (aP (i:=5) nd rfl (Or.inl rfl) (bV ao))
   (au (aP (i:=6) nd rfl (Or.inl rfl) (pv 1))
   (au (tY PassesOwn.never (bU jU (pv 2) aA (bR _)) (au (dw (cX (pv 5) (cU (aj (aZ bT (aZ bO (pv 3) (pv 6) (λ_ _=>rfl)) aA (λ_ _=>rfl)) (aj (aR cG (aZ bT (aZ bO (pv 3) (pv 6) (λ_ _=>rfl)) aA (λ_ _=>rfl)) (pv 2)) ao)))))
    (au (aP (i:=6) nd rfl (Or.inl rfl) (aR cG (pv 6) aA))
    (aB (aP (i:=2) nd rfl (Or.inl rfl) (aR cP (pv 2) (aZ bO (pv 4) (pv 6) (λ_ _=>rfl))))))))
   (aB (aV (m5 rfl rfl T.fG rfl T.jK (aj (pv 5) ao))))))))),?_⟩
  clear nd bf cg
  rw[show start ["layout","gap","by","blocks","gaps","moves","at"] [.ref x,.int (g:Nat),.int y]=[some (.ref x),some (.int (g:Nat)),some (.int y),none,none,none,none] from rfl]
  try dsimp only[cO,bW]
  have hx:=ly.x
  have hp:=ly.p
  have tp:=ly.t
  have few:=lya.l.few
  have mD:=lya.h
  have zl:zs.length=rs.length:=by rw[tp.1,bL]
  obtain⟨bD,bF,bG,aN,aU,aL,aD⟩:=zsix T
  have jh:=Old.mk (M:=[]) hx nm0
  have iT:=Old.mk (M:=[]) hp nm0
  have jx:=gk.mk tp
  have F:SH H [] H [] []:=SH.nil
  have gl:=gQ n rs
  repeat k_meth
  obtain⟨mv_,e⟩:∃z,z=p_:=⟨_,rfl⟩
  subst e
  obtain⟨gA,e⟩:∃z,z=p_:=⟨_,rfl⟩
  subst e
  obtain⟨bA,e⟩:∃z,z=p_:=⟨_,rfl⟩
  subst e
  refine Aj (λq σ' H'=>∃(k:Nat) (y':Int) (dn:List Sp2) (ys:List V),σ'=[some (.ref x),some (.int (g:Nat)),some (.int y'),some (.ref bA),some (.ref gA),some (.ref mv_),some (.int (k:Nat))]/\k+q=rs.length/\cB (rg n (rs.drop k)) y'≠none/\dn++mr (rgt n (rs.drop k) y')=mr (rgt n (rs.drop g) y)/\ys.length=dn.length/\dn.length+q<=rs.length/\SH H [] H' [(mv_,.lst ys),(gA,.lst ((bH n rs).map V.int)),(bA,.lst zs)] [.tps ys (gq dn)]) ⟨rs.length-g,g,y,[],[],rfl,by lia,hb,List.nil_append _,rfl,by simp,(F.gH (ys:=[]) (rs:=gq []) aH.nil).sub SbC.s SbI.s⟩ ?_
  clear F
  rintro q σ' H' ⟨k1,y',dn,ys,rfl,qg,sG,dne,yl,dl,F⟩
  repeat k_meth
  refine fW (λh=>?_) (λh=>?_)
  ·have hk:k1<rs.length:=by
    rcases Nat.lt_or_ge k1 rs.length with h2|h2
    ·exact h2
    ·rw[List.drop_eq_nil_of_le h2] at sG
     have:=kh (show cB [] y'≠none from sG)
     lia
   obtain⟨r,hr⟩:∃r,rs[k1]?=some r:=⟨_,List.getElem?_eq_getElem hk⟩
   have od:=Es lya.ok k1
   rw[drop_cons hr] at sG dne od
   have bg:=uO od
   have pc:=iy sG (by lia)
   rw[Pn h] at dne
   obtain⟨q1,e1,e2⟩:∃q1,zs[k1]?=some (.ref q1)/\H q1=some (.tup (d8 r)):=tp.2 k1 _ (by unfold aX;rw[List.getElem?_map,hr];rfl)
   have vV:=Old.mk (M:=[]) e2 nm0
   have a1:AtI zs ((k1:Nat):Int) (.ref q1):=⟨cD e1⟩
   have a2:AtI ((bH n rs).map V.int) (((k1:Nat):Int)+1) (.int ((iu n (rs.drop (k1+1)):Int)-((r.st:Int)+(r.sz:Int)))):=⟨by rw[show (((k1:Nat):Int)+1)=((k1+1:Nat):Int) by lia];exact cD (by rw[List.getElem?_map,Uu hr];rfl)⟩
   refine⟨λσ' H'=>∃m',m'<q/\_,λσ' H' h=>h,?_⟩
   repeat k_meth
   have F2:=SH.app (ys:=ys) (rs:=gq dn) (q:=p_) (r:=[V.str (tx r.nm),V.int ((r.st:Int)+y')]) F (LkP.m) (LkI.m)
   rw[show gq dn++[[V.str (tx r.nm),V.int ((r.st:Int)+y')]]=gq (dn++[(r,(r.st:Int)+y')]) by unfold gq;rw[List.map_append];rfl] at F2
   rw[show ((k1:Nat):Int)+1=((k1+1:Nat):Int) by lia]
   exact⟨q-1,by lia,k1+1,_,dn++[(r,(r.st:Int)+y')],ys++[.ref p_],rfl,by lia,pc.1,by rw[List.append_assoc];exact dne,by rw[List.length_append,List.length_append,yl];rfl,by rw[List.length_append];show dn.length+1+(q-1)<=rs.length;lia,F2.sub SbC.s SbI.s⟩
  ·rw[Cy _ _ _ (Es lya.ok k1) (by lia),List.append_nil] at dne
   subst dne
   repeat k_meth
   refine⟨mv_,ys,rfl,SqA.e,λl H2 nw=>?_⟩
   have tr:aH H' ys.reverse (gq (mr (rgt n (rs.drop g) y)).reverse):=by rw[Ep];exact(TpA.e (H:=H')).rev
   replace F:=F.newL nw
   exact k l _ _ SH.nwC (tr.same nw.s)
theorem pO(T:Txt K mg c R CL CP CS aF aq):Def P w K mg base CX0 3 "hole_at_gap" ["layout","gap"] (zB CL):=by
 have cC:=cC (P:=P) (w:=w) (base:=base) T
 have b_:=b_ (P:=P) (w:=w) (base:=base) T
 have cg:=cg (P:=P) (w:=w) (base:=base) T
 have bf:=bf (P:=P) (w:=w) (base:=base) T
 refine bQ T.Dp yh (λvs H Q E h=>?_) (λ_ _ _ _ _ _=>el2 λ_ _=>rfl) (λf cdv A outer s H vs Q E hr h=>?_)
 ·obtain⟨x,p,dx,n,zs,rs,g,rfl,_⟩:=h
  rfl
 ·obtain⟨x,p,dx,n,zs,rs,g,rfl,ly,lya,hg,k⟩:=h
  have nd:=yh.nd
  refine⟨_,(au (aP (i:=2) nd rfl (Or.inl rfl) (tV (bU gG (pv 1) aA (bR _)) aA (aJ cC hr (aj (aJ b_ hr (aj (aZ bO (fB (pv 0) T.clL bf hr) (aR cP (pv 1) aA) (λ_ _=>rfl)) ao)) ao))))
   (aB (aV (cU (aj (pv 2) (aj (aZ bO (aJ cg hr (aj (pv 0) ao)) (pv 1) (λ_ _=>rfl)) ao)))))),?_⟩
  clear nd cC b_ cg bf
  rw[show start ["layout","gap","start"] [.ref x,.int (g:Nat)]=[some (.ref x),some (.int (g:Nat)),none] from rfl]
  try dsimp only[cO,bW]
  have hx:=ly.x
  have hp:=ly.p
  have tp:=ly.t
  have few:=lya.l.few
  have mD:=lya.h
  have zl:zs.length=rs.length:=by rw[tp.1,bL]
  obtain⟨bD,bF,bG,aN,aU,aL,aD⟩:=zsix T
  have jh:=Old.mk (M:=[]) hx nm0
  have iT:=Old.mk (M:=[]) hp nm0
  have jx:=gk.mk tp
  have F:SH H [] H [] []:=SH.nil
  have gl:=gQ n rs
  have a2:AtI ((bH n rs).map V.int) ((g:Nat):Int) (.int (jW n rs g)):=⟨cD (by rw[List.getElem?_map,wj hg];rfl)⟩
  rcases Nat.eq_zero_or_pos g with h0|h0
  ·subst h0
   repeat k_meth
   exact k _ _ F.sm aO
  ·obtain⟨g0,rfl⟩:∃g0,g=g0+1:=⟨g-1,by lia⟩
   obtain⟨r,hr⟩:∃r,rs[g0]?=some r:=⟨_,List.getElem?_eq_getElem (by lia)⟩
   obtain⟨q1,e1,e2⟩:∃q1,zs[g0]?=some (.ref q1)/\H q1=some (.tup (d8 r)):=tp.2 g0 _ (by unfold aX;rw[List.getElem?_map,hr];rfl)
   have vV:=Old.mk (M:=[]) e2 nm0
   have a1:AtI zs (((g0+1:Nat):Int)-1) (.ref q1):=⟨by rw[show (((g0+1:Nat):Int)-1)=((g0:Nat):Int) by lia];exact cD e1⟩
   rw[wz hr] at k
   repeat k_meth
   have e:H_ p_=some (.tup [.int ((r.st:Int)+(r.sz:Int)),.int (jW n rs (g0+1))]):=aO
   exact k _ _ F.sm (by rw[show ((edR (r::(rs.take g0).reverse):Nat):Int)=(r.st:Int)+(r.sz:Int) from Int.natCast_add ..];exact e)
end
open M22 M82 M87 M75
def pF(c g:Int)(m t:Addr):List (Str×V):=gW "stretch" (.ref t) (gW "moves" (.ref m) (gW "number" (.int g) (gW "cost" (.int c) [])))
def Et(CS:Addr):Sp:=λvs H Q _=>∃(y dy q:Addr),vs=[.ref y,.ref q]/\H y=some (.ins CS dy [])/\∀H',Kp y H H'->H' y=some (.ins CS dy [("stretches", .ref q)])->Q .non H'
def Eu(CP:Addr):Sp:=λvs H Q _=>∃(y dy m t:Addr) (c g:Int),vs=[.ref y,.int c,.int g,.ref m,.ref t]/\H y=some (.ins CP dy [])/\∀H',Kp y H H'->H' y=some (.ins CP dy (pF c g m t))->Q .non H'
def wA(CP:Addr):Sp:=λvs H Q _=>∃(y dy m t:Addr) (c g:Int),vs=[.ref y]/\H y=some (.ins CP dy (pF c g m t))/\Q (.bl true) H
def wB(CS:Addr):Sp:=λvs H Q _=>∃(y dy q:Addr),vs=[.ref y]/\H y=some (.ins CS dy [("stretches", .ref q)])/\Q (.bl false) H
def sH(CS:Addr):Sp:=λvs H Q _=>∃(y dy q:Addr) (ys:List V),vs=[.ref y]/\H y=some (.ins CS dy [("stretches", .ref q)])/\H q=some (.lst ys)/\∀p H',New H H' p (.lst ys)->Q (.ref p) H'
section
variable{CS CP y dy q m t:Addr}{H H0:Hp}{M:List Addr}{L:List (Addr×HO)}{I:List Im}{Q:VK}{E:XK}{c g:Int}{ys:List V}
instance ae2{l:Addr}{L':List (Addr×HO)}{C dx:Addr}{fs:List (Str×V)}{R:Hp->Prop}[F:SH H0 M H L I][u:LkU L l (.ins C dx fs) L']:Go (∀H',Kp l H H'->H' l=some (.ins C dx fs)->R H') (∀H',SH H0 M H' L' I->R H'):=⟨λk H' f e=>k H' (F.kp f e u.u rfl)⟩
instance abJ[h:Hat H y (.ins CS dy [])]:Go (Et CS [.ref y,.ref q] H Q E) (∀H',Kp y H H'->H' y=some (.ins CS dy [("stretches", .ref q)])->Q .non H'):=⟨λk=>⟨y,dy,q,rfl,h.e,k⟩⟩
instance abK[h:Hat H y (.ins CP dy [])]:Go (Eu CP [.ref y,.int c,.int g,.ref m,.ref t] H Q E) (∀H',Kp y H H'->H' y=some (.ins CP dy (pF c g m t))->Q .non H'):=⟨λk=>⟨y,dy,m,t,c,g,rfl,h.e,k⟩⟩
instance Yi[h:Hat H y (.ins CP dy (pF c g m t))]:Go (wA CP [.ref y] H Q E) (Q (.bl true) H):=⟨λk=>⟨y,dy,m,t,c,g,rfl,h.e,k⟩⟩
instance Yj[h:Hat H y (.ins CS dy [("stretches", .ref q)])]:Go (wB CS [.ref y] H Q E) (Q (.bl false) H):=⟨λk=>⟨y,dy,q,rfl,h.e,k⟩⟩
instance Vp[h:Hat H y (.ins CS dy [("stretches", .ref q)])][h2:Hat H q (.lst ys)]:Go (sH CS [.ref y] H Q E) (∀p H',New H H' p (.lst ys)->Q (.ref p) H'):=⟨λk=>⟨y,dy,q,ys,rfl,h.e,h2.e,k⟩⟩
end
section
variable{P:Program}{w:World}{K:W.Frag}{mg:Str->Option Value}{base:Heap}{c:Nat->Addr}{aF aq R CL CP CS:Addr}
theorem pP(T:Txt K mg c R CL CP CS aF aq):Mak P w K mg base CX0 1 "Stuck" CS ["self","stretches"] (Et CS):=by
 obtain⟨f,hf,hm⟩:=T.Jt
 refine(gh (k:=0) hf Dd (λvs H Q E h=>?_) (λ_ _ _ _ _ _=>el2 λ_ _=>rfl) (λf cdv A outer s H vs Q E hr h=>?_)).mak hm T.vQ
 ·obtain⟨y,dy,q,rfl,_⟩:=h
  rfl
 ·obtain⟨y,dy,q,rfl,hy,k⟩:=h
  have nd:=Dd.nd
  refine⟨_,(aB (mW (pv 0) (pv 1) rfl)),?_⟩
  clear nd 
  rw[show start ["self","stretches"] [.ref y,.ref q]=[some (.ref y),some (.ref q)] from rfl]
  try dsimp only[cO,bW]
  obtain⟨bD,bF,bG,aN,aU,aL,aD⟩:=zsix T
  have F:SH H [y] H [(y,.ins CS dy [])] []:=SH.nil.iI List.mem_cons_self hy rfl (by simp)
  repeat k_meth
  exact k _ F.kpo aO
theorem pQ(T:Txt K mg c R CL CP CS aF aq):Mak P w K mg base CX0 1 "Plan" CP ["self","cost","number","moves","stretch"] (Eu CP):=by
 obtain⟨f,hf,hm⟩:=T.Js
 refine(gh (k:=0) hf Dc (λvs H Q E h=>?_) (λ_ _ _ _ _ _=>el5 λ_ _ _ _ _=>rfl) (λf cdv A outer s H vs Q E hr h=>?_)).mak hm T.Ah
 ·obtain⟨y,dy,m,t,c0,g,rfl,_⟩:=h
  rfl
 ·obtain⟨y,dy,m,t,c0,g,rfl,hy,k⟩:=h
  have nd:=Dc.nd
  refine⟨_,(au (mW (pv 0) (pv 1) rfl)
   (au (mW (pv 0) (pv 2) rfl)
   (au (mW (pv 0) (pv 3) rfl)
   (aB (mW (pv 0) (pv 4) rfl))))),?_⟩
  clear nd 
  rw[show start ["self","cost","number","moves","stretch"] [.ref y,.int c0,.int g,.ref m,.ref t]=[some (.ref y),some (.int c0),some (.int g),some (.ref m),some (.ref t)] from rfl]
  try dsimp only[cO,bW]
  obtain⟨bD,bF,bG,aN,aU,aL,aD⟩:=zsix T
  have F:SH H [y] H [(y,.ins CP dy [])] []:=SH.nil.iI List.mem_cons_self hy rfl (by simp)
  repeat k_meth
  exact k _ F.kpo aO
theorem jR(T:Txt K mg c R CL CP CS aF aq):Met P w K mg base CX0 1 CP "brings" ["self"] (wA CP):=by
 obtain⟨f,hf,hm⟩:=T.yR
 refine(gh (k:=0) hf vL (λvs H Q E h=>?_) (λ_ _ _ _ _ _=>el1 λ_=>rfl) (λf cdv A outer s H vs Q E hr h=>?_)).met hm
 ·obtain⟨y,dy,m,t,c0,g,rfl,_⟩:=h
  rfl
 ·obtain⟨y,dy,m,t,c0,g,rfl,hy,k⟩:=h
  have nd:=vL.nd
  refine⟨_,(aB (aV fH)),?_⟩
  clear nd 
  rw[show start ["self"] [.ref y]=[some (.ref y)] from rfl]
  try dsimp only[cO,bW]
  obtain⟨bD,bF,bG,aN,aU,aL,aD⟩:=zsix T
  have abL:=Old.mk (M:=[]) hy nm0
  have F:SH H [] H [] []:=SH.nil
  repeat k_meth
  exact k
theorem jT(T:Txt K mg c R CL CP CS aF aq):Met P w K mg base CX0 1 CS "brings" ["self"] (wB CS):=by
 obtain⟨f,hf,hm⟩:=T.yS
 refine(gh (k:=0) hf vM (λvs H Q E h=>?_) (λ_ _ _ _ _ _=>el1 λ_=>rfl) (λf cdv A outer s H vs Q E hr h=>?_)).met hm
 ·obtain⟨y,dy,q,rfl,_⟩:=h
  rfl
 ·obtain⟨y,dy,q,rfl,hy,k⟩:=h
  have nd:=vM.nd
  refine⟨_,(aB (aV fH)),?_⟩
  clear nd 
  rw[show start ["self"] [.ref y]=[some (.ref y)] from rfl]
  try dsimp only[cO,bW]
  obtain⟨bD,bF,bG,aN,aU,aL,aD⟩:=zsix T
  have abL:=Old.mk (M:=[]) hy nm0
  have F:SH H [] H [] []:=SH.nil
  repeat k_meth
  exact k
theorem i_(T:Txt K mg c R CL CP CS aF aq):Met P w K mg base CX0 1 CS "counted" ["self"] (sH CS):=by
 obtain⟨f,hf,hm⟩:=T.vR
 refine(gh (k:=0) hf rY (λvs H Q E h=>?_) (λ_ _ _ _ _ _=>el1 λ_=>rfl) (λf cdv A outer s H vs Q E hr h=>?_)).met hm
 ·obtain⟨y,dy,q,ys,rfl,_⟩:=h
  rfl
 ·obtain⟨y,dy,q,ys,rfl,hy,hq,k⟩:=h
  have nd:=rY.nd
  refine⟨_,(aB (aV (eY fK rfl T.fG boot_list (aj (iD (pv 0) rfl) ao)))),?_⟩
  clear nd 
  rw[show start ["self"] [.ref y]=[some (.ref y)] from rfl]
  try dsimp only[cO,bW]
  obtain⟨bD,bF,bG,aN,aU,aL,aD⟩:=zsix T
  have abL:=Old.mk (M:=[]) hy nm0
  have K4:=Old.mk (M:=[]) hq nm0
  have F:SH H [] H [] []:=SH.nil
  repeat k_meth
  exact k _ _ SH.nwC
end
open M22 M82 M87 M75
theorem Ew(L:List Sp2):(qL L).Perm (mv L):=by
 have h:∀L:List Sp2,(ml L++mr L).Perm (mv L):=by
  intro L
  induction L with
  | nil=>exact List.Perm.refl _
  | cons s L ih =>
   unfold ml mr mv at *
   by_cases q:s.2<(s.1.st:Int)
   ·rw[List.filter_cons_of_pos (by simpa using q),List.filter_cons_of_neg (by simp;lia),List.filter_cons_of_pos (by simp;lia)]
    exact ih.cons s
   ·by_cases q2:(s.1.st:Int)<s.2
    ·rw[List.filter_cons_of_neg (by simpa using q),List.filter_cons_of_pos (by simpa using q2),List.filter_cons_of_pos (by simp;lia)]
     exact List.perm_middle.trans (ih.cons s)
    ·rw[List.filter_cons_of_neg (by simpa using q),List.filter_cons_of_neg (by simpa using q2),List.filter_cons_of_neg (by simp;lia)]
     exact ih
 exact((List.reverse_perm _).append_left _).trans (h L)
theorem Qv(L:List Sp2):(qL L).length<=L.length:=by
 rw[(Ew L).length_eq]
 exact List.length_filter_le _ _
theorem Uv{L:List Sp2}(nn:∀s∈L,0<=s.2):gq (qL L)=Ej (m_ L):=by
 have h:=Cr nn
 have g:gq (qL L)=((qL L).map λs=>(s.1.nm,s.2)).map λq:List Nat×Int=>[V.str (tx q.1),V.int q.2]:=by unfold gq;rw[List.map_map];rfl
 rw[g,<- h,List.map_map]
 rfl
theorem Yk{n:Nat}{rs:List Rw}{L:List Sp2}(lya:LyA rs n)(e:L.map (·.1)=rs)(ch:ChS n 0 L)(pin:∀s∈L,0<s.1.pn->s.2=(s.1.st:Int)):Yg n rs (m_ L):=by
 have okJ:OkA 0 n (L.map (·.1)):=by rw[e];exact lya.ok
 have w:=O8 ch okJ pin
 rw[e] at w
 have nn:∀s∈L,0<=s.2:=λs hs=>((ChS.le ch).2 s hs).1
 have told:=Cr nn
 have hl:(m_ L).length=(qL L).length:=by have:=congrArg List.length told;rwa [List.length_map,List.length_map] at this
 have ol:=Qv L
 have ll:L.length=rs.length:=by rw[<- e,List.length_map]
 have nd:=Aq lya.l
 refine⟨lya.l.few,by have:=lya.l.few;lia,w.1,?_,nd⟩
 have en:(m_ L).map (·.2.1)=(qL L).map (·.1.nm):=by
  have:=congrArg (List.map Prod.fst) told
  rw[List.map_map,List.map_map] at this
  exact this
 rw[en,((Ew L).map _).nodup_iff]
 refine List.Nodup.sublist (List.filter_sublist.map _) ?_
 rw[show L.map (λs=>s.1.nm)=(L.map (·.1)).map (·.nm) by rw[List.map_map];rfl,e]
 exact nd
theorem Qw{n:Nat}:∀{ms:List Mv} {rs:List Rw},LyA rs n->WOk n rs ms->LyA (iK rs ms) n/\(iK rs ms).length=rs.length
 | [],rs,h,_=>⟨h,rfl⟩
 | m::ms,rs,h,w=>by
  obtain⟨⟨r,h1,_,h2,h3,h4⟩,w2⟩:=w
  have s:Sld n rs r m.1 m.2.2:=⟨h1,h2,h3,h4⟩
  have i:=Qw (pI h s) w2
  refine⟨i.1,i.2.trans ?_⟩
  have:=congrArg List.length (Vf (to:=m.2.2) h1)
  simpa using this
def tgC(n:Nat)(rs:List Rw)(s:Int)(g b:Nat):List Sp2:=tgs n g (b:Nat) (max 0 (s-jW n rs g-(b:Int))) rs
theorem Yl{n:Nat}{rs:List Rw}{s:Nat}{c:Chc}{g b:Nat}(lya:LyA rs n)(h:Uq n rs s c g b):ChS n 0 (tgC n rs (s:Int) g b)/\(∀q∈tgC n rs (s:Int) g b,0<q.1.pn->q.2=(q.1.st:Int))/\(tgC n rs (s:Int) g b).map (·.1)=rs:=by
 obtain⟨u,v,e1,e2,_⟩:=h.ex
 exact⟨XR lya.ok (by rw[e1];simp) (by rw[e2];simp),TY lya.ok (by rw[e1];simp) (by rw[e2];simp),TX ..⟩
class LcN(n:Nat)(rs:List Rw)(s:Int):Prop where
 e:lcF n rs s=none
class LcS(n:Nat)(rs:List Rw)(s:Int)(c:outParam Chc):Prop where
 e:lcF n rs s=some c
def Uw(CL CP CS P:Addr)(pos:Pos)(qual:Str):Sp:=λvs H Q _=>∃(x p dx:Addr) (n:Nat) (zs:List V) (rs:List Rw) (s:Nat) (ps:Array Value),vs=[.ref x,.int (s:Nat)]/\LyH CL H x p dx n zs rs/\LyA rs n/\1<=s/\H P=some (.tbl ps)/\TabOk pos qual ps H /\
 ((lcF n rs (s:Nat)=none/\∀y dy q ys H',SH H [] H' [(y,.ins CS dy [("stretches", .ref q)]),(q,.lst ys)] [.tps ys (bY (c7 n rs))]->Q (.ref y) H') \/
  (∃c g b,lcF n rs (s:Nat)=some c/\Uq n rs s c g b/\∀y dy m ms t ps' H',SH H [P] H' [(y,.ins CP dy (pF c.1 (g:Nat) m t)),(m,.lst ms),(P,.tbl ps')] [.tps ms (gq (qL (tgC n rs (s:Nat) g b))),.tup t [.int (edR ((iK rs (m_ (tgC n rs (s:Nat) g b))).take g).reverse:Nat),.int (jW n (iK rs (m_ (tgC n rs (s:Nat) g b))) g)],gY pos qual ps']->Q (.ref y) H'))
section
variable{CL x p dx:Addr}{H:Hp}{Q:VK}{E:XK}{n g b:Nat}{zs:List V}{rs:List Rw}{s y:Int}{c:Chc}
instance Y9[h:LyQ CL H x p dx n zs rs][ly:LyA rs n][l:LcN n rs s]:Go (wg CL [.ref x,.int s] H Q E) (Sd (1<=s) (∀H',Same H H'->Q .non H')):=⟨λk=>⟨x,p,dx,n,zs,rs,s,rfl,h.e,ly,k.1,.inl ⟨l.e,k.2⟩⟩⟩
instance Y_[h:LyQ CL H x p dx n zs rs][ly:LyA rs n][l:LcS n rs s c]:Go (wg CL [.ref x,.int s] H Q E) (Sd (1<=s) (∀q H',Same H H'->H' q=some (.tup [.int c.1,.int c.2.1,.int c.2.2])->Q (.ref q) H')):=⟨λk=>⟨x,p,dx,n,zs,rs,s,rfl,h.e,ly,k.1,.inr ⟨c,l.e,k.2⟩⟩⟩
instance Za[h:LyQ CL H x p dx n zs rs][ly:LyA rs n]:Go (zA CL [.ref x,.int (g:Nat),.int (b:Nat)] H Q E) (Sd (g<=rs.length/\cB (lg (rs.take g).reverse) (b:Nat)≠none) (∀q ys H',New H H' q (.lst ys)->aH H' ys (gq (ml (lft (rs.take g).reverse (b:Nat))).reverse)->Q (.ref q) H')):=⟨λk=>⟨x,p,dx,n,zs,rs,g,b,rfl,h.e,ly,k.1.1,k.1.2,k.2⟩⟩
instance Ym[h:LyQ CL H x p dx n zs rs][ly:LyA rs n]:Go (wu CL [.ref x,.int (g:Nat),.int y] H Q E) (Sd (g<=rs.length/\cB (rg n (rs.drop g)) y≠none) (∀q ys H',New H H' q (.lst ys)->aH H' ys (gq (mr (rgt n (rs.drop g) y)).reverse)->Q (.ref q) H')):=⟨λk=>⟨x,p,dx,n,zs,rs,g,y,rfl,h.e,ly,k.1.1,k.1.2,k.2⟩⟩
instance Zb[h:LyQ CL H x p dx n zs rs][ly:LyA rs n]:Go (zB CL [.ref x,.int (g:Nat)] H Q E) (Sd (g<=rs.length) (∀t H',Same H H'->H' t=some (.tup [.int (edR (rs.take g).reverse:Nat),.int (jW n rs g)])->Q (.ref t) H')):=⟨λk=>⟨x,p,dx,n,zs,rs,g,rfl,h.e,ly,k.1,k.2⟩⟩
end
section
variable{P:Program}{w:World}{K:W.Frag}{mg:Str->Option Value}{base:Heap}{c:Nat->Addr}{aF aq R CL CP CS:Addr}
theorem Ay(T:Txt K mg c R CL CP CS aF aq)(B:Bm mg base):Def P w K mg base CX0 11 "plan" ["layout","size"] (Uw CL CP CS aq cZ cJ):=by
 have iZ:=iZ (P:=P) (w:=w) (base:=base) T
 have tO:=tO (P:=P) (w:=w) (base:=base) T
 have pQ:=pQ (P:=P) (w:=w) (base:=base) T
 have pP:=pP (P:=P) (w:=w) (base:=base) T
 have pN:=pN (P:=P) (w:=w) (base:=base) T
 have lY:=lY (P:=P) (w:=w) (base:=base) T
 have pO:=pO (P:=P) (w:=w) (base:=base) T
 have d9:=d9 (P:=P) (w:=w) (base:=base) T
 have Aw:=Aw (P:=P) (w:=w) (base:=base) T B
 have cg:=cg (P:=P) (w:=w) (base:=base) T
 refine bQ T.PN Jf (λvs H Q E h=>?_) (λ_ _ _ _ _ _=>el2 λ_ _=>rfl) (λf cdv A outer s H vs Q E hr h=>?_)
 ·obtain⟨x,p,dx,n,zs,rs,s,ps,rfl,_⟩:=h
  rfl
 ·obtain⟨x,p,dx,n,zs,rs,s,ps,rfl,ly,lya,s1,hP,tk,kk⟩:=h
  have nd:=Jf.nd
  refine⟨_,(au (dw (aJ iZ hr (aj (pv 1) ao)))
   (au (aP (i:=2) nd rfl (Or.inl rfl) (aJ tO hr (aj (pv 0) (aj (pv 1) ao))))
   (au (cF (bU R8 (pv 2) jz (bR _)) (aB (aV (sZ pP hr (aj (aJ d9 hr (aj (pv 0) ao)) ao)))) bI)
   (au (aP (i:=3) nd rfl (Or.inl rfl) (aZ bT (pv 2) aA (λ_ _=>rfl)))
   (au (aP (i:=4) nd rfl (Or.inl rfl) (aY (fu rfl) rfl T.kO boot_max (aj aA (aj (aR cP (aR cP (pv 1) (aZ bO (aJ cg hr (aj (pv 0) ao)) (pv 3) (λ_ _=>rfl))) (aZ bT (pv 2) aA (λ_ _=>rfl))) ao))))
   (au (aP (i:=5) nd rfl (Or.inl rfl) (aR dW (aJ pN hr (aj (pv 0) (aj (pv 3) (aj (aZ bT (pv 2) aA (λ_ _=>rfl)) ao)))) (aJ lY hr (aj (pv 0) (aj (pv 3) (aj (pv 4) ao))))))
   (aB (aV (sZ pQ hr (aj (aZ bT (pv 2) aA (λ_ _=>rfl)) (aj (pv 3) (aj (pv 5) (aj (aJ pO hr (aj (aJ Aw hr (aj (pv 0) (aj (pv 5) ao))) (aj (pv 3) ao))) ao))))))))))))),?_⟩
  clear nd iZ tO pQ pP pN lY pO d9 Aw cg
  rw[show start ["layout","size","choice","gap","at_right","moves"] [.ref x,.int (s:Nat)]=[some (.ref x),some (.int (s:Nat)),none,none,none,none] from rfl]
  try dsimp only[cO,bW]
  have hx:=ly.x
  have hp:=ly.p
  have tp:=ly.t
  have few:=lya.l.few
  have mD:=lya.h
  have zl:zs.length=rs.length:=by rw[tp.1,bL]
  obtain⟨bD,bF,bG,aN,aU,aL,aD⟩:=zsix T
  have gl:=gQ n rs
  have szf:rs.length<=40/\∀r∈rs,r.sz<=240:=⟨few,λr hr=>by have:=(lya.l.good r hr).le;lia⟩
  have s11:(1:Int)<=(s:Int):=by lia
  rcases kk with⟨e,k⟩|⟨c,g,b,e,co,k⟩
  ·have jh:=Old.mk (M:=[]) hx nm0
   have iT:=Old.mk (M:=[]) hp nm0
   have jx:=gk.mk tp
   have F:SH H [] H [] []:=SH.nil
   have lc:LcN n rs (s:Int):=⟨e⟩
   repeat k_meth
   exact k _ _ _ _ _ F
  ·have F:SH H [aq] H [(aq,.tbl ps)] [.tps zs (aX rs),gY cZ cJ ps]:=((SH.nil.iI List.mem_cons_self hP rfl (by simp)).j7 tk).gH tp
   have jh:=Old.mk (M:=[aq]) hx (nm1 (cL hx hP (by simp)))
   have iT:=Old.mk (M:=[aq]) hp (nm1 (cL hp hP (by simp)))
   have lc:LcS n rs (s:Int) c:=⟨e⟩
   obtain⟨c1,c2,c3⟩:=c
   obtain⟨tc,tpn,tf⟩:=Yl lya co
   obtain⟨eg,eb,hg,hb,u,v,p1,p2,_⟩:=co
   dsimp only at eg eb
   subst eg eb
   have a2:AtI ((bH n rs).map V.int) ((g:Nat):Int) (.int (jW n rs g)):=⟨cD (by rw[List.getElem?_map,wj hg];rfl)⟩
   have sd1:g<=rs.length/\cB (lg (rs.take g).reverse) (b:Nat)≠none:=⟨hg,by rw[p1];simp⟩
   have sd2:g<=rs.length/\cB (rg n (rs.drop g)) (max 0 ((s:Int)-jW n rs g-(b:Int)))≠none:=⟨hg,by rw[p2];simp⟩
   repeat k_meth
   rename_i mA yA lA
   have lA2:yA.length<=40:=by
    rw[lA,Eo,List.length_reverse]
    refine Nat.le_trans (List.length_filter_le _ _) ?_
    rw[JN,List.length_reverse,List.length_take]
    lia
   have lB2:ys_.length<=40:=by
    rw[l_,Eo,List.length_reverse]
    refine Nat.le_trans (List.length_filter_le _ _) ?_
    rw[JQ,List.length_drop]
    lia
   refine sd (by rw[sizeLine_eq];lia) ?_
   have od:=T3 n g (b:Nat) (max 0 ((s:Int)-jW n rs g-(b:Int))) rs
   have tA:aH H_ (yA++ys_) (gq (qL (tgC n rs (s:Int) g b))):=by
    rw[show tgC n rs (s:Int) g b=tgs n g (b:Nat) (max 0 ((s:Int)-jW n rs g-(b:Int))) rs from rfl,od]
    unfold gq
    rw[List.map_append]
    exact(F.tps (ys:=yA) (rs:=gq (ml (lft (rs.take g).reverse (b:Nat))).reverse) (by simp)).app (F.tps (ys:=ys_) (by simp))
   replace F:=F.gH tA
   clear tA
   repeat k_meth
   have wk:=Yk lya tf tc tpn
   have told:=Uv (L:=tgC n rs (s:Int) g b) λq hq=>((ChS.le tc).2 q hq).1
   have tB:aH H_ (yA++ys_) (Ej (m_ (tgC n rs (s:Int) g b))):=by rw[<- told];exact TpA.e (H:=H_)
   refine⟨x,p,dx,p_,n,zs,yA++ys_,rs,m_ (tgC n rs (s:Int) g b),ps,rfl,⟨aO,aO,TpA.e⟩,lya,aO,tB,wk,aO,SH.tab,λy dy q ws ps' H' kp hP2 tk2 ly2=>?_⟩
   have lyT:=Qw lya wk.ok
   have lyB:=lyT.1
   have lyC:LyQ CL H' y q dy n ws (iK rs (m_ (tgC n rs (s:Int) g b))):=⟨ly2⟩
   have sd3:g<=(iK rs (m_ (tgC n rs (s:Int) g b))).length:=by rw[lyT.2];exact hg
   replace F:=SH.j7 (st:=TabOk.st) (F.kp kp hP2 LkU.u rfl) tk2
   repeat k_meth
   rename_i pM _ _
   exact k x_ dx_ pM (yA++ys_) p_ ps' _ (F.sub SbC.s (by simp[gY]))
end
open M22 M82 M87 M75
instance abM{H:Hp}{Q:VK}{p:Addr}{b:Bool}[h:Hat H p (.tup [.ty "list", .ty "tuple"])]:Go (uM [.bl b,.ref p] H Q) (Q (.bl false) H):=⟨λk=>⟨_,p,rfl,h.e,.inl ⟨rfl,k⟩⟩⟩
instance abN{H:Hp}{Q:VK}{p:Addr}{x:Str}[h:Hat H p (.tup [.ty "list", .ty "tuple"])]:Go (uM [.str x,.ref p] H Q) (Q (.bl false) H):=⟨λk=>⟨_,p,rfl,h.e,.inl ⟨rfl,k⟩⟩⟩
def abO:Sp:=λ_ _ _ _=>False
def Qx(n:Nat):Sp:=λvs H Q _=>∃(v:V) (d:Dt),vs=[v]/\TrH H d v/\dH d<=n/\g_ d/\∀H',Same H H'->Q (.bl (g8 d)) H'
theorem tQ{H:Hp}{ys:List V}{rows:List (List V)}(h:aH H ys rows)(hf:∀r∈rows,∀v∈r,cQ v=true):cu H (rows.map dN) ys:=cu.of (by rw[List.length_map,h.1]) λi v e=>by
 obtain⟨r,q,e1,rfl,e3⟩:=lE h e
 exact⟨dN r,by rw[List.getElem?_map,e1];rfl,TrH.tup e3 (cu.flats (hf r (List.mem_of_getElem? e1)))⟩
theorem lZ:∀ws:List W3,gJ ((bY ws).map dN)=false
 | []=>rfl
 | w::ws=>by
  show (g8 (dN (pB w)) || gJ ((bY ws).map dN))=false
  rw[lZ ws]
  rfl
theorem mj:∀ws:List W3,iJ ((bY ws).map dN)
 | []=>by simp[bY,iJ]
 | w::ws=>by
  show iJ (dN (pB w)::(bY ws).map dN)
  refine⟨?_,mj ws⟩
  simp[dN,pB,cY,g_,iJ]
theorem wC(n:Nat)(rs:List Rw):0<(c7 n rs).length/\(c7 n rs).length<=rs.length+1:=by
 have:=Am rs rs
 unfold c7
 rw[List.length_append,List.length_singleton]
 lia
abbrev nO(ws:List W3):Dt:=.lst ((bY ws).map dN)
def ThK(H:Hp)(o:Option Dt)(v:V):Prop:=match o with
 | some d=>TrH H d v/\dH d<=2/\g_ d
 | none=>∃p,v=.ref p/\H p=some (.dK [])
def tkD(o:Option Dt)(ws:List W3):Bool:=match o with
 | some d=>dF d (nO ws)
 | none=>false
class Ux(H:Hp)(o:outParam (Option Dt))(v:V):Prop where
 e:ThK H o v
theorem ThK.same{H H':Hp}{o:Option Dt}{v:V}(h:ThK H o v)(s:Same H H'):ThK H' o v:=by
 cases o with
 | some d=>exact⟨h.1.same s,h.2⟩
 | none=>obtain⟨p,rfl,hp⟩:=h;exact⟨p,rfl,s _ _ hp⟩
def ltV(s:Int)(r:List V):V:=match r with
 | [_,_,.int f]=>.bl (decide (f<s))
 | _=>.non
def JR(CL:Addr):Sp:=λvs H Q _=>∃(x p dx:Addr) (n:Nat) (zs:List V) (rs:List Rw) (s:Int) (v:V) (o:Option Dt),vs=[.ref x,.int s,v]/\LyH CL H x p dx n zs rs/\LyA rs n/\1<=s/\ThK H o v/\∀H',Same H H'->Q (.bl (tkD o (c7 n rs) && (c7 n rs).all λw=>decide (w.2.2<s))) H'
instance ac9{CL x p dx:Addr}{n:Nat}{zs:List V}{rs:List Rw}{s:Int}{v:V}{o:Option Dt}{H:Hp}{Q:VK}{E:XK}[h:LyQ CL H x p dx n zs rs][ly:LyA rs n][t:Ux H o v]:Go (JR CL [.ref x,.int s,v] H Q E) (Sd (1<=s) (∀H',Same H H'->Q (.bl (tkD o (c7 n rs) && (c7 n rs).all λw=>decide (w.2.2<s))) H')):=⟨λk=>⟨x,p,dx,n,zs,rs,s,v,o,rfl,h.e,ly,k.1,t.e,k.2⟩⟩
section
variable{P:Program}{w:World}{K:W.Frag}{mg:Str->Option Value}{base:Heap}{c:Nat->Addr}{aF aq R CL CP CS:Addr}
theorem Qy(T:Txt K mg c R CL CP CS aF aq):Def P w K mg base CX0 1 "has_truth" ["thing"] abO:=by
 refine bQ T.oV iR (λvs H Q E h=>h.elim) (λ_ _ _ _ _ _=>el1 λ_=>rfl) (λf cdv A outer s H vs Q E hr h=>h.elim)
theorem Qz(T:Txt K mg c R CL CP CS aF aq):Def P w K mg base CX0 2 "has_truth" ["thing"] (Qx 0):=by
 refine bQ T.oV iR (λvs H Q E h=>?_) (λ_ _ _ _ _ _=>el1 λ_=>rfl) (λf cdv A outer s H vs Q E hr h=>?_)
 ·obtain⟨v,d,rfl,_⟩:=h
  rfl
 ·obtain⟨v,d,rfl,tr,dp,wd,k⟩:=h
  have nd:=iR.nd
  refine⟨_,(au (cF (cT (aY qJ rfl T.bJ boot_isinstance (aj (pv 0) (aj (cU (aj (fC (T := "list") rfl T.fG boot_list) (aj (fC (T := "tuple") rfl T.iV boot_tuple) ao))) ao)))) (aB (aV (aY (ur rfl) rfl T.Jq boot_any (aj (fj (N:=["part"]) (nt:=1) (fr:=[]) (O1 (dh (pv 0)) (zG (pv 0))) (λ_ _ _ _=>(bN (i:=0) (show (["part"]:List Str).Nodup from by decide +kernel) rfl (Or.inl rfl))) (λ_ _ _ _=>eZ) (λ_ _ _ _=>(aJ (Qy (P:=P) (w:=w) (base:=base) T) hr (aj (pv 0) ao)))) ao)))) bI)
   (aB (aV (aY cV rfl T.bJ boot_isinstance (aj (pv 0) (aj (fC (T := "bool") rfl T.nJ boot_bool) ao)))))),?_⟩
  clear nd 
  rw[show start ["thing"] [v]=[some (v)] from rfl]
  try dsimp only[cO,bW]
  obtain⟨bD,bF,bG,aN,aU,aL,aD⟩:=zsix T
  have F:SH H [] H [] []:=SH.nil
  cases d with
  | non =>
   simp only[TrH] at tr
   subst tr
   repeat k_meth
   exact k _ F.sm
  | bl b =>
   simp only[TrH] at tr
   subst tr
   repeat k_meth
   exact k _ F.sm
  | int i =>
   simp only[TrH] at tr
   subst tr
   repeat k_meth
   exact k _ F.sm
  | str x =>
   simp only[TrH] at tr
   subst tr
   repeat k_meth
   exact k _ F.sm
  | lst ds=>simp[dH] at dp
  | tup ds=>simp[dH] at dp
theorem QB(T:Txt K mg c R CL CP CS aF aq):Def P w K mg base CX0 3 "has_truth" ["thing"] (Qx 1):=by
 refine bQ T.oV iR (λvs H Q E h=>?_) (λ_ _ _ _ _ _=>el1 λ_=>rfl) (λf cdv A outer s H vs Q E hr h=>?_)
 ·obtain⟨v,d,rfl,_⟩:=h
  rfl
 ·obtain⟨v,d,rfl,tr,dp,wd,k⟩:=h
  have nd:=iR.nd
  refine⟨_,(au (cF (cT (aY qJ rfl T.bJ boot_isinstance (aj (pv 0) (aj (cU (aj (fC (T := "list") rfl T.fG boot_list) (aj (fC (T := "tuple") rfl T.iV boot_tuple) ao))) ao)))) (aB (aV (aY (ur rfl) rfl T.Jq boot_any (aj (fj (N:=["part"]) (nt:=1) (fr:=[]) (O1 (dh (pv 0)) (zG (pv 0))) (λ_ _ _ _=>(bN (i:=0) (show (["part"]:List Str).Nodup from by decide +kernel) rfl (Or.inl rfl))) (λ_ _ _ _=>eZ) (λ_ _ _ _=>(aJ (Qz (P:=P) (w:=w) (base:=base) T) hr (aj (pv 0) ao)))) ao)))) bI)
   (aB (aV (aY cV rfl T.bJ boot_isinstance (aj (pv 0) (aj (fC (T := "bool") rfl T.nJ boot_bool) ao)))))),?_⟩
  clear nd 
  rw[show start ["thing"] [v]=[some (v)] from rfl]
  try dsimp only[cO,bW]
  obtain⟨bD,bF,bG,aN,aU,aL,aD⟩:=zsix T
  have F:SH H [] H [] []:=SH.nil
  cases d with
  | non =>
   simp only[TrH] at tr
   subst tr
   repeat k_meth
   exact k _ F.sm
  | bl b =>
   simp only[TrH] at tr
   subst tr
   repeat k_meth
   exact k _ F.sm
  | int i =>
   simp only[TrH] at tr
   subst tr
   repeat k_meth
   exact k _ F.sm
  | str x =>
   simp only[TrH] at tr
   subst tr
   repeat k_meth
   exact k _ F.sm
  | lst ds =>
   simp only[TrH] at tr
   obtain⟨p,xs,rfl,hp,ts⟩:=tr
   simp only[dH] at dp
   simp only[g_] at wd
   have ln:=ts.len
   have o_p:=Old.mk (M:=[]) hp nm0
   repeat k_meth
   refine Ci ?_
   repeat k_meth
   refine comp_map (P:=λi y=>∃d,ds[i]?=some d/\y=.bl (g8 d)) (gB (xs:=xs)) (by lia) rfl (λH' s=>s.seq SqA.e) (λi v H' R hv s kk=>?_) λz H2 ys nw hl hP=>?_
   ·obtain⟨d,hd,td⟩:=ts.at hv
    have td2:=td.same (F.sm.trans s)
    have dd:=ju hd
    have wd2:=jt wd.2 hd
    clear F
    have F:SH H' [] H' [] []:=SH.nil
    repeat k_meth
    exact⟨v,d,rfl,td2,by lia,wd2,λH2 s2=>kk _ _ s2 ⟨d,hd,rfl⟩⟩
   ·rw[zU (hl.trans ln) hP] at nw
    replace F:=F.newL nw
    repeat k_meth
    refine⟨z,_,rfl,SqA.e,?_⟩
    rw[jr]
    exact k _ F.sm
  | tup ds =>
   simp only[TrH] at tr
   obtain⟨p,xs,rfl,hp,ts⟩:=tr
   simp only[dH] at dp
   simp only[g_] at wd
   have ln:=ts.len
   have o_p:=Old.mk (M:=[]) hp nm0
   repeat k_meth
   refine Cj ?_
   repeat k_meth
   refine comp_map (P:=λi y=>∃d,ds[i]?=some d/\y=.bl (g8 d)) (qt (xs:=xs)) (by lia) rfl (λH' s=>s.tup (SqT.of aO)) (λi v H' R hv s kk=>?_) λz H2 ys nw hl hP=>?_
   ·obtain⟨d,hd,td⟩:=ts.at hv
    have td2:=td.same (F.sm.trans s)
    have dd:=ju hd
    have wd2:=jt wd.2 hd
    clear F
    have F:SH H' [] H' [] []:=SH.nil
    repeat k_meth
    exact⟨v,d,rfl,td2,by lia,wd2,λH2 s2=>kk _ _ s2 ⟨d,hd,rfl⟩⟩
   ·rw[zU (hl.trans ln) hP] at nw
    replace F:=F.newL nw
    repeat k_meth
    refine⟨z,_,rfl,SqA.e,?_⟩
    rw[jr]
    exact k _ F.sm
theorem tR(T:Txt K mg c R CL CP CS aF aq):Def P w K mg base CX0 4 "has_truth" ["thing"] (Qx 2):=by
 refine bQ T.oV iR (λvs H Q E h=>?_) (λ_ _ _ _ _ _=>el1 λ_=>rfl) (λf cdv A outer s H vs Q E hr h=>?_)
 ·obtain⟨v,d,rfl,_⟩:=h
  rfl
 ·obtain⟨v,d,rfl,tr,dp,wd,k⟩:=h
  have nd:=iR.nd
  refine⟨_,(au (cF (cT (aY qJ rfl T.bJ boot_isinstance (aj (pv 0) (aj (cU (aj (fC (T := "list") rfl T.fG boot_list) (aj (fC (T := "tuple") rfl T.iV boot_tuple) ao))) ao)))) (aB (aV (aY (ur rfl) rfl T.Jq boot_any (aj (fj (N:=["part"]) (nt:=1) (fr:=[]) (O1 (dh (pv 0)) (zG (pv 0))) (λ_ _ _ _=>(bN (i:=0) (show (["part"]:List Str).Nodup from by decide +kernel) rfl (Or.inl rfl))) (λ_ _ _ _=>eZ) (λ_ _ _ _=>(aJ (QB (P:=P) (w:=w) (base:=base) T) hr (aj (pv 0) ao)))) ao)))) bI)
   (aB (aV (aY cV rfl T.bJ boot_isinstance (aj (pv 0) (aj (fC (T := "bool") rfl T.nJ boot_bool) ao)))))),?_⟩
  clear nd 
  rw[show start ["thing"] [v]=[some (v)] from rfl]
  try dsimp only[cO,bW]
  obtain⟨bD,bF,bG,aN,aU,aL,aD⟩:=zsix T
  have F:SH H [] H [] []:=SH.nil
  cases d with
  | non =>
   simp only[TrH] at tr
   subst tr
   repeat k_meth
   exact k _ F.sm
  | bl b =>
   simp only[TrH] at tr
   subst tr
   repeat k_meth
   exact k _ F.sm
  | int i =>
   simp only[TrH] at tr
   subst tr
   repeat k_meth
   exact k _ F.sm
  | str x =>
   simp only[TrH] at tr
   subst tr
   repeat k_meth
   exact k _ F.sm
  | lst ds =>
   simp only[TrH] at tr
   obtain⟨p,xs,rfl,hp,ts⟩:=tr
   simp only[dH] at dp
   simp only[g_] at wd
   have ln:=ts.len
   have o_p:=Old.mk (M:=[]) hp nm0
   repeat k_meth
   refine Ci ?_
   repeat k_meth
   refine comp_map (P:=λi y=>∃d,ds[i]?=some d/\y=.bl (g8 d)) (gB (xs:=xs)) (by lia) rfl (λH' s=>s.seq SqA.e) (λi v H' R hv s kk=>?_) λz H2 ys nw hl hP=>?_
   ·obtain⟨d,hd,td⟩:=ts.at hv
    have td2:=td.same (F.sm.trans s)
    have dd:=ju hd
    have wd2:=jt wd.2 hd
    clear F
    have F:SH H' [] H' [] []:=SH.nil
    repeat k_meth
    exact⟨v,d,rfl,td2,by lia,wd2,λH2 s2=>kk _ _ s2 ⟨d,hd,rfl⟩⟩
   ·rw[zU (hl.trans ln) hP] at nw
    replace F:=F.newL nw
    repeat k_meth
    refine⟨z,_,rfl,SqA.e,?_⟩
    rw[jr]
    exact k _ F.sm
  | tup ds =>
   simp only[TrH] at tr
   obtain⟨p,xs,rfl,hp,ts⟩:=tr
   simp only[dH] at dp
   simp only[g_] at wd
   have ln:=ts.len
   have o_p:=Old.mk (M:=[]) hp nm0
   repeat k_meth
   refine Cj ?_
   repeat k_meth
   refine comp_map (P:=λi y=>∃d,ds[i]?=some d/\y=.bl (g8 d)) (qt (xs:=xs)) (by lia) rfl (λH' s=>s.tup (SqT.of aO)) (λi v H' R hv s kk=>?_) λz H2 ys nw hl hP=>?_
   ·obtain⟨d,hd,td⟩:=ts.at hv
    have td2:=td.same (F.sm.trans s)
    have dd:=ju hd
    have wd2:=jt wd.2 hd
    clear F
    have F:SH H' [] H' [] []:=SH.nil
    repeat k_meth
    exact⟨v,d,rfl,td2,by lia,wd2,λH2 s2=>kk _ _ s2 ⟨d,hd,rfl⟩⟩
   ·rw[zU (hl.trans ln) hP] at nw
    replace F:=F.newL nw
    repeat k_meth
    refine⟨z,_,rfl,SqA.e,?_⟩
    rw[jr]
    exact k _ F.sm
theorem mq(T:Txt K mg c R CL CP CS aF aq):Def P w K mg base CX0 5 "is_stuck" ["layout","size","told"] (JR CL):=by
 have iZ:=iZ (P:=P) (w:=w) (base:=base) T
 have d9:=d9 (P:=P) (w:=w) (base:=base) T
 have tR:=tR (P:=P) (w:=w) (base:=base) T
 refine bQ T.yI vp (λvs H Q E h=>?_) (λ_ _ _ _ _ _=>el3 λ_ _ _=>rfl) (λf cdv A outer s H vs Q E hr h=>?_)
 ·obtain⟨x,p,dx,n,zs,rs,s,v,o,rfl,_⟩:=h
  rfl
 ·obtain⟨x,p,dx,n,zs,rs,s,v,o,rfl,ly,lya,s1,th,k⟩:=h
  have nd:=vp.nd
  refine⟨_,(au (dw (aJ iZ hr (aj (pv 1) ao)))
   (au (aP (i:=3) nd rfl (Or.inl rfl) (aJ d9 hr (aj (pv 0) ao)))
   (au (cF (PW.pt (rH (bU (Tz (K:=K) rfl hr) (pv 2) (pv 3) (bR _)) (mV (cT (aJ tR hr (aj (pv 2) ao)))))) (aB (aV fH)) bI)
   (aB (aV (aY (n6 rfl) rfl T.Du boot_all (aj (fj (N:=["stretch","size"]) (nt:=1) (fr:=[1]) (dh (pv 3)) (λ_ _ _ _=>(bN (i:=0) (show (["stretch","size"]:List Str).Nodup from by decide +kernel) rfl (Or.inl rfl))) (λ_ _ _ _=>eZ) (λ_ _ _ _=>(dJ rJ (aZ (jF (K:=K) rfl) (pv 0) aA (λ_ _=>rfl)) (pv 1) (bR _)))) ao))))))),?_⟩
  clear nd iZ d9 tR
  rw[show start ["layout","size","told","stretches"] [.ref x,.int s,v]=[some (.ref x),some (.int s),some (v),none] from rfl]
  try dsimp only[cO,bW]
  have hx:=ly.x
  have hp:=ly.p
  have tp:=ly.t
  have few:=lya.l.few
  have mD:=lya.h
  have zl:zs.length=rs.length:=by rw[tp.1,bL]
  obtain⟨bD,bF,bG,aN,aU,aL,aD⟩:=zsix T
  have jh:=Old.mk (M:=[]) hx nm0
  have iT:=Old.mk (M:=[]) hp nm0
  have jx:=gk.mk tp
  have F:SH H [] H [] []:=SH.nil
  have sln:=wC n rs
  have szf:rs.length<=40/\∀r∈rs,r.sz<=240:=⟨few,λr hr=>by have:=(lya.l.good r hr).le;lia⟩
  have ht:=lZ (c7 n rs)
  cases o with
  | none =>
   obtain⟨q,rfl,hq⟩:=th
   have o_q:=Old.mk (M:=[]) hq nm0
   repeat k_meth
   exact k _ F.sm
  | some d =>
   obtain⟨td,dd,wd⟩:=th
   have al:=oM (nO (c7 n rs)) d ht
   repeat k_meth
   refine .inl ⟨d,_,(td.same F.sm).rep,BX (SqL.of aO) TpA.e (rF _),by lia,?_⟩
   have k:∀H',Same H H'->Q (.bl (dF d (nO (c7 n rs)) && (c7 n rs).all λw=>decide (w.2.2<s))) H':=k
   rw[al] at k
   cases e1:fD d (nO (c7 n rs)) with
   | false =>
    rw[e1] at k
    repeat k_meth
    exact k _ F.sm
   | true =>
    rw[e1,Bool.true_and] at k
    repeat k_meth
    refine⟨v,d,rfl,td.same F.sm,dd,wd,λH1 s1=>?_⟩
    replace F:=F.same s1
    cases e2:g8 d with
    | true =>
     rw[e2] at k
     repeat k_meth
     exact k _ F.sm
    | false =>
     rw[e2] at k
     repeat k_meth
     refine jo (fvs:=[some (.int s)]) (F:=ltV s) aO (TpA.e (rs:=bY (c7 n rs))) (by rw[l_];lia) rfl (λq r H1 R hr s1 e1 kk=>?_) λl H1 n1=>?_
     ·clear F
      have F:SH H1 [] H1 [] []:=SH.nil
      obtain⟨w,hw,rfl⟩:=List.mem_map.mp hr
      have X_:=Old.mk (M:=[]) e1 nm0
      repeat k_meth
      exact kk _ (Same.refl _)
     ·replace F:=F.newL n1
      have e3:H1 l=some (.lst (((c7 n rs).map λw=>decide (w.2.2<s)).map V.bl)):=by rw[n1.e];unfold bY;rw[List.map_map,List.map_map];rfl
      repeat k_meth
      refine⟨l,_,rfl,SqL.of e3,?_⟩
      repeat k_meth
      rw[List.all_map] at *
      exact k _ F.sm
end
open M22 M82 M87 M75
theorem QC(n:Nat)(rs:List Rw):∀f u,(iQ n f u rs).length<=rs.length+1:=by
 induction rs with
 | nil=>intro f u;exact Nat.le_refl _
 | cons r rs ih =>
  intro f u
  rw[iQ]
  split
  ·have:=ih ((r.st:Int)+(r.sz:Int)) 0
   simp only[List.length_cons];lia
  ·have:=ih f (u+(r.sz:Int))
   simp only[List.length_cons];lia
theorem Az{α:Type}{rs:List α}{i:Nat}{r:α}(h:rs[i]?=some r):rs.drop i=r::rs.drop (i+1):=by
 obtain⟨hi,e⟩:=List.getElem?_eq_some_iff.mp h
 rw[List.drop_eq_getElem_cons hi,e]
def JT:Sp:=λvs H Q _=>∃(l:Addr) (n:Nat) (zs:List V) (rs:List Rw),vs=[.int (n:Nat),.ref l]/\H l=some (.lst zs)/\aH H zs (aX rs)/\rs.length<=40/\∀q ys H',New H H' q (.lst ys)->aH H' ys (bY (iQ n 0 0 rs))->Q (.ref q) H'
instance ac_{l:Addr}{H:Hp}{Q:VK}{E:XK}{n:Nat}{zs:List V}{rs:List Rw}[h2:Hat H l (.lst zs)][t:TpA H zs (aX rs)]:Go (JT [.int (n:Nat),.ref l] H Q E) (Sd (rs.length<=40) (∀q ys H',New H H' q (.lst ys)->aH H' ys (bY (iQ n 0 0 rs))->Q (.ref q) H')):=⟨λs=>⟨l,n,zs,rs,rfl,h2.e,t.e,s.1,s.2⟩⟩
def Le:Sp:=λvs H Q _=>∃(bx q:Addr) (x y z a b c:Int),vs=[.ref bx,.ref q]/\H bx=some (.lst [.int x,.int y,.int z])/\H q=some (.tup [.int a,.int b,.int c]) /\
 ∀(t:Addr) (u1 u2 u3:V) (x' y' z':Int) H',Kp bx H H'->H' bx=some (.lst [.int x',.int y',.int z'])->H' t=some (.tup [u1,u2,u3])->cQ u1=true/\cQ u2=true/\cQ u3=true->Q (.ref t) H'
def Yn:Sp:=λvs H Q _=>∃(bx q:Addr) (x y z a b c:Int),vs=[.ref bx,.ref q]/\H bx=some (.lst [.int x,.int y,.int z])/\H q=some (.tup [.int a,.int b,.int c])/\(0<=c/\c<=240) /\
 ∀(t t1 t2:Addr) (x' y' z' e d f:Int) H',Kp bx H H'->H' bx=some (.lst [.int x',.int y',.int z'])->H' t=some (.lst [.ref t1,.ref t2])->H' t1=some (.tup [.int a,.int e,.int d])->H' t2=some (.tup [.int e,.int b,.int f])->t≠bx->(∀b u,H b=some u->b≠t)->Q (.ref t) H'
section
variable{P:Program}{w:World}{K:W.Frag}{mg:Str->Option Value}{base:Heap}{c:Nat->Addr}{aF aq R CL CP CS:Addr}
theorem pR(T:Txt K mg c R CL CP CS aF aq):Def P w K mg base CX0 1 "_law_whole" ["_law_thing"] (uI K):=by
 refine bQ T.Dq yj (λvs H Q E h=>?_) (λ_ _ _ _ _ _=>el1 λ_=>rfl) (λf cdv A outer s H vs Q E hr h=>?_)
 ·obtain⟨x,n,rfl,_⟩:=h
  rfl
 ·obtain⟨x,n,rfl,ty,k⟩:=h
  have nd:=yj.nd
  refine⟨_,(aB (aV (fO (aY cV rfl T.bJ boot_isinstance (aj (pv 0) (aj (fC (T := "int") rfl T.yM boot_int) ao))) (gV (Lz (aY cV rfl T.bJ boot_isinstance (aj (pv 0) (aj (fC (T := "bool") rfl T.nJ boot_bool) ao)))))))),?_⟩
  clear nd 
  rw[show start ["_law_thing"] [x]=[some (x)] from rfl]
  try dsimp only[cO,bW]
  rw[M6] at k
  repeat k_meth
  refine w_is ty (M7 ty) ?_
  repeat k_meth
  refine i_b (λh=>?_) (λh=>?_)
  ·repeat k_meth
   refine w_is ty (oE ty) ?_
   repeat k_meth
   rw[h] at k
   exact k
  ·rw[h] at k
   exact k
theorem iw(T:Txt K mg c R CL CP CS aF aq):Def P w K mg base CX0 1 "_law_stretches" ["_law_many_here","_law_rows_here"] JT:=by
 refine bQ T.oW mK (λvs H Q E h=>?_) (λ_ _ _ _ _ _=>el2 λ_ _=>rfl) (λf cdv A outer s H vs Q E hr h=>?_)
 ·obtain⟨l,n,zs,rs,rfl,_⟩:=h
  rfl
 ·obtain⟨l,n,zs,rs,rfl,hl,tp,few,k⟩:=h
  have nd:=mK.nd
  refine⟨_,(au (aP (i:=2) nd rfl (Or.inl rfl) (bV ao))
   (au (aP (i:=3) nd rfl (Or.inl rfl) aA)
   (au (aP (i:=4) nd rfl (Or.inl rfl) aA)
   (au (dX PassesOwn.never rfl (dh (pv 1)) (tX rfl (eG (bN (i:=5) nd rfl (Or.inl rfl)) (eG (bN (i:=6) nd rfl (Or.inl rfl)) (eG (bN (i:=7) nd rfl (Or.inl rfl)) (eG (bN (i:=8) nd rfl (Or.inl rfl)) nQ))))) (aB (cF (bU jU (pv 8) aA (bR _)) (au (dw (cX (pv 2) (cU (aj (pv 3) (aj (pv 6) (aj (aR cP (aR cP (pv 6) (pv 3)) (pv 4)) ao))))))
     (au (aP (i:=3) nd rfl (Or.inl rfl) (aR cG (pv 6) (pv 7)))
     (aB (aP (i:=4) nd rfl (Or.inl rfl) aA)))) (aB (aP (i:=4) nd rfl (Or.inl rfl) (aR cG (pv 4) (pv 7)))))))
   (aB (aV (aR dW (pv 2) (bV (aj (cU (aj (pv 3) (aj (pv 0) (aj (aR cP (aR cP (pv 0) (pv 3)) (pv 4)) ao)))) ao))))))))),?_⟩
  clear nd 
  rw[show start ["_law_many_here","_law_rows_here","_law_found","_law_first","_law_used","_law_name","_law_start","_law_size","_law_pins"] [.int (n:Nat),.ref l]=[some (.int (n:Nat)),some (.ref l),none,none,none,none,none,none,none] from rfl]
  try dsimp only[cO,bW]
  obtain⟨bD,bF,bG,aN,aU,aL,aD⟩:=zsix T
  have K5:=Old.mk (M:=[]) hl nm0
  have jx:=gk.mk tp
  have F:SH H [] H [] []:=SH.nil
  have zl:zs.length=rs.length:=by rw[tp.1,bL]
  have sl:=QC n rs 0 0
  repeat k_meth
  rename Addr=>fo
  refine f9 (xs:=zs) (λi σ' H'=>∃(o5 o6 o7 o8:Option V) (f u:Int) (ws:List W3) (ys:List V),σ'=[some (.int (n:Nat)),some (.ref l),some (.ref fo),some (.int f),some (.int u),o5,o6,o7,o8]/\ws++iQ n f u (rs.drop i)=iQ n 0 0 rs/\ys.length=ws.length/\SH H [] H' [(fo,.lst ys)] [.tps ys (bY ws)]) ⟨_,_,_,_,0,0,[],[],rfl,rfl,rfl,(F.gH (ys:=[]) (rs:=bY []) aH.nil).sub SbC.s (λ_ h=>h)⟩ ?_ ?_ ?_
  ·clear F
   rintro i σ' H' _ ⟨_,_,_,_,f,u,ws,ys,rfl,e,yl,F⟩
   exact SqA.e
  ·clear F
   rintro i v σ' H' hv ⟨_,_,_,_,f,u,ws,ys,rfl,e,yl,F⟩
   obtain⟨r,q1,e1,rfl,e2⟩:=d7 tp hv
   have vV:=Old.mk (M:=[]) e2 nm0
   rw[Az e1,iQ] at e
   have wl:ws.length<=41:=by
    have:=congrArg List.length e
    rw[List.length_append] at this
    lia
   repeat k_meth
   refine fW (λh=>?_) (λh=>?_)
   ·have hp:0<r.pn:=by lia
    rw[if_pos hp] at e
    repeat k_meth
    rename Addr=>tq
    have F2:=SH.app (ys:=ys) (rs:=bY ws) (q:=tq) (r:=pB (f,(r.st:Int),(r.st:Int)-f-u)) F (LkP.m) (LkI.m)
    rw[<- jP] at F2
    exact⟨_,_,_,_,_,_,ws++[(f,(r.st:Int),(r.st:Int)-f-u)],ys++[.ref tq],rfl,by rw[<- e,List.append_assoc];rfl,by simp[yl],F2.sub SbC.s SbI.s⟩
   ·have hp:¬ 0<r.pn:=by lia
    rw[if_neg hp] at e
    repeat k_meth
    exact⟨_,_,_,_,_,_,ws,ys,rfl,e,yl,F.sub SbC.s SbI.s⟩
  ·clear F
   rintro σ' H' ⟨_,_,_,_,f,u,ws,ys,rfl,e,yl,F⟩
   rw[zl,List.drop_of_length_le (Nat.le_refl _),iQ] at e
   have wl:ws.length<=41:=by
    have:=congrArg List.length e
    rw[List.length_append] at this
    lia
   repeat k_meth
   rename_i tq _ _
   have tA:aH H_ (ys++[.ref tq]) (bY (iQ n 0 0 rs)):=by
    rw[<- e,jP]
    exact(F.tps (ys:=ys) (rs:=bY ws) (by simp)).snoc aO
   exact k _ _ _ SH.nwC tA
theorem mz(T:Txt K mg c R CL CP CS aF aq):Def P w K mg base CX0 2 "_law_turned" ["_law_box_here","_law_row"] Le:=by
 have bM:=bM (P:=P) (w:=w) (base:=base) T
 refine bQ T.yJ vA (λvs H Q E h=>?_) (λ_ _ _ _ _ _=>el2 λ_ _=>rfl) (λf cdv A outer s H vs Q E hr h=>?_)
 ·obtain⟨bx,q,x,y,z,a,b,c0,rfl,_⟩:=h
  rfl
 ·obtain⟨bx,q,x,y,z,a,b,c0,rfl,hb,hq,k⟩:=h
  have nd:=vA.nd
  refine⟨_,(au (aP (i:=2) nd rfl (Or.inl rfl) (aJ bM hr (aj (pv 0) (aj aA ao))))
   (au (aP (i:=3) nd rfl (Or.inl rfl) (aZ bO (bV (aj (aR cG (aZ bT (pv 1) (pv 2) (λ_ _=>rfl)) aA) (aj (aR cP (aZ bT (pv 1) (pv 2) (λ_ _=>rfl)) aA) (aj fH (aj fH ao))))) (aJ bM hr (aj (pv 0) (aj aA ao))) (λ_ _=>rfl)))
   (aB (aV (aR zV (aR zV (jl FN (pv 1) k_ (lB (pv 2))) (cU (aj (pv 3) ao))) (jl FN (pv 1) (lB (aR cG (pv 2) aA)) k_)))))),?_⟩
  clear nd bM
  rw[show start ["_law_box_here","_law_row","_law_at","_law_number"] [.ref bx,.ref q]=[some (.ref bx),some (.ref q),none,none] from rfl]
  try dsimp only[cO,bW]
  obtain⟨bD,bF,bG,aN,aU,aL,aD⟩:=zsix T
  have F:SH H [bx] H [(bx,.lst [.int x,.int y,.int z])] []:=SH.nil.iI List.mem_cons_self hb rfl (by simp)
  have o_q:=Old.mk (M:=[bx]) hq (nm1 (cL hq hb (by simp)))
  have ti:∀(i:Int) (w:Int),AtI [V.int a,.int b,.int c0] i (.int w)->∀r:Int,0<=r->r<4->∃v,cQ v=true/\AtI [V.int (w+1),V.int (w-1),V.bl true,V.bl false] r v:=λi w _ r h1 h2=>by
   rcases(show r=0\/r=1\/r=2\/r=3 by lia) with rfl|rfl|rfl|rfl <;> exact⟨_,rfl,⟨rfl⟩⟩
  repeat k_meth
  rcases(show r_=0\/r_=1\/r_=2 by lia) with rfl|rfl|rfl
  ·have i0:AtI [V.int a,V.int b,V.int c0] 0 (.int a):=⟨rfl⟩
   repeat k_meth
   obtain⟨v,fv,av⟩:=ti 0 a i0 r_ (by assumption) (by assumption)
   have w1:Ce [V.int a,V.int b,V.int c0] none (some 0) []:=⟨rfl⟩
   have w2:Ce [V.int a,V.int b,V.int c0] (some (0+1)) none [V.int b,V.int c0]:=⟨rfl⟩
   have n1:NwU [V.int a,V.int b,V.int c0] none (some 0):=⟨by show ¬ (HT.sIx 3 0 none=0/\HT.sIx 3 3 (some 0)=3);decide⟩
   have n2:NwU [V.int a,V.int b,V.int c0] (some (0+1)) none:=⟨by show ¬ (HT.sIx 3 0 (some (0+1))=0/\HT.sIx 3 3 none=3);decide⟩
   repeat k_meth
   exact k _ v (V.int b) (V.int c0) _ _ _ _ F.kpo aO aO ⟨fv,rfl,rfl⟩
  ·have i0:AtI [V.int a,V.int b,V.int c0] 1 (.int b):=⟨rfl⟩
   repeat k_meth
   obtain⟨v,fv,av⟩:=ti 1 b i0 r_ (by assumption) (by assumption)
   have w1:Ce [V.int a,V.int b,V.int c0] none (some 1) [V.int a]:=⟨rfl⟩
   have w2:Ce [V.int a,V.int b,V.int c0] (some (1+1)) none [V.int c0]:=⟨rfl⟩
   have n1:NwU [V.int a,V.int b,V.int c0] none (some 1):=⟨by show ¬ (HT.sIx 3 0 none=0/\HT.sIx 3 3 (some 1)=3);decide⟩
   have n2:NwU [V.int a,V.int b,V.int c0] (some (1+1)) none:=⟨by show ¬ (HT.sIx 3 0 (some (1+1))=0/\HT.sIx 3 3 none=3);decide⟩
   repeat k_meth
   rw[show [V.int a]++[v]=[V.int a,v] from rfl] at F
   repeat k_meth
   exact k p_ (V.int a) v (V.int c0) _ _ _ _ F.kpo aO (aO (o:=.tup ([V.int a,v]++[V.int c0]))) ⟨rfl,fv,rfl⟩
  ·have i0:AtI [V.int a,V.int b,V.int c0] 2 (.int c0):=⟨rfl⟩
   repeat k_meth
   obtain⟨v,fv,av⟩:=ti 2 c0 i0 r_ (by assumption) (by assumption)
   have w1:Ce [V.int a,V.int b,V.int c0] none (some 2) [V.int a,V.int b]:=⟨rfl⟩
   have w2:Ce [V.int a,V.int b,V.int c0] (some (2+1)) none []:=⟨rfl⟩
   have n1:NwU [V.int a,V.int b,V.int c0] none (some 2):=⟨by show ¬ (HT.sIx 3 0 none=0/\HT.sIx 3 3 (some 2)=3);decide⟩
   have n2:NwU [V.int a,V.int b,V.int c0] (some (2+1)) none:=⟨by show ¬ (HT.sIx 3 0 (some (2+1))=0/\HT.sIx 3 3 none=3);decide⟩
   repeat k_meth
   rw[show [V.int a,V.int b]++[v]=[V.int a,V.int b,v] from rfl] at F
   repeat k_meth
   exact k _ (V.int a) (V.int b) v _ _ _ _ F.kpo aO aO ⟨rfl,rfl,fv⟩
theorem A_(T:Txt K mg c R CL CP CS aF aq):Def P w K mg base CX0 2 "_law_cut" ["_law_box_here","_law_row"] Yn:=by
 have bM:=bM (P:=P) (w:=w) (base:=base) T
 refine bQ T.PX Jg (λvs H Q E h=>?_) (λ_ _ _ _ _ _=>el2 λ_ _=>rfl) (λf cdv A outer s H vs Q E hr h=>?_)
 ·obtain⟨bx,q,x,y,z,a,b,c0,rfl,_⟩:=h
  rfl
 ·obtain⟨bx,q,x,y,z,a,b,c0,rfl,hb,hq,c1,k⟩:=h
  have nd:=Jg.nd
  refine⟨_,(au (aP (i:=2) nd rfl (Or.inl rfl) (aR cG (aZ bT (pv 1) aA (λ_ _=>rfl)) (aR nR (aR cP (aZ bT (pv 1) aA (λ_ _=>rfl)) (aZ bT (pv 1) aA (λ_ _=>rfl))) aA)))
   (au (aP (i:=3) nd rfl (Or.inl rfl) (aJ bM hr (aj (pv 0) (aj (aR cG (aZ bT (pv 1) aA (λ_ _=>rfl)) aA) ao))))
   (aB (aV (bV (aj (cU (aj (aZ bT (pv 1) aA (λ_ _=>rfl)) (aj (pv 2) (aj (pv 3) ao)))) (aj (cU (aj (pv 2) (aj (aZ bT (pv 1) aA (λ_ _=>rfl)) (aj (aR cP (aZ bT (pv 1) aA (λ_ _=>rfl)) (pv 3)) ao)))) ao))))))),?_⟩
  clear nd bM
  rw[show start ["_law_box_here","_law_row","_law_middle","_law_less"] [.ref bx,.ref q]=[some (.ref bx),some (.ref q),none,none] from rfl]
  try dsimp only[cO,bW]
  obtain⟨bD,bF,bG,aN,aU,aL,aD⟩:=zsix T
  have F:SH H [bx] H [(bx,.lst [.int x,.int y,.int z])] []:=SH.nil.iI List.mem_cons_self hb rfl (by simp)
  have o_q:=Old.mk (M:=[bx]) hq (nm1 (cL hq hb (by simp)))
  repeat k_meth
  rename_i t1 _ t2
  exact k p_ t1 t2 _ _ _ _ _ _ _ F.kpo aO aO aO aO (SH.neC (F:=F)) (λb u e=>F.fresh (LkL.m (a:=p_) (o:=.lst _)) (nm1 (SH.neC (F:=F))) b u e)
end
open M22 M82 M87 M75
def ae3:Dt->Bool
 | .bl _=>true
 | _=>false
theorem abP{K:W.Frag}{H:Hp}:∀{d:Dt} {v:V},TrH H d v->∃n,dR K H v (.type n)/\isB v=ae3 d
 | .non,v,h=>by simp only[TrH] at h;subst h;exact⟨_,.non,rfl⟩
 | .bl b,v,h=>by simp only[TrH] at h;subst h;exact⟨_,.bl b,rfl⟩
 | .int i,v,h=>by simp only[TrH] at h;subst h;exact⟨_,.int i,rfl⟩
 | .str x,v,h=>by simp only[TrH] at h;subst h;exact⟨_,.str x,rfl⟩
 | .lst ds,v,h=>by
  simp only[TrH] at h
  obtain⟨p,xs,rfl,hp,_⟩:=h
  exact⟨_,.lst hp,rfl⟩
 | .tup ds,v,h=>by
  simp only[TrH] at h
  obtain⟨p,xs,rfl,hp,_⟩:=h
  exact⟨_,.tup hp,rfl⟩
def wD:Dt->Bool
 | .int _=>true
 | _=>false
theorem abQ{H:Hp}:∀{d:Dt} {v:V},TrH H d v->isW v=wD d
 | .non,v,h=>by simp only[TrH] at h;subst h;rfl
 | .bl b,v,h=>by simp only[TrH] at h;subst h;rfl
 | .int i,v,h=>by simp only[TrH] at h;subst h;rfl
 | .str x,v,h=>by simp only[TrH] at h;subst h;rfl
 | .lst ds,v,h=>by simp only[TrH] at h;obtain⟨p,xs,rfl,hp,_⟩:=h;rfl
 | .tup ds,v,h=>by simp only[TrH] at h;obtain⟨p,xs,rfl,hp,_⟩:=h;rfl
theorem QD:∀(ds:List Dt) (is:List Int),dU ds (is.map Dt.int)=true->(ds.map wD).all id=!gJ ds
 | [],[],_=>rfl
 | [],_::_,h=>by simp[dU] at h
 | d::ds,[],h=>by simp[dU] at h
 | d::ds,i::is,h=>by
  simp only[List.map_cons,dU,Bool.and_eq_true] at h
  have ih:=QD ds is h.2
  rw[List.map_cons,List.all_cons,ih]
  simp only[gJ]
  cases d <;> simp[fD] at h <;> simp[wD,g8]
theorem Yo{ds:List Dt}{ys:List V}(hl:ys.length=ds.length)(h:∀(i:Nat) (y:V),ys[i]?=some y->∃d,ds[i]?=some d/\y=.bl (wD d)):ys=(ds.map wD).map V.bl:=by
 apply List.ext_getElem?
 intro i
 rw[List.getElem?_map,List.getElem?_map]
 cases e:ys[i]? with
 | none =>
  have:ds[i]?=none:=by rw[List.getElem?_eq_none_iff] at e ⊢;lia
  rw[this]
  rfl
 | some y =>
  obtain⟨d,e1,e2⟩:=h i y e
  rw[e1,e2]
  rfl
theorem wF:∀(ds es:List Dt),ds.length≠es.length->eE ds es=false
 | [],[],h=>absurd rfl h
 | [],_::_,_=>rfl
 | _::_,[],_=>rfl
 | d::ds,e::es,h=>by rw[eE,wF ds es (by simpa using h),Bool.and_false]
abbrev mQ(w:W3):Dt:=.tup ([w.1,w.2.1,w.2.2].map Dt.int)
theorem Lf(ds:List Dt)(w:W3):dF (.tup ds) (mQ w)=(dU ds ([w.1,w.2.1,w.2.2].map Dt.int) && !gJ ds):=by
 rw[oM (mQ w) (.tup ds) rfl]
 rfl
theorem Ey{ds es:List Dt}{i:Nat}{d e:Dt}(h1:ds[i]?=some d)(h2:es[i]?=some e):eE (ds.drop i) (es.drop i)=(dF d e && eE (ds.drop (i+1)) (es.drop (i+1))):=by
 rw[Az h1,Az h2,eE]
def zE:Sp:=λvs H Q _=>∃(v:V) (q:Addr) (ys:List V) (ws:List W3) (o:Option Dt),vs=[v,.ref q]/\ThK H o v/\H q=some (.lst ys)/\aH H ys (bY ws)/\ws.length<=41/\∀H',Same H H'->Q (.bl (tkD o ws)) H'
section
variable{P:Program}{w:World}{K:W.Frag}{mg:Str->Option Value}{base:Heap}{c:Nat->Addr}{aF aq R CL CP CS:Addr}
theorem gU(T:Txt K mg c R CL CP CS aF aq):Def P w K mg base CX0 2 "_law_alike" ["_law_thing","_law_due"] zE:=by
 have pR:=pR (P:=P) (w:=w) (base:=base) T
 refine bQ T.Dr yp (λvs H Q E h=>?_) (λ_ _ _ _ _ _=>el2 λ_ _=>rfl) (λf cdv A outer s H vs Q E hr h=>?_)
 ·obtain⟨v,q,ys,ws,o,rfl,_⟩:=h
  rfl
 ·obtain⟨v,q,ys,ws,o,rfl,th,hq,tq,w41,k⟩:=h
  have nd:=yp.nd
  refine⟨_,(au (cF (PW.pt (rH (dG (cT (aY cV rfl T.bJ boot_isinstance (aj (pv 0) (aj (fC (T := "list") rfl T.fG boot_list) ao))))) (mV (bU Mi (aY dB rfl T.iW boot_len (aj (pv 0) ao)) (aY dB rfl T.iW boot_len (aj (pv 1) ao)) (bR _))))) (aB (aV fH)) bI)
   (au (dX PassesOwn.never rfl (Xy rfl T.Vj (aj (pv 0) (aj (pv 1) ao))) (tX rfl (eG (bN (i:=2) nd rfl (Or.inl rfl)) (eG (bN (i:=3) nd rfl (Or.inl rfl)) nQ))) (aB (cF (PW.pt (rH (dG (cT (aY cV rfl T.bJ boot_isinstance (aj (pv 2) (aj (fC (T := "tuple") rfl T.iV boot_tuple) ao))))) (rH (bU (uE hr) (pv 2) (pv 3) (bR _)) (mV (dG (cT (aY (n6 rfl) rfl T.Du boot_all (aj (fj (N:=["_law_number"]) (nt:=1) (fr:=[]) (zG (pv 2)) (λ_ _ _ _=>(bN (i:=0) (show (["_law_number"]:List Str).Nodup from by decide +kernel) rfl (Or.inl rfl))) (λ_ _ _ _=>eZ) (λ_ _ _ _=>(aJ pR hr (aj (pv 0) ao)))) ao)))))))) (aB (aV fH)) bI)))
   (aB (aV fH)))),?_⟩
  clear nd pR
  rw[show start ["_law_thing","_law_due","_law_row","_law_other"] [v,.ref q]=[some (v),some (.ref q),none,none] from rfl]
  try dsimp only[cO,bW]
  obtain⟨bD,bF,bG,aN,aU,aL,aD⟩:=zsix T
  have K4:=Old.mk (M:=[]) hq nm0
  have ae4:=gk.mk tq
  have F:SH H [] H [] []:=SH.nil
  have yl:ys.length=ws.length:=by rw[tq.1,cM]
  cases o with
  | none =>
   obtain⟨p,rfl,hp⟩:=th
   have o_p:=Old.mk (M:=[]) hp nm0
   repeat k_meth
   exact k _ F.sm
  | some d =>
   obtain⟨td,dd,wd⟩:=th
   have k:∀H',Same H H'->Q (.bl (dF d (nO ws))) H':=k
   cases d with
   | non =>
    simp only[TrH] at td
    subst td
    repeat k_meth
    exact k _ F.sm
   | bl b =>
    simp only[TrH] at td
    subst td
    repeat k_meth
    exact k _ F.sm
   | int i =>
    simp only[TrH] at td
    subst td
    repeat k_meth
    exact k _ F.sm
   | str x =>
    simp only[TrH] at td
    subst td
    repeat k_meth
    exact k _ F.sm
   | tup ds =>
    simp only[TrH] at td
    obtain⟨p,xs,rfl,hp,ts⟩:=td
    have o_p:=Old.mk (M:=[]) hp nm0
    repeat k_meth
    exact k _ F.sm
   | lst ds =>
    simp only[TrH] at td
    obtain⟨p,xs,rfl,hp,ts⟩:=td
    have o_p:=Old.mk (M:=[]) hp nm0
    have ln:=ts.len
    have wd1:ds.length<=1000/\iJ ds:=wd
    have el:((bY ws).map dN).length=ws.length:=by rw[List.length_map,cM]
    have k:∀H',Same H H'->Q (.bl (eE ds ((bY ws).map dN))) H':=k
    repeat k_meth
    by_cases hl:ds.length=ws.length
    rotate_left
    ·rw[if_pos (by simp;lia)]
     repeat k_meth
     rw[wF _ _ (by rw[el];exact hl)] at k
     exact k _ F.sm
    rw[if_neg (by simp;lia)]
    repeat k_meth
    refine Tj (by lia) (λi σ' H'=>∃o2 o3:Option V,σ'=[some (.ref p),some (.ref q),o2,o3]/\eE ds ((bY ws).map dN)=eE (ds.drop i) (((bY ws).map dN).drop i)/\SH H [] H' [] []) ⟨_,_,rfl,rfl,F⟩ ?_ ?_ ?_
    ·clear F
     rintro i σ' H' hi ⟨_,_,rfl,_,F⟩
     exact⟨SqL.of (F.sm _ _ hp),SqL.of (F.sm _ _ hq)⟩
    ·clear F
     rintro i x y Tp σ' H1 H2 hx hy ⟨_,_,rfl,al,F⟩ nw
     obtain⟨d,hd,td⟩:=ts.at hx
     obtain⟨w,q2,ew,rfl,hq2⟩:=Ua tq hy
     have af4:=Old.mk (M:=[]) hq2 nm0
     have he:((bY ws).map dN)[i]?=some (mQ w):=by rw[List.getElem?_map];unfold bY;rw[List.getElem?_map,ew];rfl
     rw[Ey hd he] at al
     have wd2:=jt wd1.2 hd
     replace F:=F.newT nw
     cases d with
     | non =>
      simp only[TrH] at td
      subst td
      rw[show dF (.non) (mQ w)=false by simp[dF],Bool.false_and] at al
      rw[al] at k
      repeat k_meth
      exact k _ F.sm
     | bl b =>
      simp only[TrH] at td
      subst td
      rw[show dF (.bl b) (mQ w)=false by simp[dF],Bool.false_and] at al
      rw[al] at k
      repeat k_meth
      exact k _ F.sm
     | int i =>
      simp only[TrH] at td
      subst td
      rw[show dF (.int i) (mQ w)=false by simp[dF],Bool.false_and] at al
      rw[al] at k
      repeat k_meth
      exact k _ F.sm
     | str x =>
      simp only[TrH] at td
      subst td
      rw[show dF (.str x) (mQ w)=false by simp[dF],Bool.false_and] at al
      rw[al] at k
      repeat k_meth
      exact k _ F.sm
     | lst es =>
      simp only[TrH] at td
      obtain⟨p2,xs2,rfl,hp2,ts2⟩:=td
      have Yp:=Old.mk (M:=[]) hp2 nm0
      rw[show dF (.lst es) (mQ w)=false by simp[dF],Bool.false_and] at al
      rw[al] at k
      repeat k_meth
      exact k _ F.sm
     | tup es =>
      have tdd:=td
      simp only[TrH] at td
      obtain⟨p2,xs2,rfl,hp2,ts2⟩:=td
      have Yp:=Old.mk (M:=[]) hp2 nm0
      have ln2:=ts2.len
      have wd3:es.length<=1000/\iJ es:=wd2
      rw[Lf] at al
      have d1:=ju hd
      have dd1:fJ ds+1<=2:=by simpa only[dH] using dd
      repeat k_meth
      refine⟨.tup es,mQ w,(tdd.same F.sm).rep,Tf (r:=pB w) aO (λv hv=>rF [w] (pB w) (by simp[bY]) v hv),by lia,?_⟩
      rw[show fD (.tup es) (mQ w)=dU es ([w.1,w.2.1,w.2.2].map Dt.int) from rfl]
      cases eq:dU es ([w.1,w.2.1,w.2.2].map Dt.int) with
      | false =>
       rw[eq,Bool.false_and,Bool.false_and] at al
       rw[al] at k
       repeat k_meth
       exact k _ F.sm
      | true =>
       rw[eq,Bool.true_and] at al
       repeat k_meth
       refine comp_map (P:=λi y=>∃d,es[i]?=some d/\y=.bl (wD d)) (qt (xs:=xs2)) (by lia) rfl (λH' s=>s.tup (SqT.of aO)) (λj v H' R hv s kk=>?_) λz H3 us nw hl2 hP=>?_
       ·obtain⟨e,he2,te⟩:=ts2.at hv
        have te2:=te.same (F.sm.trans s)
        clear F
        have F:SH H' [] H' [] []:=SH.nil
        obtain⟨nm,ty,_⟩:=abP (K:=K) te2
        repeat k_meth
        exact⟨v,nm,rfl,ty,kk _ _ (Same.refl _) ⟨e,he2,by rw[abQ te2]⟩⟩
       ·rw[Yo (hl2.trans ln2) hP] at nw
        replace F:=F.newL nw
        repeat k_meth
        refine⟨z,_,rfl,SqA.e,?_⟩
        rw[QD es _ eq]
        cases eh:gJ es with
        | true =>
         rw[eh,Bool.not_true,Bool.false_and] at al
         rw[al] at k
         repeat k_meth
         exact k _ F.sm
        | false =>
         rw[eh,Bool.not_false,Bool.true_and] at al
         repeat k_meth
         exact⟨_,_,rfl,al,F.sub SbC.s SbI.s⟩
    ·clear F
     rintro σ' H' ⟨_,_,rfl,al,F⟩
     rw[show xs.length=ds.length from ln,List.drop_length,List.drop_of_length_le (by rw[el];lia)] at al
     rw[al] at k
     repeat k_meth
     exact k _ F.sm
end
open M22 M82 M87 M75
instance ada{K:W.Frag}{H:Hp}{a:Addr}{xs:List V}{Z:Addr->Hp->Prop}[h:SqA K H a xs]:Go (∃a' xs',V.ref a=.ref a'/\V.int (-1)=.int (-1)/\SqL K H a' xs'/\∀p H',New H H' p (.lst xs'.reverse)->Z p H') (∀p H',New H H' p (.lst xs.reverse)->Z p H'):=⟨λk=>⟨a,xs,rfl,rfl,h.e,k⟩⟩
theorem Lg{H:Hp}{bx:Addr}{l ys:List V}{rows:List (List V)}(h:aH H ys rows)(hb:H bx=some (.lst l)):aH (hides [bx] H) ys rows:=⟨h.1,λj r e=>by
 obtain⟨q,e1,e2⟩:=h.2 j r e
 exact⟨q,e1,gK.mpr ⟨nm1 (cL e2 hb (by simp)),e2⟩⟩⟩
theorem QF(ws:List W3):Sm 1 ((bY ws).map dN):=λd hd=>by
 obtain⟨r,hr,rfl⟩:=List.mem_map.mp hd
 obtain⟨w,_,rfl⟩:=List.mem_map.mp hr
 refine⟨by simp[dN,pB,cY,dH,fJ],by simp[dN,pB,cY,g_,iJ]⟩
def G6:Sp:=λvs H Q _=>∃(bx q:Addr) (x y z:Int) (ys:List V) (ws:List W3),vs=[.ref bx,.ref q]/\H bx=some (.lst [.int x,.int y,.int z])/\H q=some (.lst ys)/\q≠bx/\aH H ys (bY ws)/\(0<ws.length/\ws.length<=41)/\(∀w∈ws,0<=w.2.2/\w.2.2<=240) /\
 ∀(v:V) (o:Option Dt) (x' y' z':Int) H',Kp bx H H'->H' bx=some (.lst [.int x',.int y',.int z'])->ThK (hides [bx] H') o v->Q v H'
section
variable{P:Program}{w:World}{K:W.Frag}{mg:Str->Option Value}{base:Heap}{c:Nat->Addr}{aF aq R CL CP CS:Addr}
theorem iz(T:Txt K mg c R CL CP CS aF aq):Def P w K mg base CX0 3 "_law_forged" ["_law_box_here","_law_due"] G6:=by
 have bM:=bM (P:=P) (w:=w) (base:=base) T
 have A_:=A_ (P:=P) (w:=w) (base:=base) T
 have mz:=mz (P:=P) (w:=w) (base:=base) T
 refine bQ T.yK vB (λvs H Q E h=>?_) (λ_ _ _ _ _ _=>el2 λ_ _=>rfl) (λf cdv A outer s H vs Q E hr h=>?_)
 ·obtain⟨bx,q,x,y,z,ys,ws,rfl,_⟩:=h
  rfl
 ·obtain⟨bx,q,x,y,z,ys,ws,rfl,hb,hq,qb,tq,side,fr,k⟩:=h
  have nd:=vB.nd
  refine' ⟨_,?bd0,?main⟩
  case bd0 =>
   refine' au ?s1 ?r1
   case r1 =>
    refine' au ?s2 ?r2
    case r2 =>
     refine' au ?s3 ?r3
     case r3 =>
      refine' au ?s4 ?r4
      case r4 =>
       refine' au ?s5 ?r5
       case r5 =>
        refine' au ?s6 ?r6
        case r6 =>
         refine' au ?s7 ?r7
         case r7 =>
          refine' au ?s8 ?r8
          case r8 =>
           refine' au ?s9 ?r9
           case r9 =>
            refine' au ?s10 ?r10
            case r10 =>
             refine' aB ?s11
             case s11 =>
              exact(aV (aZ bO (bV (aj (eY uF rfl T.iV boot_tuple (aj (pv 1) ao)) (aj jz (aj aA (aj mU (aj MP (aj (bV ao) (aj (bV (aj (cU ao) ao)) (aj fH ao))))))))) (aJ bM hr (aj (pv 0) (aj aA ao))) (λ_ _=>rfl)))
            case s10 =>
             exact(cF (bU gG (pv 3) aA (bR _)) (aB (aV (aR dW (aR dW (pv 4) (bV (aj (aZ bO (bV (aj (jl FN (pv 5) k_ (lB aA)) (aj (aR zV (pv 5) (cU (aj aA ao))) (aj jz (aj aA (aj mU ao)))))) (aJ bM hr (aj (pv 0) (aj aA ao))) (λ_ _=>rfl)) ao))) (pv 6)))) bI)
           case s9 =>
            exact(cF (bU gG (pv 3) aA (bR _)) (aB (aV (aR dW (aR dW (pv 4) (bV (aj (eY fK rfl T.fG boot_list (aj (pv 5) ao)) ao))) (pv 6)))) bI)
          case s8 =>
           exact(cF (bU gG (pv 3) aA (bR _)) (aB (aV (aR dW (aR dW (pv 4) (aJ A_ hr (aj (pv 0) (aj (pv 5) ao)))) (pv 6)))) bI)
         case s7 =>
          exact(cF (bU gG (pv 3) aA (bR _)) (aB (aV (N5 (pv 1) (Hh zH aA)))) bI)
        case s6 =>
         exact(cF (bU gG (pv 3) aA (bR _)) (aB (aV (aR dW (aR dW (pv 4) (bV (aj (pv 5) (aj (pv 5) ao)))) (pv 6)))) bI)
       case s5 =>
        exact(cF (bU gG (pv 3) aA (bR _)) (aB (aV (aR dW (pv 4) (pv 6)))) bI)
      case s4 =>
       exact(cF (bU rJ (pv 3) aA (bR _)) (aB (aV (aR dW (aR dW (pv 4) (bV (aj (aJ mz hr (aj (pv 0) (aj (pv 5) ao))) ao))) (pv 6)))) bI)
     case s3 =>
      exact(TF (i:=4) (j:=5) (l:=6) rfl nd rfl rfl rfl (by decide) (by decide) (by decide) rfl rfl rfl (aj (jl uz (pv 1) k_ (lB (pv 2))) (aj (aZ bO (pv 1) (pv 2) (λ_ _=>rfl)) (aj (jl uz (pv 1) (lB (aR cG (pv 2) aA)) k_) ao))) rfl)
    case s2 =>
     exact(aP (i:=3) nd rfl (Or.inl rfl) (aJ bM hr (aj (pv 0) (aj aA ao))))
   case s1 =>
    exact(aP (i:=2) nd rfl (Or.inl rfl) (aJ bM hr (aj (pv 0) (aj (aY dB rfl T.iW boot_len (aj (pv 1) ao)) ao))))
  clear nd bM A_ mz
  rw[show start ["_law_box_here","_law_due","_law_k","_law_way","_law_ahead","_law_row","_law_behind"] [.ref bx,.ref q]=[some (.ref bx),some (.ref q),none,none,none,none,none] from rfl]
  try dsimp only[cO,bW]
  obtain⟨bD,bF,bG,aN,aU,aL,aD⟩:=zsix T
  obtain⟨w0,w41⟩:=side
  have yl:ys.length=ws.length:=by rw[tq.1,cM]
  have F:SH H [bx] H [(bx,.lst [.int x,.int y,.int z])] [.tps ys (bY ws)]:=(SH.nil.iI List.mem_cons_self hb rfl (by simp)).gH tq
  have o_q:=Old.mk (M:=[bx]) hq (nm1 qb)
  have ts0:cu (hides [bx] H) ((bY ws).map dN) ys:=tQ (Lg tq hb) (rF _)
  have sm0:=QF ws
  have kt:∀{ds:List Dt} {xs:List V} {H1 H2:Hp},Kp bx H1 H2->cu (hides [bx] H1) ds xs->cu (hides [bx] H2) ds xs:=λkp tt=>tt.same (xQ λa u h e=>kp a u (λz=>h (by simp[z])) e)
  repeat k_meth
  rename_i kk _ _ _ k0 k1 _ _
  obtain⟨g,rfl⟩:∃g:Nat,kk=(g:Int):=⟨kk.toNat,by lia⟩
  obtain⟨wy,e⟩:∃z,z=r_:=⟨_,rfl⟩
  subst e
  rw[DP] at F
  obtain⟨w,ew⟩:∃w,ws[g]?=some w:=⟨_,List.getElem?_eq_getElem (by lia)⟩
  obtain⟨q1,e1,e2⟩:∃q1,ys[g]?=some (.ref q1)/\H q1=some (.tup (pB w)):=tq.2 g _ (by unfold bY;rw[List.getElem?_map,ew];rfl)
  have hq1:H q1=some (.tup [.int w.1,.int w.2.1,.int w.2.2]):=e2
  have abE:=Old.mk (M:=[bx]) hq1 (nm1 (cL hq1 hb (by simp)))
  have a1:AtI ys ((g:Nat):Int) (.ref q1):=⟨cD e1⟩
  have frw:=fr w (List.mem_of_getElem? ew)
  have fl3:∀v∈[V.int w.1,V.int w.2.1,V.int w.2.2],cQ v=true:=λv hv=>by
   simp only[List.mem_cons,List.not_mem_nil,or_false] at hv
   rcases hv with rfl|rfl|rfl <;> rfl
  have Dl:((bY ws).map dN).length=ws.length:=by rw[List.length_map,cM]
  have tT:∀{H3:Hp} {t:Addr} {vs l:List V},H3 bx=some (.lst l)->H3 t=some (.tup vs)->(∀v∈vs,cQ v=true)->TrH (hides [bx] H3) (.tup (vs.map cY)) (.ref t):=λh1 h2 fl=>TrH.tup (gK.mpr ⟨nm1 (cL h2 h1 (by simp)),h2⟩) (cu.flats fl)
  have sT:∀(vs:List V),vs.length<=1000->Sm 1 [.tup (vs.map cY)]:=λvs l=>by
   have h:=O3 (Ck vs) (by rw[List.length_map];exact l)
   exact Sm.one h.1 h.2
  have fin:∀(H3:Hp) (fd:Addr) (zs:List V) (ds:List Dt) (x' y' z':Int),Kp bx H H3->H3 bx=some (.lst [.int x',.int y',.int z'])->H3 fd=some (.lst zs)->fd≠bx->cu (hides [bx] H3) ds zs->Sm 1 ds->ds.length<=1000->Q (.ref fd) H3:=λH3 fd zs ds x' y' z' kp hb3 hf ne t sm_ l=>k _ (some (.lst ds)) x' y' z' H3 kp hb3 ⟨TrH.lst (gK.mpr ⟨nm1 ne,hf⟩) t,O2 sm_ l⟩
  have tsA:∀{H3:Hp},Kp bx H H3->cu (hides [bx] H3) (((bY ws).map dN).take g) (ys.take g):=λkp=>(kt kp ts0).take g
  have tsB:∀{H3:Hp},Kp bx H H3->cu (hides [bx] H3) (((bY ws).map dN).drop (g+1)) (ys.drop (g+1)):=λkp=>(kt kp ts0).drop (g+1)
  have smA:=sm0.take g
  have smB:=sm0.drop (g+1)
  repeat k_meth
  rw[show (g:Int)+1=((g+1:Nat):Int) by lia,Ox] at F
  simp only[List.set_cons_zero,List.set_cons_succ]
  repeat k_meth
  refine fW (λh=>?_) (λh=>?_)
  ·repeat k_meth
   refine⟨bx,q1,_,_,_,w.1,w.2.1,w.2.2,rfl,aO,aO,λt u1 u2 u3 x' y' z' H2 kp hb2 ht fl=>?_⟩
   replace F:=(F.kpL kp hb2 LkU.u).Kz ht
   repeat k_meth
   have fl2:∀v∈[u1,u2,u3],cQ v=true:=λv hv=>by
    simp only[List.mem_cons,List.not_mem_nil,or_false] at hv
    rcases hv with rfl|rfl|rfl
    ·exact fl.1
    ·exact fl.2.1
    ·exact fl.2.2
   exact fin _ _ _ _ _ _ _ F.kpo aO aO (SH.neC (F:=F)) (((tsA F.kpo).append (cu.one (tT aO aO fl2))).append (tsB F.kpo)) ((smA.append (sT _ (by simp))).append smB) (by simp[cM];lia)
  repeat k_meth
  refine fW (λh2=>?_) (λh2=>?_)
  ·repeat k_meth
   exact fin _ _ _ _ _ _ _ F.kpo aO aO (SH.neC (F:=F)) ((tsA F.kpo).append (tsB F.kpo)) (smA.append smB) (by simp[cM];lia)
  repeat k_meth
  refine fW (λh3=>?_) (λh3=>?_)
  ·repeat k_meth
   have hB:H_ bx=some (.lst [.int x_,.int y_,.int z_]):=aO
   have hq3:H_ q1=some (.tup [V.int w.1,V.int w.2.1,V.int w.2.2]):=aO
   have tw:=cu.one (tT hB hq3 fl3)
   exact fin _ _ _ _ _ _ _ F.kpo aO aO (SH.neC (F:=F)) (((tsA F.kpo).append (tw.append tw)).append (tsB F.kpo)) ((smA.append ((sT _ (by simp)).append (sT _ (by simp)))).append smB) (by simp[cM];lia)
  repeat k_meth
  refine fW (λh4=>?_) (λh4=>?_)
  ·repeat k_meth
   exact fin _ _ _ _ _ _ _ F.kpo aO aO (SH.neC (F:=F)) (kt F.kpo ts0).rev sm0.rev (by rw[List.length_reverse];lia)
  repeat k_meth
  refine fW (λh5=>?_) (λh5=>?_)
  ·repeat k_meth
   rename_i pa
   have hpa:H_ pa=some (.lst (ys.take g)):=aO
   have hpb:H_ p_=some (.lst (ys.drop (g+1))):=aO
   have npa:pa≠bx:=SH.neC (F:=F)
   have npb:p_≠bx:=SH.neC (F:=F)
   refine⟨bx,q1,_,_,_,w.1,w.2.1,w.2.2,rfl,aO,aO,frw,λt t1 t2 x' y' z' e d f2 H2 kp hb2 ht ht1 ht2 nt nf=>?_⟩
   have kp0:=F.kpo.trans kp
   clear F
   have F:SH H2 [bx] H2 [(bx,.lst [.int x',.int y',.int z'])] []:=SH.nil.iI List.mem_cons_self hb2 rfl (by simp)
   have o_a:=Old.mk (M:=[bx]) (kp pa _ npa hpa) (nm1 npa)
   have o_b:=Old.mk (M:=[bx]) (kp p_ _ npb hpb) (nm1 npb)
   have o_t:=Old.mk (M:=[bx]) ht (nm1 nt)
   repeat k_meth
   have kp2:=kp0.trans F.kpo
   have fi:∀a b c:Int,∀v∈[V.int a,V.int b,V.int c],cQ v=true:=λa b c v hv=>by
    simp only[List.mem_cons,List.not_mem_nil,or_false] at hv
    rcases hv with rfl|rfl|rfl <;> rfl
   have g1:=tT (aO (a:=bx)) (F.kpo t1 _ (cL ht1 hb2 (by simp)) ht1) (fi _ _ _)
   have g2:=tT (aO (a:=bx)) (F.kpo t2 _ (cL ht2 hb2 (by simp)) ht2) (fi _ _ _)
   exact fin _ _ _ _ _ _ _ kp2 aO aO (SH.neC (F:=F)) (((tsA kp2).append ((cu.one g1).append (cu.one g2))).append (tsB kp2)) ((smA.append ((sT _ (by simp)).append (sT _ (by simp)))).append smB) (by simp[cM];lia)
  repeat k_meth
  refine fW (λh6=>?_) (λh6=>?_)
  ·repeat k_meth
   rename_i pl _ _ _ _
   have g1:TrH (hides [bx] H_) (.lst ([V.int w.1,V.int w.2.1,V.int w.2.2].map cY)) (.ref pl):=TrH.lst (gK.mpr ⟨nm1 (SH.neC (F:=F)),aO⟩) (cu.flats fl3)
   have g2:=O2 (Ck [V.int w.1,V.int w.2.1,V.int w.2.2]) (by simp)
   exact fin _ _ _ _ _ _ _ F.kpo aO aO (SH.neC (F:=F)) (((tsA F.kpo).append (cu.one g1)).append (tsB F.kpo)) ((smA.append (Sm.one g2.1 g2.2)).append smB) (by simp[cM];lia)
  repeat k_meth
  refine fW (λh7=>?_) (λh7=>?_)
  ·have w1:Ce [V.int w.1,V.int w.2.1,V.int w.2.2] none (some 2) [V.int w.1,V.int w.2.1]:=⟨rfl⟩
   have n1:NwU [V.int w.1,V.int w.2.1,V.int w.2.2] none (some 2):=⟨by show ¬ (HT.sIx 3 0 none=0/\HT.sIx 3 3 (some 2)=3);decide⟩
   repeat k_meth
   rename_i pc _ _ _ pd _
   have fc:∀v∈[V.int w.1,V.int w.2.1],cQ v=true:=λv hv=>by
    simp only[List.mem_cons,List.not_mem_nil,or_false] at hv
    rcases hv with rfl|rfl <;> rfl
   have fd:∀v∈[V.int w.1,V.int w.2.1,V.int w.2.2]++[V.int 0],cQ v=true:=λv hv=>by
    simp only[List.mem_append,List.mem_cons,List.not_mem_nil,or_false] at hv
    rcases hv with(rfl|rfl|rfl)|rfl <;> rfl
   rcases(show r_=0\/r_=1\/r_=2\/r_=3\/r_=4 by lia) with rfl|rfl|rfl|rfl|rfl
   ·have sO:AtI [V.ref pc,V.ref pd,V.non,V.int 7,V.str (Str.ofString "row")] 0 (.ref pc):=⟨rfl⟩
    repeat k_meth
    exact fin _ _ _ _ _ _ _ F.kpo aO aO (SH.neC (F:=F)) (((tsA F.kpo).append (cu.one (tT (aO (a:=bx)) (aO (a:=pc)) fc))).append (tsB F.kpo)) ((smA.append (sT _ (by simp))).append smB) (by simp[cM];lia)
   ·have sO:AtI [V.ref pc,V.ref pd,V.non,V.int 7,V.str (Str.ofString "row")] 1 (.ref pd):=⟨rfl⟩
    repeat k_meth
    exact fin _ _ _ _ _ _ _ F.kpo aO aO (SH.neC (F:=F)) (((tsA F.kpo).append (cu.one (tT (aO (a:=bx)) (aO (a:=pd)) fd))).append (tsB F.kpo)) ((smA.append (sT _ (by simp))).append smB) (by simp[cM];lia)
   ·have sO:AtI [V.ref pc,V.ref pd,V.non,V.int 7,V.str (Str.ofString "row")] 2 .non:=⟨rfl⟩
    repeat k_meth
    exact fin _ _ _ _ _ _ _ F.kpo aO aO (SH.neC (F:=F)) (((tsA F.kpo).append (cu.one (TrH.flat (v:=.non) rfl))).append (tsB F.kpo)) ((smA.append (Sm.one (by simp[cY,dH]) (by simp[cY,g_]))).append smB) (by simp[cM];lia)
   ·have sO:AtI [V.ref pc,V.ref pd,V.non,V.int 7,V.str (Str.ofString "row")] 3 (.int 7):=⟨rfl⟩
    repeat k_meth
    exact fin _ _ _ _ _ _ _ F.kpo aO aO (SH.neC (F:=F)) (((tsA F.kpo).append (cu.one (TrH.flat (v:=.int 7) rfl))).append (tsB F.kpo)) ((smA.append (Sm.one (by simp[cY,dH]) (by simp[cY,g_]))).append smB) (by simp[cM];lia)
   ·have sO:AtI [V.ref pc,V.ref pd,V.non,V.int 7,V.str (Str.ofString "row")] 4 (.str (Str.ofString "row")):=⟨rfl⟩
    repeat k_meth
    exact fin _ _ _ _ _ _ _ F.kpo aO aO (SH.neC (F:=F)) (((tsA F.kpo).append (cu.one (TrH.flat (v:=.str (Str.ofString "row")) rfl))).append (tsB F.kpo)) ((smA.append (Sm.one (by simp[cY,dH]) (by simp[cY,g_]))).append smB) (by simp[cM];lia)
  repeat k_meth
  rename_i t4 _ d3 _ l2 _ t1 _ l1 _
  rcases(show r_=0\/r_=1\/r_=2\/r_=3\/r_=4\/r_=5\/r_=6\/r_=7 by lia) with rfl|rfl|rfl|rfl|rfl|rfl|rfl|rfl
  ·have sO:AtI [V.ref t4,V.non,V.int 5,V.str (Str.ofString "stuck"),V.ref d3,V.ref l2,V.ref l1,V.bl true] 0 (.ref t4):=⟨rfl⟩
   repeat k_meth
   have h4:H_ t4=some (.tup ys):=aO
   have hB:H_ bx=some (.lst [.int x_,.int y_,.int z_]):=aO
   exact k _ (some (.tup ((bY ws).map dN))) _ _ _ _ F.kpo hB ⟨TrH.tup (gK.mpr ⟨nm1 (cL h4 hB (by simp)),h4⟩) (kt F.kpo ts0),O3 sm0 (by lia)⟩
  ·have sO:AtI [V.ref t4,V.non,V.int 5,V.str (Str.ofString "stuck"),V.ref d3,V.ref l2,V.ref l1,V.bl true] 1 .non:=⟨rfl⟩
   repeat k_meth
   exact k _ (some (.non)) _ _ _ _ F.kpo aO ⟨by simp[TrH],by simp[dH],by simp[g_]⟩
  ·have sO:AtI [V.ref t4,V.non,V.int 5,V.str (Str.ofString "stuck"),V.ref d3,V.ref l2,V.ref l1,V.bl true] 2 (.int 5):=⟨rfl⟩
   repeat k_meth
   exact k _ (some (.int 5)) _ _ _ _ F.kpo aO ⟨by simp[TrH],by simp[dH],by simp[g_]⟩
  ·have sO:AtI [V.ref t4,V.non,V.int 5,V.str (Str.ofString "stuck"),V.ref d3,V.ref l2,V.ref l1,V.bl true] 3 (.str (Str.ofString "stuck")):=⟨rfl⟩
   repeat k_meth
   exact k _ (some (.str (Str.ofString "stuck"))) _ _ _ _ F.kpo aO ⟨by simp[TrH],by simp[dH],by simp[g_]⟩
  ·have sO:AtI [V.ref t4,V.non,V.int 5,V.str (Str.ofString "stuck"),V.ref d3,V.ref l2,V.ref l1,V.bl true] 4 (.ref d3):=⟨rfl⟩
   repeat k_meth
   exact k _ none _ _ _ _ F.kpo aO ⟨_,rfl,gK.mpr ⟨nm1 (SH.neC (F:=F)),aO⟩⟩
  ·have sO:AtI [V.ref t4,V.non,V.int 5,V.str (Str.ofString "stuck"),V.ref d3,V.ref l2,V.ref l1,V.bl true] 5 (.ref l2):=⟨rfl⟩
   repeat k_meth
   exact fin _ l2 [] [] _ _ _ F.kpo aO aO (SH.neC (F:=F)) (cu.flats (xs:=[]) (by simp)) (λd hd=>by cases hd) (by simp)
  ·have sO:AtI [V.ref t4,V.non,V.int 5,V.str (Str.ofString "stuck"),V.ref d3,V.ref l2,V.ref l1,V.bl true] 6 (.ref l1):=⟨rfl⟩
   repeat k_meth
   exact fin _ l1 [.ref t1] _ _ _ _ F.kpo aO aO (SH.neC (F:=F)) (cu.one (tT (vs:=[]) (aO (a:=bx)) (aO (a:=t1)) (by simp))) (sT _ (by simp)) (by simp)
  ·have sO:AtI [V.ref t4,V.non,V.int 5,V.str (Str.ofString "stuck"),V.ref d3,V.ref l2,V.ref l1,V.bl true] 7 (.bl true):=⟨rfl⟩
   repeat k_meth
   exact k _ (some (.bl true)) _ _ _ _ F.kpo aO ⟨by simp[TrH],by simp[dH],by simp[g_]⟩
end
open M22 M82 M87 M75
theorem isR{K:W.Frag}{H:Hp}{Q:VK}{C CB y dy:Addr}{gs:List (Str×V)}(e:H y=some (.ins C dy gs))(cl:Cls K C)(ha:W.findIn K (.ref C) "__class__" = some (some (.builtin "object.__class__")))(hn:W.specialIn K (.builtin "object.__class__") "__get__" = some (some (.builtin "getset_descriptor.__get__")))(htk:W.takesIn K (.builtin "object.__class__")=some true)(hm:W.mroIn K C (.type "object")=some true)(hk:W.kitOne K (.ref C) (.ref CB)=some true)(k:Q (.bl true) H):jE K [.ref y,.ref CB] H Q :=
 ⟨_,_,_,_,rfl,.ins e cl ha hn htk hm,hk,k⟩
theorem Ez{K:W.Frag}{C:Addr}:W.kitOne K (.ref C) (.ref C)=some true:=by
 unfold W.kitOne
 rw[if_pos (by simp)]
def Lh(n:Nat)(rs:List Rw)(s:Int):Bool:=(c7 n rs).all λw=>decide (w.2.2<s)
theorem EY{n:Nat}{rs:List Rw}{s:Nat}(lya:LyA rs n):Lh n rs (s:Int)=true ↔ lcF n rs (s:Int)=none:=by
 rw[Us lya]
 simp[Lh]
theorem QG(ws:List W3):tkD (some (nO ws)) ws=true:=by
 show dF (nO ws) (nO ws)=true
 rw[oM (nO ws) (nO ws) (show g8 (nO ws)=false from lZ ws),fV,show g8 (nO ws)=false from lZ ws]
 rfl
def Li(CL P:Addr)(pos:Pos)(qual:Str):Sp:=λvs H Q _=>∃(x p dx q:Addr) (n:Nat) (zs ys:List V) (rs:List Rw) (s:Nat) (ps:Array Value) (gd:Bool),vs=[.ref x,.int (s:Nat),.ref q,.bl gd]/\LyH CL H x p dx n zs rs/\LyA rs n/\1<=s/\H q=some (.lst ys)/\aH H ys (bY (c7 n rs))/\gd=Lh n rs (s:Nat)/\H P=some (.tbl ps)/\TabOk pos qual ps H /\
 ∀ps' H',Kp P H H'->H' P=some (.tbl ps')->TabOk pos qual ps' H'->Q (.bl true) H'
def G7(CL:Addr):Sp:=λvs H Q _=>∃(x p dx:Addr) (n:Nat) (zs:List V) (rs:List Rw) (s:Nat) (v:V) (o:Option Dt) (gd:Bool),vs=[.ref x,.int (s:Nat),v,.bl gd]/\LyH CL H x p dx n zs rs/\LyA rs n/\1<=s/\ThK H o v/\gd=(tkD o (c7 n rs) && Lh n rs (s:Nat))/\∀H',Same H H'->Q (.bl true) H'
instance Yq{q l:Addr}{ys zs:List V}{ws:List W3}{H:Hp}{Q:VK}{E:XK}[h:Hat H q (.lst ys)][t:TpA H ys (bY ws)][h2:Hat H l (.lst zs)][t2:TpA H zs (bY ws)]:Go (zE [.ref l,.ref q] H Q E) (Sd (ws.length<=41) (∀H',Same H H'->Q (.bl true) H')):=⟨λk=>⟨.ref l,q,ys,ws,some (nO ws),rfl,⟨TrH.lst h2.e (tQ t2.e (rF _)),lD _,⟨by rw[List.length_map,cM];have:=k.1;lia,mj _⟩⟩,h.e,t.e,k.1,by rw[QG];exact k.2⟩⟩
section
variable{P:Program}{w:World}{K:W.Frag}{mg:Str->Option Value}{base:Heap}{c:Nat->Addr}{aF aq R CL CP CS:Addr}
theorem jy(T:Txt K mg c R CL CP CS aF aq)(B:Bm mg base):Def P w K mg base CX0 12 "_law_paper_right" ["_law_layout","_law_size","_law_due","_law_good"] (Li CL aq cZ cJ):=by
 have Ay:=Ay (P:=P) (w:=w) (base:=base) T B
 have i_:=i_ (P:=P) (w:=w) (base:=base) T
 have jT:=jT (P:=P) (w:=w) (base:=base) T
 have jR:=jR (P:=P) (w:=w) (base:=base) T
 have gU:=gU (P:=P) (w:=w) (base:=base) T
 refine bQ T.Ds yq (λvs H Q E h=>?_) (λ_ _ _ _ _ _=>el4 λ_ _ _ _=>rfl) (λf cdv A outer s H vs Q E hr h=>?_)
 ·obtain⟨x,p,dx,q,n,zs,ys,rs,s,ps,gd,rfl,_⟩:=h
  rfl
 ·obtain⟨x,p,dx,q,n,zs,ys,rs,s,ps,gd,rfl,ly,lya,s1,hq,tq,gde,hP,tk,k⟩:=h
  have nd:=yq.nd
  refine⟨_,(au (aP (i:=4) nd rfl (Or.inl rfl) (aJ Ay hr (aj (pv 0) (aj (pv 1) ao))))
   (au (cF (dG (cT (pv 3))) (aB (aV (fO (aY cV rfl T.bJ boot_isinstance (aj (pv 4) (aj (nZ (v:=.ref CP) ⟨_,T.Ah,rfl⟩) ao))) (gV (dJ Ww (fB (pv 4) T.clP jR hr) fH (bR _)))))) bI)
   (au (cF (PW.pt (rH (dG (cT (aY cV rfl T.bJ boot_isinstance (aj (pv 4) (aj (nZ (v:=.ref CS) ⟨_,T.vQ,rfl⟩) ao))))) (mV (bU R_ (fB (pv 4) T.clS jT hr) fH (bR _))))) (aB (aV fH)) bI)
   (au (dX PassesOwn.never rfl (fQ rfl T.gj (aj aA ao)) (bN (i:=5) nd rfl (Or.inl rfl)) (au (aP (i:=6) nd rfl (Or.inl rfl) (fB (pv 4) T.clS i_ hr))
    (au (cF (dG (cT (aJ gU hr (aj (pv 6) (aj (pv 2) ao))))) (aB (aV fH)) bI)
    (aB (dw (Kq (pv 6)))))))
   (aB (aV fH)))))),?_⟩
  clear nd Ay i_ jT jR gU
  rw[show start ["_law_layout","_law_size","_law_due","_law_good","_law_paper","_law_lap","_law_told"] [.ref x,.int (s:Nat),.ref q,.bl gd]=[some (.ref x),some (.int (s:Nat)),some (.ref q),some (.bl gd),none,none,none] from rfl]
  try dsimp only[cO,bW]
  obtain⟨bD,bF,bG,aN,aU,aL,aD⟩:=zsix T
  have F:SH H [] H [] []:=SH.nil
  have sln:=wC n rs
  have few:=lya.l.few
  have w41:(c7 n rs).length<=41:=by lia
  repeat k_meth
  cases e:lcF n rs (s:Nat) with
  | none =>
   refine⟨x,p,dx,n,zs,rs,s,ps,rfl,ly,lya,s1,hP,tk,.inl ⟨e,λy dy q2 ys2 H' G=>?_⟩⟩
   clear F
   have F:SH H [] H' _ _:=G
   clear G
   obtain rfl:gd=true:=gde.trans ((EY lya).mpr e)
   have o_q:=Old.mk (M:=[]) hq nm0
   have ae4:=gk.mk tq
   have o_P:=Old.mk (M:=[]) hP nm0
   have hy:H' y=some (.ins CS dy [("stretches", .ref q2)]):=aO
   have hq2:H' q2=some (.lst ys2):=aO
   have tq2:aH H' ys2 (bY (c7 n rs)):=TpA.e
   repeat k_meth
   refine isR hy T.clS T.Jw T.P0 T.P_ T.Jx Ez ?_
   repeat k_meth
   refine⟨y,dy,_,rfl,hy,rfl,?_⟩
   repeat k_meth
   refine jq (λi σ' H2=>∃o5 o6:Option V,σ'=[some (.ref x),some (.int (s:Nat)),some (.ref q),some (.bl true),some (.ref y),o5,o6]/\SH H [] H2 [(y,.ins CS dy [("stretches", .ref q2)]),(q2,.lst ys2)] [.tps ys2 (bY (c7 n rs))]) ⟨_,_,rfl,F.sub SbC.s SbI.s⟩ ?_ ?_
   ·clear F
    rintro i σ' H2 hi ⟨_,_,rfl,F⟩
    repeat k_meth
    refine⟨y,dy,_,rfl,aO,rfl,?_⟩
    repeat k_meth
    exact⟨_,_,rfl,F.sub SbC.s SbI.s⟩
   ·clear F
    rintro σ' H2 ⟨_,_,rfl,F⟩
    repeat k_meth
    exact k ps _ (λa u _ e=>F.sm a u e) (F.sm _ _ hP) (TabOk.st _ _ (λa o _ e=>F.sm a o e) tk)
  | some c1 =>
   obtain⟨_,g,b,co⟩:=JM lya e
   refine⟨x,p,dx,n,zs,rs,s,ps,rfl,ly,lya,s1,hP,tk,.inr ⟨c1,g,b,e,co,λy dy m ms t ps' H' G=>?_⟩⟩
   clear F
   have F:SH H [aq] H' _ _:=G
   clear G
   obtain rfl:gd=false:=by
    rw[gde,Bool.eq_false_iff]
    intro h
    rw[(EY lya).mp h] at e
    cases e
   have hy:H' y=some (.ins CP dy (pF c1.1 (g:Nat) m t)):=aO
   repeat k_meth
   refine isR hy T.clP T.Ju T.P0 T.P_ T.Jv Ez ?_
   repeat k_meth
   refine⟨y,dy,_,rfl,hy,rfl,?_⟩
   repeat k_meth
   exact k ps' _ F.kpo aO SH.tab
theorem mC(T:Txt K mg c R CL CP CS aF aq):Def P w K mg base CX0 6 "_law_judged" ["_law_layout","_law_size","_law_thing","_law_good"] (G7 CL):=by
 have mq:=mq (P:=P) (w:=w) (base:=base) T
 refine bQ T.yL vG (λvs H Q E h=>?_) (λ_ _ _ _ _ _=>el4 λ_ _ _ _=>rfl) (λf cdv A outer s H vs Q E hr h=>?_)
 ·obtain⟨x,p,dx,n,zs,rs,s,v,o,gd,rfl,_⟩:=h
  rfl
 ·obtain⟨x,p,dx,n,zs,rs,s,v,o,gd,rfl,ly,lya,s1,th,gde,k⟩:=h
  have nd:=vG.nd
  refine⟨_,(au (aP (i:=4) nd rfl (Or.inl rfl) (pv 2))
   (au (cF (cT (aY cV rfl T.bJ boot_isinstance (aj (pv 2) (aj (fC (T := "list") rfl T.fG boot_list) ao)))) (aB (aP (i:=4) nd rfl (Or.inl rfl) (eY fK rfl T.fG boot_list (aj (pv 2) ao)))) bI)
   (au (aP (i:=5) nd rfl (Or.inl rfl) (aJ mq hr (aj (pv 0) (aj (pv 1) (aj (pv 4) ao)))))
   (aB (aV (fO (aY cV rfl T.bJ boot_isinstance (aj (pv 5) (aj (fC (T := "bool") rfl T.nJ boot_bool) ao))) (fO (dJ gG (pv 5) (pv 3) (bR _)) (gV (dJ (Tw (K:=K) rfl hr) (pv 4) (pv 2) (bR _)))))))))),?_⟩
  clear nd mq
  rw[show start ["_law_layout","_law_size","_law_thing","_law_good","_law_handed","_law_found"] [.ref x,.int (s:Nat),v,.bl gd]=[some (.ref x),some (.int (s:Nat)),some (v),some (.bl gd),none,none] from rfl]
  try dsimp only[cO,bW]
  have hx:=ly.x
  have hp:=ly.p
  have tp:=ly.t
  have few:=lya.l.few
  have mD:=lya.h
  have zl:zs.length=rs.length:=by rw[tp.1,bL]
  obtain⟨bD,bF,bG,aN,aU,aL,aD⟩:=zsix T
  have jh:=Old.mk (M:=[]) hx nm0
  have iT:=Old.mk (M:=[]) hp nm0
  have jx:=gk.mk tp
  have F:SH H [] H [] []:=SH.nil
  have s11:(1:Int)<=(s:Int):=by lia
  have af5:(tkD o (c7 n rs) && (c7 n rs).all λw=>decide (w.2.2<(s:Int)))=gd:=gde.symm
  cases o with
  | none =>
   have th0:=th
   obtain⟨q,rfl,hq⟩:=th
   have o_q:=Old.mk (M:=[]) hq nm0
   have tka:∀{H'},Same H H'->Ux H' none (.ref q):=λs=>⟨th0.same s⟩
   repeat k_meth
   rw[if_neg (by simp)]
   repeat k_meth
   have t1:=tka F.sm
   repeat k_meth
   exact k _ F.sm
  | some d =>
   have th0:=th
   obtain⟨td,dd,wd⟩:=th
   have td0:=td
   have tka:∀{H'},Same H H'->Ux H' (some d) v:=λs=>⟨th0.same s⟩
   cases d with
   | non =>
    simp only[TrH] at td
    subst td
    repeat k_meth
    rw[if_neg (by simp)]
    repeat k_meth
    have t1:=tka F.sm
    repeat k_meth
    refine .inl ⟨.non,.non,(td0.same F.sm).rep,(td0.same F.sm).rep,by lia,?_⟩
    rw[fV]
    repeat k_meth
    exact k _ F.sm
   | bl b =>
    simp only[TrH] at td
    subst td
    repeat k_meth
    rw[if_neg (by simp)]
    repeat k_meth
    have t1:=tka F.sm
    repeat k_meth
    refine .inl ⟨.bl b,.bl b,(td0.same F.sm).rep,(td0.same F.sm).rep,by lia,?_⟩
    rw[fV]
    repeat k_meth
    exact k _ F.sm
   | int i =>
    simp only[TrH] at td
    subst td
    repeat k_meth
    rw[if_neg (by simp)]
    repeat k_meth
    have t1:=tka F.sm
    repeat k_meth
    refine .inl ⟨.int i,.int i,(td0.same F.sm).rep,(td0.same F.sm).rep,by lia,?_⟩
    rw[fV]
    repeat k_meth
    exact k _ F.sm
   | str x =>
    simp only[TrH] at td
    subst td
    repeat k_meth
    rw[if_neg (by simp)]
    repeat k_meth
    have t1:=tka F.sm
    repeat k_meth
    refine .inl ⟨.str x,.str x,(td0.same F.sm).rep,(td0.same F.sm).rep,by lia,?_⟩
    rw[fV]
    repeat k_meth
    exact k _ F.sm
   | tup ds =>
    simp only[TrH] at td
    obtain⟨p2,xs,rfl,hp2,ts⟩:=td
    have Yp:=Old.mk (M:=[]) hp2 nm0
    repeat k_meth
    have t1:=tka F.sm
    repeat k_meth
    refine .inl ⟨.tup ds,.tup ds,(td0.same F.sm).rep,(td0.same F.sm).rep,by lia,?_⟩
    rw[fV]
    repeat k_meth
    exact k _ F.sm
   | lst ds =>
    simp only[TrH] at td
    obtain⟨p2,xs,rfl,hp2,ts⟩:=td
    have Yp:=Old.mk (M:=[]) hp2 nm0
    repeat k_meth
    have t2:TrH H_ (.lst ds) (.ref p_):=TrH.lst aO (ts.same F.sm)
    have t1:Ux H_ (some (.lst ds)) (.ref p_):=⟨t2,dd,wd⟩
    obtain⟨z,e⟩:∃z,z=p_:=⟨_,rfl⟩
    subst e
    repeat k_meth
    refine .inl ⟨.lst ds,.lst ds,(TrH.lst aO (ts.same F.sm)).rep,(td0.same F.sm).rep,by lia,?_⟩
    rw[fV]
    repeat k_meth
    exact k _ F.sm
end
open M22 M82 M87 M75
def Ba(P:Addr)(K:W.Frag):Sp:=λvs H Q _=>∃(a:Addr) (ns:List Int),vs=[.ref a]/\SqL K H a (ns.map V.int)/\ns.length<=63/\H P=some (.tbl #[])/\a≠P/\∀H',Q (.bl true) H'
theorem Bc{n:Nat}:∀{rs:List Rw} {e:Nat} {f u:Int},OkA e n rs->e<=n->f+u<=(e:Int)->∀w∈iQ n f u rs,0<=w.2.2
 | [],e,f,u,_,he,hf,w,hw=>by
  rw[iQ] at hw
  rw[List.mem_singleton.mp hw]
  show 0<=(n:Int)-f-u
  lia
 | r::rs,e,f,u,ok,he,hf,w,hw=>by
  rw[iQ] at hw
  have hd:=ok.hd
  split at hw
  ·rcases List.mem_cons.mp hw with rfl|hw
   ·show 0<=(r.st:Int)-f-u
    lia
   ·exact Bc ok.tail (by lia) (by lia) w hw
  ·exact Bc ok.tail (by lia) (by lia) w hw
theorem ThK.kp{H H':Hp}{bx:Addr}{o:Option Dt}{v:V}(h:ThK (hides [bx] H) o v)(kp:Kp bx H H'):ThK (hides [bx] H') o v:=h.same (xQ λa u h e=>kp a u (λz=>h (by simp[z])) e)
theorem ThK.un{H:Hp}{bx:Addr}{o:Option Dt}{v:V}(h:ThK (hides [bx] H) o v):ThK H o v:=h.same λa u e=>(gK.mp e).2
section
variable{P:Program}{w:World}{K:W.Frag}{mg:Str->Option Value}{base:Heap}{c:Nat->Addr}{aF aq R CL CP CS:Addr}
theorem Yr(T:Txt K mg c R CL CP CS aF aq)(B:Bm mg base){f:Addr}{fd:FuncData}(F:Fun K "law" "law" oU f fd):jd P w K mg base CX0 13 f fd ["_law_script"] (Ba aq K):=by
 have Jy:=Jy (P:=P) (w:=w) (base:=base) T
 have Ai:=Ai (P:=P) (w:=w) (base:=base) T
 have Ak:=Ak (P:=P) (w:=w) (base:=base) T
 have iw:=iw (P:=P) (w:=w) (base:=base) T
 have gM:=gM (P:=P) (w:=w) (base:=base) T B
 have lK:=lK (P:=P) (w:=w) (base:=base) T
 have tL:=tL (P:=P) (w:=w) (base:=base) T
 have bM:=bM (P:=P) (w:=w) (base:=base) T
 have iz:=iz (P:=P) (w:=w) (base:=base) T
 have jy:=jy (P:=P) (w:=w) (base:=base) T B
 have mC:=mC (P:=P) (w:=w) (base:=base) T
 have gU:=gU (P:=P) (w:=w) (base:=base) T
 refine RV F Px (λvs H Q E h=>?_) (λcdv A outer s H vs Q E hr h=>?_)
 ·obtain⟨a,ns,rfl,_⟩:=h
  rfl
 ·obtain⟨a,ns,rfl,hS,hl,hP,hne,k⟩:=h
  have nd:=Px.nd
  refine' ⟨_,?bd0,?main⟩
  case bd0 =>
   refine' au ?s1 ?r1
   case r1 =>
    refine' aB ?s2
    case s2 =>
     exact(aV fH)
   case s1 =>
    refine' dX PassesOwn.never rfl ?i4 ?g4 ?d4
    case g4=>exact(bN (i:=1) nd rfl (Or.inl rfl))
    case d4 =>
     refine' au ?s5 ?r5
     case r5 =>
      refine' au ?s6 ?r6
      case r6 =>
       refine' au ?s7 ?r7
       case r7 =>
        refine' au ?s8 ?r8
        case r8 =>
         refine' au ?s9 ?r9
         case r9 =>
          refine' au ?s10 ?r10
          case r10 =>
           refine' au ?s11 ?r11
           case r11 =>
            refine' au ?s12 ?r12
            case r12 =>
             refine' au ?s13 ?r13
             case r13 =>
              refine' au ?s14 ?r14
              case r14 =>
               refine' au ?s15 ?r15
               case r15 =>
                refine' au ?s16 ?r16
                case r16 =>
                 refine' au ?s17 ?r17
                 case r17 =>
                  refine' aB ?s18
                  case s18 =>
                   exact(cF (dG (cT (aJ jy hr (aj (pv 9) (aj (pv 8) (aj (pv 5) (aj (pv 10) ao))))))) (aB (aV fH)) bI)
                 case s17 =>
                  refine' dX PassesOwn.never rfl ?i20 ?g20 ?d20
                  case g20=>exact(bN (i:=13) nd rfl (Or.inl rfl))
                  case d20 =>
                   refine' aB ?s21
                   case s21 =>
                    exact(cF (dG (cT (aJ mC hr (aj (pv 9) (aj (pv 8) (aj (pv 13) (aj (fO (pv 10) (gV (aJ gU hr (aj (pv 13) (aj (pv 5) ao))))) ao))))))) (aB (aV fH)) bI)
                  case i20 =>
                   refine' dh ?l23
                   case l23 =>
                    refine' bV ?p24
                    case p24 =>
                     refine' aj ?a25 ?b25 ?c25
                     case a25=>exact(pv 5)
                     case c25=>first|with_reducible rfl|rfl
                     case b25 =>
                      refine' aj ?a26 ?b26 ?c26
                      case a26=>exact(aJ iz hr (aj (pv 2) (aj (pv 5) ao)))
                      case c26=>first|with_reducible rfl|rfl
                      case b26 =>
                       refine' aj ?a27 ?b27 ?c27
                       case a27=>exact(aJ iz hr (aj (pv 2) (aj (pv 5) ao)))
                       case c27=>first|with_reducible rfl|rfl
                       case b27 =>
                        refine' aj ?a28 ?b28 ?c28
                        case a28=>exact(aJ iz hr (aj (pv 2) (aj (pv 5) ao)))
                        case c28=>first|with_reducible rfl|rfl
                        case b28 =>
                         refine' aj ?a29 ?b29 ?c29
                         case a29=>exact(pv 5)
                         case c29=>first|with_reducible rfl|rfl
                         case b29 =>
                          exact ao
                case s16 =>
                 refine' dX PassesOwn.never rfl ?i31 ?g31 ?d31
                 case g31=>exact(bN (i:=12) nd rfl (Or.inl rfl))
                 case d31 =>
                  refine' aB ?s32
                  case s32 =>
                   exact(cF (dG (cT (aJ jy hr (aj (pv 9) (aj (pv 12) (aj (pv 5) (aj (dJ rJ (pv 6) (pv 12) (bR _)) ao))))))) (aB (aV fH)) bI)
                 case i31 =>
                  refine' dh ?l34
                  case l34 =>
                   refine' bV ?p35
                   case p35 =>
                    refine' aj ?a36 ?b36 ?c36
                    case a36=>exact(aR cG (pv 6) aA)
                    case c36=>first|with_reducible rfl|rfl
                    case b36 =>
                     refine' aj ?a37 ?b37 ?c37
                     case a37=>exact(aR cG aA (aJ bM hr (aj (pv 2) (aj aA ao))))
                     case c37=>first|with_reducible rfl|rfl
                     case b37 =>
                      refine' aj ?a38 ?b38 ?c38
                      case a38=>exact(aY (fu rfl) rfl T.kO boot_max (aj aA (aj (pv 6) ao)))
                      case c38=>first|with_reducible rfl|rfl
                      case b38 =>
                       exact ao
               case s15 =>
                exact(cF (PW.pt (Lw (cT (pv 11)) (Hg (dG (cT (aJ jy hr (aj (pv 9) (aj (pv 8) (aj (pv 5) (aj (pv 10) ao)))))))))) (aB (aV fH)) bI)
              case s14 =>
               exact(aP (i:=11) nd rfl (Or.inl rfl) (dJ gG (aJ bM hr (aj (pv 2) (aj aA ao))) aA (bR _)))
             case s13 =>
              exact(aP (i:=10) nd rfl (Or.inl rfl) (dJ rJ (pv 6) (pv 8) (bR _)))
            case s12 =>
             exact(aP (i:=9) nd rfl (Or.inl rfl) (sZ gM hr (aj (pv 3) (aj (aJ tL hr (aj (pv 2) (aj (pv 4) ao))) ao))))
           case s11 =>
            exact(aP (i:=8) nd rfl (Or.inl rfl) (aZ bO (pv 7) (aY (fu rfl) rfl T.kO boot_max (aj aA (aj (aR cP (aJ bM hr (aj (pv 2) (aj aA ao))) aA) ao))) (λ_ _=>rfl)))
          case s10 =>
           refine' aP (i:=7) ?n45 ?h45 ?o45 ?e45
           case n45=>exact nd
           case h45=>exact rfl
           case o45=>exact(Or.inl rfl)
           case e45 =>
            refine' bV ?p46
            case p46 =>
             refine' aj ?a47 ?b47 ?c47
             case a47=>exact(aY (fu rfl) rfl T.kO boot_max (aj aA (aj (pv 6) ao)))
             case c47=>first|with_reducible rfl|rfl
             case b47 =>
              refine' aj ?a48 ?b48 ?c48
              case a48=>exact(aR cG (pv 6) aA)
              case c48=>first|with_reducible rfl|rfl
              case b48 =>
               refine' aj ?a49 ?b49 ?c49
               case a49=>exact(aR cG aA (aJ bM hr (aj (pv 2) (aj (aR cG (pv 3) aA) ao))))
               case c49=>first|with_reducible rfl|rfl
               case b49 =>
                refine' aj ?a50 ?b50 ?c50
                case a50=>exact(aR cG aA (aJ bM hr (aj (pv 2) (aj (aR Mg aA aA) ao))))
                case c50=>first|with_reducible rfl|rfl
                case b50 =>
                 exact ao
         case s9 =>
          exact(aP (i:=6) nd rfl (Or.inl rfl) (aY (Ky rfl) rfl T.kO boot_max (aj (fj (N:=["_law_row"]) (nt:=1) (fr:=[]) (dh (pv 5)) (λ_ _ _ _=>(bN (i:=0) (show (["_law_row"]:List Str).Nodup from by decide +kernel) rfl (Or.inl rfl))) (λ_ _ _ _=>eZ) (λ_ _ _ _=>(aZ (jF (K:=K) rfl) (pv 0) aA (λ_ _=>rfl)))) ao)))
        case s8 =>
         exact(aP (i:=5) nd rfl (Or.inl rfl) (aJ iw hr (aj (pv 3) (aj (pv 4) ao))))
       case s7 =>
        exact(aP (i:=4) nd rfl (Or.inl rfl) (aJ Ak hr (aj (pv 2) (aj (pv 3) ao))))
      case s6 =>
       exact(aP (i:=3) nd rfl (Or.inl rfl) (aJ Ai hr (aj (pv 2) ao)))
     case s5 =>
      exact(aP (i:=2) nd rfl (Or.inl rfl) (aJ Jy hr (aj (aJ lK hr (aj (pv 0) (aj (pv 1) ao))) ao)))
    case i4 =>
     exact(fQ rfl T.gj (aj (aY (fu rfl) rfl T.kO boot_max (aj aA (aj (aY (qy rfl) rfl T.Dw boot_min (aj aA (aj (aY dB rfl T.iW boot_len (aj (pv 0) ao)) ao))) ao))) ao))
  clear nd Jy Ai Ak iw gM lK tL bM iz jy mC gU
  rw[show start ["_law_script","_law_k","_law_box_here","_law_many_here","_law_rows_here","_law_due","_law_most","_law_some","_law_size","_law_layout","_law_good","_law_first","_law_other","_law_thing"] [.ref a]=[some (.ref a),none,none,none,none,none,none,none,none,none,none,none,none,none] from rfl]
  try dsimp only[cO,bW]
  obtain⟨bD,bF,bG,aN,aU,aL,aD⟩:=zsix T
  have F:SH H [aq] H [(aq,.tbl #[])] [gY cZ cJ #[]]:=(SH.nil.iI List.mem_cons_self hP rfl (by simp)).j7 (.inl rfl)
  have aeP:=W9.mk (M:=[aq]) hS (nm1 hne)
  repeat k_meth
  generalize (max 1 (min 8 ((ns.map V.int).length:Int))).toNat=N
  refine jq (λi σ' H'=>∃(o1 o2 o3 o4 o5 o6 o7 o8 o9 o10 o11 o12 o13:Option V) (ps:Array Value),σ'=[some (.ref a),o1,o2,o3,o4,o5,o6,o7,o8,o9,o10,o11,o12,o13]/\SH H [aq] H' [(aq,.tbl ps)] [gY cZ cJ ps]) ⟨_,_,_,_,_,_,_,_,_,_,_,_,_,#[],rfl,F⟩ ?_ ?_
  ·clear F
   rintro i σ' H' hi ⟨_,_,_,_,_,_,_,_,_,_,_,_,_,ps,rfl,F⟩
   repeat k_meth
   obtain⟨bx,e⟩:∃z,z=p_:=⟨_,rfl⟩
   subst e
   intro n h16 mD
   repeat k_meth
   intro rs ly as
   have few:=ly.few
   have lya:LyA rs n:=⟨ly,as,mD,h16⟩
   repeat k_meth
   rw[<- G3 lya.ok] at F l_
   obtain⟨qd,e⟩:∃z,z=p_:=⟨_,rfl⟩
   subst e
   obtain⟨yd,e⟩:∃z,z=ys_:=⟨_,rfl⟩
   subst e
   have sln:=wC n rs
   have str0:=Bc lya.ok (Nat.zero_le n) (f:=0) (u:=0) (by lia)
   rw[<- G3 lya.ok] at str0
   have str1:=JK ly
   refine jo (F:=λr=>r.getD 2 .non) aO (TpA.e (rs:=bY (c7 n rs))) (by rw[l_];lia) rfl (λq r H1 R hr s1 e1 kk=>?_) λl H1 n1=>?_
   ·clear F
    have F:SH H1 [] H1 [] []:=SH.nil
    obtain⟨w,hw,rfl⟩:=List.mem_map.mp hr
    have X_:=Old.mk (M:=[]) e1 nm0
    repeat k_meth
    exact kk _ (Same.refl _)
   have e2:H1 l=some (.lst (((c7 n rs).map λw=>w.2.2).map V.int)):=by rw[n1.e];unfold bY;rw[List.map_map,List.map_map];rfl
   replace F:=F.newL n1
   repeat k_meth
   refine⟨l,(c7 n rs).map λw=>w.2.2,rfl,SqL.of e2,λz=>?_,?_⟩
   ·rw[List.map_eq_nil_iff] at z
    rw[z] at sln
    exact absurd sln.1 (by simp)
   obtain⟨mo,em,mo0,mo1,good⟩:∃mo:Int,m6 (((c7 n rs).map λw=>w.2.2).getD 0 0) ((c7 n rs).map λw=>w.2.2)=mo/\0<=mo/\mo<=240/\∀s:Nat,1<=s->decide (mo<(s:Int))=Lh n rs (s:Nat):=by
    refine⟨_,Kw (d:=0) (λm hm=>?_) (λz=>?_),?_⟩
    ·obtain⟨w,hw,rfl⟩:=List.mem_map.mp hm
     exact str0 w hw
    ·rw[List.map_eq_nil_iff] at z
     rw[z] at sln
     exact absurd sln.1 (by simp)
    have ge:=HX ((c7 n rs).map λw=>w.2.2) 0
    have me:=BZ ((c7 n rs).map λw=>w.2.2) 0
    generalize m6 0 ((c7 n rs).map λw=>w.2.2)=mo at ge me
    refine⟨ge.1,?_,λs s1=>?_⟩
    ·rcases me with rfl|me
     ·decide
     ·obtain⟨w,hw,rfl⟩:=List.mem_map.mp me
      have:=str1 w hw
      lia
    ·rw[Bool.eq_iff_iff,decide_eq_true_iff]
     unfold Lh
     rw[List.all_eq_true]
     constructor
     ·intro h w hw
      have:=ge.2 _ (List.mem_map_of_mem (f:=λw=>w.2.2) hw)
      exact decide_eq_true (by lia)
     ·intro h
      rcases me with rfl|me
      ·lia
      ·obtain⟨w,hw,rfl⟩:=List.mem_map.mp me
       exact of_decide_eq_true (h w hw)
   rw[em]
   clear em
   repeat k_meth
   rename_i r1 _ _ _ rl1 rh1 _ r2 _ _ _ rl2 rh2 _ _
   obtain⟨s,s1,at1⟩:∃s:Nat,1<=s/\AtI [V.int (max 1 mo),V.int (mo+1),V.int (1+r1),V.int (241+r2)] (max 0 (r_-1)) (.int (s:Nat)):=by
    rcases(show max 0 (r_-1)=0\/max 0 (r_-1)=1\/max 0 (r_-1)=2\/max 0 (r_-1)=3 by lia) with e|e|e|e <;> rw[e]
    ·exact⟨(max 1 mo).toNat,by lia,⟨by rw[Int.toNat_of_nonneg (by lia)];rfl⟩⟩
    ·exact⟨(mo+1).toNat,by lia,⟨by rw[Int.toNat_of_nonneg (by lia)];rfl⟩⟩
    ·exact⟨(1+r1).toNat,by lia,⟨by rw[Int.toNat_of_nonneg (by lia)];rfl⟩⟩
    ·exact⟨(241+r2).toNat,by lia,⟨by rw[Int.toNat_of_nonneg (by lia)];rfl⟩⟩
   clear rh2
   repeat k_meth
   intro qs pm
   have la:T8 n qs rs:=⟨pm,ly,as⟩
   repeat k_meth
   intro ps2
   repeat k_meth
   rename_i lx _ _ _
   obtain⟨pl,e⟩:∃z,z=p_:=⟨_,rfl⟩
   subst e
   obtain⟨lz,e⟩:∃z,z=ys_:=⟨_,rfl⟩
   subst e
   obtain⟨dl,e⟩:∃z,z=dx_:=⟨_,rfl⟩
   subst e
   have hbx:H_ bx=some (.lst [.int x_,.int y_,.int z_]):=aO
   have hpt:H_ aq=some (.tbl ps2):=aO
   have tk:TabOk cZ cJ ps2 H_:=SH.tab
   have hlx:H_ lx=some (.ins CL dl (lF (n:Nat) pl)):=aO
   have hpl:H_ pl=some (.lst lz):=aO
   have tpl:aH H_ lz (aX rs):=TpA.e
   have hqd:H_ qd=some (.lst yd):=aO
   have tqd:aH H_ yd (bY (c7 n rs)):=TpA.e
   have neb:bx≠aq:=cL hbx hpt (by simp)
   have npl:pl≠bx:=SH.neC (F:=F)
   have nqd:qd≠bx:=SH.neC (F:=F)
   have Fo:SH H [aq] H_ [(aq,.tbl ps2),(bx,.lst [.int x_,.int y_,.int z_])] [gY cZ cJ ps2]:=F.sub SbC.s SbI.s
   have Fo2:SH H [aq] H_ ([(aq,.tbl ps2),(bx,.lst [.int x_,.int y_,.int z_])]++[]) [gY cZ cJ ps2]:=Fo
   clear F Fo
   have F:SH H_ [aq,bx] H_ [(aq,.tbl ps2),(bx,.lst [.int x_,.int y_,.int z_])] [.tps lz (aX rs),.tps yd (bY (c7 n rs)),gY cZ cJ ps2]:=((((SH.nil.iI (by simp) hbx rfl (by simp)).iI (by simp) hpt rfl (by simp[neb])).j7 tk).gH tqd).gH tpl
   have af6:=Old.mk (M:=[aq,bx]) hlx (nm2 (cL hlx hpt (by simp)) (cL hlx hbx (by simp)))
   have af7:=Old.mk (M:=[aq,bx]) hpl (nm2 (cL hpl hpt (by simp)) npl)
   have af8:=Old.mk (M:=[aq,bx]) hqd (nm2 (cL hqd hpt (by simp)) nqd)
   rename Hp=>HB
   by_cases hr:r_=0
   ·rw[if_pos (decide_eq_true hr)]
    repeat k_meth
    refine⟨lx,pl,dl,qd,n,lz,yd,rs,s,ps2,_,rfl,⟨aO,aO,TpA.e⟩,lya,s1,aO,TpA.e,good s s1,aO,SH.tab,λps' H2 kp hP2 tk2=>?_⟩
    replace F:=SH.j7 (st:=TabOk.st) (F.kp kp hP2 LkU.u rfl) tk2
    repeat k_meth
    obtain⟨l3,e⟩:∃z,z=p_:=⟨_,rfl⟩
    subst e
    refine f9 (xs:=[V.int (mo+1),V.int (1+r_),V.int (max 1 mo)]) (λj σ' H'=>∃(o4 o7 o11 o12 o13:Option V) (ps:Array Value),σ'=[some (.ref a),some (.int (i:Nat)),some (.ref bx),some (.int (n:Nat)),o4,some (.ref qd),some (.int mo),o7,some (.int (s:Nat)),some (.ref lx),some (.bl (decide (mo<(s:Int)))),o11,o12,o13]/\SH HB [aq,bx] H' [(l3,.lst [V.int (mo+1),V.int (1+r_),V.int (max 1 mo)]),(aq,.tbl ps),(bx,.lst [.int x_,.int y_,.int z_])] [.tps lz (aX rs),.tps yd (bY (c7 n rs)),gY cZ cJ ps]) ⟨_,_,_,_,_,ps',rfl,F.sub SbC.s SbI.s⟩ ?_ ?_ ?_
    ·clear F
     rintro j σ' H' _ ⟨_,_,_,_,_,ps3,rfl,F⟩
     exact SqA.e
    ·clear F
     rintro j v σ' H' hv ⟨_,_,_,_,_,ps3,rfl,F⟩
     obtain⟨t,rfl,t1⟩:∃t:Nat,v=.int (t:Nat)/\1<=t:=by
      have hm:=List.mem_of_getElem? hv
      simp only[List.mem_cons,List.not_mem_nil,or_false] at hm
      rcases hm with rfl|rfl|rfl
      ·exact⟨(mo+1).toNat,by rw[Int.toNat_of_nonneg (by lia)],by lia⟩
      ·exact⟨(1+r_).toNat,by rw[Int.toNat_of_nonneg (by lia)],by lia⟩
      ·exact⟨(max 1 mo).toNat,by rw[Int.toNat_of_nonneg (by lia)],by lia⟩
     repeat k_meth
     refine⟨lx,pl,dl,qd,n,lz,yd,rs,t,ps3,_,rfl,⟨aO,aO,TpA.e⟩,lya,t1,aO,TpA.e,good t t1,aO,SH.tab,λps' H2 kp hP2 tk2=>?_⟩
     replace F:=SH.j7 (st:=TabOk.st) (F.kp kp hP2 LkU.u rfl) tk2
     repeat k_meth
     exact⟨_,_,_,_,_,ps',rfl,F.sub SbC.s SbI.s⟩
    clear F
    rintro σ' H' ⟨_,_,_,_,_,ps3,rfl,F⟩
    repeat k_meth
    refine⟨bx,qd,_,_,_,yd,c7 n rs,rfl,aO,aO,nqd,TpA.e,⟨sln.1,by lia⟩,λw hw=>⟨str0 w hw,by have:=str1 w hw;lia⟩,λv1 o1 xx1 yy1 zz1 HH1 kp1 hb1 th1=>?_⟩
    replace F:=F.kpL kp1 hb1 LkU.u
    repeat k_meth
    refine⟨bx,qd,_,_,_,yd,c7 n rs,rfl,aO,aO,nqd,TpA.e,⟨sln.1,by lia⟩,λw hw=>⟨str0 w hw,by have:=str1 w hw;lia⟩,λv2 o2 xx2 yy2 zz2 HH2 kp2 hb2 th2=>?_⟩
    replace F:=F.kpL kp2 hb2 LkU.u
    replace th1:=ThK.kp th1 kp2
    repeat k_meth
    refine⟨bx,qd,_,_,_,yd,c7 n rs,rfl,aO,aO,nqd,TpA.e,⟨sln.1,by lia⟩,λw hw=>⟨str0 w hw,by have:=str1 w hw;lia⟩,λv3 o3 xx3 yy3 zz3 HH3 kp3 hb3 th3=>?_⟩
    replace F:=F.kpL kp3 hb3 LkU.u
    replace th1:=ThK.un (ThK.kp th1 kp3)
    replace th2:=ThK.un (ThK.kp th2 kp3)
    replace th3:=ThK.un th3
    have hl4:HH3 lx=some (.ins CL dl (lF (n:Nat) pl)):=aO
    have hp4:HH3 pl=some (.lst lz):=aO
    have tp4:aH HH3 lz (aX rs):=TpA.e
    have hq4:HH3 qd=some (.lst yd):=aO
    have tq4:aH HH3 yd (bY (c7 n rs)):=TpA.e
    have th0:ThK HH3 (some (nO (c7 n rs))) (.ref qd):=⟨TrH.lst hq4 (tQ tq4 (rF _)),lD _,⟨by rw[List.length_map,cM];lia,mj _⟩⟩
    have F4:=And.intro F trivial
    clear F
    have F:SH HH3 [] HH3 [] []:=SH.nil
    have abS:=Old.mk (M:=[]) hl4 nm0
    have abT:=Old.mk (M:=[]) hp4 nm0
    have abU:=Old.mk (M:=[]) hq4 nm0
    have Ys:=gk.mk tp4
    have Yt:=gk.mk tq4
    repeat k_meth
    obtain⟨l5,e⟩:∃z,z=p_:=⟨_,rfl⟩
    subst e
    refine f9 (xs:=[V.ref qd,v1,v2,v3,V.ref qd]) (λj σ' H'=>∃(o4 o7 o11 o12 o13:Option V),σ'=[some (.ref a),some (.int (i:Nat)),some (.ref bx),some (.int (n:Nat)),o4,some (.ref qd),some (.int mo),o7,some (.int (s:Nat)),some (.ref lx),some (.bl (decide (mo<(s:Int)))),o11,o12,o13]/\SH HH3 [] H' [(l5,.lst [V.ref qd,v1,v2,v3,V.ref qd])] []) ⟨_,_,_,_,_,rfl,F.sub SbC.s SbI.s⟩ ?_ ?_ ?_
    ·clear F
     rintro j σ' H' _ ⟨_,_,_,_,_,rfl,F⟩
     exact SqA.e
    ·clear F
     rintro j v σ' H' hv ⟨_,_,_,_,_,rfl,F⟩
     obtain⟨o,th⟩:∃o,ThK HH3 o v:=by
      have hm:=List.mem_of_getElem? hv
      simp only[List.mem_cons,List.not_mem_nil,or_false] at hm
      rcases hm with rfl|rfl|rfl|rfl|rfl
      ·exact⟨_,th0⟩
      ·exact⟨_,th1⟩
      ·exact⟨_,th2⟩
      ·exact⟨_,th3⟩
      ·exact⟨_,th0⟩
     have gs:=good s s1
     repeat k_meth
     by_cases hm:mo<(s:Int)
     ·rw[if_pos (decide_eq_true hm)]
      repeat k_meth
      refine⟨v,qd,yd,c7 n rs,o,rfl,th.same F.sm,aO,TpA.e,by lia,λH2 s2=>?_⟩
      replace F:=F.same s2
      repeat k_meth
      refine⟨lx,pl,dl,n,lz,rs,s,v,o,_,rfl,⟨aO,aO,TpA.e⟩,lya,s1,th.same F.sm,by rw[<- gs,decide_eq_true hm,Bool.and_true],λH3 s3=>?_⟩
      replace F:=F.same s3
      repeat k_meth
      exact⟨_,_,_,_,_,rfl,F.sub SbC.s SbI.s⟩
     ·rw[if_neg (by simp;lia)]
      repeat k_meth
      refine⟨lx,pl,dl,n,lz,rs,s,v,o,_,rfl,⟨aO,aO,TpA.e⟩,lya,s1,th.same F.sm,by rw[<- gs,decide_eq_false hm,Bool.and_false],λH3 s3=>?_⟩
      replace F:=F.same s3
      repeat k_meth
      exact⟨_,_,_,_,_,rfl,F.sub SbC.s SbI.s⟩
    clear F
    rintro σ' H' ⟨_,_,_,_,_,rfl,F⟩
    have s4:=F.sm
    clear F
    have F:=F4.1.same s4
    clear F4
    repeat k_meth
    refine⟨lx,pl,dl,qd,n,lz,yd,rs,s,ps3,_,rfl,⟨aO,aO,TpA.e⟩,lya,s1,aO,TpA.e,good s s1,aO,SH.tab,λps' H2 kp hP2 tk2=>?_⟩
    replace F:=SH.j7 (st:=TabOk.st) (F.kp kp hP2 LkU.u rfl) tk2
    repeat k_meth
    have F1:SH HB [aq,bx] _ [(aq,.tbl ps'),(bx,.lst [.int xx3,.int yy3,.int zz3])] [gY cZ cJ ps']:=F.sub SbC.s SbI.s
    have F2:=SH.over Fo2 F1 rfl
    clear F F1
    simp only[List.cons_append,List.nil_append] at F2
    exact⟨_,_,_,_,_,_,_,_,_,_,_,_,_,ps',rfl,F2.sub SbC.s SbI.s⟩
   ·rw[if_neg (by simp[hr])]
    repeat k_meth
    obtain⟨l3,e⟩:∃z,z=p_:=⟨_,rfl⟩
    subst e
    refine f9 (xs:=[V.int (mo+1),V.int (1+r_),V.int (max 1 mo)]) (λj σ' H'=>∃(o4 o7 o11 o12 o13:Option V) (ps:Array Value),σ'=[some (.ref a),some (.int (i:Nat)),some (.ref bx),some (.int (n:Nat)),o4,some (.ref qd),some (.int mo),o7,some (.int (s:Nat)),some (.ref lx),some (.bl (decide (mo<(s:Int)))),o11,o12,o13]/\SH HB [aq,bx] H' [(l3,.lst [V.int (mo+1),V.int (1+r_),V.int (max 1 mo)]),(aq,.tbl ps),(bx,.lst [.int x_,.int y_,.int z_])] [.tps lz (aX rs),.tps yd (bY (c7 n rs)),gY cZ cJ ps]) ⟨_,_,_,_,_,ps2,rfl,F.sub SbC.s SbI.s⟩ ?_ ?_ ?_
    ·clear F
     rintro j σ' H' _ ⟨_,_,_,_,_,ps3,rfl,F⟩
     exact SqA.e
    ·clear F
     rintro j v σ' H' hv ⟨_,_,_,_,_,ps3,rfl,F⟩
     obtain⟨t,rfl,t1⟩:∃t:Nat,v=.int (t:Nat)/\1<=t:=by
      have hm:=List.mem_of_getElem? hv
      simp only[List.mem_cons,List.not_mem_nil,or_false] at hm
      rcases hm with rfl|rfl|rfl
      ·exact⟨(mo+1).toNat,by rw[Int.toNat_of_nonneg (by lia)],by lia⟩
      ·exact⟨(1+r_).toNat,by rw[Int.toNat_of_nonneg (by lia)],by lia⟩
      ·exact⟨(max 1 mo).toNat,by rw[Int.toNat_of_nonneg (by lia)],by lia⟩
     repeat k_meth
     refine⟨lx,pl,dl,qd,n,lz,yd,rs,t,ps3,_,rfl,⟨aO,aO,TpA.e⟩,lya,t1,aO,TpA.e,good t t1,aO,SH.tab,λps' H2 kp hP2 tk2=>?_⟩
     replace F:=SH.j7 (st:=TabOk.st) (F.kp kp hP2 LkU.u rfl) tk2
     repeat k_meth
     exact⟨_,_,_,_,_,ps',rfl,F.sub SbC.s SbI.s⟩
    clear F
    rintro σ' H' ⟨_,_,_,_,_,ps3,rfl,F⟩
    repeat k_meth
    refine⟨bx,qd,_,_,_,yd,c7 n rs,rfl,aO,aO,nqd,TpA.e,⟨sln.1,by lia⟩,λw hw=>⟨str0 w hw,by have:=str1 w hw;lia⟩,λv1 o1 xx1 yy1 zz1 HH1 kp1 hb1 th1=>?_⟩
    replace F:=F.kpL kp1 hb1 LkU.u
    repeat k_meth
    refine⟨bx,qd,_,_,_,yd,c7 n rs,rfl,aO,aO,nqd,TpA.e,⟨sln.1,by lia⟩,λw hw=>⟨str0 w hw,by have:=str1 w hw;lia⟩,λv2 o2 xx2 yy2 zz2 HH2 kp2 hb2 th2=>?_⟩
    replace F:=F.kpL kp2 hb2 LkU.u
    replace th1:=ThK.kp th1 kp2
    repeat k_meth
    refine⟨bx,qd,_,_,_,yd,c7 n rs,rfl,aO,aO,nqd,TpA.e,⟨sln.1,by lia⟩,λw hw=>⟨str0 w hw,by have:=str1 w hw;lia⟩,λv3 o3 xx3 yy3 zz3 HH3 kp3 hb3 th3=>?_⟩
    replace F:=F.kpL kp3 hb3 LkU.u
    replace th1:=ThK.un (ThK.kp th1 kp3)
    replace th2:=ThK.un (ThK.kp th2 kp3)
    replace th3:=ThK.un th3
    have hl4:HH3 lx=some (.ins CL dl (lF (n:Nat) pl)):=aO
    have hp4:HH3 pl=some (.lst lz):=aO
    have tp4:aH HH3 lz (aX rs):=TpA.e
    have hq4:HH3 qd=some (.lst yd):=aO
    have tq4:aH HH3 yd (bY (c7 n rs)):=TpA.e
    have th0:ThK HH3 (some (nO (c7 n rs))) (.ref qd):=⟨TrH.lst hq4 (tQ tq4 (rF _)),lD _,⟨by rw[List.length_map,cM];lia,mj _⟩⟩
    have F4:=And.intro F trivial
    clear F
    have F:SH HH3 [] HH3 [] []:=SH.nil
    have abS:=Old.mk (M:=[]) hl4 nm0
    have abT:=Old.mk (M:=[]) hp4 nm0
    have abU:=Old.mk (M:=[]) hq4 nm0
    have Ys:=gk.mk tp4
    have Yt:=gk.mk tq4
    repeat k_meth
    obtain⟨l5,e⟩:∃z,z=p_:=⟨_,rfl⟩
    subst e
    refine f9 (xs:=[V.ref qd,v1,v2,v3,V.ref qd]) (λj σ' H'=>∃(o4 o7 o11 o12 o13:Option V),σ'=[some (.ref a),some (.int (i:Nat)),some (.ref bx),some (.int (n:Nat)),o4,some (.ref qd),some (.int mo),o7,some (.int (s:Nat)),some (.ref lx),some (.bl (decide (mo<(s:Int)))),o11,o12,o13]/\SH HH3 [] H' [(l5,.lst [V.ref qd,v1,v2,v3,V.ref qd])] []) ⟨_,_,_,_,_,rfl,F.sub SbC.s SbI.s⟩ ?_ ?_ ?_
    ·clear F
     rintro j σ' H' _ ⟨_,_,_,_,_,rfl,F⟩
     exact SqA.e
    ·clear F
     rintro j v σ' H' hv ⟨_,_,_,_,_,rfl,F⟩
     obtain⟨o,th⟩:∃o,ThK HH3 o v:=by
      have hm:=List.mem_of_getElem? hv
      simp only[List.mem_cons,List.not_mem_nil,or_false] at hm
      rcases hm with rfl|rfl|rfl|rfl|rfl
      ·exact⟨_,th0⟩
      ·exact⟨_,th1⟩
      ·exact⟨_,th2⟩
      ·exact⟨_,th3⟩
      ·exact⟨_,th0⟩
     have gs:=good s s1
     repeat k_meth
     by_cases hm:mo<(s:Int)
     ·rw[if_pos (decide_eq_true hm)]
      repeat k_meth
      refine⟨v,qd,yd,c7 n rs,o,rfl,th.same F.sm,aO,TpA.e,by lia,λH2 s2=>?_⟩
      replace F:=F.same s2
      repeat k_meth
      refine⟨lx,pl,dl,n,lz,rs,s,v,o,_,rfl,⟨aO,aO,TpA.e⟩,lya,s1,th.same F.sm,by rw[<- gs,decide_eq_true hm,Bool.and_true],λH3 s3=>?_⟩
      replace F:=F.same s3
      repeat k_meth
      exact⟨_,_,_,_,_,rfl,F.sub SbC.s SbI.s⟩
     ·rw[if_neg (by simp;lia)]
      repeat k_meth
      refine⟨lx,pl,dl,n,lz,rs,s,v,o,_,rfl,⟨aO,aO,TpA.e⟩,lya,s1,th.same F.sm,by rw[<- gs,decide_eq_false hm,Bool.and_false],λH3 s3=>?_⟩
      replace F:=F.same s3
      repeat k_meth
      exact⟨_,_,_,_,_,rfl,F.sub SbC.s SbI.s⟩
    clear F
    rintro σ' H' ⟨_,_,_,_,_,rfl,F⟩
    have s4:=F.sm
    clear F
    have F:=F4.1.same s4
    clear F4
    repeat k_meth
    refine⟨lx,pl,dl,qd,n,lz,yd,rs,s,ps3,_,rfl,⟨aO,aO,TpA.e⟩,lya,s1,aO,TpA.e,good s s1,aO,SH.tab,λps' H2 kp hP2 tk2=>?_⟩
    replace F:=SH.j7 (st:=TabOk.st) (F.kp kp hP2 LkU.u rfl) tk2
    repeat k_meth
    have F1:SH HB [aq,bx] _ [(aq,.tbl ps'),(bx,.lst [.int xx3,.int yy3,.int zz3])] [gY cZ cJ ps']:=F.sub SbC.s SbI.s
    have F2:=SH.over Fo2 F1 rfl
    clear F F1
    simp only[List.cons_append,List.nil_append] at F2
    exact⟨_,_,_,_,_,_,_,_,_,_,_,_,_,ps',rfl,F2.sub SbC.s SbI.s⟩
  ·clear F
   rintro σ' H' ⟨_,_,_,_,_,_,_,_,_,_,_,_,_,ps,rfl,F⟩
   repeat k_meth
   exact k _
end
end K75
namespace K75
open PySem L2 PyProof.Rows M22 M82 M87 M75
abbrev LkH(K:W.Frag)(g:Addr)(m q:Str)(st:Stmt)(xd xn:Option Addr)(xs:Array (Option Value))(xo xk xe xp xc xt:Value):Prop:=K.lookup g=some ⟨xo,xd,.func (W.fnOf m q (fL st) (dM st) (aG st) .none xk xe xp xn xc xt),xs⟩/\W.codeIn K xc q=true/\W.keepIn K (.ref g)=true
abbrev DfH(K:W.Frag)(m:Str)(st:Stmt):Prop:=∃g xd xn xs xo xk xe xp xc xt,W.nsIn K mainGlobals m=some (some (.ref g))/\LkH K g m m st xd xn xs xo xk xe xp xc xt
abbrev MeH(K:W.Frag)(C:Addr)(m q:Str)(st:Stmt):Prop:=∃g xd xn xs xo xk xe xp xc xt,W.findIn K (.ref C) m=some (some (.ref g))/\W.isFn K (.ref g)=true/\LkH K g m q st xd xn xs xo xk xe xp xc xt
abbrev CdH(K:W.Frag)(C:Addr)(m q:Str)(st:Stmt):Prop:=∃g xd xn xs xo xk xe xp xc xt,W.specialIn K (.ref C) "__getattribute__" = some (some (.builtin "type.__getattribute__"))/\W.readsIn K C (.type "type")=true/\W.findCls K (.ref C) (.type "type") m=some (.val (.ref g))/\LkH K g m q st xd xn xs xo xk xe xp xc xt
abbrev ClH(K:W.Frag)(C:Addr):Prop:=W.plainGet K C Str.empty=true/\W.hasDictIn K C=true/\W.plainOver K C=true/\W.findIn K (.ref C) "__setattr__" = some (some (.builtin "object.__setattr__"))/\W.makesIn K C=true/\W.keepIn K (.ref C)=true
section
variable{K:W.Frag}{h:Heap}{mg:Str->Option Value}{C:Addr}{m q:Str}{st:Stmt}
theorem DfH.has(d:DfH K m st)(X:K.In h)(G:h.Ns mainGlobals mg):HasDef K mg m st:=let ⟨_,_,_,_,_,_,_,_,_,_,a,l,c,k⟩:=d;HasDef.mk (W.mg_of X G a) l c k
theorem MeH.me(d:MeH K C m q st):∃f,FnAt K m q st f/\Meth K C m f:=let ⟨g,_,_,_,_,_,_,_,_,_,a,f,l,c,k⟩:=d;⟨g,⟨_,qp (st:=st) l c k⟩,⟨a,f,k⟩⟩
theorem MeH.mk(d:MeH K C "__init__" q st)(c:ClH K C):∃f,FnAt K "__init__" q st f/\Mk K C f:=let ⟨g,_,_,_,_,_,_,_,_,_,a,f,l,cd,k⟩:=d;⟨g,⟨_,qp (st:=st) l cd k⟩,⟨c.2.2.2.2.1,a,f,c.2.2.2.2.2⟩⟩
theorem CdH.cd(d:CdH K C m q st):∃f,FnAt K m q st f/\Z1 K C m f:=let ⟨g,_,_,_,_,_,_,_,_,_,a,r,f,l,c,k⟩:=d;⟨g,⟨_,qp (st:=st) l c k⟩,⟨a,r,f,by rfl,k⟩⟩
end
theorem all_mk{aF aq:Addr}{l:W.OpenLaw}{w:World}{K:W.Frag}{h:Heap}{mg:Str->Option Value}{fa g49_:Addr}(X:K.In h)(G:h.Ns mainGlobals mg)(hfa:mg "law" = some (.ref fa))
  {R:Addr}
  (eR:W.nsIn K mainGlobals "RoomError" = some (some (.ref R)))
  (eh:W.specialIn K (.builtin "object.__class__") "__get__" = some (some (.builtin "getset_descriptor.__get__")))
  (et:W.takesIn K (.builtin "object.__class__")=some true)
  {od49_ an49_:Option Addr} {sl49_:Array (Option Value)} {oc49_ kV49_ dc49_ pm49_ cd49_ ct49_:Value}
  (d0_:DfH K "is_whole" nu)
  (d1_:DfH K "is_from" qO)
  (d2_:DfH K "is_within" kE)
  (d3_:DfH K "is_many" qP)
  (d4_:DfH K "is_name" qQ)
  (d5_:DfH K "end_of" uW)
  (d6_:DfH K "is_row" uX)
  (d7_:DfH K "cells_of" nA)
  (d8_:DfH K "need_row" nF)
  (d9_:DfH K "need_rows" kI)
  (d10_:DfH K "share_cells" z6)
  (d11_:DfH K "_law_cell_at" qT)
  (d12_:DfH K "_law_box" Pr)
  (d13_:DfH K "_law_take" Gx)
  (d14_:DfH K "_law_names" z7)
  (d15_:DfH K "_law_many" Gy)
  (d16_:DfH K "_law_rows" Gz)
  (d17_:DfH K "_law_mixed" z8)
  (d18_:DfH K "has_truth" z9)
  (d19_:DfH K "is_pair" uZ)
  (d20_:DfH K "is_slide" qU)
  (d21_:DfH K "step_of" u6)
  (d22_:DfH K "gone_through" GC)
  (d23_:DfH K "slid" GD)
  (d24_:DfH K "gaps_of" u9)
  (d25_:DfH K "row_at_end" Aa)
  (d26_:DfH K "row_beside" u_)
  (d27_:DfH K "left_prices" GF)
  (d28_:DfH K "right_prices" Ab)
  (d29_:DfH K "prices" vd)
  (d30_:DfH K "blocks_between" qW)
  (d31_:DfH K "free_between" Ac)
  (d32_:DfH K "stretches_of" kJ)
  (d33_:DfH K "need_size" Ad)
  (d34_:DfH K "choices_at" qX)
  (d35_:DfH K "least_choice" Ae)
  (d36_:DfH K "slides_to_lesser" vh)
  (d37_:DfH K "slides_to_greater" qY)
  (d38_:DfH K "hole_at_gap" vo)
  (d39_:DfH K "plan" GJ)
  (d40_:DfH K "is_stuck" qZ)
  (d41_:DfH K "_law_whole" vq)
  (d42_:DfH K "_law_stretches" jJ)
  (d43_:DfH K "_law_turned" q_)
  (d44_:DfH K "_law_cut" GK)
  (d45_:DfH K "_law_forged" rA)
  (d46_:DfH K "_law_alike" vC)
  (d47_:DfH K "_law_paper_right" vD)
  (d48_:DfH K "_law_judged" rB)
  (a49_:W.nsIn K mainGlobals "law" = some (some (.ref g49_))) (l49_:K.lookup g49_=some ⟨oc49_,od49_,.func (W.fnOf "law" "law" (fL oU) (dM oU) (aG oU) .none kV49_ dc49_ pm49_ an49_ cd49_ ct49_),sl49_⟩) (c49_:W.codeIn K cd49_ "law" = true) (k49_:W.keepIn K (.ref g49_)=true)
  (nb0:W.nsIn K mainGlobals "isinstance" = some none)
  (nb1:W.nsIn K mainGlobals "int" = some none)
  (nb2:W.nsIn K mainGlobals "bool" = some none)
  (nb3:W.nsIn K mainGlobals "str" = some none)
  (nb4:W.nsIn K mainGlobals "list" = some none)
  (nb5:W.nsIn K mainGlobals "tuple" = some none)
  (nb6:W.nsIn K mainGlobals "len" = some none)
  (nb7:W.nsIn K mainGlobals "all" = some none)
  (nb8:W.nsIn K mainGlobals "range" = some none)
  (nb9:W.nsIn K mainGlobals "sorted" = some none)
  (ae5:W.nsIn K mainGlobals "max" = some none)
  (ae6:W.nsIn K mainGlobals "min" = some none)
  (ae7:W.nsIn K mainGlobals "sum" = some none)
  (ae8:W.nsIn K mainGlobals "enumerate" = some none)
  (ae9:W.nsIn K mainGlobals "zip" = some none)
  (ae_:W.nsIn K mainGlobals "reversed" = some none)
  (afa:W.nsIn K mainGlobals "any" = some none)
  {tk0:Tok} (afb:W.nsIn K mainGlobals "LETTERS" = some (some (.str LET tk0)))
  {tk1:Tok} (afc:W.nsIn K mainGlobals "NAME_SIGNS" = some (some (.str SGN tk1)))
  {tk2:Tok} (afd:W.nsIn K mainGlobals "MOST_SIGNS" = some (some (.int 8 tk2)))
  {tk3:Tok} (afe:W.nsIn K mainGlobals "FEWEST_CELLS" = some (some (.int 16 tk3)))
  {tk4:Tok} (afg:W.nsIn K mainGlobals "MOST_CELLS" = some (some (.int 240 tk4)))
  {tk5:Tok} (afh:W.nsIn K mainGlobals "MOST_BLOCKS" = some (some (.int 40 tk5)))
  {nmR qR:Str} {NR:Addr} {bsR bmR:List Value} {hdR:Bool} {snR:List Str} {afi:List Value} {abR:Bool} {afj:Option Bool} {ddR:Option Addr} {k0R k1R k2R k3R k5R:Option Value} {newR:String}
  (zc:K.lookup R=some (excClassObj nmR qR R NR bsR bmR hdR snR afi abR afj ddR k0R k1R k2R k3R k5R newR)) (zt:W.typeIn K (.ref R)=some (.type "type")) (zm:W.mroIn K R (.type "BaseException")=some true)
  {CL CP CS pX:Addr}
  (aCL:W.nsIn K mainGlobals "Layout" = some (some (.ref CL)))
  (Lj:ClH K CL)
  (QJ:W.findIn K (.ref CL) "many" = some none)
  (QK:W.findIn K (.ref CL) "rows" = some none)
  (aCP:W.nsIn K mainGlobals "Plan" = some (some (.ref CP)))
  (QL:ClH K CP)
  (QM:W.findIn K (.ref CP) "cost" = some none)
  (G8:W.findIn K (.ref CP) "number" = some none)
  (Ln:W.findIn K (.ref CP) "moves" = some none)
  (E_:W.findIn K (.ref CP) "stretch" = some none)
  (aCS:W.nsIn K mainGlobals "Stuck" = some (some (.ref CS)))
  (QS:ClH K CS)
  (wQ:W.findIn K (.ref CS) "stretches" = some none)
  {QT QV:Option Addr} {QW:Array (Option Value)} {QX QZ Q0 Q5 Q6:Value}
  (Q9:W.findIn K (.ref CL) "__init__" = some (some (.ref pX))) (Q_:W.isFn K (.ref pX)=true)
  (Ra:K.lookup pX=some ⟨QX,QT,.func (W.fnOf "__init__" "Layout.__init__" (fL lH) (dM lH) (aG lH) .none QZ Q0 Q5 QV (.ref aF) Q6),QW⟩) (Rb:W.codeIn K (.ref aF) "Layout.__init__" = true) (Rf:W.keepIn K (.ref pX)=true) (tb_Linit:W.codeHdIn K aF aq=true) (tn_Linit:K.lookup aq=none)
  (Lp:MeH K CL "blocks" "Layout.blocks" rC)
  (Rg:MeH K CL "names" "Layout.names" vI)
  (Rh:MeH K CL "block" "Layout.block" vJ)
  (Ri:MeH K CL "moved" "Layout.moved" vK)
  (Uy:MeH K CP "__init__" "Plan.__init__" Af)
  (Lq:MeH K CP "brings" "Plan.brings" rD)
  (Uz:MeH K CS "__init__" "Stuck.__init__" Ag)
  (Lr:MeH K CS "brings" "Paper.brings" rE)
  (G9:MeH K CS "counted" "Stuck.counted" nH)
  (P0:W.specialIn K (.builtin "object.__class__") "__get__" = some (some (.builtin "getset_descriptor.__get__")))
  (P_:W.takesIn K (.builtin "object.__class__")=some true)
  (Ju:W.findIn K (.ref CP) "__class__" = some (some (.builtin "object.__class__")))
  (Jv:W.mroIn K CP (.type "object")=some true)
  (Jw:W.findIn K (.ref CS) "__class__" = some (some (.builtin "object.__class__")))
  (Jx:W.mroIn K CS (.type "object")=some true)
  : (∀p∈[aq],K.lookup p=none/\∃c,W.codeHdIn K c p=true)/\∃fd:FuncData,(∀(s:Shared) (v:Value),BindsTo s fd ⟨[v],[]⟩ [("_law_script", v)])/\∀base:Heap,K.In base->base.Ns mainGlobals mg->Bm mg base->jd l.prog w K mg base CX0 13 fa fd ["_law_script"] (Ba aq K):=by
 have e:=hfa.symm.trans (W.mg_of X G a49_)
 cases e
 have T:Txt K mg (λi=>([]:List Addr).getD i 0) R CL CP CS aF aq:={
  vN:=d0_.has X G
  yw:=d1_.has X G
  rZ:=d2_.has X G
  yx:=d3_.has X G
  yC:=d4_.has X G
  Df:=d5_.has X G
  Dg:=d6_.has X G
  vO:=d7_.has X G
  vP:=d8_.has X G
  su:=d9_.has X G
  Jh:=d10_.has X G
  yD:=d11_.has X G
  Vg:=d12_.has X G
  Py:=d13_.has X G
  Ji:=d14_.has X G
  Pz:=d15_.has X G
  PB:=d16_.has X G
  Jj:=d17_.has X G
  oV:=d18_.has X G
  Dh:=d19_.has X G
  yE:=d20_.has X G
  Di:=d21_.has X G
  PJ:=d22_.has X G
  PK:=d23_.has X G
  Dj:=d24_.has X G
  Jk:=d25_.has X G
  Dk:=d26_.has X G
  PL:=d27_.has X G
  Jl:=d28_.has X G
  Dm:=d29_.has X G
  yF:=d30_.has X G
  Jm:=d31_.has X G
  sy:=d32_.has X G
  Jo:=d33_.has X G
  yG:=d34_.has X G
  Jp:=d35_.has X G
  Dn:=d36_.has X G
  yH:=d37_.has X G
  Dp:=d38_.has X G
  PN:=d39_.has X G
  yI:=d40_.has X G
  Dq:=d41_.has X G
  oW:=d42_.has X G
  yJ:=d43_.has X G
  PX:=d44_.has X G
  yK:=d45_.has X G
  Dr:=d46_.has X G
  Ds:=d47_.has X G
  yL:=d48_.has X G
  bJ:=W.mg_none_of X G nb0
  yM:=W.mg_none_of X G nb1
  nJ:=W.mg_none_of X G nb2
  Vh:=W.mg_none_of X G nb3
  fG:=W.mg_none_of X G nb4
  iV:=W.mg_none_of X G nb5
  iW:=W.mg_none_of X G nb6
  Du:=W.mg_none_of X G nb7
  gj:=W.mg_none_of X G nb8
  Dv:=W.mg_none_of X G nb9
  kO:=W.mg_none_of X G ae5
  Dw:=W.mg_none_of X G ae6
  Vi:=W.mg_none_of X G ae7
  kW:=W.mg_none_of X G ae8
  Vj:=W.mg_none_of X G ae9
  jK:=W.mg_none_of X G ae_
  Jq:=W.mg_none_of X G afa
  yN:=⟨_,W.mg_of X G afb,⟨_,rfl⟩⟩
  oX:=⟨_,W.mg_of X G afc,⟨_,rfl⟩⟩
  oY:=⟨_,W.mg_of X G afd,⟨_,rfl⟩⟩
  kY:=⟨_,W.mg_of X G afe,⟨_,rfl⟩⟩
  jL:=⟨_,W.mg_of X G afg,⟨_,rfl⟩⟩
  mL:=⟨_,W.mg_of X G afh,⟨_,rfl⟩⟩
  g_R:=W.mg_of X G eR
  c_R:=by unfold W.clsIn;rw[zc];rfl
  t_R:=zt
  m_R:=zm
  clL:=⟨Lj.1,Lj.2.1,Lj.2.2.1,Lj.2.2.2.1⟩
  yO:=W.mg_of X G aCL
  bw:=QJ
  bB:=QK
  clP:=⟨QL.1,QL.2.1,QL.2.2.1,QL.2.2.2.1⟩
  Ah:=W.mg_of X G aCP
  bC:=QM
  aM:=G8
  aQ:=Ln
  aK:=E_
  clS:=⟨QS.1,QS.2.1,QS.2.2.1,QS.2.2.2.1⟩
  vQ:=W.mg_of X G aCS
  aC:=wQ
  yP:=tb_Linit
  Jr:=⟨pX,⟨_,qp (st:=lH) Ra Rb Rf,rfl⟩,⟨Lj.2.2.2.2.1,Q9,Q_,Lj.2.2.2.2.2⟩⟩
  yQ:=Lp.me
  Dy:=Rg.me
  Dz:=Rh.me
  DG:=Ri.me
  Js:=Uy.mk QL
  yR:=Lq.me
  Jt:=Uz.mk QS
  yS:=Lr.me
  vR:=G9.me
  P0:=P0
  P_:=P_
  Ju:=Ju
  Jv:=Jv
  Jw:=Jw
  Jx:=Jx }
 refine⟨λp hp=>?_,W.fnOf "law" "law" (fL oU) (dM oU) (aG oU) .none kV49_ dc49_ pm49_ an49_ cd49_ ct49_,λs v=>.of_eq rfl,λbase _ _ Bb=>?_⟩
 ·simp only[List.mem_cons,List.not_mem_nil,or_false] at hp
  rcases hp with rfl
  ·exact⟨tn_Linit,_,tb_Linit⟩
 exact Yr T Bb (qp (st:=oU) l49_ c49_ k49_)
theorem walk{l:W.OpenLaw}{q:Program}{loose:List Str}{XP:(Str->Option Value)->Heap->Prop}{YP:World->Heap->Prop}{d:DefRec}{K:Params->W.Frag}{aq:Addr}(hn:l.most=some 63)(hdf:d.params.defaults=[])
  (hY:∀(w:World) (h:Heap),YP w h->(K w.params).In h/\∀p∈[aq],h.get? p=some (W.tabObj #[]))
  (F:∀(w:World) (mg:Str->Option Value) (fa:Addr) (h:Heap),(K w.params).In h->h.Ns mainGlobals mg->mg d.name=some (.ref fa)->(∀p∈[aq],(K w.params).lookup p=none/\∃c,W.codeHdIn (K w.params) c p=true) /\ 
   ∃fd:FuncData,(∀(s:Shared) (u:Value),BindsTo s fd ⟨[u],[]⟩ [("_law_script", u)])/\∀base:Heap,(K w.params).In base->base.Ns mainGlobals mg->Bm mg base->jd l.prog w (K w.params) mg base CX0 13 fa fd ["_law_script"] (Ba aq (K w.params))) :
  W.WalkO q loose XP YP l.row.toRowW d [] (λf vs=>PySem.call f vs) :=
 L2.Ol (ts:=[aq]) (n:=63) (k:=13) (x := "_law_script") (CX:=λ_=>CX0) (sp:=λw=>Ba aq (K w.params)) hn (by decide) hdf ⟨rfl,by decide,by decide,rfl⟩ hY F (λ_ _ a ns hl hO hn hS=>⟨a,ns,rfl,hS,hl,hO.1 aq (by simp),(λz=>hn (by simp[z])),λ_=>rfl⟩) λ_ _ _ _ _ z=>z
end K75
namespace PySem.W.Fast
def tw12880814825386509076:=0
def tw15614471878403538631:=0
def tw7298510803401150511:=0
def tw10041639200166975296:=0
def tw10058138258052616464:=0
def tw10115625568016664612:=0
def tw10120718459104108697:=0
def tw1012487333542307574:=0
def tw10126364829051869005:=0
def tw10136314804801724794:=0
def tw10158553631898418449:=0
def tw1015899739509411380:=0
def tw10169024478874408182:=0
def tw10209716931414001199:=0
def tw10214653472358611676:=0
def tw10236037514054327562:=0
def tw10238816692339732786:=0
def tw10239653371307359167:=0
def tw1026983061316642491:=0
def tw10274858502149026769:=0
def tw10300949765051029115:=0
def tw10336617432191686964:=0
def tw10350131723681637040:=0
def tw10370722847017642877:=0
def tw10403487052953305026:=0
def tw10410975914142376759:=0
def tw10415459883595080759:=0
def tw10452274305821078491:=0
def tw10462028217673509692:=0
def tw10464948890248589112:=0
def tw10466692866995637608:=0
def tw1048301429570879407:=0
def tw10498476587429994677:=0
def tw1049892166511487150:=0
def tw10531424012674468006:=0
def tw1057793102657627289:=0
def tw10590555059528956472:=0
def tw10610395356505721116:=0
def tw10616507619862337626:=0
def tw10634305341721139257:=0
def tw10636489032258777204:=0
def tw10653494673072198125:=0
def tw10670782771903549249:=0
def tw10708416588234073026:=0
def tw10735074935642377504:=0
def tw10787394635807144700:=0
def tw10813581205970276218:=0
def tw10820102508609479936:=0
def tw10854064762667422771:=0
def tw10895921094278258217:=0
def tw1090833675947032189:=0
def tw10971494894074767419:=0
def tw1098214610819953597:=0
def tw10988872193012112256:=0
def tw1102064922258099227:=0
def tw11057411804849748751:=0
def tw11124512337799486138:=0
def tw11141035602742995533:=0
def tw11149728316470819946:=0
def tw11190920313273614519:=0
def tw11235937819636563855:=0
def tw11247801281252358639:=0
def tw11275801197235777548:=0
def tw11295807081715616885:=0
def tw1130735218520504245:=0
def tw11337571283575137788:=0
def tw11337918252340296317:=0
def tw11354020404843944520:=0
def tw11368822684328887093:=0
def tw11406946311811523610:=0
def tw11418984676122631464:=0
def tw11419157432391528488:=0
def tw11473333296312591128:=0
def tw11476604103468654362:=0
def tw11506461861922092207:=0
def tw11566653346010577692:=0
def tw11584367237929021279:=0
def tw11590994792367424732:=0
def tw11604232030611189369:=0
def tw11617841201925821698:=0
def tw11638510468692093977:=0
def tw11638602191357815045:=0
def tw11696699315755286124:=0
def tw11717766515693340886:=0
def tw11726069481801460243:=0
def tw11753473503145984426:=0
def tw11770040474028310001:=0
def tw11778192076086894178:=0
def tw11838651354141562939:=0
def tw1185041621313224312:=0
def tw11882562261389593263:=0
def tw1188557683764937039:=0
def tw11942369808546288414:=0
def tw1198027677924456086:=0
def tw11998508675370728525:=0
def tw12002955902118385818:=0
def tw12063417671591244939:=0
def tw12075975696603289146:=0
def tw12083603223066594824:=0
def tw12121089481778415418:=0
def tw12140572734613284377:=0
def tw12154281754087966537:=0
def tw12193194611794324012:=0
def tw12214347262404144006:=0
def tw12241360623299647147:=0
def tw12243018138510217514:=0
def tw12262213711760096269:=0
def tw12283675536178831035:=0
def tw12321111105202073647:=0
def tw12332480544007035543:=0
def tw12349641798608051631:=0
def tw12355229933810516361:=0
def tw12388474336459261876:=0
def tw12569472817719553550:=0
def tw12576043571443611797:=0
def tw12605699350259127840:=0
def tw12658405403201692826:=0
def tw12702582745554885564:=0
def tw12704088415069766005:=0
def tw12713432968670307515:=0
def tw12730699438800975322:=0
def tw12780894613316114829:=0
def tw1278246679874196596:=0
def tw12786682881003760361:=0
def tw12793229073000062723:=0
def tw1279692639101864932:=0
def tw12820913056982569461:=0
def tw12841244615799303141:=0
def tw12842271561446806708:=0
def tw12854144335979717987:=0
def tw12861134489609925437:=0
def tw12866884525079220957:=0
def tw12895786659946386106:=0
def tw12898554374050300111:=0
def tw1290606364913460702:=0
def tw1292146646690023997:=0
def tw12982054231303175638:=0
def tw13002436162667883822:=0
def tw1300671521268644684:=0
def tw13020640143386373270:=0
def tw13055168832966732974:=0
def tw13069684130699953133:=0
def tw13129180248419746818:=0
def tw13156893295937861982:=0
def tw13172523919228493614:=0
def tw13220719441964334220:=0
def tw13229073353769177843:=0
def tw13280967140994616168:=0
def tw13307857479512927743:=0
def tw13321198120229789243:=0
def tw13338077467494033893:=0
def tw13345905972037442630:=0
def tw13357681853742706358:=0
def tw13392215333126472606:=0
def tw13477249799897016070:=0
def tw13482349732532516264:=0
def tw1349305140620577115:=0
def tw13514984154900866805:=0
def tw13518984822129300590:=0
def tw13521327186452847689:=0
def tw13523260547807696370:=0
def tw13536647605413869813:=0
def tw13558325603430411802:=0
def tw13593703017899775082:=0
def tw1363795476380612152:=0
def tw13654113507704318547:=0
def tw13667114859983288613:=0
def tw13679437483258212747:=0
def tw13704008085479415138:=0
def tw137435867260903347:=0
def tw13744798728455389507:=0
def tw13779868498591007344:=0
def tw1379483474620192148:=0
def tw13817071025385914150:=0
def tw13823945926488680553:=0
def tw13881677618896073451:=0
def tw13894435452291056284:=0
def tw13895699125275813699:=0
def tw13908838279878523327:=0
def tw13923491074870896703:=0
def tw13936866877977919971:=0
def tw13940849830954625838:=0
def tw1395579894370187668:=0
def tw13971393293798862928:=0
def tw13982171103733191207:=0
def tw13993384315662520617:=0
def tw1406502838208710776:=0
def tw14071012406068965805:=0
def tw1407212939053971875:=0
def tw14072957873405073203:=0
def tw1409840764175656834:=0
def tw14125577091895162131:=0
def tw14144481211560684715:=0
def tw14164418989931659844:=0
def tw14172740652035386188:=0
def tw1419394826176509645:=0
def tw14218641296686557987:=0
def tw14220881445200148902:=0
def tw14225291927568164559:=0
def tw14229407100142820808:=0
def tw14233704498497678263:=0
def tw14247540934682039316:=0
def tw14257835709203640903:=0
def tw14271663190383021569:=0
def tw14303156272823618540:=0
def tw14307308677067632486:=0
def tw14325552245993709970:=0
def tw14336915612795774572:=0
def tw14354625017547702130:=0
def tw14365075786321194473:=0
def tw14367324544291285057:=0
def tw14369821904607195232:=0
def tw14372584847304019246:=0
def tw14382257993951209417:=0
def tw14447381684794894111:=0
def tw1450217241662785098:=0
def tw14510018140764286515:=0
def tw14511555052340530914:=0
def tw14515016022430038662:=0
def tw14544551263325106930:=0
def tw1455082391081328053:=0
def tw14551941177257779352:=0
def tw14575979515347311311:=0
def tw14579499294638134409:=0
def tw14593044339102860006:=0
def tw14594834851804688474:=0
def tw1463756145268540939:=0
def tw14642693505277061147:=0
def tw14649328630082689455:=0
def tw1468024892253357887:=0
def tw14708260485501709217:=0
def tw14714245923799249978:=0
def tw14734328662841917126:=0
def tw14746724659883272062:=0
def tw1478513081413628002:=0
def tw14811393449779178314:=0
def tw1483676520350294443:=0
def tw14842981890885980057:=0
def tw14864555873393244621:=0
def tw14878302266889068458:=0
def tw1490763519361845408:=0
def tw14913780481521212601:=0
def tw14924064401939126337:=0
def tw14945782641152424390:=0
def tw14968064149594965909:=0
def tw14971093478486458577:=0
def tw14985737514298525104:=0
def tw14997870972830929807:=0
def tw15030330921174471211:=0
def tw15063123753861494861:=0
def tw15089632405310074264:=0
def tw15093489528814162951:=0
def tw15096723515172004955:=0
def tw15113018740158916716:=0
def tw15159877813304081703:=0
def tw15191088312379728391:=0
def tw15200206328302219434:=0
def tw15223718391791719659:=0
def tw15245443051458026339:=0
def tw15278760782070450339:=0
def tw15284166916205911886:=0
def tw15298142032378628370:=0
def tw15307570476443465948:=0
def tw15328981481095259353:=0
def tw15339676562708163566:=0
def tw15342741542668647586:=0
def tw15393636036614811450:=0
def tw1539420047832707657:=0
def tw15404828502910613186:=0
def tw15426944740267971587:=0
def tw15460520382594764698:=0
def tw1546512884298895336:=0
def tw15518995876010565685:=0
def tw15541994205981144189:=0
def tw15561266299728487613:=0
def tw15590659170340386740:=0
def tw15593359955304302359:=0
def tw15614384864332918308:=0
def tw15631465628917681279:=0
def tw15648705127692059804:=0
def tw15650121308693610024:=0
def tw15674454502328714585:=0
def tw15683663379351672189:=0
def tw15693205443530892910:=0
def tw15725220459663737611:=0
def tw15727913095668513005:=0
def tw15737774003078631888:=0
def tw15744965877289107234:=0
def tw15747071987743924212:=0
def tw15800289241651050795:=0
def tw15812730319873008070:=0
def tw15900189425219439602:=0
def tw15902665056204757585:=0
def tw15910745607684303945:=0
def tw15967215032049260828:=0
def tw1603009303034914588:=0
def tw16062086556260348201:=0
def tw16082861233041857886:=0
def tw16121326806031818641:=0
def tw161239487507359326:=0
def tw16136511313600506010:=0
def tw16168336778860174113:=0
def tw16184542522744212374:=0
def tw16218883489745846533:=0
def tw1622760756508039772:=0
def tw16246455602790718303:=0
def tw16318026670900665960:=0
def tw1633807399348953753:=0
def tw16340853388419099920:=0
def tw16368972573311396623:=0
def tw16373176607719405776:=0
def tw16386700315095204276:=0
def tw16397581482171793665:=0
def tw16415397702983070330:=0
def tw16416301263608417411:=0
def tw16441443668239447607:=0
def tw16451824931041177337:=0
def tw16490526488360061059:=0
def tw16502444096985765711:=0
def tw16565694754248447785:=0
def tw1660961634801704114:=0
def tw16615360220086513190:=0
def tw16625640131414203349:=0
def tw16645892374397464729:=0
def tw16669432451279007167:=0
def tw1669498292532667495:=0
def tw1670339599627361370:=0
def tw16730167313405677529:=0
def tw16734562486491455171:=0
def tw16735100937334067455:=0
def tw16767031465055070192:=0
def tw16778839709297245274:=0
def tw16781477551473323126:=0
def tw16795417611317808198:=0
def tw16855031986184790538:=0
def tw16872044179916922687:=0
def tw16882829954044383571:=0
def tw16891225454530812572:=0
def tw1689433957723403447:=0
def tw16897237234169653619:=0
def tw16909102083805088015:=0
def tw16927719384146951661:=0
def tw16941758413361425449:=0
def tw16941900590838306148:=0
def tw16945570018224045503:=0
def tw16949703589734832689:=0
def tw1695118834850846237:=0
def tw16956838035614185010:=0
def tw1697164513935607970:=0
def tw16977215867515283480:=0
def tw16979637353046040402:=0
def tw16999777809366995437:=0
def tw17076885423718444346:=0
def tw17088361180602963923:=0
def tw17131189041123630899:=0
def tw17131643457462727086:=0
def tw17155263416057303917:=0
def tw17155789141355170902:=0
def tw17166629760937711304:=0
def tw17173490810638704797:=0
def tw17179641538721852658:=0
def tw17201697378908473298:=0
def tw17201925572604987811:=0
def tw17212641528420982698:=0
def tw17225702975935683185:=0
def tw17253177148280529972:=0
def tw17264769025075673741:=0
def tw1726849615840127689:=0
def tw17274513864068120697:=0
def tw1728578048891477148:=0
def tw17350061043679422940:=0
def tw17494897889934265523:=0
def tw17550012994600508709:=0
def tw1756027183482177681:=0
def tw17563780310745108572:=0
def tw17574676288456951555:=0
def tw17583741313706859348:=0
def tw17598525227417358894:=0
def tw17599542170225438466:=0
def tw17606316096313973526:=0
def tw17613447818933787158:=0
def tw1767572512296747187:=0
def tw1767732010603736987:=0
def tw17718228114014901618:=0
def tw17742326968088919480:=0
def tw17743960926496061346:=0
def tw17822804788800470120:=0
def tw17828434842301552196:=0
def tw17888474018697537695:=0
def tw17891485162880216708:=0
def tw17898770461522382109:=0
def tw17913057779912827589:=0
def tw17913814333870635200:=0
def tw17918975822277197156:=0
def tw1791938138956057892:=0
def tw17940297677551373151:=0
def tw17943512474560565627:=0
def tw1796714524845749689:=0
def tw17967408280068367536:=0
def tw18013787567670035452:=0
def tw18015192538547899519:=0
def tw18082683178696839010:=0
def tw18088770567492514274:=0
def tw18096611301865460203:=0
def tw18100228253376159669:=0
def tw18162864689055462557:=0
def tw18166517213336033080:=0
def tw18181045632850749479:=0
def tw18207507461932727282:=0
def tw182123851287948018:=0
def tw18227445726278417392:=0
def tw18268037126271879172:=0
def tw18291746973064486218:=0
def tw18312533519937400932:=0
def tw18349385665604987637:=0
def tw1836312587880732987:=0
def tw18384968809299879179:=0
def tw18389183058013362202:=0
def tw18418406612164583747:=0
def tw18428700977776475498:=0
def tw1845117634846941752:=0
def tw184880206871133679:=0
def tw1858580200581063001:=0
def tw1883805912879398084:=0
def tw1903238376747875005:=0
def tw1920179302526064095:=0
def tw1936474115320879987:=0
def tw1941917805296012402:=0
def tw1963489524975718419:=0
def tw2021593998190008585:=0
def tw2050974217671034641:=0
def tw2064358647900838664:=0
def tw2066639161358451429:=0
def tw2068704042800922320:=0
def tw2095890394118826343:=0
def tw2108105542889458649:=0
def tw2112937195339391044:=0
def tw214316123288271232:=0
def tw215446290647482594:=0
def tw2180978044671141673:=0
def tw2214035521975455951:=0
def tw2228689284160616281:=0
def tw2252460843377551789:=0
def tw2277196502649061510:=0
def tw2290356871402287378:=0
def tw2313983346733658306:=0
def tw2343359161904074645:=0
def tw2346402417284388851:=0
def tw2348395847421732916:=0
def tw2348431626653659139:=0
def tw2364862816011098755:=0
def tw2403314198243429195:=0
def tw2439265491492910596:=0
def tw244660492618815368:=0
def tw2450490327047424725:=0
def tw2454397908690377348:=0
def tw2495998642252827762:=0
def tw2517853279128096939:=0
def tw2542619593751954083:=0
def tw2578447836565965137:=0
def tw2582022695028337936:=0
def tw2588761193042435541:=0
def tw2598558677023891165:=0
def tw2601006009834873614:=0
def tw2637357189488056626:=0
def tw2660891060785794022:=0
def tw2660930432402033423:=0
def tw2667984065226814381:=0
def tw2709566786870459988:=0
def tw2718796684630179553:=0
def tw2720581041347553392:=0
def tw2731351518651289207:=0
def tw2751383998035019776:=0
def tw2782195619403837263:=0
def tw2794793206031024575:=0
def tw2806931196695614933:=0
def tw2892822495631161110:=0
def tw2894628408810184280:=0
def tw2901790260947047749:=0
def tw2928711815745766885:=0
def tw297037994933497546:=0
def tw2993696403835041330:=0
def tw3037515764282978194:=0
def tw3049253151578523686:=0
def tw3065560805257808286:=0
def tw3076602005160826648:=0
def tw3104617811816210297:=0
def tw3148813987786535388:=0
def tw3188523487590190372:=0
def tw3202153159162615573:=0
def tw3202792556020323658:=0
def tw3215648704085343406:=0
def tw3227641804829178356:=0
def tw3237136909696968536:=0
def tw3240275504835149473:=0
def tw3249549490066947040:=0
def tw3317519435265779098:=0
def tw3336788915894839047:=0
def tw3342280449239293931:=0
def tw335771603499773416:=0
def tw3475898862848276619:=0
def tw3481460037343132649:=0
def tw3512968758906686319:=0
def tw3542566798402781638:=0
def tw3548525402493790959:=0
def tw3592261884268671535:=0
def tw3596445051514755716:=0
def tw3615746634177583857:=0
def tw3639365523666444529:=0
def tw3648518923369908205:=0
def tw3687126041233540488:=0
def tw3695202288400692303:=0
def tw3719930569192236636:=0
def tw3727447655547437043:=0
def tw3736075356537299658:=0
def tw3787266909731699938:=0
def tw3808827837544819935:=0
def tw3843490082170807916:=0
def tw3851320253698462283:=0
def tw3868859630346936569:=0
def tw3884826827869975389:=0
def tw3889375533770143403:=0
def tw3902573800665789974:=0
def tw3904564133597078553:=0
def tw3906077586689523302:=0
def tw3930666883331293264:=0
def tw3937690412926154860:=0
def tw3967967162221743775:=0
def tw3974256380630942656:=0
def tw3984404140738129713:=0
def tw3990774903796514225:=0
def tw4007568089095393224:=0
def tw4026978487830735840:=0
def tw404029517395445751:=0
def tw4046676619139256753:=0
def tw4082851762338836890:=0
def tw4126181339223966618:=0
def tw4156974178302260181:=0
def tw4171054359796115848:=0
def tw4194544776326009909:=0
def tw4226808677057598254:=0
def tw4250515240558966862:=0
def tw4269962678525582842:=0
def tw4306058460447364524:=0
def tw4360978885312477798:=0
def tw436128512692123901:=0
def tw4382321489512582673:=0
def tw4398238523857214667:=0
def tw4431699572848058618:=0
def tw4500683498636092110:=0
def tw4500783017211256483:=0
def tw4521603699875722207:=0
def tw4533969075050049001:=0
def tw4538650869308665428:=0
def tw4577941701964779927:=0
def tw4579167982732924233:=0
def tw4580818685071267479:=0
def tw4584256234063368735:=0
def tw4604515034923673592:=0
def tw4621274735845825883:=0
def tw4624768472157544782:=0
def tw4644354592573750349:=0
def tw4650594478425911876:=0
def tw4668997073459803392:=0
def tw4679018875789622947:=0
def tw4704716778006243167:=0
def tw4731570051959666316:=0
def tw4779657275742747786:=0
def tw4784904206892600516:=0
def tw4801567236759867453:=0
def tw4824325723138481841:=0
def tw4845564729416716936:=0
def tw4846539308206207194:=0
def tw4849925889318980874:=0
def tw4868902802863668411:=0
def tw4900404366634198808:=0
def tw4908037925909383442:=0
def tw4952679532839001387:=0
def tw4953814053007012199:=0
def tw4980739639363489288:=0
def tw5005676799832926806:=0
def tw5023391767704141682:=0
def tw5045684683155426953:=0
def tw5045724376593115602:=0
def tw5048329963474654166:=0
def tw5051598056455688945:=0
def tw5064460545707425793:=0
def tw5067215690689560326:=0
def tw5073425280827659864:=0
def tw5086940449098992410:=0
def tw5104000022047097188:=0
def tw5112229123116906000:=0
def tw5119955211763464016:=0
def tw5124391471576865282:=0
def tw5128659750299305811:=0
def tw5151782440391981996:=0
def tw5186810698771199274:=0
def tw5216344616115947948:=0
def tw5218870273235532205:=0
def tw5227795718460918678:=0
def tw5229259740826506141:=0
def tw523589435649507048:=0
def tw5258752310383323907:=0
def tw5277032333826175095:=0
def tw5317291764663630849:=0
def tw5318017811311782666:=0
def tw5354997945303838648:=0
def tw5366761638879717108:=0
def tw5383338174014091371:=0
def tw5391169748884337530:=0
def tw5398238326212542863:=0
def tw5408186998638955881:=0
def tw5468451913444003496:=0
def tw5468781348270399390:=0
def tw5482212057381646224:=0
def tw5487240466747768251:=0
def tw5510791207065427760:=0
def tw5593928052181091614:=0
def tw5596033169559840959:=0
def tw5625490046345228643:=0
def tw5630852286523037672:=0
def tw5637223464128401401:=0
def tw5661575496937082483:=0
def tw5669854255180013639:=0
def tw5690649504232297536:=0
def tw5707910386938239303:=0
def tw5711283657035772375:=0
def tw5712818169248515631:=0
def tw5726032039411783430:=0
def tw5726892393568253266:=0
def tw5754205138028883383:=0
def tw575726828105876551:=0
def tw5761025401221526279:=0
def tw5770011275865645940:=0
def tw5781205641561383117:=0
def tw5783750559044906037:=0
def tw5789986483445618852:=0
def tw5815723961328109326:=0
def tw5829605620995004276:=0
def tw588266682158555759:=0
def tw5883437067459389722:=0
def tw5916902868952801154:=0
def tw5926959332605889166:=0
def tw5934946904658172749:=0
def tw5961670803439866003:=0
def tw5967908121793679800:=0
def tw5973857866852225810:=0
def tw6001518295409847749:=0
def tw6093398337456521146:=0
def tw6107932126109476470:=0
def tw6125252947288207156:=0
def tw6125329175521602289:=0
def tw6127705299572778046:=0
def tw6158033755545934660:=0
def tw6171852410492524452:=0
def tw6190018979419776977:=0
def tw6195366756759477500:=0
def tw6223859905006879888:=0
def tw6270828810805418111:=0
def tw6274522236550873838:=0
def tw6277306354553496472:=0
def tw6278256382609215315:=0
def tw6296965748616078708:=0
def tw6437745276640555817:=0
def tw6447532511691669699:=0
def tw6474495514296227391:=0
def tw648819068665240745:=0
def tw6507933369109198519:=0
def tw6545426113680429513:=0
def tw6572970691913053015:=0
def tw6579561819462947777:=0
def tw6584555816243440392:=0
def tw6604971074285245740:=0
def tw6635274793089420897:=0
def tw663939674863960972:=0
def tw6641526477411196396:=0
def tw6642165269768306740:=0
def tw6646108236758467470:=0
def tw66907592441064879:=0
def tw6757219165470044323:=0
def tw6796580906517521444:=0
def tw6804442962371310768:=0
def tw6809417958355214384:=0
def tw6810675515766300418:=0
def tw6830475741686883708:=0
def tw6864115181187501214:=0
def tw6868747856974282924:=0
def tw6899235469836601999:=0
def tw6924117784156600346:=0
def tw6930645801074091165:=0
def tw6945219394307172836:=0
def tw6993572717441331053:=0
def tw700661758425754634:=0
def tw7081017058703222070:=0
def tw7088026164982106253:=0
def tw7137534138719681546:=0
def tw71650398286792506:=0
def tw7204286543309679382:=0
def tw7205504493862743921:=0
def tw7235699129671317573:=0
def tw7258876012555746810:=0
def tw7272909655874294428:=0
def tw7274699390178720836:=0
def tw7307359775354255972:=0
def tw7314343733248163965:=0
def tw7364316521770655411:=0
def tw7457587102868988218:=0
def tw7485374236726542947:=0
def tw7539252959408332895:=0
def tw7568277895646370395:=0
def tw7607410333669550683:=0
def tw7613354253085375778:=0
def tw7623894159281319782:=0
def tw7655898266316759425:=0
def tw765677952027255070:=0
def tw7663885786319205804:=0
def tw7668886294767476164:=0
def tw7671893075977984580:=0
def tw7703826789631269486:=0
def tw7717177596606133021:=0
def tw7720105402511631293:=0
def tw7729586253410294975:=0
def tw7756706858003011123:=0
def tw7763975948398195168:=0
def tw7775624088751558415:=0
def tw7786821524933651480:=0
def tw7799668264122809867:=0
def tw7829223707896523015:=0
def tw7836699482955782720:=0
def tw7846262610019624452:=0
def tw7875175928125747051:=0
def tw7884388368579404876:=0
def tw7898594962001129211:=0
def tw7905532196081021845:=0
def tw7989237218427425205:=0
def tw8000519356674995078:=0
def tw8012635331110507349:=0
def tw8025755753399555650:=0
def tw8025862810688803317:=0
def tw8028770765957825249:=0
def tw8031702725172185512:=0
def tw8047477532091180733:=0
def tw8063082251584760432:=0
def tw8088286447153146545:=0
def tw8088677336919465219:=0
def tw8106158759979039561:=0
def tw8130671131342447813:=0
def tw8183177094759646921:=0
def tw8186397606823985169:=0
def tw8223724789390994637:=0
def tw8330132011786328890:=0
def tw8341667712087959741:=0
def tw8343484252138345437:=0
def tw8356093325782482942:=0
def tw837184278911651092:=0
def tw8381247095096254878:=0
def tw8403378549463620464:=0
def tw8403707634854838162:=0
def tw842335333361026699:=0
def tw8424774406104817834:=0
def tw8459570106828615878:=0
def tw849488107592994131:=0
def tw8560486381629772406:=0
def tw8560589179840974255:=0
def tw8576301295493819802:=0
def tw8577094587004854245:=0
def tw8584030493247836473:=0
def tw8624608591735256450:=0
def tw8632892081814572433:=0
def tw8642547028430264185:=0
def tw8668086794728334837:=0
def tw8668273294131374149:=0
def tw8689833135393708868:=0
def tw8708027760669298069:=0
def tw8739502796036367386:=0
def tw8774531996269117847:=0
def tw8778399073699135422:=0
def tw8808143964013186636:=0
def tw8843369235071652029:=0
def tw8852782922863444456:=0
def tw8853116093293331099:=0
def tw8862544287458381517:=0
def tw891718638447167303:=0
def tw8924416384955555943:=0
def tw8934567800435181264:=0
def tw8936743873476202039:=0
def tw8946068128557495172:=0
def tw8960233570121705659:=0
def tw8988613028131023694:=0
def tw8996936424558364092:=0
def tw9034836515340505902:=0
def tw9036725788124862993:=0
def tw9109811966569848206:=0
def tw9165804891231844395:=0
def tw9172985440142857885:=0
def tw9192930807734333295:=0
def tw9195268627156752575:=0
def tw9199797392608626595:=0
def tw9200679395109359432:=0
def tw9208307132795903651:=0
def tw9226625184845268023:=0
def tw9242683295748333779:=0
def tw9263014130373043969:=0
def tw940780365306373399:=0
def tw9414471653525304625:=0
def tw942161467456494746:=0
def tw9445731079005681406:=0
def tw9490151355062786408:=0
def tw9544114680264093228:=0
def tw9550768472344634448:=0
def tw9558884400243055942:=0
def tw9579452003533332116:=0
def tw9586008411942003383:=0
def tw9633776184142391372:=0
def tw9635048894882225423:=0
def tw9660266762189912314:=0
def tw9684673513757916362:=0
def tw9735692600018136064:=0
def tw9740350777721046224:=0
def tw9781597436168450848:=0
def tw9800320841834092519:=0
def tw9804774678568870323:=0
def tw9812603585175311565:=0
def tw9834657135393747604:=0
def tw9840546214441181243:=0
def tw9847985577298923489:=0
def tw9874832114906916878:=0
def tw987736456464550733:=0
def tw9880589588719570012:=0
def tw9883124256884971319:=0
def tw9934008282640674335:=0
def tw9978901045225873955:=0
def tw9982178524968370069:=0
def tw11605811047317152750:=0
def tw12100020000701480107:=0
def tw12356880725584001349:=0
def tw12875874557830356162:=0
def tw15303155762134690723:=0
def tw15950715260368557550:=0
def tw16187755307611909504:=0
def tw17348988354640140954:=0
def tw18306799693671409566:=0
def tw2248920798715453981:=0
def tw274393917587249282:=0
def tw4442676355685266240:=0
def tw4689243003652198205:=0
def tw5281804553746347825:=0
def tw6716963053425865862:=0
def tw6876543797066530173:=0
def tw6939796665467239523:=0
def tw7073641927286384511:=0
def tw7342081960556150854:=0
def tw7414404729988487773:=0
def tw8295850742967558845:=0
def tw8983736716536811860:=0
def tw10697015699927269527:=0
def tw11980405129667547665:=0
def tw12920579007885732579:=0
def tw13463473495875168314:=0
def tw13500430513532613577:=0
def tw14470957682774234129:=0
def tw15433778882898064814:=0
def tw16110255650345259979:=0
def tw16210778032307110465:=0
def tw17231739241244526925:=0
def tw18350147847786551856:=0
def tw2140690511553047108:=0
def tw2383236569989240616:=0
def tw3939050795722081138:=0
def tw4901116040923719887:=0
def tw5913115868846455161:=0
def tw6270867026332199205:=0
def tw6381681172192572754:=0
def tw6438509156758763420:=0
def tw6754554749357261110:=0
def tw7089979600550921569:=0
def tw7762609787856084330:=0
def tw8888721424833146844:=0
def tw7028694389491033002:=0
def tw2155047581846270561:=0
def tw7923027747903871540:=0
def tw8256212911451534200:=0
end PySem.W.Fast
open PySem PySem.W PyProof.Rows
set_option maxRecDepth 100000 in
set_option maxHeartbeats 0 in
theorem PySem.Challenge.cw_slideroom_k75_stuck_papers_holds : PySem.Challenge.rw_slideroom_k75_stuck_papers.Holds := by
 w_on;o_law;k_head;(case hw=>w_witness2)
 k_fill
 refine K75.walk (l:=PySem.Challenge.rw_slideroom_k75_stuck_papers) rfl rfl (fun w h Y=>⟨PySem.W.km_in_of Y,PySem.W.km_tabs_of Y⟩) ?F
 case F =>
  intro w mg fa h KX G hmg
  refine' K75.all_mk KX G hmg ?_ ?_ ?_ ?_ ?_ ?_ ?_ ?_ ?_ ?_ ?_ ?_ ?_ ?_ ?_ ?_ ?_ ?_ ?_ ?_ ?_ ?_ ?_ ?_ ?_ ?_ ?_ ?_ ?_ ?_ ?_ ?_ ?_ ?_ ?_ ?_ ?_ ?_ ?_ ?_ ?_ ?_ ?_ ?_ ?_ ?_ ?_ ?_ ?_ ?_ ?_ ?_ ?_ ?_ ?_ ?_ ?_ ?_ ?_ ?_ ?_ ?_ ?_ ?_ ?_ ?_ ?_ ?_ ?_ ?_ ?_ ?_ ?_ ?_ ?_ ?_ ?_ ?_ ?_ ?_ ?_ ?_ ?_ ?_ ?_ ?_ ?_ ?_ ?_ ?_ ?_ ?_ ?_ ?_ ?_ ?_ ?_ ?_ ?_ ?_ ?tb_Linit ?tn_Linit ?_ ?_ ?_ ?_ ?_ ?_ ?_ ?_ ?_ ?_ ?_ ?_ ?_ ?_ ?_
  all_goals try first
   | k_is
   | exact ⟨_,_,_,_,_,_,_,_,_,_,by k_is,by k_is,by k_is,by k_is⟩
   | exact ⟨_,_,_,_,_,_,_,_,_,_,by k_is,by k_is,by k_is,by k_is,by k_is⟩
   | exact ⟨_,_,_,_,_,_,_,_,_,_,by k_is,by k_is,by k_is,by k_is,by k_is,by k_is⟩
   | exact ⟨by k_is,by k_is,by k_is,by k_is,by k_is,by k_is⟩
  (case tb_Linit=>kernel_rfl)
  (case tn_Linit=>kernel_rfl)

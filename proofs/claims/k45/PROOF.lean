import PyProof.Rows.All
import Wide.All
import OpenK.AllK
import Wide.FinOn
import Lean
import PyProof.EqAt
import PyProof.EqKinds
import PyProof.TupleCall
import PyProof.NeKinds
import PyProof.ExcInit
import PyProof.StationsW
import PyProof.ExcBaseAll.ValueError
import PyProof.ExcArgs
import KE.KIsAll
import PyProof.ReprRoads
import PyProof.CallFns
import PyProof.ExcClass3
import PyProof.StrBlock2
import PyProof.FitsInt
import PyProof.StrLawsRepr
import KE.KTryMore
import PyProof.RulesAs
import KE.KIntText
import PyProof.StrLawsChain
import PyProof.StrCalls2
import PyProof.ZipIter
import PyProof.Conv_bool
import PyProof.CallStr
import PyProof.TupleIter
import KE.KEqDict
import PyProof.AutoListH
import PyProof.FactsAll.range_2
import KE.IntTextLaws
import PyProof.StrCalls
import PySem.Challenge.RW_slideroom_k45_halves_looked_at
-- CHANGE: your row's module here, as the last of these rows
set_option compiler.extract_closed false
set_option Elab.async false
set_option linter.all false
set_option maxRecDepth 100000
section
open PySem PySem.Spec PyProof.Rows PySem.SeqAt
abbrev xA:=Unit->Shared->Prop
abbrev xB:=Value->Shared->Prop
abbrev xC:=Str->Option Value
abbrev xD:=List (Nat×Nat)
abbrev xE:=Array Keyed
abbrev xF:=List Value
abbrev xI:=Array Value
abbrev xL:=Option Addr
def zC:=@List.mem_cons_self
def zD:=@List.mem_cons_of_mem
def zI:=@wpAny_bind
def zS:=@wpS_bind
def yA:=@wpS_pure
def yB:=@if_pos
def yT:=@if_neg
def yY:=@List.length_append
def wE:=@List.mem_of_getElem?
def wP:=@List.getElem?_append_left
def wS:=@List.length_map
def wT:=@List.mem_append
def vE:=@List.getElem?_map
def vS:=@List.not_mem_nil
def vT:=@Bool.false_ne_true
def jI:=@List.append_assoc
def jS:=@List.mem_cons
def qA:=@List.mem_map
def qB:=@List.take_append_drop
def qE:=@List.getElem?_eq_some_iff
def qS:=@List.getElem?_eq_getElem
def qV:=@Nat.lt_of_lt_of_le
def gE:=@Nat.ne_of_lt
def gI:=@Nat.lt_irrefl
def gL:=@List.take_succ
def gN:=@congrArg
def gS:=@absurd
def gX:=@eq_of_beq
def uA:=@decide_eq_false
def uB:=@decide_eq_true
def uC:=@Heap.lt_size
def uS:=@Heap.get?_push_of_some
def rS:=@Nat.le_refl
def rV:=@List.mem_singleton
def rX:=@List.mem_append_right
def oB:=@wpAny_pure
def oC:=@Nat.le_trans
def oP:=@List.mem_of_mem_take
def oQ:=@List.mem_of_mem_drop
def oS:=@Heap.get?_push_size
def nB:=@List.getD_eq_getElem?_getD
def nE:=@List.length_take
def nI:=@List.map_cons
def nK:=@List.getElem?_append_right
def nS:=@Option.some.inj
def nV:=@Nat.lt_succ_of_lt
def nX:=@List.size_toArray
def mB:=@Heap.get?_update_other
def mE:=@List.take_of_length_le
def mI:=@wpAny_holding
def mM:=@wpAny_mono
def mN:=@List.mem_append_left
def mP:=@List.append_nil
def mS:=@Array.length_toList
def mT:=@Array.toList_append
def zzA:=@List.pairwise_append
def zzB:=@List.length_replicate
def zzC:=@List.getElem?_eq_none
def zzD:=@List.length_cons
def zzE:=@Nat.le_of_lt
def zzF:=@Heap.get?_update_ne
def zzG:=@Heap.get?_push_ne
def zzH:=@List.length_drop
end
namespace L2
open PySem PySem.Spec PyProof.Rows
abbrev Key:=Sum Int Str
def Rb:Key->Value->Bool
 | .inl k,v=>Value.isInt k v
 | .inr x,v=>Value.isStrOf x v
def Zj(w:World):Key->Int
 | .inl k=>hashInt k
 | .inr x=>hashStr w x
theorem dj:∀{k:Key} {v:Value},Rb k v=true->(∃i t,k=Sum.inl i/\v=Value.int i t)\/(∃x t,k=Sum.inr x/\v=Value.str x t)
 | .inl i,v,h=>by
  obtain⟨t,e⟩:=Value.isInt_shape (k:=i) (v:=v) h;exact .inl ⟨i,t,rfl,e⟩
 | .inr x,v,h=>by
  obtain⟨t,e⟩:=Value.isStrOf_shape (x:=x) (v:=v) h;exact .inr ⟨x,t,rfl,e⟩
theorem R_(a b:Int):decide ((Sum.inl a:Key)=Sum.inl b)=(a==b):=by
 by_cases e:a=b
 ·subst e;simp
 ·have h:¬ (Sum.inl a:Key)=Sum.inl b:=λq=>e (Sum.inl.inj q)
  rw[uA h];exact(beq_eq_false_iff_ne.mpr e).symm
theorem Sg(a b:Str):decide ((Sum.inr a:Key)=Sum.inr b)=decide (a=b):=by
 by_cases e:a=b
 ·subst e;simp
 ·have h:¬ (Sum.inr a:Key)=Sum.inr b:=λq=>e (Sum.inr.inj q)
  rw[uA h,uA e]
theorem Sh(a:Int)(b:Str):decide ((Sum.inl a:Key)=Sum.inr b)=false:=uA (λq=>nomatch q)
theorem Sq(a:Str)(b:Int):decide ((Sum.inr a:Key)=Sum.inl b)=false:=uA (λq=>nomatch q)
def En(prog:Program)(w:World):PySem.KeyKind prog w Key where
 is:=Rb
 hash:=Zj w
 inj:=λv a b ha hb=>by
  rcases dj ha with⟨i,t,rfl,rfl⟩|⟨x,t,rfl,rfl⟩
  ·rcases dj hb with⟨j,u,rfl,e⟩|⟨y,u,rfl,e⟩
   ·injection e with e1 _;rw[e1]
   ·exact nomatch e
  ·rcases dj hb with⟨j,u,rfl,e⟩|⟨y,u,rfl,e⟩
   ·exact nomatch e
   ·injection e with e1 _;rw[e1]
 byValue:=λk v h=>by
  rcases dj h with⟨i,t,rfl,rfl⟩|⟨x,t,rfl,rfl⟩ <;> rfl
 pyHash:=λhv h=>by
  rcases dj hv with⟨i,t,rfl,rfl⟩|⟨x,t,rfl,rfl⟩
  ·exact wpAny_pyHash_int h
  ·exact wpAny_pyHash_str h
 eqBool:=λhu hv h=>by
  rcases dj hu with⟨i,t,rfl,rfl⟩|⟨x,t,rfl,rfl⟩
  ·rcases dj hv with⟨j,u,rfl,rfl⟩|⟨y,u,rfl,rfl⟩
   ·rw[R_] at h;exact wpAny_eqBool_int h
   ·rw[Sh] at h;exact SeqAt.EqAt.int_str i t y u _ _ _ _ h
  ·rcases dj hv with⟨j,u,rfl,rfl⟩|⟨y,u,rfl,rfl⟩
   ·rw[Sq] at h;exact SeqAt.EqAt.str_int x t j u _ _ _ _ h
   ·rw[Sg] at h;exact wpAny_eqBool_str h
 «strs»:=λk x t v h=>by
  rcases dj h with⟨i,u,rfl,e⟩|⟨y,u,rfl,e⟩
  ·exact nomatch e
  ·injection e with e1 _
   subst e1;cases v <;> rfl
inductive V where
 | non|bl (b:Bool)|int (i:Int)|str (x:Str)|byt (b:Array UInt8)|flt (b:UInt64)|ref (a:Addr)|ty (n:String)
 deriving DecidableEq
def RelV:V->Value->Prop
 | .non,u=>u=Value.none
 | .bl b,u=>u=Value.bool b
 | .int i,u=>∃t,u=Value.int i t
 | .str x,u=>∃t,u=Value.str x t
 | .byt b,u=>∃t,u=Value.bytes b t
 | .flt b,u=>∃t,u=Value.float b t
 | .ref a,u=>u=Value.ref a
 | .ty n,u=>u=Value.type n
abbrev Vals:List V->List Value->Prop:=Paired RelV
theorem Vals.length{xs:List V}{us:xF}(r:Vals xs us):xs.length=us.length:=Paired.length r
theorem Vals.get:∀{xs:List V} {us:xF} {i:Nat} {x:V},Vals xs us->xs[i]?=some x->∃u,us[i]?=some u/\RelV x u
 | _,_,_,_,.nil,e=>by simp at e
 | _,_,0,_,.cons r _,e=>by simp at e;subst e;exact⟨_,rfl,r⟩
 | _,_,i+1,x,.cons _ t,e=>by
  obtain⟨u,h1,h2⟩:=Vals.get (i:=i) (x:=x) t (by simpa using e);exact⟨u,by simpa using h1,h2⟩
theorem Vals.append:∀{xs ys:List V} {us ws:xF},Vals xs us->Vals ys ws->Vals (xs++ys) (us++ws)
 | _,_,_,_,.nil,s=>s
 | _,_,_,_,.cons r t,s=>.cons r (Vals.append t s)
theorem Vals.take:∀{xs:List V} {us:xF} (n:Nat),Vals xs us->Vals (xs.take n) (us.take n)
 | _,_,0,_=>.nil
 | _,_,_+1,.nil=>.nil
 | _,_,n+1,.cons r t=>.cons r (Vals.take n t)
theorem Vals.drop:∀{xs:List V} {us:xF} (n:Nat),Vals xs us->Vals (xs.drop n) (us.drop n)
 | _,_,0,r=>r
 | _,_,_+1,.nil=>.nil
 | _,_,n+1,.cons _ t=>Vals.drop n t
def ju:Option V->Option Value->Prop
 | some v,some u=>RelV v u
 | none,none=>True
 | _,_=>False
def KV{κ:Type}:List (κ×V)->List (κ×Value)->Prop:=Paired λ(p:κ×V) (q:κ×Value)=>p.1=q.1/\RelV p.2 q.2
def kV:Key->V
 | .inl i=>.int i
 | .inr x=>.str x
inductive HO where
 /-- a list -/
 | lst (xs:List V)
 /-- a tuple (never changes) -/
 | tup (xs:List V)
 /-- a dict whose keys are ints and texts; one whose keys are tuples of ints and texts (the empty one is both) -/
 | dK (kvs:List (Key×V))|dT (kvs:List (List Key×V))
 /-- a set of ints: its members, its size -/
 | set (S:Int->Bool) (n:Nat)
 /-- an instance of the class at C, its dict at dx, its attributes -/
 | ins (C dx:Addr) (fs:List (Str×V))
 /-- the dict of the instance at x -/
 | own (x:Addr)
 /-- the dict of an exception -/
 | xd (fs:List (Str×V))
 /-- a bound method, f of x -/
 | met (f x:Addr)
 /-- a range object lo, lo + 1, .. below hi -/
 | rng (lo hi:Int)
 /-- a thing that is known to the object (the script; a dict while a loop walks it): read, never written while it is so -/
 | frz (o:Obj) (u:HO)
 /-- a code object's table -/
 | tbl (ps:xI)
 /-- any other thing, by what is true of its one object (a def of one's own: abq a S n := HO.ext fun h => ..) -/
 | ext (φ:Heap->Prop)
abbrev Hp:=Addr->Option HO
def upd(H:Hp)(a:Addr)(o:HO):Hp:=λb=>if b=a then some o else H b
theorem bx{H:Hp}{a:Addr}{o:HO}:upd H a o a=some o:=by unfold upd;rw[if_pos rfl]
theorem bf{H:Hp}{a b:Addr}{o:HO}(h:b≠a):upd H a o b=H b:=by unfold upd;rw[if_neg h]
theorem aQ{H:Hp}{a b:Addr}{o:HO}(h:H a=some o)(h':H b=none):a≠b:=by
 intro e;subst e;rw[h] at h';cases h'
section
variable(P:Program)(w:World)
def cH(H:Hp)(h:Heap)(a:Addr):HO->Prop
 | .lst xs=>xs.length<=sizeLine/\∃(its:xF)(n:Nat),Vals xs its/\h.get? a=some { cls:=.type "list", data:=.seq its.toArray n }
 | .tup xs=>xs.length<=sizeLine/\∃its:List Value,Vals xs its/\IsTup h a its.toArray
 | .dK kvs=>kvs.length<=sizeLine/\(a==sysModules)=false/\∃vs,KV kvs vs/\h.DictOf (En P w) a vs
 | .dT kvs=>kvs.length<=sizeLine/\(a==sysModules)=false/\∃xs:List (List Key×Addr×Value),
   Paired (λ(p:List Key×V) (q:List Key×Addr×Value)=>p.1=q.1/\H q.2.1=some (.tup (p.1.map kV))/\RelV p.2 q.2.2) kvs xs /\
   ∃o es ep,h.get? a=some o/\o.ExactDict/\o.data=.dict es ep/\es.toList=xs.map (entryOfKey (tupleKind (En P w)))/\(xs.map (·.1)).Nodup
 | .set S n=>h.SetOf (intKind P w) a S n
 | .ins C dx fs=>H dx=some (.own a)/\fs.length<=1000/\dx≠a/\h.get? a=some (W.instObj C dx) /\
   ∃mA,h.Ns1 dx mA/\(∀f,ju (fs.lookup f) (mA f))/\PySem.Within mA (fs.map (·.1))
 | .own _=>∃o,h.get? a=some o
 | .xd fs=>∃mA,h.Ns1 a mA/\∀f,ju (fs.lookup f) (mA f)
 | .rng lo hi=>∃t u v,h.get? a=some { cls:=.type "range", data:=.fields #[.int lo t,.int hi u,.int 1 v] }
 | .frz o u=>h.get? a=some o/\cH H h a u
 | .tbl ps=>h.get? a=some { cls:=.none,data:=.fields ps }
 | .met f x=>h.get? a=some (W.methodObj (.ref f) (.ref x))
 | .ext φ=>φ h/\(∃o,h.get? a=some o)/\∀h1 h2:Heap,φ h1->(∀o,h1.get? a=some o->h2.get? a=some o)->φ h2
def HOk(H:Hp)(h:Heap):Prop:=∀a o,H a=some o->cH P w H h a o
end
section
variable{P:Program}{w:World}{H H':Hp}{h h':Heap}{a:Addr}{o:HO}
theorem cH.lt(x:cH P w H h a o):a<h.objs.size:=by
 cases o with
 | lst xs=>obtain⟨_,_,_,_,e⟩:=x;exact uC e
 | tup xs=>obtain⟨_,_,_,p⟩:=x;exact p.lt
 | dK kvs=>obtain⟨_,_,_,_,o,_,_,e,_⟩:=x;exact uC e
 | dT kvs=>obtain⟨_,_,_,_,o,_,_,e,_⟩:=x;exact uC e
 | set S n=>obtain⟨o,_,_,_,e,_⟩:=x;exact uC e
 | ins C dx fs=>obtain⟨_,_,_,e,_⟩:=x;exact uC e
 | own y=>obtain⟨_,e⟩:=x;exact uC e
 | xd fs=>obtain⟨_,⟨_,_,_,e,_⟩,_⟩:=x;exact uC e
 | rng lo hi=>obtain⟨_,_,_,e⟩:=x;exact uC e
 | frz ob u=>obtain⟨e,_⟩:=x;exact uC e
 | tbl ps=>exact uC (show h.get? a=some _ from x)
 | met f y=>exact uC (show h.get? a=some _ from x)
 | ext φ=>obtain⟨_,⟨_,e⟩,_⟩:=x;exact uC e
theorem Paired.V1{α β:Type}{F G:α->β->Prop}:∀{l₁:List α} {l₂:List β},Paired F l₁ l₂->(∀a b,F a b->G a b)->Paired G l₁ l₂
 | _,_,.nil,_=>.nil
 | _,_,.cons r t,f=>.cons (f _ _ r) (Paired.V1 t f)
theorem cH.stay(x:cH P w H h a o)(k:∀b u,(b=a\/H b=some (.own a))->h.get? b=some u->h'.get? b=some u)
  (ho:∀b,H b=some (.own a)->H' b=some (.own a)) (ht:∀b xs,H b=some (.tup xs)->H' b=some (.tup xs)):cH P w H' h' a o:=by
 induction o with
 | lst xs=>obtain⟨z,its,n,r,e⟩:=x;exact⟨z,its,n,r,k _ _ (.inl rfl) e⟩
 | tup xs=>obtain⟨z,its,r,ob,e,c⟩:=x;exact⟨z,its,r,ob,k _ _ (.inl rfl) e,c⟩
 | dK kvs=>obtain⟨z,y,vs,r,ob,es,ep,e,c⟩:=x;exact⟨z,y,vs,r,ob,es,ep,k _ _ (.inl rfl) e,c⟩
 | dT kvs =>
  obtain⟨z,y,xs,r,ob,es,ep,e,c⟩:=x;exact⟨z,y,xs,Paired.V1 r λp q z=>⟨z.1,ht _ _ z.2.1,z.2.2⟩,ob,es,ep,k _ _ (.inl rfl) e,c⟩
 | set S n=>obtain⟨ob,es,ep,t,e,c⟩:=x;exact⟨ob,es,ep,t,k _ _ (.inl rfl) e,c⟩
 | ins C dx fs =>
  obtain⟨d,z,ne,e,mA,⟨od,es,ep,e2,c⟩,r⟩:=x;exact⟨ho _ d,z,ne,k _ _ (.inl rfl) e,mA,⟨od,es,ep,k _ _ (.inr d) e2,c⟩,r⟩
 | own y=>obtain⟨ob,e⟩:=x;exact⟨ob,k _ _ (.inl rfl) e⟩
 | xd fs=>obtain⟨mA,⟨od,es,ep,e,c⟩,r⟩:=x;exact⟨mA,⟨od,es,ep,k _ _ (.inl rfl) e,c⟩,r⟩
 | rng lo hi=>obtain⟨t,u,v,e⟩:=x;exact⟨t,u,v,k _ _ (.inl rfl) e⟩
 | frz ob u ih=>obtain⟨e,q⟩:=x;exact⟨k _ _ (.inl rfl) e,ih q⟩
 | tbl ps =>
  have e:h.get? a=some { cls:=.none,data:=.fields ps }:=x;show h'.get? a=some { cls:=.none,data:=.fields ps };exact k a _ (.inl rfl) e
 | met f y =>
  have e:h.get? a=some (W.methodObj (.ref f) (.ref y)):=x;show h'.get? a=some (W.methodObj (.ref f) (.ref y));exact k a _ (.inl rfl) e
 | ext φ=>obtain⟨p,⟨o,e⟩,st⟩:=x;exact⟨st _ _ p λo q=>k _ _ (.inl rfl) q,⟨o,k _ _ (.inl rfl) e⟩,st⟩
theorem HOk.lt(x:HOk P w H h)(e:H a=some o):a<h.objs.size:=(x a o e).lt
theorem HOk.fresh(x:HOk P w H h)(e:h.objs.size<=a):H a=none:=by
 cases q:H a with
 | none=>rfl
 | some u=>exact gS (qV (x.lt q) e) (gI _)
theorem HOk.kept(x:HOk P w H h)(k:∀b u,h.get? b=some u->h'.get? b=some u):HOk P w H h':=λa o e =>
 (x a o e).stay (λb u _ q=>k b u q) (λ_ q=>q) λ_ _ q=>q
theorem HOk.laid(x:HOk P w H h)(k:∀b u,h.get? b=some u->h'.get? b=some u)(hp:h.objs.size<=a)(new:cH P w (upd H a o) h' a o):HOk P w (upd H a o) h':=λb u e=>by
 have hn:=x.fresh hp;by_cases hb:b=a
 ·subst hb;rw[bx] at e;cases e;exact new
 ·rw[bf hb] at e;exact(x b u e).stay (λc v _ q=>k c v q) (λc q=>by rw[bf (aQ q hn)];exact q) λc xs q=>by rw[bf (aQ q hn)];exact q
end
def Rd(H:Hp)(a:Addr)(u:HO):Prop:=H a=some u\/∃o,H a=some (.frz o u)
theorem Rd.of{H:Hp}{a:Addr}{u:HO}(h:H a=some u):Rd H a u:=.inl h
theorem Rd.ok{P:Program}{w:World}{H:Hp}{h:Heap}{a:Addr}{u:HO}(r:Rd H a u)(x:HOk P w H h):cH P w H h a u:=by
 rcases r with r|⟨o,r⟩
 ·exact x a u r
 ·obtain⟨_,q⟩:=x a _ r;exact q
def Mut:Option HO->Prop
 | some (.lst _)=>True
 | some (.dK _)=>True
 | some (.dT _)=>True
 | some (.set _ _)=>True
 | some (.ins _ _ _)=>True
 | some (.ext _)=>True
 | _=>False
section
variable{P:Program}{w:World}{H:Hp}{h h':Heap}{x e:Addr}{o':HO}
theorem HOk.write(ok:HOk P w H h)(mu:Mut (H x))(he:e=x\/H e=some (.own x))(k:∀b u,b≠e->h.get? b=some u->h'.get? b=some u)(heo:∃u,h'.get? e=some u)
  (new:cH P w (upd H x o') h' x o'):HOk P w (upd H x o') h':=λb u q=>by
 have V2:∀c y,H c=some (.own y)->c≠x:=λc y r z=>by subst z;rw[r] at mu;exact mu
 have Zk:∀c xs,H c=some (.tup xs)->c≠x:=λc xs r z=>by subst z;rw[r] at mu;exact mu
 by_cases hb:b=x
 ·subst hb;rw[bx] at q;cases q;exact new
 ·rw[bf hb] at q;by_cases hbe:b=e
  ·have q':H b=some (.own x):=by
    rcases he with z|z
    ·exact gS (hbe.trans z) hb
    ·rw[hbe];exact z
   rw[q] at q';cases q';obtain⟨v,hv⟩:=heo;exact⟨v,by rw[hbe];exact hv⟩
  ·refine(ok b u q).stay (λc v hc r=>k c v ?_ r) (λc r=>by rw[bf (V2 c b r)];exact r) λc xs r=>by rw[bf (Zk c xs r)];exact r
   rcases hc with rfl|hc
   ·exact hbe
   ·rintro rfl;rcases he with z|z
    ·exact V2 c b hc z
    ·rw[hc] at z;cases z;exact hb rfl
end
structure Un(fs ex:List Addr)(H H':Hp)(h h':Heap):Prop where
 keep:∀b o,h.get? b=some o->H b=none->b ∉ fs->b ∉ ex->h'.get? b=some o
 slot:∀b o,h.get? b=some o->H b=none->b∈fs->b ∉ ex->∃sl,h'.get? b=some { o with slots:=sl }
 free:∀b o,h.get? b=some o->H b=none->b ∉ ex->H' b=none
 there:∀b o,h.get? b=some o->b ∉ ex->∃o',h'.get? b=some o'
 tups:∀b xs,H b=some (.tup xs)->H' b=some (.tup xs)
 jH:∀b o u,H b=some (.frz o u)->H' b=some (.frz o u)
 jJ:∀b ps,H b=some (.tbl ps)->∃more,H' b=some (.tbl (ps++more))
section
variable{fs fs' ex ex':List Addr}{H H1 H2:Hp}{h h1 h2 h':Heap}{a x e:Addr}{o:HO}
theorem Un.any(u:Un fs ex H H1 h h1){b:Addr}{ob:Obj}(q:h.get? b=some ob)(n:H b=none)(hx:b ∉ ex):∃sl,h1.get? b=some { ob with slots:=sl }:=by
 by_cases hb:b∈fs
 ·exact u.slot b ob q n hb hx
 ·exact⟨ob.slots,u.keep b ob q n hb hx⟩
theorem Un.trans(a:Un fs ex H H1 h h1)(b:Un fs ex H1 H2 h1 h2):Un fs ex H H2 h h2 where
 keep:=λc ob q n hc hx=>b.keep c ob (a.keep c ob q n hc hx) (a.free c ob q n hx) hc hx
 slot:=λc ob q n hc hx=>by
  obtain⟨sl,e1⟩:=a.slot c ob q n hc hx;obtain⟨sl',e2⟩:=b.slot c _ e1 (a.free c ob q n hx) hc hx;exact⟨sl',e2⟩
 free:=λc ob q n hx=>by
  obtain⟨o',e1⟩:=a.there c ob q hx;exact b.free c o' e1 (a.free c ob q n hx) hx
 there:=λc ob q hx=>by
  obtain⟨o',e1⟩:=a.there c ob q hx;exact b.there c o' e1 hx
 tups:=λc xs q=>b.tups c xs (a.tups c xs q)
 jH:=λc ob xs q=>b.jH c ob xs (a.jH c ob xs q)
 jJ:=λc ps q=>by
  obtain⟨m1,e1⟩:=a.jJ c ps q;obtain⟨m2,e2⟩:=b.jJ c _ e1;exact⟨m1++m2,by rw[e2,Array.append_assoc]⟩
theorem Un.kept(k:∀b u,h.get? b=some u->h'.get? b=some u):Un fs ex H H h h' :=
 ⟨λb ob q _ _ _=>k b ob q,λb ob q _ _ _=>⟨ob.slots,k b ob q⟩,λ_ _ _ n _=>n,λb ob q _=>⟨ob,k b ob q⟩,λ_ _ q=>q,λ_ _ _ q=>q,λ_ ps q=>⟨#[],by rw[q];simp⟩⟩
theorem Un.refl:Un fs ex H H h h:=Un.kept λ_ _ q=>q
theorem Un.laid(k:∀b u,h.get? b=some u->h'.get? b=some u)(hp:h.objs.size<=a)(hn:H a=none):Un fs ex H (upd H a o) h h' where
 keep:=λb u q _ _ _=>k b u q
 slot:=λb u q _ _ _=>⟨u.slots,k b u q⟩
 free:=λb u q n _=>by rw[bf (gE (qV (uC q) hp))];exact n
 there:=λb u q _=>⟨u,k b u q⟩
 tups:=λb xs q=>by rw[bf (aQ q hn)];exact q
 jH:=λb u xs q=>by rw[bf (aQ q hn)];exact q
 jJ:=λb ps q=>⟨#[],by rw[bf (aQ q hn),q];simp⟩
theorem Un.write(mu:Mut (H x))(he:e=x\/H e=some (.own x))(k:∀b u,b≠e->h.get? b=some u->h'.get? b=some u)(heo:∃u,h'.get? e=some u):Un fs ex H (upd H x o) h h':=by
 have hx:∀b,H b=none->b≠x:=λb n z=>by subst z;rw[n] at mu;exact mu
 have hb:∀b,H b=none->b≠e:=λb n z=>by
  subst z;rcases he with r|r
  ·exact hx b n r
  ·rw[n] at r;cases r
 have hm:∀b u,H b=some u->¬ Mut (some u)->b≠x:=λb u q nm z=>by subst z;rw[q] at mu;exact nm mu
 refine⟨λb u q n _ _=>k b u (hb b n) q,λb u q n _ _=>⟨u.slots,k b u (hb b n) q⟩,λb u q n _=>by rw[bf (hx b n)];exact n,λb u q _=>?_,
  λb xs q=>by rw[bf (hm b _ q λz=>z)];exact q,λb u xs q=>by rw[bf (hm b _ q λz=>z)];exact q,λb ps q=>⟨#[],by rw[bf (hm b _ q λz=>z),q];simp⟩⟩
 by_cases hbe:b=e
 ·subst hbe;exact heo
 ·exact⟨u,k b u hbe q⟩
theorem Un.mono(u:Un fs ex H H1 h h1)(hs:∀b∈fs,b∈fs')(hx:∀b∈ex,b∈ex'):Un fs' ex' H H1 h h1 :=
 ⟨λb ob q n hb he=>u.keep b ob q n (λz=>hb (hs b z)) λz=>he (hx b z),λ_ _ q n _ he=>u.any q n λz=>he (hx _ z),λb ob q n he=>u.free b ob q n λz=>he (hx b z),λb ob q he=>u.there b ob q λz=>he (hx b z),u.tups,u.jH,u.jJ⟩
end
def trk(h:Heap)(H:Hp):List Addr:=(List.range h.objs.size).filter λa=>(H a).isSome
def uN(h:Heap)(H:Hp):Heap:=W.hideAll h (trk h H)
theorem Hq(h:Heap)(H:Hp):(uN h H).objs.size=h.objs.size:=W.hideAll_size _ _
theorem zE{h:Heap}{H:Hp}{b:Addr}{o:Obj}(e:h.get? b=some o)(n:H b=none):(uN h H).get? b=some o :=
 W.hideAll_get _ e λhm=>by
  have q:(H b).isSome=true:=(List.mem_filter.mp hm).2;rw[n] at q;simp at q
theorem Ou{h:Heap}{H:Hp}{b:Addr}{o:Obj}(e:(uN h H).get? b=some o):h.get? b=some o/\H b=none:=by
 have e':h.get? b=some o:=W.of_hideAll (trk h H) e;refine⟨e',?_⟩;cases q:H b with
 | none=>rfl
 | some x =>
  have hm:b∈trk h H:=List.mem_filter.mpr ⟨List.mem_range.mpr (Heap.lt_size e'),by simp[q]⟩;have z:(uN h H).get? b=none:=W.hideAll_none (trk h H) hm;rw[z] at e;cases e
def Ov(g h:Heap)(L:Addr):List (Addr×Obj):=(List.range h.objs.size).filterMap λa=>if a=L\/(g.get? a).isSome=true then none else (h.get? a).map λo=>(a,o)
def rest(g h:Heap)(L d:Addr):List (Addr×Obj):=(Ov g h L).filter λp=>decide (p.1≠d)
structure Mod(K:W.Frag)(mg:xC)(base:Heap):Prop where
 kin:K.In base
 glob:base.Ns mainGlobals mg
 blt:∃mb,base.Ns builtinsNs mb/\∀x:Str,x ≠ "__name__" -> mb x=bootBuiltins x
 nolimit:base.NoLimit
/-- the context: a def's body (or a comprehension's block) running. base: fixed through the whole law; s₀, H₀: the entry; outer: the frames whose slots others may change (a def's callers); stack: all frames that run;
   ex: iterators that were made ahead of the entry and are walked here (a comprehension's);fn: the names whose cells were made at the entry (a def: all;a comprehension's block: its own);calm: not within an except suite;pn: pins that every state bears;xe: what is wanted of an exception that leaves the code -/
structure Cx where
 prog:Program
 w:World
 K:W.Frag
 mg:Str->Option Value
 base:Heap
 A:Around
 N:List Str
 s₀:Shared
 H₀:Hp
 env:Env
 outer:List Env
 stack:List Env
 ex:List Addr
 fn:Str->Bool
 calm:Bool
 pn:List (Addr×Obj)
 xe:Value->Shared->Prop
def frs(l:List Env):List Addr:=l.filterMap (·.frame)
abbrev Cx.fs(X:Cx):List Addr:=frs X.outer
def Vis(sc:Scope)(x:Str):Prop:=sc.names.lookup x=some .local\/sc.names.lookup x=some .cell\/sc.names.lookup x=some .free
def Loc(sc:Scope)(x:Str):Prop:=sc.names.lookup x=some .local\/sc.names.lookup x=some .cell
def Look(env:Env)(h:Heap)(m:xC)(x:Str)(u:Value):Prop :=
 (env.kindOf x=some .local/\m x=some u)\/((env.kindOf x=some .cell\/env.kindOf x=some .free)/\∃c,env.cells.lookup x=some c/\h.IsCell c (some u))
structure Cx.Ok(X:Cx):Prop where
 mod:Mod X.K X.mg X.base
 kind:X.env.scope.kind=.function
 glob:X.env.globals=mainGlobals
 blt:X.env.builtins=builtinsNs
 above:X.s₀.heap.objs.size<=X.env.locals
 inj:∀x y c,X.env.cells.lookup x=some c->X.env.cells.lookup y=some c->x=y
 has:∀x,(X.env.kindOf x=some .cell\/X.env.kindOf x=some .free)->∃c,X.env.cells.lookup x=some c
 cab:∀x c,X.fn x=true->X.env.cells.lookup x=some c->X.s₀.heap.objs.size<=c
 hd:X.calm=true->X.A.handled=none
 frames:X.A.frames=some X.stack
 stk:X.stack=X.outer\/(X.stack=X.env::X.outer/\X.env.frame=some X.env.locals)
 exf:∀b∈X.ex,b≠X.env.locals/\∀x c,X.env.cells.lookup x=some c->c≠b
 bs:∀b o,X.base.get? b=some o->X.s₀.heap.get? b=some o/\X.H₀ b=none
 bsz:X.base.objs.size<=X.s₀.heap.objs.size
 uO:∀b o,X.base.get? b=some o->b ∉ X.ex
 xR:∀b∈X.ex,b ∉ X.fs
 jK:X.s₀.heap.FunFrames X.base X.outer
 frf:∀b∈X.fs,X.H₀ b=none
structure Inv(X:Cx)(pins:List (Addr×Obj))(σ:List (Option V))(H:Hp)(s:Shared):Prop where
 ok:X.Ok
 os:s.os=X.s₀.os
 bare:AllBare s.gens
 base:Un X.fs X.ex X.H₀ H X.s₀.heap s.heap
 loc:∃m,s.heap.Ns X.env.locals m/\∀(i:Nat)(x:Str)(v:V),X.N[i]?=some x->σ[i]?=some (some v)->Vis X.env.scope x->∃u,RelV v u/\Look X.env s.heap m x u
 cell:∀x c,X.env.cells.lookup x=some c->∃v,s.heap.IsCell c v
 free:H X.env.locals=none
 fZ:∀x c,X.env.cells.lookup x=some c->H c=none
 pin:∀p∈X.pn++pins,s.heap.get? p.1=some p.2/\H p.1=none/\p.1≠X.env.locals/\p.1 ∉ X.fs/\∀v,p.2.data≠.cell v
 hok:HOk X.prog X.w H s.heap
 len:σ.length=X.N.length
section
variable{X:Cx}{pins:List (Addr×Obj)}{σ:List (Option V)}{H H':Hp}{s:Shared}{h':Heap}
theorem Cx.Ok.Zm(ok:X.Ok){b:Addr}{o:Obj}(e:X.base.get? b=some o):b ∉ X.fs:=λhb=>by
 have:=(ok.jK.mem hb).1;rw[e] at this;cases this
theorem Inv.bs(I:Inv X pins σ H s):∀b o,X.base.get? b=some o->s.heap.get? b=some o/\H b=none:=λb o e =>
 ⟨I.base.keep b o (I.ok.bs b o e).1 (I.ok.bs b o e).2 (I.ok.Zm e) (I.ok.uO b o e),I.base.free b o (I.ok.bs b o e).1 (I.ok.bs b o e).2 (I.ok.uO b o e)⟩
theorem Inv.bk(I:Inv X pins σ H s):∀b o,X.base.get? b=some o->s.heap.get? b=some o:=λb o e=>(I.bs b o e).1
theorem Inv.mod(I:Inv X pins σ H s):Mod X.K X.mg X.base:=I.ok.mod
theorem Inv.kIn(I:Inv X pins σ H s):X.K.In s.heap:=I.ok.mod.kin.keeps I.bk
theorem Inv.fr(I:Inv X pins σ H s):∃m,Fr X.base X.env.locals s.heap m :=
 let ⟨m,hn,_⟩:=I.loc
 ⟨m,hn,I.bk,oC I.ok.bsz I.ok.above⟩
theorem Inv.lt(I:Inv X pins σ H s):X.env.locals<s.heap.objs.size:=let ⟨_,hn,_⟩:=I.loc;hn.lt
theorem Inv.sz(I:Inv X pins σ H s):X.s₀.heap.objs.size<=s.heap.objs.size:=oC I.ok.above (zzE I.lt)
theorem Inv.Zn(I:Inv X pins σ H s){a:Addr}(h:s.heap.objs.size<=a):a ∉ X.fs:=λhb=>by
 obtain⟨_,o,ho,_⟩:=I.ok.jK.mem hb;exact gS (qV (uC ho) (oC I.sz h)) (gI _)
theorem Inv.cne(I:Inv X pins σ H s):∀x c,X.env.cells.lookup x=some c->c≠X.env.locals:=λx c e z=>by
 obtain⟨v,o,ho,hd⟩:=I.cell x c e;obtain⟨m,⟨o',es,ep,ho',hd',_⟩,_⟩:=I.loc;rw[z,ho'] at ho;cases ho;rw[hd'] at hd;cases hd
theorem Inv.jK(I:Inv X pins σ H s):s.heap.FunFrames X.base X.outer:=by
 have all:∀(l:List Env),(∀b∈frs l,b∈X.fs)->X.s₀.heap.FunFrames X.base l->s.heap.FunFrames X.base l:=by
  intro l
  induction l with
  | nil=>intro _ _;trivial
  | cons env r ih =>
   intro hs hl;obtain⟨hk,⟨L,o,hf,hn,ho,hd⟩,hr⟩:=hl;have hL:L∈X.fs:=hs L (by unfold frs;rw[List.filterMap_cons,hf];exact List.mem_cons_self);obtain⟨sl,e⟩:=I.base.slot L o ho (I.ok.frf L hL) hL λz=>I.ok.xR L z hL
   exact⟨hk,⟨L,_,hf,hn,e,hd⟩,ih (λb hb=>hs b (by unfold frs;rw[List.filterMap_cons,hf];exact List.mem_cons_of_mem _ hb)) hr⟩
 exact all X.outer (λ_ hb=>hb) I.ok.jK
theorem Inv.stack(I:Inv X pins σ H s):s.heap.FunFrames X.base X.stack:=by
 rcases I.ok.stk with e|⟨e,hf⟩
 ·rw[e];exact I.jK
 ·rw[e];obtain⟨m,hn,_⟩:=I.loc;refine .cons (by rw[I.ok.kind];decide) hf hn ?_ I.jK;exact Heap.get?_none_of_le (oC I.ok.bsz I.ok.above)
theorem Inv.qY(I:Inv X pins σ H s):∀b∈frs X.stack,b∈X.env.locals::X.fs:=λb hb=>by
 rcases I.ok.stk with e|⟨e,hf⟩
 ·rw[e] at hb;exact zD _ hb
 ·rw[e] at hb;unfold frs at hb;rw[List.filterMap_cons,hf] at hb;exact hb
theorem Inv.mZ(I:Inv X pins σ H s):∀b∈frs X.stack,H b=none:=λb hb=>by
 rcases jS.mp (I.qY b hb) with e|hb
 ·rw[e];exact I.free
 ·obtain⟨_,o,ho,_⟩:=I.ok.jK.mem hb;exact I.base.free b o ho (I.ok.frf b hb) λz=>I.ok.xR b z hb
theorem Inv.step{g':Array GenState}{t':Nat}{d':Drawn}{ch:List Addr}(I:Inv X pins σ H s)
  (hch:∀b∈ch,(b∈X.ex\/X.s₀.heap.objs.size<=b)/\b≠X.env.locals/\(∀x c,X.env.cells.lookup x=some c->c≠b)/\∀p∈X.pn++pins,p.1≠b)
  (keep:∀b o,b≠X.env.locals->b ∉ X.fs->b ∉ ch->s.heap.get? b=some o->H b=none->h'.get? b=some o)
  (slot:∀b o,b≠X.env.locals->b∈X.fs->b ∉ ch->s.heap.get? b=some o->H b=none->∃sl,h'.get? b=some { o with slots:=sl }) (free:∀b o,b ∉ ch->s.heap.get? b=some o->H b=none->H' b=none)
  (there:∀b o,b ∉ ch->s.heap.get? b=some o->∃o',h'.get? b=some o')
  (tups:∀b xs,H b=some (.tup xs)->H' b=some (.tup xs)) (jH:∀b o u,H b=some (.frz o u)->H' b=some (.frz o u)) (jJ:∀b ps,H b=some (.tbl ps)->∃more,H' b=some (.tbl (ps++more)))
  (ns:∀m,s.heap.Ns X.env.locals m->h'.Ns X.env.locals m) (hok:HOk X.prog X.w H' h') (hg:AllBare g') :
  Inv X pins σ H' { s with heap:=h',gens:=g',drawn:=d',toks:=t' }:=by
 have neL:∀b o,X.s₀.heap.get? b=some o->b≠X.env.locals:=λb o e=>gE (qV (uC e) I.ok.above)
 have neC:∀b o,X.s₀.heap.get? b=some o->b ∉ X.ex->b ∉ ch:=λb o e hx hb=>by
  rcases(hch b hb).1 with z|z
  ·exact hx z
  ·exact gS (qV (uC e) z) (gI _)
 have cellK:∀x c,X.env.cells.lookup x=some c->∀v,s.heap.IsCell c v->h'.IsCell c v:=λx c e v ⟨o,ho,hd⟩=>by
  have nch:c ∉ ch:=λz=>(hch c z).2.2.1 x c e rfl
  by_cases hc:c∈X.fs
  ·obtain⟨sl,q⟩:=slot c o (I.cne x c e) hc nch ho (I.fZ x c e);exact⟨_,q,hd⟩
  ·exact⟨o,keep c o (I.cne x c e) hc nch ho (I.fZ x c e),hd⟩
 refine⟨I.ok,I.os,hg,⟨λb o e n hb hx=>?_,λb o e n hb hx=>?_,λb o e n hx=>?_,λb o e hx=>?_,λb xs e=>tups b xs (I.base.tups b xs e),λb o xs e=>jH b o xs (I.base.jH b o xs e),λb ps e=>?_⟩,?_,λx c e=>?_,?_,λx c e=>?_,λp hp=>?_,hok,I.len⟩
 ·exact keep b o (neL b o e) hb (neC b o e hx) (I.base.keep b o e n hb hx) (I.base.free b o e n hx)
 ·obtain⟨sl,e1⟩:=I.base.slot b o e n hb hx;obtain⟨sl',e2⟩:=slot b _ (neL b o e) hb (neC b o e hx) e1 (I.base.free b o e n hx);exact⟨sl',e2⟩
 ·obtain⟨o',e1⟩:=I.base.there b o e hx;exact free b o' (neC b o e hx) e1 (I.base.free b o e n hx)
 ·obtain⟨o',e1⟩:=I.base.there b o e hx;exact there b o' (neC b o e hx) e1
 ·obtain⟨m1,e1⟩:=I.base.jJ b ps e;obtain⟨m2,e2⟩:=jJ b _ e1;exact⟨m1++m2,by rw[e2,Array.append_assoc]⟩
 ·obtain⟨m,hn,hl⟩:=I.loc;refine⟨m,ns m hn,λi x v e1 e2 e3=>?_⟩;obtain⟨u,r,l⟩:=hl i x v e1 e2 e3;refine⟨u,r,?_⟩;rcases l with l|⟨k,c,e,z⟩
  ·exact .inl l
  ·exact .inr ⟨k,c,e,cellK x c e _ z⟩
 ·obtain⟨v,z⟩:=I.cell x c e;exact⟨v,cellK x c e v z⟩
 ·obtain⟨m,⟨o,_,_,ho,_⟩,_⟩:=I.loc;exact free _ o (λz=>(hch _ z).2.1 rfl) ho I.free
 ·obtain⟨v,o,ho,hd⟩:=I.cell x c e;exact free c o (λz=>(hch c z).2.2.1 x c e rfl) ho (I.fZ x c e)
 ·obtain⟨e,n,ne,nf,d⟩:=I.pin p hp;have nch:p.1 ∉ ch:=λz=>(hch p.1 z).2.2.2 p hp rfl
  exact⟨keep p.1 p.2 ne nf nch e n,free p.1 p.2 nch e n,ne,nf,d⟩
theorem Inv.un{t':Nat}(I:Inv X pins σ H s)(u:Un X.fs [] H H' s.heap h')(hok:HOk X.prog X.w H' h'):Inv X pins σ H' { s with heap:=h',toks:=t' }:=by
 obtain⟨m,⟨o,es,ep,ho,r⟩,_⟩:=id I.loc;obtain⟨sl,hL⟩:=u.any ho I.free (by simp);exact I.step (g':=s.gens) (d':=s.drawn) (ch:=[]) (λ_ z=>nomatch z) (λb o _ hb _ e n=>u.keep b o e n hb (by simp)) (λb o _ hb _ e n=>u.slot b o e n hb (by simp)) (λb o _ e n=>u.free b o e n (by simp)) (λb o _ e=>u.there b o e (by simp)) u.tups u.jH u.jJ (λm' hm=>by
  obtain⟨o',es',ep',ho',r'⟩:=hm;rw[ho] at ho';cases ho';exact⟨_,es',ep',hL,r'⟩) hok I.bare
theorem Inv.call{g':Array GenState}{t':Nat}{d':Drawn}{ch:List Addr}(I:Inv X pins σ H s)(u:Un (frs X.stack) ch H H' s.heap h')(hok:HOk X.prog X.w H' h')(hg:AllBare g')
  (hch:∀b∈ch,(b∈X.ex\/X.s₀.heap.objs.size<=b)/\b≠X.env.locals/\(∀x c,X.env.cells.lookup x=some c->c≠b)/\∀p∈X.pn++pins,p.1≠b) :
  Inv X pins σ H' { s with heap:=h',gens:=g',drawn:=d',toks:=t' }:=by
 obtain⟨m,⟨o,es,ep,ho,r⟩,_⟩:=id I.loc;obtain⟨sl,hL⟩:=u.any ho I.free λz=>(hch _ z).2.1 rfl
 exact I.step (ch:=ch) hch (λb o hL hb hc e n=>u.keep b o e n (λz=>(jS.mp (I.qY b z)).elim hL hb) hc) (λb o _ _ hc e n=>u.any e n hc) (λb o hc e n=>u.free b o e n hc) (λb o hc e=>u.there b o e hc) u.tups u.jH u.jJ (λm' hm=>by
  obtain⟨o',es',ep',ho',r'⟩:=hm;rw[ho] at ho';cases ho';exact⟨_,es',ep',hL,r'⟩) hok hg
theorem Inv.turned{t':Nat}{it:Addr}(I:Inv X pins σ H s)(k:∀b o,b≠it->s.heap.get? b=some o->h'.get? b=some o)(hn:H it=none)(hL:it≠X.env.locals)
  (h1:it∈X.ex\/X.s₀.heap.objs.size<=it) (h2:∀x c,X.env.cells.lookup x=some c->c≠it) (h3:∀p∈X.pn++pins,p.1≠it):Inv X pins σ H { s with heap:=h',toks:=t' }:=by
 have nit:∀b u,H b=some u->b≠it:=λb u e z=>by rw[z,hn] at e;cases e
 refine I.step (g':=s.gens) (d':=s.drawn) (ch:=[it]) (λb hb=>?_) (λb o _ _ hc e _=>k b o (λz=>hc (by simp[z])) e) (λb o _ _ hc e _=>⟨o.slots,k b o (λz=>hc (by simp[z])) e⟩) (λ_ _ _ _ n=>n)
  (λb o hc e=>⟨o,k b o (λz=>hc (by simp[z])) e⟩) (λ_ _ e=>e) (λ_ _ _ e=>e) (λb ps e=>⟨#[],by rw[e];simp⟩) (λm hm=>?_) (λb u e=>?_) I.bare
 ·have e:b=it:=by simpa using hb
  subst e;exact⟨h1,hL,h2,h3⟩
 ·obtain⟨o,es,ep,ho,r⟩:=hm;exact⟨o,es,ep,k _ o (Ne.symm hL) ho,r⟩
 ·refine(I.hok b u e).stay (λc v hc q=>k c v ?_ q) (λ_ q=>q) λ_ _ q=>q
  rcases hc with z|z
  ·rw[z];exact nit b u e
  ·exact nit c _ z
theorem Inv.tok(I:Inv X pins σ H s)(t:Nat):Inv X pins σ H { s with toks:=t }:=I.un (h':=s.heap) (t':=t) Un.refl I.hok
theorem Inv.kept{t':Nat}(I:Inv X pins σ H s)(k:∀b u,s.heap.get? b=some u->h'.get? b=some u):Inv X pins σ H { s with heap:=h',toks:=t' }:=I.un (Un.kept k) (I.hok.kept k)
theorem Inv.laid{a:Addr}{o:HO}{t':Nat}(I:Inv X pins σ H s)(k:∀b u,s.heap.get? b=some u->h'.get? b=some u)(hp:s.heap.objs.size<=a)(new:cH X.prog X.w (upd H a o) h' a o) :
  Inv X pins σ (upd H a o) { s with heap:=h',toks:=t' }:=I.un (Un.laid k hp (I.hok.fresh hp)) (I.hok.laid k hp new)
theorem Inv.write{x e:Addr}{o:HO}{t':Nat}(I:Inv X pins σ H s)(mu:Mut (H x))(he:e=x\/H e=some (.own x))(k:∀b u,b≠e->s.heap.get? b=some u->h'.get? b=some u)(heo:∃u,h'.get? e=some u)
  (new:cH X.prog X.w (upd H x o) h' x o):Inv X pins σ (upd H x o) { s with heap:=h',toks:=t' }:=I.un (Un.write mu he k heo) (I.hok.write mu he k heo new)
theorem Inv.Eo{fj:List (Addr×Obj)}(I:Inv X pins σ H s)(h:∀p∈fj,s.heap.get? p.1=some p.2/\H p.1=none/\p.1≠X.env.locals/\p.1 ∉ X.fs/\∀v,p.2.data≠.cell v):Inv X fj σ H s :=
 ⟨I.ok,I.os,I.bare,I.base,I.loc,I.cell,I.free,I.fZ,λp hp=>(wT.mp hp).elim (λz=>I.pin p (mN _ z)) (h p),I.hok,I.len⟩
theorem qZ{N:List Str}(hN:N.Nodup){i j:Nat}{x:Str}(a:N[i]?=some x)(b:N[j]?=some x):i=j:=by
 obtain⟨h1,e1⟩:=qE.mp a;obtain⟨h2,e2⟩:=qE.mp b;exact(List.getElem_inj hN).mp (e1.trans e2.symm)
theorem u6{M:Model}{A:Around}{E:xB}{i:Nat}{x:Str}{v:V}{u:Value}{Q:xA}(I:Inv X pins σ H s)(hN:X.N.Nodup)(hi:X.N[i]?=some x)(hx:Loc X.env.scope x)(r:RelV v u)
  (h:∀s',Inv X pins (σ.set i (some v)) H s'->(∃a,Heap.SameBut a s.heap s'.heap/\(a=X.env.locals\/X.env.cells.lookup x=some a))->Q () s') (hf:X.fn x=true\/X.env.scope.names.lookup x=some .local:=by first|exact .inl rfl|exact .inr rfl|assumption):wpAny M A (storeName X.env x u) Q E s:=by
 obtain⟨m,hn,hl⟩:=id I.loc;have hcls:(X.env.scope.kind==.class || (X.env.scope.kind==.module && X.env.locals != X.env.globals))=false:=by rw[I.ok.kind];rfl
 have hiσ:i<σ.length:=by rw[I.len];exact(qE.mp hi).1
 have cne:=I.cne;have tracked:∀{a:Addr} {h':Heap},(∃o,s.heap.get? a=some o/\H a=none)->Heap.SameBut a s.heap h'->HOk X.prog X.w H h':=λ{a h'} ha hs b ob e=>by
  obtain⟨_,_,hfree⟩:=ha;refine(I.hok b ob e).stay (λc w' hc q=>(hs.2 c ?_).trans q) (λ_ q=>q) λ_ _ q=>q
  rintro rfl;rcases hc with rfl|hc
  ·rw[hfree] at e;cases e
  ·rw[hfree] at hc;cases hc
 rcases hx with hk|hk
 ·refine wpAny_storeName_local hk hn (λh' hn' hs=>?_) hcls;obtain⟨oL,_,_,hoL,_⟩:=id hn;refine h _ ⟨I.ok,I.os,I.bare,⟨λb o e n hb hx=>?_,λb o e n hb hx=>?_,I.base.free,λb o e hx=>?_,I.base.tups,I.base.jH,I.base.jJ⟩,⟨_,hn',λj y v' e1 e2 e3=>?_⟩,λy c e=>?_,I.free,I.fZ,λp hp=>?_,tracked ⟨oL,hoL,I.free⟩ hs,by simpa using I.len⟩ ⟨_,hs,.inl rfl⟩
  ·exact(hs.2 b (gE (qV (uC e) I.ok.above))).trans (I.base.keep b o e n hb hx)
  ·obtain⟨sl,e1⟩:=I.base.slot b o e n hb hx;exact⟨sl,(hs.2 b (gE (qV (uC e) I.ok.above))).trans e1⟩
  ·obtain⟨o',e1⟩:=I.base.there b o e hx;exact⟨o',(hs.2 b (gE (qV (uC e) I.ok.above))).trans e1⟩
  ·by_cases hj:j=i
   ·subst hj;rw[hi] at e1;cases e1;rw[List.getElem?_set_self hiσ] at e2;cases e2;exact⟨u,r,.inl ⟨hk,by simp⟩⟩
   ·rw[List.getElem?_set_ne (Ne.symm hj)] at e2;obtain⟨u',r',q⟩:=hl j y v' e1 e2 e3;refine⟨u',r',?_⟩;rcases q with⟨k,e⟩|⟨k,c,e,z⟩
    ·refine .inl ⟨k,?_⟩;have:y≠x:=λe=>hj (qZ hN e1 (e▸hi))
     simp[this,e]
    ·exact .inr ⟨k,c,e,z.sameBut hs (cne y c e)⟩
  ·obtain⟨w',z⟩:=I.cell y c e;exact⟨w',z.sameBut hs (cne y c e)⟩
  ·obtain⟨e,n,ne,nf,d⟩:=I.pin p hp;exact⟨(hs.2 p.1 ne).trans e,n,ne,nf,d⟩
 ·have hfn:X.fn x=true:=by
   rcases hf with z|z
   ·exact z
   ·rw[z] at hk;cases hk
  obtain⟨c,hc⟩:=I.ok.has x (.inl hk);obtain⟨w',z⟩:=I.cell x c hc;refine wpAny_storeName_cell I.ok.kind hk hc z (λh' hc' hs=>?_);obtain⟨oc,hoc,Zo⟩:=id z;refine h { s with heap:=h' } ⟨I.ok,I.os,I.bare,⟨λb o e n hb hx=>?_,λb o e n hb hx=>?_,I.base.free,λb o e hx=>?_,I.base.tups,I.base.jH,I.base.jJ⟩,⟨m,hn.sameBut hs (Ne.symm (cne x c hc)),λj y v' e1 e2 e3=>?_⟩,λy c' e=>?_,I.free,I.fZ,λp hp=>?_,tracked ⟨oc,hoc,I.fZ x c hc⟩ hs,by simpa using I.len⟩ ⟨c,hs,.inr hc⟩
  ·exact(hs.2 b (gE (qV (uC e) (I.ok.cab x c hfn hc)))).trans (I.base.keep b o e n hb hx)
  ·obtain⟨sl,e1⟩:=I.base.slot b o e n hb hx;exact⟨sl,(hs.2 b (gE (qV (uC e) (I.ok.cab x c hfn hc)))).trans e1⟩
  ·obtain⟨o',e1⟩:=I.base.there b o e hx;exact⟨o',(hs.2 b (gE (qV (uC e) (I.ok.cab x c hfn hc)))).trans e1⟩
  ·by_cases hj:j=i
   ·subst hj;rw[hi] at e1;cases e1;rw[List.getElem?_set_self hiσ] at e2;cases e2;exact⟨u,r,.inr ⟨.inl hk,c,hc,hc'⟩⟩
   ·rw[List.getElem?_set_ne (Ne.symm hj)] at e2;obtain⟨u',r',q⟩:=hl j y v' e1 e2 e3;refine⟨u',r',?_⟩;rcases q with q|⟨k,c',e,z'⟩
    ·exact .inl q
    ·refine .inr ⟨k,c',e,z'.sameBut hs ?_⟩;rintro rfl;exact hj (qZ hN e1 (I.ok.inj _ _ _ e hc▸hi))
  ·by_cases hcc:c'=c
   ·subst hcc;exact⟨_,hc'⟩
   ·obtain⟨w2,z2⟩:=I.cell y c' e;exact⟨w2,z2.sameBut hs hcc⟩
  ·obtain⟨e,n,ne,nf,d⟩:=I.pin p hp;refine⟨(hs.2 p.1 ?_).trans e,n,ne,nf,d⟩;intro q;rw[q,hoc] at e;have q':oc=p.2:=nS e;exact d w' (by rw[<- q'];exact Zo)
theorem m7{M:Model}{A:Around}{E:xB}{i:Nat}{x:Str}{v:V}{u:Value}{Q:xA}(I:Inv X pins σ H s)(hN:X.N.Nodup)(hi:X.N[i]?=some x)(hx:Loc X.env.scope x)(r:RelV v u)
  (h:∀s',Inv X pins (σ.set i (some v)) H s'->Q () s') (hf:X.fn x=true\/X.env.scope.names.lookup x=some .local:=by first|exact .inl rfl|exact .inr rfl|assumption):wpAny M A (storeName X.env x u) Q E s :=
 u6 I hN hi hx r (λs' I' _=>h s' I') hf
theorem Inv.call'{s':Shared}{ch:List Addr}(I:Inv X pins σ H s)(ho:s'.os=s.os)(u:Un (frs X.stack) ch H H' s.heap s'.heap)(hok:HOk X.prog X.w H' s'.heap)(hg:AllBare s'.gens)
  (hch:∀b∈ch,(b∈X.ex\/X.s₀.heap.objs.size<=b)/\b≠X.env.locals/\(∀x c,X.env.cells.lookup x=some c->c≠b)/\∀p∈X.pn++pins,p.1≠b):Inv X pins σ H' s':=by
 obtain⟨h',g',d',t',o'⟩:=s';have e:o'=s.os:=ho;subst e;exact I.call (g':=g') (t':=t') (d':=d') u hok hg hch
end
abbrev XK:=Value->Option Addr->Hp->Prop
abbrev St:=List (Option V)
abbrev VK:=V->Hp->Prop
abbrev TE:=St->Hp->VK->Prop
abbrev TT:=St->Hp->(Bool->Hp->Prop)->Prop
abbrev TA:=St->Hp->(List V->Hp->Prop)->Prop
structure Ends where
 nx:St->Hp->Prop
 rt:VK
 bk:St->Hp->Prop:=λ_ _=>False
 ct:St->Hp->Prop:=λ_ _=>False
abbrev TS:=Ends->St->Hp->Prop
def EP(X:Cx)(pins:List (Addr×Obj))(σ:St)(Q:VK)(u:Value)(s':Shared):Prop:=∃v H',Inv X pins σ H' s'/\RelV v u/\Q v H'
def TP(X:Cx)(pins:List (Addr×Obj))(σ:St)(Q:Bool->Hp->Prop)(b:Bool)(s':Shared):Prop:=∃H',Inv X pins σ H' s'/\Q b H'
def AP(X:Cx)(pins:List (Addr×Obj))(σ:St)(Q:List V->Hp->Prop)(us:xF)(s':Shared):Prop:=∃vs H',Inv X pins σ H' s'/\Vals vs us/\Q vs H'
def SP(X:Cx)(pins:List (Addr×Obj))(D:Ends)(f:Flow)(s':Shared):Prop :=
 match f with
 | .next=>∃σ' H',Inv X pins σ' H' s'/\D.nx σ' H'
 | .brk=>∃σ' H',Inv X pins σ' H' s'/\D.bk σ' H'
 | .cont=>∃σ' H',Inv X pins σ' H' s'/\D.ct σ' H'
 | .ret u=>∃v σ' H',Inv X pins σ' H' s'/\RelV v u/\D.rt v H'
def PE(X:Cx)(e:Expr)(t:TE):Prop :=
 ∀(pins:List (Addr×Obj)) (s:Shared) (σ:St) (H:Hp) (Q:VK),Inv X pins σ H s->t σ H Q->wpAny (model X.prog X.w) X.A (eval e X.env) (EP X pins σ Q) X.xe s
def PT(X:Cx)(e:Expr)(t:TT):Prop :=
 ∀(pins:List (Addr×Obj)) (s:Shared) (σ:St) (H:Hp) (Q:Bool->Hp->Prop),Inv X pins σ H s->t σ H Q->wpAny (model X.prog X.w) X.A (isTrue e X.env (eval e X.env)) (TP X pins σ Q) X.xe s
def PW(X:Cx)(e:Expr)(t:TT):Prop :=
 ∀(whole:Sem Value) (pins:List (Addr×Obj)) (s:Shared) (σ:St) (H:Hp) (Q:Bool->Hp->Prop),Inv X pins σ H s->t σ H Q->wpAny (model X.prog X.w) X.A (isTrue e X.env whole) (TP X pins σ Q) X.xe s
theorem PW.pt{X:Cx}{e:Expr}{t:TT}(h:PW X e t):PT X e t:=h _
def PA(X:Cx)(es:List Expr)(t:TA):Prop :=
 ∀(pos:Pos) (pins:List (Addr×Obj)) (s:Shared) (σ:St) (H:Hp) (Q:List V->Hp->Prop),Inv X pins σ H s->t σ H Q->wpAny (model X.prog X.w) X.A (spliced (backTo pos (starEach es X.env))) (AP X pins σ Q) X.xe s
def PS(X:Cx)(st:Stmt)(t:TS):Prop :=
 ∀(pins:List (Addr×Obj)) (s:Shared) (σ:St) (H:Hp) (D:Ends),Inv X pins σ H s->t D σ H->wpAny (model X.prog X.w) X.A (exec st X.env) (SP X pins D) X.xe s
def PSs(X:Cx)(st:List Stmt)(t:TS):Prop :=
 ∀(pins:List (Addr×Obj)) (s:Shared) (σ:St) (H:Hp) (D:Ends),Inv X pins σ H s->t D σ H->wpAny (model X.prog X.w) X.A (execs st X.env) (SP X pins D) X.xe s
theorem thn{α:Type}{t:Sem α}{Q Q':α->Shared->Prop}{M:Model}{A:Around}{E:xB}{s:Shared}(h:wpAny M A t Q E s)(hQ:∀a s,Q a s->Q' a s):wpAny M A t Q' E s:=mM h hQ λ_ _ x=>x
section
variable{X:Cx}
def gF(i:Nat):TE:=λσ H Q=>∃v,σ[i]?=some (some v)/\Q v H
def tC(v:V):TE:=λ_ H Q=>Q v H
theorem Ss{i:Nat}{x:Str}{pos:Pos}(hN:X.N[i]?=some x)(hv:Vis X.env.scope x)(hd:(x==("__debug__" : Str))=false:=by decide)(hcd:(x==("__classdict__" : Str))=false:=by decide):PE X (.Name x pos) (gF i):=by
 intro pins s σ H Q I h;obtain⟨v,e,h⟩:=h;obtain⟨m,hn,hl⟩:=I.loc;obtain⟨u,r,l⟩:=hl i x v hN e hv;have fin:EP X pins σ Q u s:=⟨v,H,I,r,h⟩;rcases l with⟨hk,hm⟩|⟨hk,c,hc,hcell⟩
 ·exact wpAny_Name (wpAny_loadName_local I.ok.kind hk hn hm fin) hd
 ·rcases hk with hk|hk
  ·exact wpAny_Name (wpAny_loadName_cell I.ok.kind hk hc hcell fin) hd
  ·exact wpAny_Name (wpAny_loadName_free I.ok.kind hk hc hcell fin hcd) hd
theorem aC{i j pos}:PE X (.Constant (.int i) j pos) (tC (.int i)):=λ_ _ _ H _ I h=>wpAny_Constant_int ⟨.int i,H,I.tok _,⟨_,rfl⟩,h⟩
theorem iB{b j pos}:PE X (.Constant (.bool b) j pos) (tC (.bl b)):=λ_ _ _ H _ I h=>Constant_bool ⟨.bl b,H,I,rfl,h⟩
theorem Jg{j pos}:PE X (.Constant .none j pos) (tC .non):=λ_ _ _ H _ I h=>Constant_none ⟨.non,H,I,rfl,h⟩
theorem Jh{x j pos}:PE X (.Constant (.str x) j pos) (tC (.str x)):=λ_ _ _ H _ I h=>Calls.Constant_str ⟨.str x,H,I.tok _,⟨_,rfl⟩,h⟩
def Gl(X:Cx)(x:Str):Prop:=X.env.kindOf x=some .globalImplicit
theorem kO{E:xB}{pins:List (Addr×Obj)}{s:Shared}{σ:St}{H:Hp}{x:Str}{u:Value}{pos:Pos}{Q:xB}(I:Inv X pins σ H s)(hg:Gl X x)(hm:X.mg x=some u)(h:Q u s)
  (hd:(x==("__debug__" : Str))=false:=by decide):wpAny (model X.prog X.w) X.A (eval (.Name x pos) X.env) Q E s :=
 Calls.Name_function_global I.ok.kind hg (Calls.loadGlobal_global (by rw[I.ok.glob];exact I.mod.glob.keeps I.bk) hm h) hd
theorem q_{E:xB}{pins:List (Addr×Obj)}{s:Shared}{σ:St}{H:Hp}{x:Str}{u:Value}{pos:Pos}{Q:xB}(I:Inv X pins σ H s)(hg:Gl X x)(hm:X.mg x=none)(hv:bootBuiltins x=some u)(h:Q u s)
  (hn:x ≠ "__name__":=by decide) (hd:(x==("__debug__" : Str))=false:=by decide):wpAny (model X.prog X.w) X.A (eval (.Name x pos) X.env) Q E s:=by
 obtain⟨mb,h1,h2⟩:=I.mod.blt;exact Calls.Name_function_global I.ok.kind hg (Calls.loadGlobal_builtin (by rw[I.ok.glob];exact I.mod.glob.keeps I.bk) hm (by rw[I.ok.blt];exact h1.keeps I.bk) ((h2 x hn).trans hv) h) hd
theorem Ow{x:Str}{v:V}{u:Value}{pos:Pos}(hg:Gl X x)(hm:X.mg x=some u)(r:RelV v u)(hd:(x==("__debug__" : Str))=false:=by decide):PE X (.Name x pos) (tC v) :=
 λ_ _ _ H _ I h=>kO I hg hm ⟨v,H,I,r,h⟩ hd
theorem Ox{x:Str}{v:V}{u:Value}{pos:Pos}(hg:Gl X x)(hm:X.mg x=none)(hv:bootBuiltins x=some u)(r:RelV v u)(hn:x ≠ "__name__":=by decide)(hd:(x==("__debug__" : Str))=false:=by decide):PE X (.Name x pos) (tC v) :=
 λ_ _ _ H _ I h=>q_ I hg hm hv ⟨v,H,I,r,h⟩ hn hd
variable{a b:Expr}{ta tb:TE}{pos:Pos}
def tB(t:TE):TT:=λσ H Q=>t σ H λx H1=>∃c,x=.bl c/\Q c H1
theorem cu{e:Expr}{t:TE}(h:PE X e t)(he:∀whole,isTrue e X.env whole=(do let v <- whole;standAt e.pos;holding [v] (truthy v)):=by intro _;rfl):PT X e (tB t):=by
 intro pins s σ H Q I hw;refine isTrue_plain (thn (h pins s σ H _ I hw) λv s1 ⟨x,H1,I1,r1,q1⟩=>?_) (he _);obtain⟨d,rfl,q⟩:=q1;cases r1;exact wpAny_truthy_bool ⟨H1,I1,q⟩
variable{tA tB':TT}{rest:List Expr}
def Sv(t u:TT):TT:=λσ H Q=>t σ H λc H1=>if c=true then u σ H1 Q else Q false H1
def tOr(t u:TT):TT:=λσ H Q=>t σ H λc H1=>if c=true then Q true H1 else u σ H1 Q
def Sw(t:TT):TT:=λσ H Q=>t σ H λc H1=>Q (!c) H1
theorem xT(ha:PT X a tA):PW X (.BoolOp .And [a] pos) tA:=by
 intro wh pins s σ H Q I h;refine isTrue_and (thn (ha pins s σ H Q I h) λc s1 e=>?_);cases c with
 | true=>exact isTrue_and_nil e
 | false=>exact e
theorem jN(ha:PT X a tA):PW X (.BoolOp .Or [a] pos) tA:=by
 intro wh pins s σ H Q I h;refine isTrue_or (thn (ha pins s σ H Q I h) λc s1 e=>?_);cases c with
 | false=>exact isTrue_or_nil e
 | true=>exact e
theorem xU(ha:PT X a tA)(hb:PW X (.BoolOp .And (b::rest) pos) tB'):PW X (.BoolOp .And (a::b::rest) pos) (Sv tA tB'):=by
 intro wh pins s σ H Q I h;refine isTrue_and (thn (ha pins s σ H _ I h) λc s1 ⟨H1,I1,q1⟩=>?_);cases c with
 | true=>exact hb wh pins s1 σ H1 Q I1 q1
 | false=>exact⟨H1,I1,q1⟩
theorem iC(ha:PT X a tA)(hb:PW X (.BoolOp .Or (b::rest) pos) tB'):PW X (.BoolOp .Or (a::b::rest) pos) (tOr tA tB'):=by
 intro wh pins s σ H Q I h;refine isTrue_or (thn (ha pins s σ H _ I h) λc s1 ⟨H1,I1,q1⟩=>?_);cases c with
 | true=>exact⟨H1,I1,q1⟩
 | false=>exact hb wh pins s1 σ H1 Q I1 q1
theorem cT(ha:PT X a tA):PT X (.UnaryOp .Not a pos) (Sw tA):=by
 intro pins s σ H Q I h;exact isTrue_not (ha pins s σ H (λc H1=>Q (!c) H1) I h)
def Ji(ta tb:TE):TE:=λσ H Q=>ta σ H λx H1=>∃c,x=.bl c/\if c=true then tb σ H1 Q else Q (.bl false) H1
def Jj(ta:TE):TE:=λσ H Q=>ta σ H λx H1=>∃c,x=.bl c/\Q (.bl (!c)) H1
theorem gG{op}{t:TE}(h:PE X a t):PE X (.BoolOp op [a] pos) t:=λpins s σ H Q I hw=>BoolOp_one (h pins s σ H Q I hw)
theorem fJ(ha:PE X a ta)(hb:PE X (.BoolOp .And (b::rest) pos) tb):PE X (.BoolOp .And (a::b::rest) pos) (Ji ta tb):=by
 intro pins s σ H Q I h;refine BoolOp_and (thn (ha pins s σ H _ I h) λv s1 ⟨x,H1,I1,r1,q1⟩=>?_);obtain⟨c,rfl,q1⟩:=q1;cases r1;refine wpAny_truthy_bool ?_;cases c with
 | true=>exact hb pins s1 σ H1 Q I1 q1
 | false=>exact⟨.bl false,H1,I1,rfl,q1⟩
theorem xV(ha:PE X a ta):PE X (.UnaryOp .Not a pos) (Jj ta):=by
 intro pins s σ H Q I h;refine UnaryOp_ (thn (ha pins s σ H _ I h) λv s1 ⟨x,H1,I1,r1,q1⟩=>?_);obtain⟨c,rfl,q1⟩:=q1;cases r1;exact not_of (wpAny_truthy_bool ⟨.bl (!c),H1,I1,rfl,q1⟩)
end
def SqL(K:W.Frag)(H:Hp)(a:Addr)(xs:List V):Prop :=
 Rd H a (.lst xs) \/
  ∃(o:Obj)(its:xI)(n:Nat),K.lookup a=some o/\o.cls=.type "list" /\ o.dict=none/\o.data=.seq its n/\its.size<=sizeLine/\Vals xs its.toList
def SqT(K:W.Frag)(H:Hp)(a:Addr)(xs:List V):Prop :=
 Rd H a (.tup xs) \/
  ∃(o:Obj)(its:xI)(n:Nat),K.lookup a=some o/\o.cls=.type "tuple" /\ o.data=.seq its n/\its.size<=sizeLine/\Vals xs its.toList
def Zq:Value->Option V
 | .none=>some .non
 | .bool b=>some (.bl b)
 | .int i _=>some (.int i)
 | .str x _=>some (.str x)
 | .bytes b _=>some (.byt b)
 | .float b _=>some (.flt b)
 | .ref a=>some (.ref a)
 | .type n=>some (.ty n)
 | _=>none
theorem RelV.abs{x:V}{u:Value}(r:RelV x u):Zq u=some x:=by
 cases x with
 | non=>cases r;rfl
 | bl _=>cases r;rfl
 | int _=>obtain⟨t,rfl⟩:=r;rfl
 | str _=>obtain⟨t,rfl⟩:=r;rfl
 | byt _=>obtain⟨t,rfl⟩:=r;rfl
 | flt _=>obtain⟨t,rfl⟩:=r;rfl
 | ref _=>cases r;rfl
 | ty _=>cases r;rfl
theorem RelV.inj{x y:V}{u:Value}(r:RelV x u)(q:RelV y u):x=y:=nS (r.abs.symm.trans q.abs)
theorem Vals.inj:∀{xs ys:List V} {us:xF},Vals xs us->Vals ys us->xs=ys
 | _,_,_,.nil,.nil=>rfl
 | _,_,_,.cons r t,.cons r' t'=>by rw[r.inj r',Vals.inj t t']
section
variable{X:Cx}{pins:List (Addr×Obj)}{σ:St}{H:Hp}{s:Shared}{a:Addr}{xs ys:List V}
theorem SqL.of{K:W.Frag}(h:H a=some (.lst xs)):SqL K H a xs:=.inl (.inl h)
theorem SqT.of{K:W.Frag}(h:H a=some (.tup xs)):SqT K H a xs:=.inl (.inl h)
theorem Inv.list(I:Inv X pins σ H s)(h:SqL X.K H a xs):∃its:List Value,Vals xs its/\PlainL s.heap a its.toArray/\xs.length<=sizeLine:=by
 rcases h with h|⟨o,its,n,hk,hc,hd,hs,hz,r⟩
 ·obtain⟨z,its,n,r,e⟩:=h.ok I.hok;exact⟨its,r,⟨_,n,e,rfl,rfl,rfl⟩,z⟩
 ·refine⟨its.toList,r,⟨o,n,I.kIn a o hk,hc,hd,by simpa using hs⟩,?_⟩;have e:=r.length;simp only[Array.length_toList] at e
  lia
theorem Inv.tuple(I:Inv X pins σ H s)(h:SqT X.K H a xs):∃its:List Value,Vals xs its/\IsTup s.heap a its.toArray/\xs.length<=sizeLine:=by
 rcases h with h|⟨o,its,n,hk,hc,hs,hz,r⟩
 ·obtain⟨z,its,r,p⟩:=h.ok I.hok;exact⟨its,r,p,z⟩
 ·refine⟨its.toList,r,⟨o,I.kIn a o hk,hc,n,by simpa using hs⟩,?_⟩;have e:=r.length;simp only[Array.length_toList] at e
  lia
theorem Inv.rm(I:Inv X pins σ H s)(h:SqL X.K H a xs)(h':SqL X.K H a ys):xs=ys:=by
 obtain⟨its,r,⟨o,n,e,_,_,d⟩,_⟩:=I.list h;obtain⟨its',r',⟨o',n',e',_,_,d'⟩,_⟩:=I.list h';rw[e] at e';cases e';rw[d] at d';injection d' with d1 _
 have:its=its':=by simpa using congrArg Array.toList d1
 subst this;exact r.inj r'
theorem Inv.u9(I:Inv X pins σ H s)(h:SqT X.K H a xs)(h':SqT X.K H a ys):xs=ys:=by
 obtain⟨its,r,⟨o,e,_,n,d⟩,_⟩:=I.tuple h;obtain⟨its',r',⟨o',e',_,n',d'⟩,_⟩:=I.tuple h';rw[e] at e';cases e';rw[d] at d';injection d' with d1 _
 have:its=its':=by simpa using congrArg Array.toList d1
 subst this;exact r.inj r'
end
abbrev Cx.wish(X:Cx)(E:xB):Cx:={ X with xe:=E }
abbrev Cx.nox(X:Cx):Cx:=X.wish λ_ _=>False
theorem Cx.Ok.wish{X:Cx}(ok:X.Ok)(E:xB):(X.wish E).Ok :=
 ⟨ok.mod,ok.kind,ok.glob,ok.blt,ok.above,ok.inj,ok.has,ok.cab,ok.hd,ok.frames,ok.stk,ok.exf,ok.bs,ok.bsz,ok.uO,ok.xR,ok.jK,ok.frf⟩
theorem Cx.Ok.eX{X:Cx}{E:xB}(ok:(X.wish E).Ok):X.Ok :=
 ⟨ok.mod,ok.kind,ok.glob,ok.blt,ok.above,ok.inj,ok.has,ok.cab,ok.hd,ok.frames,ok.stk,ok.exf,ok.bs,ok.bsz,ok.uO,ok.xR,ok.jK,ok.frf⟩
section
variable{X:Cx}{pins:List (Addr×Obj)}{σ:St}{H:Hp}{s:Shared}{E:xB}
theorem Inv.wish(I:Inv X pins σ H s)(E:xB):Inv (X.wish E) pins σ H s:=⟨I.ok.wish E,I.os,I.bare,I.base,I.loc,I.cell,I.free,I.fZ,I.pin,I.hok,I.len⟩
theorem Inv.eX(I:Inv (X.wish E) pins σ H s):Inv X pins σ H s:=⟨I.ok.eX,I.os,I.bare,I.base,I.loc,I.cell,I.free,I.fZ,I.pin,I.hok,I.len⟩
theorem SP.eX{D:Ends}{f:Flow}{s':Shared}(h:SP (X.wish E) pins D f s'):SP X pins D f s':=by
 cases f with
 | next=>obtain⟨σ',H',I,q⟩:=h;exact⟨σ',H',I.eX,q⟩
 | brk=>obtain⟨σ',H',I,q⟩:=h;exact⟨σ',H',I.eX,q⟩
 | cont=>obtain⟨σ',H',I,q⟩:=h;exact⟨σ',H',I.eX,q⟩
 | ret u=>obtain⟨v,σ',H',I,r,q⟩:=h;exact⟨v,σ',H',I.eX,r,q⟩
theorem PE.nox{e:Expr}{t:TE}(h:PE X.nox e t):PE X e t:=λpins s σ H Q I hw =>
 mM (h pins s σ H Q (I.wish _) hw) (λ_ _ ⟨v,H',I',r,q⟩=>⟨v,H',I'.eX,r,q⟩) λ_ _ z=>False.elim z
theorem PT.nox{e:Expr}{t:TT}(h:PT X.nox e t):PT X e t:=λpins s σ H Q I hw =>
 mM (h pins s σ H Q (I.wish _) hw) (λ_ _ ⟨H',I',q⟩=>⟨H',I'.eX,q⟩) λ_ _ z=>False.elim z
theorem PSs.nox{st:List Stmt}{t:TS}(h:PSs X.nox st t):PSs X st t:=λpins s σ H D I hw =>
 mM (h pins s σ H D (I.wish _) hw) (λ_ _ q=>q.eX) λ_ _ z=>False.elim z
end
section
variable{X:Cx}{st:Stmt}{rest:List Stmt}{t u:TS}{e:Expr}{te:TE}{pos:Pos}
def Ep:TS:=λD σ H=>D.nx σ H
def Oz(t u:TS):TS:=λD σ H=>t { D with nx:=u D } σ H
theorem bA:PSs X [] Ep:=λ_ _ σ H _ I h=>wpAny_execs_nil ⟨σ,H,I,h⟩
theorem aq(h1:PS X st t)(h2:PSs X rest u):PSs X (st::rest) (Oz t u):=by
 intro pins s σ H D I h;refine wpAny_execs_cons (thn (h1 pins s σ H { D with nx:=u D } I h) λf s1 q=>?_)
 cases f with
 | next =>
  obtain⟨σ',H',I',q⟩:=q;exact h2 pins s1 σ' H' D I' q
 | ret v=>exact q
 | brk=>exact q
 | cont=>exact q
theorem aD(h1:PS X st t):PSs X [st] t:=by
 intro pins s σ H D I h;refine wpAny_execs_cons (thn (h1 pins s σ H D I h) λf s1 q=>?_);cases f with
 | next=>exact wpAny_execs_nil q
 | ret v=>exact q
 | brk=>exact q
 | cont=>exact q
theorem OD:PS X (.Pass pos) Ep:=λ_ _ σ H _ I h=>wpAny_Pass ⟨σ,H,I,h⟩
theorem Inv.quiet{pins:List (Addr×Obj)}{σ:St}{H:Hp}{s:Shared}(I:Inv X pins σ H s):interactive X.env=false:=by simp[interactive,I.ok.kind]
def Jk(te:TE):TS:=λD σ H=>te σ H λ_ H1=>D.nx σ H1
theorem cL(he:PE X e te)(hs:swapsWith e none pos.line X.env=pure false:=by rfl):PS X (.Expr e pos) (Jk te):=by
 intro pins s σ H D I h;exact wpAny_Expr_any (thn (he pins s σ H _ I h) λv s1 ⟨x,H1,I1,r1,q1⟩=>⟨σ,H1,I1,q1⟩) I.quiet hs
def Sx(te:TE):TS:=λD σ H=>te σ H D.rt
theorem aM(he:PE X e te):PS X (.Return (some e) pos) (Sx te):=by
 intro pins s σ H D I h;exact wpAny_Return_some (thn (he pins s σ H _ I h) λv s1 ⟨x,H1,I1,r1,q1⟩=>⟨x,σ,H1,I1,r1,q1⟩)
def Sy(c:TT)(t u:TS):TS:=λD σ H=>c σ H λb H1=>if b=true then t D σ H1 else u D σ H1
theorem bZ{c:Expr}{a b:List Stmt}{tc:TT}(hc:PT X c tc)(ha:PSs X a t)(hb:PSs X b u):PS X (.If c a b pos) (Sy tc t u):=by
 intro pins s σ H D I h;refine wpAny_If (thn (hc pins s σ H _ I h) λd s1 ⟨H1,I1,q1⟩=>?_);cases d with
 | true=>exact ha pins s1 σ H1 D I1 q1
 | false=>exact hb pins s1 σ H1 D I1 q1
def SJ:TS:=λ_ _ _=>False
theorem jc{sts:List Stmt}:PSs X sts SJ:=λ_ _ _ _ _ _ h=>h.elim
end
abbrev TG:=V->St->Hp->(St->Hp->Prop)->Prop
abbrev TGs:=List V->St->Hp->(St->Hp->Prop)->Prop
def PG(X:Cx)(target:Expr)(t:TG):Prop :=
 ∀(pins:List (Addr×Obj)) (s:Shared) (σ:St) (H:Hp) (v:V) (u:Value) (Q:St->Hp->Prop),Inv X pins σ H s->RelV v u->t v σ H Q ->
  wpAny (model X.prog X.w) X.A (assign target X.env u) (λ_ s'=>∃σ' H',Inv X pins σ' H' s'/\Q σ' H') X.xe s
def PGs(X:Cx)(ts:List Expr)(t:TGs):Prop :=
 ∀(pins:List (Addr×Obj)) (s:Shared) (σ:St) (H:Hp) (vs:List V) (us:xF) (Q:St->Hp->Prop),Inv X pins σ H s->Vals vs us->t vs σ H Q ->
  wpAny (model X.prog X.w) X.A (assignInOrder ((assignEach ts X.env).map (·.2)) us) (λ_ s'=>∃σ' H',Inv X pins σ' H' s'/\Q σ' H') X.xe s
section
variable{X:Cx}{pos:Pos}
def bT(i:Nat):TG:=λv σ H Q=>Q (σ.set i (some v)) H
theorem bL{i:Nat}{x:Str}(hN:X.N.Nodup)(hi:X.N[i]?=some x)(hx:Loc X.env.scope x)(hf:X.fn x=true\/X.env.scope.names.lookup x=some .local:=by first|exact .inl rfl|exact .inr rfl|assumption):PG X (.Name x pos) (bT i):=by
 intro pins s σ H v u Q I r h;exact wpAny_assign_Name (m7 I hN hi hx r (λs' I'=>⟨_,H,I',h⟩) hf)
def Hr:TGs:=λvs σ H Q=>vs=[]/\Q σ H
def jO(t:TG)(u:TGs):TGs:=λvs σ H Q=>∃v r,vs=v::r/\t v σ H λσ' H'=>u r σ' H' Q
theorem kW:PGs X [] Hr:=by
 intro pins s σ H vs us Q I r h;obtain⟨e,h⟩:=h;subst e;cases r;exact assignInOrder_nil ⟨σ,H,I,h⟩
theorem dX{e:Expr}{es:List Expr}{t:TG}{u:TGs}(h1:PG X e t)(h2:PGs X es u)
  (hs:(assignEach (e::es) X.env).map (·.2)=assign e X.env::(assignEach es X.env).map (·.2):=by rfl):PGs X (e::es) (jO t u):=by
 intro pins s σ H vs us Q I r h;obtain⟨v,vr,e1,h⟩:=h;subst e1;cases r with
 | cons r rr =>
  rw[hs];refine assignInOrder_cons (thn (h1 pins s σ H _ _ _ I r h) λ_ s1 ⟨σ1,H1,I1,q1⟩=>?_);exact h2 pins s1 σ1 H1 _ _ Q I1 rr q1
def Ht(K:W.Frag)(n:Nat)(t:TGs):TG:=λv σ H Q=>∃a xs,v=.ref a/\SqT K H a xs/\xs.length=n/\t xs σ H Q
theorem xW{es:List Expr}{k:Nat}{t:TGs}{n:Nat}(hc:X.calm=true)(h:PGs X es t)
  (hn:(assignEach es X.env).length=n:=by rfl) (hst:(assignEach es X.env).findIdx? (·.1)=none:=by rfl):PG X (.Tuple es k pos) (Ht X.K n t):=by
 intro pins s σ H v u Q I r hw;obtain⟨a,xs,e1,hq,hl,hw⟩:=hw;subst e1;cases r;obtain⟨its,rv,ht,hz⟩:=I.tuple hq;refine assign_Tuple_tuple (I.ok.hd hc) ht (by simp[hn,<- hl,rv.length]) hst λh' hx=>?_
 have I1:Inv X pins σ H { s with heap:=h' }:=I.kept (t':=s.toks) λb o e=>hx b o (gE (uC e)) e
 exact h pins _ σ H xs _ Q I1 (by simpa using rv) hw
def Jl(te:TE)(g:TG):TS:=λD σ H=>te σ H λx H1=>g x σ H1 D.nx
theorem Df{tg e:Expr}{te:TE}{g:TG}(he:PE X e te)(hg:PG X tg g)(hs:swapsWithSole [tg] e pos.line X.env=pure false:=by rfl)(hw:swappedStores [tg] e X.env=pure none:=by rfl)
  (h1:(assignEach [tg] X.env).map (·.2)=[assign tg X.env]:=by rfl):PS X (.Assign [tg] e pos) (Jl te g):=by
 intro pins s σ H D I h;refine wpAny_Assign_stores (thn (he pins s σ H _ I h) λv s1 ⟨x,H1,I1,r1,q1⟩=>?_) hs hw;rw[h1];exact thn (hg pins s1 σ H1 x v _ I1 r1 q1) λ_ s2 q=>q
theorem bC{i:Nat}{x:Str}{e:Expr}{te:TE}{pos':Pos}(hN:X.N.Nodup)(hi:X.N[i]?=some x)(hx:Loc X.env.scope x)(he:PE X e te)(hs:swapsWith e (some (.Name x pos')) pos.line X.env=pure false:=by rfl)(hf:X.fn x=true\/X.env.scope.names.lookup x=some .local:=by first|exact .inl rfl|exact .inr rfl|assumption) :
  PS X (.Assign [.Name x pos'] e pos) (Jl te (bT i)):=by
 intro pins s σ H D I h;refine wpAny_Assign_Name (thn (he pins s σ H _ I h) λv s1 ⟨y,H1,I1,r1,q1⟩=>?_) hs;exact m7 I1 hN hi hx r1 (λs2 I2=>⟨_,H1,I2,q1⟩) hf
end
section
variable{X:Cx}{pos:Pos}
def Jm(c:TT)(tb:TS):TS:=λD σ H=>∃W:Nat->St->Hp->Prop,(∃m,W m σ H)/\∀m σ H,W m σ H ->
 c σ H λb H1=>if b=true then ∃N:St->Hp->Prop,(∀σ' H',N σ' H'->∃m',m'<m/\W m' σ' H')/\tb { D with nx:=N,ct:=N,bk:=D.nx } σ H1 else D.nx σ H1
theorem jd{c:Expr}{body:List Stmt}{tc:TT}{tb:TS}(hp:PassesOwn (model X.prog X.w) X.A X.env X.xe)(hc:PT X c tc)(hb:PSs X body tb):PS X (.While c body [] pos) (Jm tc tb):=by
 intro pins s σ H D I h;obtain⟨W,⟨m0,w0⟩,turn⟩:=h;refine wpAny_While (codeAny_whileLoop (λn s'=>∃σ' H',Inv X pins σ' H' s'/\W n σ' H') ?_ m0 ⟨σ,H,I,w0⟩);rintro n s1 ⟨σ1,H1,I1,w1⟩;refine wpAny_passesOwn hp (thn (hc pins s1 σ1 H1 _ I1 (turn n σ1 H1 w1)) λb s2 ⟨H2,I2,q2⟩=>?_);cases b with
 | true =>
  obtain⟨N,hN,q2⟩:=q2;rw[yB rfl];refine wpAny_passesOwn hp (thn (hb pins s2 σ1 H2 _ I2 q2) λf s3 q3=>?_);cases f with
  | next =>
   obtain⟨σ3,H3,I3,n3⟩:=q3;obtain⟨m',hm,w3⟩:=hN σ3 H3 n3;exact⟨m',hm,σ3,H3,I3,w3⟩
  | cont =>
   obtain⟨σ3,H3,I3,n3⟩:=q3;obtain⟨m',hm,w3⟩:=hN σ3 H3 n3;exact⟨m',hm,σ3,H3,I3,w3⟩
  | brk=>exact q3
  | ret v=>exact q3
 | false =>
  rw[yT vT];exact wpAny_execs_nil ⟨σ1,H2,I2,q2⟩
end
structure It where
 go:Nat->Hp->Prop
 yld:Nat->Hp->V->Hp->Prop
 stop:Nat->Hp->Prop
def m8(X:Cx)(pins:List (Addr×Obj))(H:Hp)(b:Addr):Prop :=
 H b=none/\b≠X.env.locals/\b ∉ X.fs/\(b∈X.ex\/X.s₀.heap.objs.size<=b)/\(∀x c,X.env.cells.lookup x=some c->c≠b)/\∀p∈X.pn++pins,p.1≠b
theorem Inv.SM{X:Cx}{pins:List (Addr×Obj)}{σ:St}{H H':Hp}{s:Shared}{b:Addr}(I:Inv X pins σ H s)(hb:s.heap.objs.size<=b)(hn:H' b=none):m8 X pins H' b:=by
 refine⟨hn,Nat.ne_of_gt (qV I.lt hb),I.Zn hb,.inr (oC I.sz hb),λx c e z=>?_,λp hp z=>?_⟩
 ·obtain⟨v,q⟩:=I.cell x c e;exact gS (qV q.lt (by rw[z];exact hb)) (gI _)
 ·exact gS (qV (uC (I.pin p hp).1) (by rw[z];exact hb)) (gI _)
structure Turn(P:Program)(w:World)(K:W.Frag)(tg:Expr)(J:It)(fp:List Addr)(it:Addr)(tn:Nat->Heap->Prop):Prop where
 mem:it∈fp
 obj:∀i h,tn i h->∀b∈fp,∃o,h.get? b=some o/\∀v,o.data≠.cell v
 keep:∀i h h',tn i h->(∀b∈fp,∀o,h.get? b=some o->h'.get? b=some o)->tn i h'
 item:∀(X:Cx),X.prog=P->X.w=w->X.K=K->X.calm=true->∀(i:Nat) (pins:List (Addr×Obj)) (s:Shared) (σ:St) (H:Hp) (E:xB),Inv X pins σ H s->(∀b∈fp,m8 X pins H b)->tn i s.heap->J.go i H ->
  wpAny (model P w) X.A (pyNext (.ref it)) (λr s1=>∃u,r=some u /\
   wpAny (model P w) X.A (letOwnedTupleGo tg (.ref it) u) (λ_ s2=>∃x H',Inv X pins σ H' s2/\RelV x u/\J.yld i H x H'/\tn (i+1) s2.heap/\∀b∈fp,H' b=none) E s1) E s
 done:∀(X:Cx),X.prog=P->X.w=w->X.K=K->X.calm=true->∀(i:Nat) (pins:List (Addr×Obj)) (s:Shared) (σ:St) (H:Hp) (E:xB),Inv X pins σ H s->(∀b∈fp,m8 X pins H b)->tn i s.heap->J.stop i H ->
  wpAny (model P w) X.A (pyNext (.ref it)) (λr s1=>r=none/\Inv X pins σ H s1) E s
 self:∀(A:Around)(i:Nat)(s:Shared)(Q:xB)(E:xB),tn i s.heap->Q (.ref it) s->wpAny (model P w) A (pyIter (.ref it)) Q E s
abbrev TI:=St->Hp->(It->Hp->Prop)->Prop
def PIE(X:Cx)(pins:List (Addr×Obj))(σ:St)(tg:Expr)(R:It->Hp->Prop)(itv:Value)(s2:Shared):Prop :=
 ∃(it:Addr)(fp:List Addr)(tn:Nat->Heap->Prop)(J:It)(H':Hp),itv=.ref it/\Inv X pins σ H' s2/\Turn X.prog X.w X.K tg J fp it tn/\tn 0 s2.heap/\(∀b∈fp,m8 X pins H' b)/\R J H'
def PI(X:Cx)(tg iter:Expr)(wi:TI):Prop :=
 ∀(pins:List (Addr×Obj)) (s:Shared) (σ:St) (H:Hp) (R:It->Hp->Prop),Inv X pins σ H s->wi σ H R ->
  wpAny (model X.prog X.w) X.A (eval iter X.env) (λv s1=>wpAny (model X.prog X.w) X.A (pyIter v) (PIE X pins σ tg R) X.xe s1) X.xe s
theorem Rf{M:Model}{A:Around}{E:xB}{s:Shared}{tg:Expr}{it:Addr}{u:Value}{o:Obj}{n:String}{vs:xI}{Q:xA}(ho:s.heap.get? it=some o)(hc:o.cls=.type n)(hd:o.data=.fields vs)
  (hn:["enumerate","zip","dict_itemiterator","dict_reverseitemiterator","odict_iterator","itertools.zip_longest","itertools.pairwise"].contains n=false) (hQ:Q () s):wpAny M A (letOwnedTupleGo tg (.ref it) u) Q E s:=by
 unfold letOwnedTupleGo;cases tg <;> first
  | exact wpAny_pure hQ
  | (cases u <;> first
    | exact oB hQ
    | (refine zI (wpAny_load ho ?_)
       rw[hc,hd];show wpAny M A (if (["enumerate","zip","dict_itemiterator","dict_reverseitemiterator","odict_iterator","itertools.zip_longest","itertools.pairwise"].contains n && vs[0]? == some (rawInt _))=true then _ else _) Q E s;rw[yT (by intro h;rw[hn,Bool.false_and] at h;cases h)];exact oB hQ))
def Itl(K:W.Frag)(a:Addr):It :=
 ⟨λi H=>∃xs x,SqL K H a xs/\xs[i]?=some x,λi H x H'=>H'=H/\∀xs,SqL K H a xs->xs[i]?=some x,λi H=>∃xs,SqL K H a xs/\xs.length<=i⟩
def Itr(lo:Int)(n:Nat):It:=⟨λi _=>i<n,λi H x H'=>H'=H/\x=.int (lo+i),λi _=>n<=i⟩
theorem Hu{P:Program}{w:World}{K:W.Frag}{tg:Expr}(a it:Addr):Turn P w K tg (Itl K a) [it] it (λi h=>h.IsListIter it a i) where
 mem:=by simp
 obj:=λi h st b hb=>by
  have e:b=it:=by simpa using hb
  subst e;obtain⟨o,e,c,d⟩:=st;exact⟨o,e,λv z=>by rw[d] at z;cases z⟩
 keep:=λi h h' st k=>st.at λo e=>k it (by simp) o e
 item:=by
  intro X hP hw hK hc i pins s σ H E I hf st hg;subst hP hw hK;obtain⟨xs,x,hq,hx⟩:=hg;obtain⟨its,rv,p,hz⟩:=I.list hq;obtain⟨u,hu,ru⟩:=rv.get hx;obtain⟨f0,f1,f2,f3,f4,f5⟩:=hf it (by simp);refine wpAny_pyNext_list_item st p.isList (x:=u) (by simpa using hu) λh' st' sb=>?_
  have I1:Inv X pins σ H { s with heap:=h' }:=I.turned (t':=s.toks) (λb o hb e=>(sb.2 b hb).trans e) f0 f1 f3 f4 f5
  obtain⟨o,e,c,d⟩:=id st';exact⟨u,rfl,Rf (s:={ s with heap:=h' }) e c d (by decide) ⟨x,H,I1,ru,⟨rfl,λys hy=>by rw[I.rm hy hq];exact hx⟩,st',λb hb=>(hf b hb).1⟩⟩
 done:=by
  intro X hP hw hK hc i pins s σ H E I hf st hg;subst hP hw hK;obtain⟨xs,hq,hx⟩:=hg;obtain⟨its,rv,p,hz⟩:=I.list hq;obtain⟨f0,f1,f2,f3,f4,f5⟩:=hf it (by simp);have hl:=rv.length;exact wpAny_pyNext_list_end (I.ok.hd hc) st p.isList (by simp;lia) λh' eb=>⟨rfl,I.turned (t':=s.toks) (λb o hb e=>eb b o hb e) f0 f1 f3 f4 f5⟩
 self:=λ_ _ _ _ _ st h=>wpAny_pyIter_listiter st h
theorem Dg{P:Program}{w:World}{K:PySem.W.Frag}{tg:Expr}(it:Addr)(lo:Int)(n:Nat):Turn P w K tg (Itr lo n) [it] it (λi h=>IsRangeIter h it (lo+(i:Nat)*1) ((n:Int)-(i:Nat)) 1) where
 mem:=by simp
 obj:=λi h st b hb=>by
  have e:b=it:=by simpa using hb
  subst e;exact⟨_,st,λv z=>by
   have z':Data.fields _=Data.cell v:=z;cases z'⟩
 keep:=λi h h' st k=>k it (by simp) _ st
 item:=by
  intro X hP hw hK hc i pins s σ H E I hf st hg;subst hP hw hK;obtain⟨f0,f1,f2,f3,f4,f5⟩:=hf it (by simp);have W:=Walks.range (prog:=X.prog) (w:=X.w) (I.ok.hd hc) it lo 1 n;refine W.item i s _ _ hg st λv h' tk hv st' kk=>?_
  obtain⟨t,rfl⟩:=hv;have I1:Inv X pins σ H { s with heap:=h',toks:=tk }:=I.turned (λb o hb e=>kk b o (by simpa using hb) e) f0 f1 f3 f4 f5
  refine⟨_,rfl,Rf (s:={ s with heap:=h',toks:=tk }) (n := "range_iterator") st' rfl rfl (by decide) ⟨.int (lo+i),H,I1,⟨t,?_⟩,⟨rfl,rfl⟩,st',λb hb=>(hf b hb).1⟩⟩
  rw[Int.mul_one]
 done:=by
  intro X hP hw hK hc i pins s σ H E I hf st hg;subst hP hw hK;obtain⟨f0,f1,f2,f3,f4,f5⟩:=hf it (by simp);exact wpAny_pyNext_range_end (I.ok.hd hc) st (by have:n<=i:=hg;lia) λh' eb=>⟨rfl,I.turned (t':=s.toks) (λb o hb e=>eb b o hb e) f0 f1 f3 f4 f5⟩
 self:=λ_ _ _ _ _ st h=>wpAny_pyIter_rangeiter st h
section
variable{X:Cx}{tg:Expr}
def zF(K:W.Frag)(tl:TE):TI:=λσ H R=>tl σ H λx H1=>∃a,x=.ref a/\(∃xs,SqL K H1 a xs)/\R (Itl K a) H1
theorem cM{l:Expr}{tl:TE}(hl:PE X l tl):PI X tg l (zF X.K tl):=by
 intro pins s σ H R I h;refine thn (hl pins s σ H _ I h) λv s1 ⟨x,H1,I1,r1,q1⟩=>?_
 obtain⟨a,e,⟨xs,hq⟩,q⟩:=q1;subst e;cases r1;obtain⟨its,rv,p,hz⟩:=I1.list hq;refine wpAny_pyIter_list p.isList ?_;refine⟨s1.heap.objs.size,[s1.heap.objs.size],_,_,H1,rfl,I1.kept (t':=s1.toks) λb o e=>uS _ e,Hu a _,⟨_,oS _ rfl,rfl,rfl⟩,λb hb=>?_,q⟩;have e:b=s1.heap.objs.size:=by simpa using hb
 subst e;exact I1.SM (rS _) (I1.hok.fresh (rS _))
theorem Jo{pins:List (Addr×Obj)}{σ:St}{H:Hp}{s:Shared}{R:It->Hp->Prop}{E:xB}{lo hi:Int}{t u v:Tok}{tk:Nat}(I:Inv X pins σ H s)(h1:-(2 ^ 62)<=lo)(h2:lo<2 ^ 62)(h3:-(2 ^ 62)<=hi)(h4:hi<2 ^ 62)
  (q:R (Itr lo (hi-lo).toNat) H):wpAny (model X.prog X.w) X.A (pyIter (.ref s.heap.objs.size)) (PIE X pins σ tg R) E { s with heap:=s.heap.push { cls:=.type "range", data:=.fields #[.int lo t,.int hi u,.int 1 v] },toks:=tk }:=by
 refine wpAny_pyIter_range (IsRange.new ..) (small_one h1 h2 h3 h4) ?_;have I1:Inv X pins σ H { s with heap:=s.heap.push { cls:=.type "range", data:=.fields #[.int lo t,.int hi u,.int 1 v] },toks:=tk }:=I.kept λb o e=>uS _ e
 refine⟨(s.heap.push { cls:=.type "range", data:=.fields #[.int lo t,.int hi u,.int 1 v] }).objs.size,[(s.heap.push { cls:=.type "range", data:=.fields #[.int lo t,.int hi u,.int 1 v] }).objs.size],_,_,H,rfl,
  I1.kept (t':=tk) λb o e=>uS _ e,Dg _ lo (hi-lo).toNat,?_,λb hb=>?_,q⟩
 ·have e1:lo+((0:Nat):Int)*1=lo:=by simp
  have e2:(((hi-lo).toNat:Nat):Int)-((0:Nat):Int)=Builtin.Range.rangeSize lo hi 1:=by rw[rangeSize_one];split <;> lia
  show IsRangeIter _ _ (lo+((0:Nat):Int)*1) ((((hi-lo).toNat:Nat):Int)-((0:Nat):Int)) 1;rw[e1,e2];exact oS _ rfl
 ·have e:b=(s.heap.push { cls:=.type "range", data:=.fields #[.int lo t,.int hi u,.int 1 v] }).objs.size:=by simpa using hb
  subst e;exact I1.SM (rS _) (I1.hok.fresh (rS _))
def Jp(ta:TA):TI:=λσ H R=>ta σ H λvs H1=>∃j:Int,vs=[.int j]/\-(2 ^ 62)<=j/\j<2 ^ 62/\R (Itr 0 j.toNat) H1
theorem u_{a:Expr}{ta:TA}{p pos:Pos}(hg:Gl X "range")(hm:X.mg "range" = none)(ha:PA X [a] ta)(hs:starEach [a] X.env=[(false,eval a X.env)]:=by rfl):PI X tg (.Call (.Name "range" p) [a] [] pos) (Jp ta):=by
 intro pins s σ H R I h;refine Call_ (q_ I hg hm boot_range (PyProof.Rows.callWith_type1 (thn (ha pos pins s σ H _ I h) λus s1 ⟨vs,H1,I1,r1,q1⟩=>?_) hs rfl));obtain⟨j,e,q1,q2,q⟩:=q1;subst e;cases r1 with
 | cons r rr =>
  cases rr;obtain⟨t,rfl⟩:=r;exact call_range_1 (Jo I1 (by lia) (by lia) q1 q2 (by simpa using q))
def Jq(wi:TI)(g:TG)(tb:TS):TS:=λD σ H=>wi σ H λJ H1=>∃W:Nat->Nat->St->Hp->Prop,(∃m,W 0 m σ H1)/\∀i m σ H,W i m σ H ->
 (J.stop i H/\D.nx σ H)\/(J.go i H/\∃N:St->Hp->Prop,(∀σ' H',N σ' H'->∃m',m'<m/\W (i+1) m' σ' H')/\∀x H',J.yld i H x H'->g x σ H' λσ2 H2=>tb { D with nx:=N,ct:=N,bk:=D.nx } σ2 H2)
def rA(fp:List Addr)(h:Heap):List (Addr×Obj):=fp.filterMap λb=>(h.get? b).map λo=>(b,o)
theorem jw{fp:List Addr}{h:Heap}{b:Addr}{o:Obj}(hb:b∈fp)(e:h.get? b=some o):(b,o)∈rA fp h:=List.mem_filterMap.mpr ⟨b,hb,by rw[e];rfl⟩
theorem Hw{fp:List Addr}{h:Heap}{p:Addr×Obj}(hp:p∈rA fp h):p.1∈fp/\h.get? p.1=some p.2:=by
 obtain⟨b,hb,e⟩:=List.mem_filterMap.mp hp;cases q:h.get? b with
 | none=>rw[q] at e;cases e
 | some o =>
  rw[q] at e;have e':(b,o)=p:=nS e;subst e';exact⟨hb,q⟩
theorem Inv.pinned{pins:List (Addr×Obj)}{σ:St}{H:Hp}{s:Shared}{fp:List Addr}(I:Inv X pins σ H s)(hf:∀b∈fp,m8 X pins H b)(ho:∀b∈fp,∃o,s.heap.get? b=some o/\∀v,o.data≠.cell v):Inv X (pins++rA fp s.heap) σ H s :=
 I.Eo λp hp=>(wT.mp hp).elim (λz=>I.pin p (rX _ z)) λz=>by
  obtain⟨hb,e⟩:=Hw z;obtain⟨f0,f1,f2,_⟩:=hf p.1 hb;obtain⟨o,e',d⟩:=ho p.1 hb;rw[e] at e';cases e';exact⟨e,f0,f1,f2,d⟩
theorem Inv.jP{pins pl:List (Addr×Obj)}{σ:St}{H:Hp}{s:Shared}(I:Inv X (pins++pl) σ H s):Inv X pins σ H s:=I.Eo λp hp=>I.pin p (rX _ (mN _ hp))
theorem jQ{iter:Expr}{body:List Stmt}{wi:TI}{g:TG}{tb:TS}{pos:Pos}(hp:PassesOwn (model X.prog X.w) X.A X.env X.xe)(hc:X.calm=true)(hi:PI X tg iter wi)(hg:PG X tg g)(hb:PSs X body tb)
  (hs:∀x,foldedSetIterable iter X.env x=pure x:=by intro _;rfl):PS X (.For tg iter body [] pos) (Jq wi g tb):=by
 intro pins s σ H D I h;refine wpAny_For (thn (hi pins s σ H _ I h) λv s1 h1=>thn h1 λitv s2 h2=>?_) hs;obtain⟨it,fp,tn,J,H2,e,I2,T,st2,f2,W,⟨m0,w0⟩,turn⟩:=h2;subst e
 -- what stays true of the iterator's objects through the loop
 have stat:∀{H':Hp},(∀b∈fp,H' b=none)->∀b∈fp,m8 X pins H' b:=λhn b hb=>⟨hn b hb,(f2 b hb).2⟩
 refine codeAny_forLoop_any (λn s'=>∃i σ' H',Inv X pins σ' H' s'/\tn i s'.heap/\(∀b∈fp,H' b=none)/\W i n σ' H') ?_ m0 ⟨0,σ,H2,I2,st2,λb hb=>(f2 b hb).1,w0⟩;rintro n s3 ⟨i,σ3,H3,I3,st3,fr3,w3⟩;rcases turn i n σ3 H3 w3 with⟨stop,qn⟩|⟨go,N,hN,step⟩
 ·refine wpAny_passesOwn hp (thn (T.done X rfl rfl rfl hc i pins s3 σ3 H3 X.xe I3 (stat fr3) st3 stop) λr s4 ⟨hr,I4⟩=>?_);subst hr;exact wpAny_execs_nil ⟨σ3,H3,I4,qn⟩
 ·refine wpAny_passesOwn hp (thn (T.item X rfl rfl rfl hc i pins s3 σ3 H3 X.xe I3 (stat fr3) st3 go) λr s4 ⟨u,hr,h4⟩=>?_);subst hr;refine wpAny_passesOwn hp (thn h4 λ_ s5 ⟨x,H5,I5,r5,y5,st5,fr5⟩=>?_);have I5':=I5.pinned (stat fr5) (T.obj _ _ st5);refine wpAny_passesOwn hp (thn (hg _ s5 σ3 H5 x u _ I5' r5 (step x H5 y5)) λ_ s6 ⟨σ6,H6,I6,q6⟩=>?_);refine wpAny_passesOwn hp (thn (hb _ s6 σ6 H6 _ I6 q6) λf s7 q7=>?_);have again:∀{σ7:St} {H7:Hp},Inv X (pins++rA fp s5.heap) σ7 H7 s7->N σ7 H7->∃m,m<n/\∃i σ' H',Inv X pins σ' H' s7/\tn i s7.heap/\(∀b∈fp,H' b=none)/\W i m σ' H':=λ{σ7 H7} I7 n7=>by
   obtain⟨m',hm,w7⟩:=hN σ7 H7 n7;refine⟨m',hm,i+1,σ7,H7,I7.jP,T.keep _ _ _ st5 λb hb o e=>(I7.pin (b,o) (rX _ (rX _ (jw hb e)))).1,λb hb=>?_,w7⟩;obtain⟨o,e,d⟩:=T.obj _ _ st5 b hb;exact(I7.pin (b,o) (rX _ (rX _ (jw hb e)))).2.1
  cases f with
  | next=>obtain⟨σ7,H7,I7,n7⟩:=q7;exact again I7 n7
  | cont=>obtain⟨σ7,H7,I7,n7⟩:=q7;exact again I7 n7
  | brk=>obtain⟨σ7,H7,I7,q7⟩:=q7;exact⟨σ7,H7,I7.jP,q7⟩
  | ret v=>obtain⟨x7,σ7,H7,I7,r7,q7⟩:=q7;exact⟨x7,σ7,H7,I7.jP,r7,q7⟩
end
theorem Jr{K:PySem.W.Frag}{a:Addr}{xs:List V}{g:TG}{tb:TS}{D:Ends}{σ:St}{H:Hp}(Pv:Nat->St->Hp->Prop)(h0:Pv 0 σ H)(hl:∀i σ H,i<=xs.length->Pv i σ H->SqL K H a xs)
  (hs:∀i x σ H,xs[i]?=some x->Pv i σ H->g x σ H λσ2 H2=>tb { D with nx:=Pv (i+1),ct:=Pv (i+1),bk:=D.nx } σ2 H2) (hd:∀σ H,Pv xs.length σ H->D.nx σ H) :
  ∃W:Nat->Nat->St->Hp->Prop,(∃m,W 0 m σ H)/\∀i m σ H,W i m σ H ->
   ((Itl K a).stop i H/\D.nx σ H)\/((Itl K a).go i H/\∃N:St->Hp->Prop,(∀σ' H',N σ' H'->∃m',m'<m/\W (i+1) m' σ' H')/\∀x H',(Itl K a).yld i H x H'->g x σ H' λσ2 H2=>tb { D with nx:=N,ct:=N,bk:=D.nx } σ2 H2):=by
 refine⟨λi m σ H=>m=xs.length-i/\i<=xs.length/\Pv i σ H,⟨xs.length,by simp,Nat.zero_le _,h0⟩,?_⟩;rintro i m σ H ⟨rfl,hi,p⟩;have q:=hl i σ H hi p;by_cases hlt:i<xs.length
 ·refine .inr ⟨⟨xs,xs[i],q,by simp[hlt]⟩,Pv (i+1),λσ' H' p'=>⟨xs.length-(i+1),by lia,rfl,hlt,p'⟩,λx H' y=>?_⟩;obtain⟨e,y⟩:=y;subst e;exact hs i x σ _ (y xs q) p
 ·have e:i=xs.length:=by lia
  subst e;exact .inl ⟨⟨xs,q,rS _⟩,hd σ H p⟩
theorem Hx{lo:Int}{n:Nat}{g:TG}{tb:TS}{D:Ends}{σ:St}{H:Hp}(Pv:Nat->St->Hp->Prop)(h0:Pv 0 σ H)
  (hs:∀i σ H,i<n->Pv i σ H->g (.int (lo+i)) σ H λσ2 H2=>tb { D with nx:=Pv (i+1),ct:=Pv (i+1),bk:=D.nx } σ2 H2) (hd:∀σ H,Pv n σ H->D.nx σ H) :
  ∃W:Nat->Nat->St->Hp->Prop,(∃m,W 0 m σ H)/\∀i m σ H,W i m σ H ->
   ((Itr lo n).stop i H/\D.nx σ H)\/((Itr lo n).go i H/\∃N:St->Hp->Prop,(∀σ' H',N σ' H'->∃m',m'<m/\W (i+1) m' σ' H')/\∀x H',(Itr lo n).yld i H x H'->g x σ H' λσ2 H2=>tb { D with nx:=N,ct:=N,bk:=D.nx } σ2 H2):=by
 refine⟨λi m σ H=>m=n-i/\i<=n/\Pv i σ H,⟨n,by simp,Nat.zero_le _,h0⟩,?_⟩;rintro i m σ H ⟨rfl,hi,p⟩;by_cases hlt:i<n
 ·refine .inr ⟨hlt,Pv (i+1),λσ' H' p'=>⟨n-(i+1),by lia,rfl,hlt,p'⟩,λx H' y=>?_⟩;obtain⟨e,y⟩:=y;subst e y;exact hs i σ _ hlt p
 ·have e:i=n:=by lia
  subst e;exact .inl ⟨rS _,hd σ H p⟩
abbrev R2:=V->V->Hp->VK->Prop
def OpR(X:Cx)(f:Value->Value->Sem Value)(r:R2):Prop :=
 ∀(pins:List (Addr×Obj)) (s:Shared) (σ:St) (H:Hp) (x y:V) (v u:Value) (Q:VK),Inv X pins σ H s->RelV x v->RelV y u->r x y H Q ->
  wpAny (model X.prog X.w) X.A (f v u) (EP X pins σ Q) X.xe s
def gV(X:Cx)(f:Value)(r:List V->Hp->VK->Prop):Prop :=
 ∀(pins:List (Addr×Obj)) (s:Shared) (σ:St) (H:Hp) (xs:List V) (us:xF) (Q:VK),Inv X pins σ H s->Vals xs us->r xs H Q ->
  wpAny (model X.prog X.w) X.A (call f us) (EP X pins σ Q) X.xe s
def tOp(r:R2)(ta tb:TE):TE:=λσ H Q=>ta σ H λx H1=>tb σ H1 λy H2=>r x y H2 Q
def rI(C:Int->Int->Prop)(g:Int->Int->V):R2:=λx y H Q=>∃i j,x=.int i/\y=.int j/\C i j/\Q (g i j) H
def rI0(g:Int->Int->V):R2:=λx y H Q=>∃i j,x=.int i/\y=.int j/\Q (g i j) H
section
variable{X:Cx}{a b:Expr}{ta tb:TE}{pos:Pos}
theorem SN(ha:PE X a ta)(hb:PE X b tb){pins:List (Addr×Obj)}{s:Shared}{σ:St}{H:Hp}{R:V->V->Hp->Prop}(I:Inv X pins σ H s)
  (h:ta σ H λx H1=>tb σ H1 λy H2=>R x y H2) {Q:xB} {f:Value->Value->Sem Value}
  (hf:∀v u s2 x y H2,Inv X pins σ H2 s2->RelV x v->RelV y u->R x y H2->wpAny (model X.prog X.w) X.A (f v u) Q X.xe s2) :
  wpAny (model X.prog X.w) X.A (eval a X.env) (λv s₁=>wpAny (model X.prog X.w) X.A (eval b X.env) (λu s₂=>wpAny (model X.prog X.w) X.A (f v u) Q X.xe s₂) X.xe s₁) X.xe s:=by
 refine thn (ha pins s σ H _ I h) λv s1 ⟨x,H1,I1,r1,q1⟩=>?_
 refine thn (hb pins s1 σ H1 _ I1 q1) λu s2 ⟨y,H2,I2,r2,q2⟩=>?_
 exact hf v u s2 x y H2 I2 r1 r2 q2
theorem aV{op:Operator}{r:R2}(ho:OpR X (binaryOp op) r)(ha:PE X a ta)(hb:PE X b tb):PE X (.BinOp a op b pos) (tOp r ta tb):=by
 intro pins s σ H Q I h;exact wpAny_BinOp (SN ha hb I h λv u s2 x y H2 I2 rx ry q=>ho pins s2 σ H2 x y v u Q I2 rx ry q)
theorem opI{f:Value->Value->Sem Value}{C:Int->Int->Prop}{g:Int->Int->Int}
  (rule:∀(i j:Int)(t u:Tok)(s:Shared)(Q:xB)(E:xB),C i j->Q (.int (g i j) s.toks) { s with toks:=s.toks+1 }->wpAny (model X.prog X.w) X.A (f (.int i t) (.int j u)) Q E s) :
  OpR X f (rI C λi j=>.int (g i j)):=by
 intro pins s σ H x y v u Q I rx ry h;obtain⟨i,j,rfl,rfl,hc,q⟩:=h;obtain⟨t,rfl⟩:=rx;obtain⟨t',rfl⟩:=ry;exact rule i j t t' s _ _ hc ⟨.int (g i j),H,I.tok _,⟨_,rfl⟩,q⟩
theorem V3{f:Value->Value->Sem Value}{g:Int->Int->Int}
  (rule:∀(i j:Int)(t u:Tok)(s:Shared)(Q:xB)(E:xB),Q (.int (g i j) s.toks) { s with toks:=s.toks+1 }->wpAny (model X.prog X.w) X.A (f (.int i t) (.int j u)) Q E s) :
  OpR X f (rI0 λi j=>.int (g i j)):=by
 intro pins s σ H x y v u Q I rx ry h;obtain⟨i,j,rfl,rfl,q⟩:=h;obtain⟨t,rfl⟩:=rx;obtain⟨t',rfl⟩:=ry;exact rule i j t t' s _ _ ⟨.int (g i j),H,I.tok _,⟨_,rfl⟩,q⟩
theorem OJ{f:Value->Value->Sem Value}{g:Int->Int->Bool}
  (rule:∀(i j:Int)(t u:Tok)(s:Shared)(Q:xB)(E:xB),Q (.bool (g i j)) s->wpAny (model X.prog X.w) X.A (f (.int i t) (.int j u)) Q E s) :
  OpR X f (rI0 λi j=>.bl (g i j)):=by
 intro pins s σ H x y v u Q I rx ry h;obtain⟨i,j,rfl,rfl,q⟩:=h;obtain⟨t,rfl⟩:=rx;obtain⟨t',rfl⟩:=ry;exact rule i j t t' s _ _ ⟨.bl (g i j),H,I,rfl,q⟩
def SQ(i j:Int):Prop:=0<j/\j<1073741824
def SX(i j:Int):Prop:=0<=j/\j<=1000000/\i.natAbs<2 ^ 64
def Hy(i j:Int):Prop:=(-(2 ^ 64)<i/\i<2 ^ 64)\/(-(2 ^ 64)<j/\j<2 ^ 64)
theorem Hy.ok{i j:Int}(h:Hy i j):IntMulOk i j:=by
 rcases h with⟨h1,h2⟩|⟨h1,h2⟩
 ·exact .of_left (intBits_le_64 h1 h2)
 ·exact .of_right (intBits_le_64 h1 h2)
theorem cJ:OpR X (binaryOp .Add) (rI0 λi j=>.int (i+j)):=V3 λ_ _ _ _ _ _ _ q=>add_int q
theorem Dh:OpR X (binaryOp .Sub) (rI0 λi j=>.int (i-j)):=V3 λ_ _ _ _ _ _ _ q=>sub_int q
theorem jx:OpR X (binaryOp .Mult) (rI Hy λi j=>.int (i*j)):=opI λ_ _ _ _ _ _ _ hc q=>mul_int q hc.ok
theorem eU:OpR X (binaryOp .FloorDiv) (rI SQ λi j=>.int (i / j)):=opI λi j _ _ _ _ _ hc q=>by
 have h1:(0:Int)<j:=hc.1;have h2:j<1073741824:=hc.2;exact floordiv_int (by lia) (by rw[Int.fdiv_eq_ediv_of_nonneg i (by lia)];exact q) (.inl (PyProof.noPylong_small (by lia)))
theorem dF:OpR X (binaryOp .Mod) (rI (λ_ j=>0<j) λi j=>.int (i % j)):=opI λi j _ _ _ _ _ hc q=>by
 have h1:(0:Int)<j:=hc;exact mod_int' (by lia) (by rw[Int.fmod_eq_emod_of_nonneg i (by lia)];exact q)
theorem rB:OpR X (binaryOp .Pow) (rI SX λi j=>.int (i ^ j.toNat)):=opI λ_ _ _ _ _ _ _ hc q=>pow_int_small hc.1 hc.2.1 hc.2.2 q
end
def V4:V->V->Bool
 | .non,.non=>true|.non,.int _=>true|.int _,.non=>true|.non,.bl _=>true|.bl _,.non=>true|.non,.str _=>true|.str _,.non=>true
 | .int _,.int _=>true|.bl _,.bl _=>true|.str _,.str _=>true|.byt _,.byt _=>true
 | .int _,.str _=>true|.str _,.int _=>true|.bl _,.str _=>true|.str _,.bl _=>true
 | _,_=>false
def rEq:R2:=λx y H Q=>V4 x y=true/\Q (.bl (decide (x=y))) H
def rNe:R2:=λx y H Q=>V4 x y=true/\Q (.bl (!decide (x=y))) H
theorem Er{i j:Int}:decide (V.int i=V.int j)=(i==j):=by
 rw[Bool.eq_iff_iff];simp
theorem Js{i j:Bool}:decide (V.bl i=V.bl j)=(i==j):=by
 rw[Bool.eq_iff_iff];simp
theorem Es{i j:Str}:decide (V.str i=V.str j)=(i==j):=by
 rw[Bool.eq_iff_iff];simp
theorem Et{i j:Array UInt8}:decide (V.byt i=V.byt j)=(i.toList==j.toList):=by
 rw[Bool.eq_iff_iff];cases i;cases j;simp
section
variable{X:Cx}{a b c:Expr}{ta tb tc:TE}{pos:Pos}
theorem cA{pins:List (Addr×Obj)}{σ:St}{H:Hp}{s:Shared}{Q:VK}{k k':Bool}(I:Inv X pins σ H s)(q:Q (.bl k) H)(e:k=k'):EP X pins σ Q (.bool k') s:=by
 subst e;exact⟨.bl k,H,I,rfl,q⟩
theorem jF:OpR X (compareOp .Eq) rEq:=by
 intro pins s σ H x y v u Q I rx ry h;obtain⟨hs,q⟩:=h;cases x with
 | non =>
  cases rx;cases y with
  | non=>cases ry;exact PySem.EqNone.eq_none_none (cA I q (by simp))
  | bl j=>cases ry;exact PySem.EqNone.eq_none_bool (cA I q (by simp))
  | int j=>obtain⟨t',rfl⟩:=ry;exact PySem.EqNone.eq_none_int (cA I q (by simp))
  | str j=>obtain⟨t',rfl⟩:=ry;exact PySem.EqNone.eq_none_str (cA I q (by simp))
  | _=>exact gS (show false=true from hs) vT
 | bl i =>
  cases rx;cases y with
  | non=>cases ry;exact PySem.EqNone.eq_bool_none (cA I q (by simp))
  | bl j=>cases ry;exact eq_bool (cA I q Js)
  | str j=>obtain⟨t',rfl⟩:=ry;exact PySem.EqMixed.eq_bool_str (cA I q (by simp))
  | _=>exact gS (show false=true from hs) vT
 | int i =>
  obtain⟨t,rfl⟩:=rx;cases y with
  | non=>cases ry;exact PySem.EqNone.eq_int_none (cA I q (by simp))
  | int j=>obtain⟨t',rfl⟩:=ry;exact eq_int (cA I q Er)
  | str j=>obtain⟨t',rfl⟩:=ry;exact PySem.EqMixed.eq_int_str (cA I q (by simp))
  | _=>exact gS (show false=true from hs) vT
 | str i =>
  obtain⟨t,rfl⟩:=rx;cases y with
  | non=>cases ry;exact PySem.EqNone.eq_str_none (cA I q (by simp))
  | bl j=>cases ry;exact PySem.EqMixed.eq_str_bool (cA I q (by simp))
  | int j=>obtain⟨t',rfl⟩:=ry;exact PySem.EqMixed.eq_str_int (cA I q (by simp))
  | str j=>obtain⟨t',rfl⟩:=ry;exact eq_str (cA I q Es)
  | _=>exact gS (show false=true from hs) vT
 | byt i =>
  obtain⟨t,rfl⟩:=rx;cases y with
  | byt j=>obtain⟨t',rfl⟩:=ry;exact W.eq_bytes (cA I q Et)
  | _=>exact gS (show false=true from hs) vT
 | _=>cases y <;> exact gS (show false=true from hs) vT
theorem Jt:OpR X (compareOp .NotEq) rNe:=by
 intro pins s σ H x y v u Q I rx ry h;obtain⟨hs,q⟩:=h;cases x with
 | non =>
  cases rx;cases y with
  | non=>cases ry;exact PySem.EqNone.ne_none_none (cA I q (by simp))
  | bl j=>cases ry;exact PySem.EqNone.ne_none_bool (cA I q (by simp))
  | int j=>obtain⟨t',rfl⟩:=ry;exact PySem.EqNone.ne_none_int (cA I q (by simp))
  | str j=>obtain⟨t',rfl⟩:=ry;exact PySem.EqNone.ne_none_str (cA I q (by simp))
  | _=>exact gS (show false=true from hs) vT
 | bl i =>
  cases rx;cases y with
  | non=>cases ry;exact PySem.EqNone.ne_bool_none (cA I q (by simp))
  | bl j=>cases ry;exact ne_bool (cA I q (gN not Js))
  | str j=>obtain⟨t',rfl⟩:=ry;exact PySem.EqMixed.ne_bool_str (cA I q (by simp))
  | _=>exact gS (show false=true from hs) vT
 | int i =>
  obtain⟨t,rfl⟩:=rx;cases y with
  | non=>cases ry;exact PySem.EqNone.ne_int_none (cA I q (by simp))
  | int j=>obtain⟨t',rfl⟩:=ry;exact ne_int (cA I q (gN not Er))
  | str j=>obtain⟨t',rfl⟩:=ry;exact PySem.EqMixed.ne_int_str (cA I q (by simp))
  | _=>exact gS (show false=true from hs) vT
 | str i =>
  obtain⟨t,rfl⟩:=rx;cases y with
  | non=>cases ry;exact PySem.EqNone.ne_str_none (cA I q (by simp))
  | bl j=>cases ry;exact PySem.EqMixed.ne_str_bool (cA I q (by simp))
  | int j=>obtain⟨t',rfl⟩:=ry;exact PySem.EqMixed.ne_str_int (cA I q (by simp))
  | str j=>obtain⟨t',rfl⟩:=ry;exact ne_str (cA I q (gN not Es))
  | _=>exact gS (show false=true from hs) vT
 | byt i =>
  obtain⟨t,rfl⟩:=rx;cases y with
  | byt j=>obtain⟨t',rfl⟩:=ry;exact W.ne_bytes (cA I q (gN not Et))
  | _=>exact gS (show false=true from hs) vT
 | _=>cases y <;> exact gS (show false=true from hs) vT
theorem pX:OpR X (compareOp .Lt) (rI0 λi j=>.bl (decide (i<j))):=OJ λ_ _ _ _ _ _ _ q=>lt_int q
theorem zG:OpR X (compareOp .LtE) (rI0 λi j=>.bl (decide (i<=j))):=OJ λ_ _ _ _ _ _ _ q=>le_int q
theorem Rg:OpR X (compareOp .Gt) (rI0 λi j=>.bl (decide (j<i))):=OJ λ_ _ _ _ _ _ _ q=>gt_int q
theorem Ju:OpR X (compareOp .GtE) (rI0 λi j=>.bl (decide (j<=i))):=OJ λ_ _ _ _ _ _ _ q=>ge_int q
theorem S6:OpR X (compareOp .Is) (λx y H Q=>y=.non/\Q (.bl (decide (x=.non))) H):=by
 intro pins s σ H x y v u Q I rx ry h;obtain⟨rfl,q⟩:=h;cases ry;refine is_none_gen (cA I q ?_);cases x <;> first
  | (cases rx;rfl)
  | (obtain⟨t,rfl⟩:=rx;rfl)
theorem OpR.or{f:Value->Value->Sem Value}{r r':R2}(h:OpR X f r)(h':OpR X f r'):OpR X f (λx y H Q=>r x y H Q\/r' x y H Q):=by
 intro pins s σ H x y v u Q I rx ry q;rcases q with q|q
 ·exact h pins s σ H x y v u Q I rx ry q
 ·exact h' pins s σ H x y v u Q I rx ry q
theorem bD(b:Expr){op:CmpOp}(h:op≠.In:=by decide)(h2:op≠.NotIn:=by decide):behindInMarks op b=false:=by
 have e1:(op==CmpOp.In)=false:=by cases op <;> first|rfl|exact gS rfl h
 have e2:(op==CmpOp.NotIn)=false:=by cases op <;> first|rfl|exact gS rfl h2
 cases b <;> simp[behindInMarks,e1,e2]
theorem fK{op:CmpOp}{r:R2}(ho:OpR X (compareOp op) r)(ha:PE X a ta)(hb:PE X b tb)(hm:behindInMarks op b=false):PE X (.Compare a [op] [b] pos) (tOp r ta tb):=by
 intro pins s σ H Q I h;exact wpAny_Compare1 (SN ha hb I h λv u s2 x y H2 I2 rx ry q=>ho pins s2 σ H2 x y v u Q I2 rx ry q) hm
def Jv(t:TE):TT:=λσ H Q=>t σ H λx H'=>∃k,x=.bl k/\Q k H'
theorem bw{op:CmpOp}{r:R2}(ho:OpR X (compareOp op) r)(ha:PE X a ta)(hb:PE X b tb)(hm:behindInMarks op b=false):PT X (.Compare a [op] [b] pos) (Jv (tOp r ta tb)):=by
 intro pins s σ H Q I h;refine wpAny_isTrue_Compare1 (thn (ha pins s σ H _ I h) λv s1 ⟨x,H1,I1,r1,q1⟩=>thn (hb pins s1 σ H1 _ I1 q1) λu s2 ⟨y,H2,I2,r2,q2⟩ =>
  thn (ho pins s2 σ H2 x y v u _ I2 r1 r2 q2) λc s3 ⟨z,H3,I3,r3,k,e,q3⟩=>?_) hm
 subst e;cases r3;exact wpAny_truthy_bool ⟨H3,I3,q3⟩
def Jw(r r':R2)(ta tb tc:TE):TE:=λσ H Q=>ta σ H λx H1=>tb σ H1 λy H2=>r x y H2 λz H3=>∃k,z=.bl k /\
 (if k=true then tc σ H3 λw' H4=>r' y w' H4 Q else Q (.bl false) H3)
theorem Jx{op op':CmpOp}{r r':R2}(ho:OpR X (compareOp op) r)(ho':OpR X (compareOp op') r')(ha:PE X a ta)(hb:PE X b tb)(hc:PE X c tc)
  (hm:lastMarks [op,op'] [b,c]=false:=by with_unfolding_all rfl):PE X (.Compare a [op,op'] [b,c] pos) (Jw r r' ta tb tc):=by
 intro pins s σ H Q I h;refine Compare_chain (thn (ha pins s σ H _ I h) λv s1 ⟨x,H1,I1,r1,q1⟩=>chain_link (thn (hb pins s1 σ H1 _ I1 q1) λu s2 ⟨y,H2,I2,r2,q2⟩ =>
  thn (ho pins s2 σ H2 x y v u _ I2 r1 r2 q2) λd s3 ⟨z,H3,I3,r3,k,e,q3⟩=>?_)) hm
 subst e;cases r3;refine wpAny_truthy_bool ?_;cases k with
 | false=>exact ite_ff ⟨.bl false,H3,I3,rfl,q3⟩
 | true=>exact ite_tt (chain_last (thn (hc pins s3 σ H3 _ I3 q3) λw' s4 ⟨z',H4,I4,r4,q4⟩=>ho' pins s4 σ H4 y z' u w' Q I4 r2 r4 q4))
theorem Di:(sizeLine:Nat)<2 ^ 63:=by rw[sizeLine_eq];decide
theorem vals1{x:V}{us:xF}(r:Vals [x] us):∃u,us=[u]/\RelV x u:=by
 cases r with
 | cons r1 r2=>cases r2;exact⟨_,rfl,r1⟩
theorem vals2{x y:V}{us:xF}(r:Vals [x,y] us):∃u w',us=[u,w']/\RelV x u/\RelV y w':=by
 cases r with
 | cons r1 r2 =>
  cases r2 with
  | cons r3 r4=>cases r4;exact⟨_,_,rfl,r1,r3⟩
theorem Hz(hc:X.calm=true):gV X (.builtin "max") (λxs H Q=>∃i j,xs=[.int i,.int j]/\Q (.int (if j > i then j else i)) H):=by
 intro pins s σ H xs us Q I r h;obtain⟨i,j,rfl,q⟩:=h;obtain⟨u,w',rfl,⟨t,rfl⟩,⟨t',rfl⟩⟩:=vals2 r;refine max_two_ints (I.ok.hd hc) λh' tk k=>⟨_,H,I.kept k,?_,q⟩
 by_cases hj:j > i
 ·rw[yB hj,yB hj];exact⟨_,rfl⟩
 ·rw[yT hj,yT hj];exact⟨_,rfl⟩
def V5(K:W.Frag)(x:V)(H:Hp)(n:Nat):Prop :=
 match x with
 | .str y=>y.length<=sizeLine/\n=y.length
 | .byt y=>y.size<=sizeLine/\n=y.size
 | .ref p=>(∃xs,SqL K H p xs/\n=xs.length)\/∃xs,SqT K H p xs/\n=xs.length
 | _=>False
theorem Jy:gV X (.builtin "len") (λxs H Q=>∃x n,xs=[x]/\V5 X.K x H n/\Q (.int n) H):=by
 intro pins s σ H xs us Q I r h;obtain⟨x,n,rfl,e,q⟩:=h;obtain⟨u,rfl,rx⟩:=vals1 r;have hl:=Di;have hs:sizeLine=16777216:=sizeLine_eq;cases x with
 | str y =>
  obtain⟨t,rfl⟩:=rx;obtain⟨hy,e'⟩:y.length<=sizeLine/\n=y.length:=e;subst e';exact len_str (by lia) ⟨.int _,H,I.tok _,⟨_,rfl⟩,q⟩
 | byt y =>
  obtain⟨t,rfl⟩:=rx;obtain⟨hy,e'⟩:y.size<=sizeLine/\n=y.size:=e;subst e';exact W.len_bytes (by lia) ⟨.int _,H,I.tok _,⟨_,rfl⟩,q⟩
 | ref p =>
  cases rx;have e':(∃xs,SqL X.K H p xs/\n=xs.length)\/∃xs,SqT X.K H p xs/\n=xs.length:=e;rcases e' with⟨xs,hx,e'⟩|⟨xs,hx,e'⟩
  ·subst e';obtain⟨its,r',pl,hz⟩:=I.list hx;have hlen:=r'.length;exact Calls.call_len_list pl.isList (by simp only[List.size_toArray];lia) ⟨.int xs.length,H,I.tok _,⟨_,by simp only[List.size_toArray];rw[hlen]⟩,q⟩
  ·subst e';obtain⟨its,r',pl,hz⟩:=I.tuple hx;have hlen:=r'.length;exact len_tuple pl (by simp only[List.size_toArray];lia) ⟨.int xs.length,H,I.tok _,⟨_,by simp only[List.size_toArray];rw[hlen]⟩,q⟩
 | _=>exact(show False from e).elim
end
structure Dj(h:Heap)(x dx C:Addr)(mA:xC):Prop where
 obj:h.get? x=some (W.instObj C dx)
 ns:h.Ns1 dx mA
 ne:dx≠x
theorem kY{h:Heap}{dx:Addr}{mA:xC}(n:h.Ns1 dx mA):∃od,h.get? dx=some od/\∀name,W.lookIn name od=some (mA name):=by
 obtain⟨o,es,ep,ho,hd,hk,_,hm⟩:=n;refine⟨o,ho,λname=>?_⟩;have e:=hm name;unfold nsFind findBy at e;rw[<- Array.find?_toList] at e;unfold W.lookIn;rw[hd];dsimp only;split
 ·rename_i y q;rw[q] at e;exact gN some e
 ·rename_i q;rw[q] at e;have a:es.toList.any (·.refKey)=false:=by
   rw[List.any_eq_false];intro y hy;obtain⟨z,t,hkey⟩:=hk y (Array.mem_toList_iff.mp hy);simp[DictEntry.refKey,hkey]
  have a':¬ es.toList.any (·.refKey)=true:=by rw[a];exact vT
  rw[yT a'];exact gN some e
theorem Dj.look{h:Heap}{x dx C:Addr}{mA:xC}(I:Dj h x dx C mA):∃od,W.InstAt h x (W.instObj C dx) C (some od)/\∀name,W.lookIn name od=some (mA name) :=
 let ⟨od,ho,hl⟩:=kY I.ns
 ⟨od,⟨I.obj,rfl,rfl,ho⟩,hl⟩
section
variable{prog:Program}{w:World}{A:Around}{E:xB}{s:Shared}{K:W.Frag}{x dx C f:Addr}{mA:xC}{name:Str}{v:Value}
theorem get_map{expr:Bool}{Q:xB}(X:K.In s.heap)(I:Dj s.heap x dx C mA)(hg:W.plainGet K C name=true)(hh:W.hasDictIn K C=true)
  (ha:W.findIn K (.ref C) name=some none) (hv:mA name=some v) (hv':W.handedIn v=true) (h:Q v { s with toks:=s.toks+1 }) :
  wpAny (model prog w) A (getAttr (.ref x) name expr) Q E s:=by
 obtain⟨od,J,hl⟩:=I.look;exact W.get_value X J (W.plainGet_of hg).1 (W.findObj_own hh ha rfl (by rw[hl,hv])) hv' h
theorem Jz{pl:Sem Bool}{Q:Value×List Value->Shared->Prop}(X:K.In s.heap)(I:Dj s.heap x dx C mA)(hg:W.plainGet K C name=true)
  (hf:W.findIn K (.ref C) name=some (some (.ref f))) (ht:W.isFn K (.ref f)=true) (hv:mA name=none) (h:Q (.ref f,[.ref x]) s) :
  wpAny (model prog w) A (getMethod (.ref x) name pl) Q E s:=by
 obtain⟨od,J,hl⟩:=I.look;exact W.method_fn X J (W.plainGet_of hg).1 (W.plainGet_of hg).2 hf (beq_iff_eq.mp ht) (by show (W.lookIn name od).map (·.isSome)=some false;rw[hl,hv];rfl) h
theorem O1{ns:List Str}{Q:xA}(X:K.In s.heap)(I:Dj s.heap x dx C mA)
  (hs:W.findIn K (.ref C) "__setattr__" = some (some (.builtin "object.__setattr__"))) (hp:W.plainOver K C=true) (ht:W.takerIn K C name=some none) (hh:W.hasDictIn K C=true)
  (hw:PySem.Within mA ns) (hsz:ns.length<=sizeLine)
  (h:∀h',Dj h' x dx C (λy=>if y=name then some v else mA y)->Heap.SameBut dx s.heap h'->Q () { s with heap:=h',toks:=s.toks+2 }) :
  wpAny (model prog w) A (setAttr (.ref x) name v) Q E s:=by
 obtain⟨od,J,hl⟩:=I.look;refine W.set_plain X J hs (W.osa_open (s:={ s with toks:=s.toks+1 }) (r:=none) X J hp ht λb=>?_)
 obtain⟨cd,hc,hd'⟩:=W.any_some hh;have hx:s.heap.get? x=some ⟨.ref C,some dx,.plain,#[]⟩:=I.obj;refine zI (oB (zI (zI (wpAny_loadPart hx (zI (W.Looks.here (s:={ s with toks:=s.toks+1 }) (W.looks_clsIn X hc) ?_))))))
 rw[hd'];refine oB (a:=some dx) (zI (oB (zI ?_)));refine wpAny_nsSet1 (s:={ s with toks:=s.toks+1 }) I.ns λh' hn2 hs2=>?_
 obtain⟨oD,esD,epD,hoD,hdD,hcD⟩:=hn2.count (PySem.Within.cons name v hw);refine zI (wpAny_lookBehind hoD (by rw[hdD];exact pastItsLine_dict (oC hcD (by rw[zzD];lia))) ?_);exact oB (h _ ⟨(hs2.2 _ (Ne.symm I.ne)).trans I.obj,hn2,I.ne⟩ hs2)
theorem JB{R:Result->Shared->Prop}{vs:xF}{kw:List (Str×Value)}(X:K.In s.heap)(hm:W.makesIn K C=true)
  (hi:W.findIn K (.ref C) "__init__" = some (some (.ref f))) (hf:W.typeIn K (.ref f)=some (.type "function"))
  (h:codeAny (model prog w) (A.under (.builtin "type.__call__" ⟨.ref C::vs,kw⟩)) (.call (.ref f) ⟨.ref (s.heap.objs.size+1)::vs,kw⟩) (W.InitBack (s.heap.objs.size+1) R)
   { s with heap:=(s.heap.push W.emptyDict).push (W.instObj C s.heap.objs.size) }) :
  codeAny (model prog w) A (.call (.ref C) ⟨vs,kw⟩) R s:=by
 obtain⟨hh,g,d,t,os⟩:=s;exact W.make_core (W.makes_of X hm) (W.looks_findIn X hi) (λself=>W.bind_fn X self hf) (.inl rfl) h
end
def fL(f:Str)(v:V):List (Str×V)->List (Str×V)
 | []=>[(f,v)]
 | (g,x)::r=>if g=f then (g,v)::r else (g,x)::fL f v r
theorem cQ(f g:Str)(v:V):∀fs:List (Str×V),(fL f v fs).lookup g=if g=f then some v else fs.lookup g
 | []=>by
  show List.lookup g [(f,v)]=_;by_cases h:g=f
  ·have hb:(g==f)=true:=beq_iff_eq.mpr h;simp only[List.lookup,hb,if_pos h]
  ·have hb:(g==f)=false:=beq_eq_false_iff_ne.mpr h;simp only[List.lookup,hb,if_neg h]
 | (k,x)::r=>by
  have ih:=cQ f g v r;rw[show fL f v ((k,x)::r)=(if k=f then (k,v)::r else (k,x)::fL f v r) from rfl];by_cases hk:k=f
  ·rw[yB hk];by_cases h:g=k
   ·have hb:(g==k)=true:=beq_iff_eq.mpr h;simp only[List.lookup,hb,if_pos (h.trans hk)]
   ·have hb:(g==k)=false:=beq_eq_false_iff_ne.mpr h;simp only[List.lookup,hb,if_neg (λe:g=f=>h (e.trans hk.symm))]
  ·rw[yT hk];by_cases h:g=k
   ·have hb:(g==k)=true:=beq_iff_eq.mpr h;simp only[List.lookup,hb,if_neg (λe:g=f=>hk (h.symm.trans e))]
   ·have hb:(g==k)=false:=beq_eq_false_iff_ne.mpr h;simp only[List.lookup,hb];exact ih
theorem je(f:Str)(v:V):∀fs:List (Str×V),f∈(fL f v fs).map (·.1)/\∀g,g∈fs.map (·.1)->g∈(fL f v fs).map (·.1)
 | []=>⟨by simp[fL],λg h=>by simp at h⟩
 | (k,x)::r=>by
  obtain⟨i1,i2⟩:=je f v r;rw[show fL f v ((k,x)::r)=(if k=f then (k,v)::r else (k,x)::fL f v r) from rfl];by_cases hk:k=f
  ·rw[yB hk];subst hk;exact⟨by simp,λg h=>by simpa using h⟩
  ·rw[yT hk];refine⟨?_,λg h=>?_⟩
   ·rw[nI];exact zD _ i1
   ·rw[nI] at h ⊢;rcases jS.mp h with e|e
    ·exact jS.mpr (.inl e)
    ·exact zD _ (i2 g e)
theorem jR(f:Str)(v:V):∀fs:List (Str×V),(fL f v fs).length<=fs.length+1
 | []=>by simp[fL]
 | (k,x)::r=>by
  have ih:=jR f v r;rw[show fL f v ((k,x)::r)=(if k=f then (k,v)::r else (k,x)::fL f v r) from rfl];by_cases hk:k=f
  ·rw[yB hk,zzD,zzD];lia
  ·rw[yT hk,zzD,zzD];lia
theorem ju.some_of{v:V}{o:Option Value}(r:ju (some v) o):∃u,o=some u/\RelV v u:=by
 cases o with
 | none=>exact(show False from r).elim
 | some u=>exact⟨u,rfl,r⟩
theorem ju.none_of{o:Option Value}(r:ju none o):o=none:=by
 cases o with
 | none=>rfl
 | some u=>exact(show False from r).elim
theorem vd{v:V}{u:Value}(r:RelV v u):W.handedIn u=true:=by
 cases v with
 | non=>cases (show u=Value.none from r);rfl
 | bl b=>cases (show u=Value.bool b from r);rfl
 | int i=>obtain⟨t,e⟩:=(show ∃t,u=Value.int i t from r);cases e;rfl
 | str x=>obtain⟨t,e⟩:=(show ∃t,u=Value.str x t from r);cases e;rfl
 | byt b=>obtain⟨t,e⟩:=(show ∃t,u=Value.bytes b t from r);cases e;rfl
 | flt b=>obtain⟨t,e⟩:=(show ∃t,u=Value.float b t from r);cases e;rfl
 | ref a=>cases (show u=Value.ref a from r);rfl
 | ty n=>cases (show u=Value.type n from r);rfl
section
variable{P:Program}{w:World}{H:Hp}{h:Heap}{a C dx:Addr}{fs:List (Str×V)}
theorem qG(hok:HOk P w H h)(e:H a=some (.ins C dx fs)):∃mA,Dj h a dx C mA/\(∀f,ju (fs.lookup f) (mA f))/\PySem.Within mA (fs.map (·.1))/\fs.length<=1000/\H dx=some (.own a):=by
 obtain⟨d,z,ne,ob,mA,n,r,q⟩:=(show cH P w H h a (.ins C dx fs) from hok a _ e);exact⟨mA,⟨ob,n,ne⟩,r,q,z,d⟩
end
structure Cls(K:W.Frag)(C:Addr):Prop where
 pg:W.plainGet K C Str.empty=true
 hd:W.hasDictIn K C=true
 po:W.plainOver K C=true
 sa:W.findIn K (.ref C) "__setattr__" = some (some (.builtin "object.__setattr__"))
theorem Cls.get{K:W.Frag}{C:Addr}(c:Cls K C)(f:Str):W.plainGet K C f=true:=c.pg
def cX(K:W.Frag)(C:Addr)(f:Str):Prop:=W.findIn K (.ref C) f=some none
theorem cX.taker{K:W.Frag}{C:Addr}{f:Str}(n:cX K C f):W.takerIn K C f=some none:=by
 unfold W.takerIn;rw[show W.findIn K (.ref C) f=some none from n]
 rfl
structure Meth(K:W.Frag)(C:Addr)(m:Str)(f:Addr):Prop where
 at_:W.findIn K (.ref C) m=some (some (.ref f))
 fn:W.isFn K (.ref f)=true
 kp:W.keepIn K (.ref f)=true
section
variable{X:Cx}{pins:List (Addr×Obj)}{σ:St}{H:Hp}{s:Shared}{a C dx:Addr}{fs:List (Str×V)}{f:Str}{v:V}{A:Around}{E:xB}
theorem Dk{b:Bool}{Q:xB}(I:Inv X pins σ H s)(e:H a=some (.ins C dx fs))(c:Cls X.K C)(n:cX X.K C f)(l:fs.lookup f=some v)
  (h:∀u s',Inv X pins σ H s'->RelV v u->Q u s'):wpAny (model X.prog X.w) A (getAttr (.ref a) f b) Q E s:=by
 obtain⟨mA,O,r,_,_,_⟩:=qG I.hok e;obtain⟨u,hu,ru⟩:=ju.some_of (v:=v) (o:=mA f) (by rw[<- l];exact r f);exact get_map I.kIn O (c.get f) c.hd n hu (vd ru) (h u _ (I.tok _) ru)
theorem mC{m:Str}{g:Addr}{pl:Sem Bool}{Q:Value×List Value->Shared->Prop}(I:Inv X pins σ H s)(e:H a=some (.ins C dx fs))(c:Cls X.K C)(k:Meth X.K C m g)(l:fs.lookup m=none)
  (h:Q (.ref g,[.ref a]) s):wpAny (model X.prog X.w) A (getMethod (.ref a) m pl) Q E s:=by
 obtain⟨mA,O,r,_,_,_⟩:=qG I.hok e;have hn:mA m=none:=ju.none_of (by rw[<- l];exact r m);exact Jz I.kIn O (c.get m) k.at_ k.fn hn h
theorem Dl{y:V}{u:Value}{Q:xA}(I:Inv X pins σ H s)(e:H a=some (.ins C dx fs))(c:Cls X.K C)(n:cX X.K C f)(hl:fs.length<1000)(ry:RelV y u)
  (h:∀s',Inv X pins σ (upd H a (.ins C dx (fL f y fs))) s'->Q () s'):wpAny (model X.prog X.w) A (setAttr (.ref a) f u) Q E s:=by
 obtain⟨mA,O,r,wi,_,ho⟩:=qG I.hok e;have hz:(fs.map (·.1)).length<=sizeLine:=by rw[wS,sizeLine_eq];lia
 refine O1 I.kIn O c.sa c.po n.taker c.hd wi hz λh' O' sb=>h _ ?_
 have hd:∃o,h'.get? dx=some o:=let ⟨o,_,_,e',_⟩:=O'.ns;⟨o,e'⟩
 refine I.write (x:=a) (e:=dx) (by rw[e];exact True.intro) (.inr ho) (λb q hb z=>(sb.2 b hb).trans z) hd ?_;refine⟨by rw[bf O.ne];exact ho,?_,O.ne,O'.obj,_,O'.ns,λg=>?_,λg hg=>?_⟩
 ·have:=jR f y fs;lia
 ·show ju ((fL f y fs).lookup g) (if g=f then some u else mA g);rw[cQ];by_cases q:g=f
  ·rw[yB q,yB q];exact ry
  ·rw[yT q,yT q];exact r g
 ·by_cases q:g=f
  ·rw[q];exact(je f y fs).1
  ·refine(je f y fs).2 g (wi g λz=>hg ?_);show (if g=f then some u else mA g)=none;rw[yT q];exact z
theorem Inv.made(I:Inv X pins σ H s):Inv X pins σ (upd (upd H s.heap.objs.size (.own (s.heap.objs.size+1))) (s.heap.objs.size+1) (.ins C s.heap.objs.size []))
  { s with heap:=(s.heap.push W.emptyDict).push (W.instObj C s.heap.objs.size) }:=by
 have e1:(s.heap.push W.emptyDict).get? s.heap.objs.size=some W.emptyDict:=oS s.heap rfl;have e2:((s.heap.push W.emptyDict).push (W.instObj C s.heap.objs.size)).get? (s.heap.objs.size+1)=some (W.instObj C s.heap.objs.size):=by
  have:=oS (s.heap.push W.emptyDict) (o:=W.instObj C s.heap.objs.size) rfl
  rwa [Heap.size_push] at this
 have e3:(s.heap.push W.emptyDict).Ns s.heap.objs.size (λ_=>none):=⟨W.emptyDict,#[],_,e1,rfl,(λe he=>absurd he (by simp)),λ_=>rfl⟩;have I1:=I.laid (a:=s.heap.objs.size) (o:=.own (s.heap.objs.size+1)) (h':=s.heap.push W.emptyDict) (t':=s.toks) (λb u q=>uS _ q) (rS _) ⟨_,e1⟩;refine I1.laid (a:=s.heap.objs.size+1) (o:=.ins C s.heap.objs.size []) (t':=s.toks) (λb u q=>uS _ q) (Nat.le_of_eq (Heap.size_push _ _)) ?_;have ne:s.heap.objs.size≠s.heap.objs.size+1:=gE (Nat.lt_succ_self _);refine⟨by rw[bf ne,bx],Nat.zero_le _,ne,e2,λ_=>none,(Heap.Ns1.of_empty e3).at λo q=>uS _ q,λ_=>True.intro,λy hy=>gS rfl hy⟩
theorem Eu{prog:Program}{w:World}{env:Env}{e:Expr}{f:Str}{pos:Pos}{s:Shared}{Q:xB}(hb:attributeBase e f env (eval e env)=eval e env)
  (h:wpAny (model prog w) A (eval e env) (λo s₁=>wpAny (model prog w) A (getAttr o f true) Q E s₁) E s):wpAny (model prog w) A (eval (.Attribute e f pos) env) Q E s :=
 Attribute_any_ h (by rw[arm_eval_Attribute,hb])
end
def S7(K:W.Frag)(ta:TE)(f:Str):TE:=λσ H Q=>ta σ H λx H1=>∃a C dx fs v,x=.ref a/\H1 a=some (.ins C dx fs)/\Cls K C/\cX K C f/\fs.lookup f=some v/\Q v H1
def S8(K:W.Frag)(ta tv:TE)(f:Str):TS:=λD σ H=>tv σ H λy H1=>ta σ H1 λx H2=>∃a C dx fs,x=.ref a/\H2 a=some (.ins C dx fs)/\Cls K C/\cX K C f/\fs.length<1000 /\
 D.nx σ (upd H2 a (.ins C dx (fL f y fs)))
section
variable{X:Cx}{o e value:Expr}{f:Str}{pos pos':Pos}{ta tv:TE}
theorem gH(he:PE X e ta)(hb:attributeBase e f X.env (eval e X.env)=eval e X.env):PE X (.Attribute e f pos) (S7 X.K ta f):=by
 intro pins s σ H Q I h;refine Eu hb (thn (he pins s σ H _ I h) λu s1 ⟨x,H1,I1,rx,a,C,dx,fs,v,ex,ea,c,n,l,q⟩=>?_);subst ex;obtain rfl:u=Value.ref a:=rx;exact Dk I1 ea c n l λu' s2 I2 ru=>⟨v,H1,I2,ru,q⟩
theorem Dm(ha:PE X o ta)(hv:PE X value tv)(hs:swapsWith value (some (.Attribute o f pos')) pos.line X.env=pure false):PS X (.Assign [.Attribute o f pos'] value pos) (S8 X.K ta tv f):=by
 intro pins s σ H D I h;refine plainObj_wpAny_Assign_Attribute (thn (hv pins s σ H _ I h) λu s1 ⟨y,H1,I1,ry,q⟩=>thn (ha pins s1 σ H1 _ I1 q) λov s2 ⟨x,H2,I2,rx,a,C,dx,fs,ex,ea,c,n,l,q2⟩=>?_) hs;subst ex;obtain rfl:ov=Value.ref a:=rx;exact Dl I2 ea c n l ry λs3 I3=>⟨σ,_,I3,q2⟩
end
section
variable{X:Cx}{pins:List (Addr×Obj)}{σ:St}{H:Hp}{s:Shared}{A:Around}{E:xB}{Q:xB}{c:Value}{b:Bool}
inductive dN(K:W.Frag)(H:Hp):V->Value->Prop where
 | non:dN K H .non (.type "NoneType")
 | bl (x:Bool):dN K H (.bl x) (.type "bool")
 | int (i:Int):dN K H (.int i) (.type "int")
 | str (x:Str):dN K H (.str x) (.type "str")
 | flt (x:UInt64):dN K H (.flt x) (.type "float")
 | lst {a:Addr} {xs:List V} (e:H a=some (.lst xs)):dN K H (.ref a) (.type "list")
 | frz {a:Addr} {o:Obj} {xs:List V} (e:H a=some (.frz o (.lst xs))):dN K H (.ref a) (.type "list")
 | tup {a:Addr} {xs:List V} (e:H a=some (.tup xs)):dN K H (.ref a) (.type "tuple")
 | dK {a:Addr} {kvs:List (Key×V)} (e:H a=some (.dK kvs)):dN K H (.ref a) (.type "dict")
 | dT {a:Addr} {kvs:List (List Key×V)} (e:H a=some (.dT kvs)):dN K H (.ref a) (.type "dict")
 | ins {a C dx:Addr} {fs:List (Str×V)} (e:H a=some (.ins C dx fs)) (cl:Cls K C) (ha:W.findIn K (.ref C) "__class__" = some (some (.builtin "object.__class__")))
   (hn:W.specialIn K (.builtin "object.__class__") "__get__" = some (some (.builtin "getset_descriptor.__get__"))) (htk:W.takesIn K (.builtin "object.__class__")=some true)
   (hm:W.mroIn K C (.type "object")=some true):dN K H (.ref a) (.ref C)
theorem vf{x:V}{u t:Value}(I:Inv X pins σ H s)(rx:RelV x u)(ty:dN X.K H x t)(e:W.kitOne X.K t c=some b)(h:∀tk,Q (.bool b) { s with toks:=tk }) :
  wpAny (model X.prog X.w) A (call (.builtin "isinstance") [u,c]) Q E s:=by
 cases ty with
 | non=>cases (show u=Value.none from rx);exact W.kia_one W.kitx_none I.kIn True.intro e (λz=>nomatch z) h
 | bl y=>cases (show u=Value.bool y from rx);exact W.kia_one W.kitx_bool I.kIn True.intro e (λz=>nomatch z) h
 | int i=>obtain⟨t,q⟩:=(show ∃t,u=Value.int i t from rx);cases q;exact W.kia_one W.kitx_int I.kIn True.intro e (λz=>nomatch z) h
 | str y=>obtain⟨t,q⟩:=(show ∃t,u=Value.str y t from rx);cases q;exact W.kia_one W.kitx_str I.kIn True.intro e (λz=>nomatch z) h
 | flt y=>obtain⟨t,q⟩:=(show ∃t,u=Value.float y t from rx);cases q;exact W.kia_one W.kitx_float I.kIn True.intro e (λz=>nomatch z) h
 | @lst a xs ea =>
  cases (show u=Value.ref a from rx);obtain⟨_,_,n,_,h1⟩:=(show cH X.prog X.w H s.heap a (.lst xs) from I.hok a _ ea);exact W.kia_one W.kitx_list I.kIn ⟨_,h1,rfl⟩ e (λz=>nomatch z) h
 | @frz a ob xs ea =>
  cases (show u=Value.ref a from rx);obtain⟨_,_,_,n,_,h1⟩:=(show cH X.prog X.w H s.heap a (.frz ob (.lst xs)) from I.hok a _ ea);exact W.kia_one W.kitx_list I.kIn ⟨_,h1,rfl⟩ e (λz=>nomatch z) h
 | @tup a xs ea =>
  cases (show u=Value.ref a from rx);obtain⟨_,_,_,p⟩:=(show cH X.prog X.w H s.heap a (.tup xs) from I.hok a _ ea);obtain⟨o,h1,h2,_⟩:=p;exact W.kia_one W.kitx_tuple I.kIn ⟨o,h1,h2⟩ e (λz=>nomatch z) h
 | @dK a kvs ea =>
  cases (show u=Value.ref a from rx);obtain⟨_,_,vs,_,p⟩:=(show cH X.prog X.w H s.heap a (.dK kvs) from I.hok a _ ea);obtain⟨o,es,ep,h1,h2,_⟩:=p;exact W.kia_one W.kitx_dict I.kIn ⟨o,h1,h2.1⟩ e (λz=>nomatch z) h
 | @dT a kvs ea =>
  cases (show u=Value.ref a from rx);obtain⟨_,_,xs,_,o,es,ep,h1,h2,_⟩:=(show cH X.prog X.w H s.heap a (.dT kvs) from I.hok a _ ea);exact W.kia_one W.kitx_dict I.kIn ⟨o,h1,h2.1⟩ e (λz=>nomatch z) h
 | @ins a C dx fs ea cl ha hn htk hm =>
  cases (show u=Value.ref a from rx);obtain⟨mA,O,_⟩:=qG I.hok ea;obtain⟨od,J,_⟩:=O.look;exact W.kia_one (W.kitx_own (cl.get _) cl.hd ha hn htk hm) I.kIn J e (λz=>nomatch z) h
end
structure Room(k:Nat)(A:Around):Prop where
 hd:A.handled=none
 dp:A.depth+3*k+5<recursionLimit
 un:A.units+16*k+200<cLine
 gd:A.guards=some []
theorem Room.mono{j k:Nat}{A:Around}(r:Room k A)(h:j<=k):Room j A:=⟨r.hd,by have:=r.dp;lia,by have:=r.un;lia,r.gd⟩
theorem Room.deeper{k:Nat}{A:Around}(r:Room (k+1) A)(env:Env):Room k (A.deeper env) :=
 ⟨r.hd,by have:=r.dp;show A.depth+1+3*k+5<_;lia,by have:=r.un;show A.units+3+16*k+200<_;lia,r.gd⟩
theorem Dn{A:Around}{C:Addr}{us:xF}{kw:List (Str×Value)}:(A.under (.builtin "type.__call__" ⟨.ref C::us,kw⟩)).depth=A.depth+1:=by
 first|rfl|simp[Around.under,Code.weight,Code.isCreation,Code.isGuard,Code.isCaller,Code.frames,Code.isFrame,guardIds]
theorem Dp{A:Around}{C:Addr}{us:xF}{kw:List (Str×Value)}:(A.under (.builtin "type.__call__" ⟨.ref C::us,kw⟩)).units=A.units+1:=by
 first|rfl|simp[Around.under,Code.cUnits,Code.frames,Code.isFrame]
theorem Room.make{k:Nat}{A:Around}(r:Room (k+1) A)(C:Addr)(us:xF)(kw:List (Str×Value)):Room k (A.under (.builtin "type.__call__" ⟨.ref C::us,kw⟩)) :=
 ⟨r.hd,by have:=r.dp;rw[Dn];lia,by have:=r.un;rw[Dp];lia,by first|exact r.gd|(simp[Around.under,Code.guards,Code.isGuard,guardIds,pushGuards];exact r.gd)⟩
theorem Room.depth{k:Nat}{A:Around}(r:Room k A):A.depth<recursionLimit:=by have:=r.dp;lia
def xX:TA:=λ_ H Q=>Q [] H
def rC(ta:TE)(tr:TA):TA:=λσ H Q=>ta σ H λx H1=>tr σ H1 λxs H2=>Q (x::xs) H2
section
variable{X:Cx}{e:Expr}{es:List Expr}{te:TE}{t:TA}{pos:Pos}
theorem ao:PA X [] xX:=λ_ _ _ _ H Q I h=>Calls.spliced_nil ⟨[],H,I,.nil,h⟩
theorem aj(ha:PE X e te)(hr:PA X es t)(hs:starEach (e::es) X.env=(false,eval e X.env)::starEach es X.env:=by rfl):PA X (e::es) (rC te t):=by
 intro pos pins s σ H Q I h;rw[hs];show wpAny _ _ (spliced ((false,eval e X.env)::backTo pos (starEach es X.env))) _ _ s;refine Calls.spliced_cons (thn (ha pins s σ H _ I h) λu s1 ⟨x,H1,I1,r1,q1⟩=>?_);exact thn (hr pos pins s1 σ H1 _ I1 q1) λus s2 ⟨xs,H2,I2,r2,q2⟩=>⟨x::xs,H2,I2,.cons r1 r2,q2⟩
end
abbrev Sp:=List V->Hp->VK->XK->Prop
abbrev CXT:=List Env->Hp->Shared->XK->Value->Shared->Prop
structure xY(P:Program)(w:World)(K:W.Frag)(mg:xC)(base:Heap)(A:Around)(outer:List Env)(s:Shared)(H:Hp):Prop where
 frames:A.frames=some outer
 mod:Mod K mg base
 bs:∀b o,base.get? b=some o->s.heap.get? b=some o/\H b=none
 bsz:base.objs.size<=s.heap.objs.size
 jK:s.heap.FunFrames base outer
 frf:∀b∈frs outer,H b=none
 hok:HOk P w H s.heap
 bare:AllBare s.gens
def CE(outer:List Env)(P:Program)(w:World)(H:Hp)(s:Shared)(Q:VK)(u:Value)(s':Shared):Prop :=
 ∃v H',s'.os=s.os/\AllBare s'.gens/\Un (frs outer) [] H H' s.heap s'.heap/\HOk P w H' s'.heap/\RelV v u/\Q v H'
def CR(CX:CXT)(outer:List Env)(P:Program)(w:World)(H:Hp)(s:Shared)(Q:VK)(E:XK)(r:Result)(s':Shared):Prop :=
 match r with
 | .ok (.ret u)=>CE outer P w H s Q u s'
 | .ok _=>False
 | .error e=>CX outer H s E e s'
structure f9(P:Program)(w:World)(K:W.Frag)(mg:xC)(base:Heap)(CX:CXT)(k:Nat)(f:Addr)(fd:FuncData)(ps:List Str)(sp:Sp):Prop where
 len:∀vs H Q E,sp vs H Q E->vs.length=ps.length
 run:∀(A:Around)(outer:List Env)(s:Shared)(H:Hp)(args:Args)(us:xF)(vs:List V)(Q:VK)(E:XK),Room k A->xY P w K mg base A outer s H->BindsTo s fd args (ps.zip us)->Vals vs us->sp vs H Q E ->
  codeAny (model P w) A (.call (.ref f) args) (CR CX outer P w H s Q E) s
theorem f9.mono{P:Program}{w:World}{K:W.Frag}{mg:xC}{base:Heap}{CX:CXT}{j k:Nat}{f:Addr}{fd:FuncData}{ps:List Str}{sp:Sp}(F:f9 P w K mg base CX j f fd ps sp)(h:j<=k) :
  f9 P w K mg base CX k f fd ps sp:=⟨F.len,λA outer s H args us vs Q E hr=>F.run A outer s H args us vs Q E (hr.mono h)⟩
theorem xY.make{P:Program}{w:World}{K:W.Frag}{mg:xC}{base:Heap}{A:Around}{outer:List Env}{s:Shared}{H:Hp}(e:xY P w K mg base A outer s H)(C:Addr)(us:xF)(kw:List (Str×Value)) :
  xY P w K mg base (A.under (.builtin "type.__call__" ⟨.ref C::us,kw⟩)) outer s H:=⟨by first|exact e.frames|(simpa[Around.under,Code.envs,Code.isFrame,pushEnvs] using e.frames),e.mod,e.bs,e.bsz,e.jK,e.frf,e.hok,e.bare⟩
section
variable{X:Cx}{pins:List (Addr×Obj)}{σ:St}{H:Hp}{s s':Shared}
theorem Inv.env0(I:Inv X pins σ H s):xY X.prog X.w X.K X.mg X.base X.A X.stack s H :=
 ⟨I.ok.frames,I.ok.mod,I.bs,oC I.ok.bsz I.sz,I.stack,I.mZ,I.hok,I.bare⟩
theorem Inv.after{Q:VK}{u:Value}(I:Inv X pins σ H s)(h:CE X.stack X.prog X.w H s Q u s'):EP X pins σ Q u s':=by
 obtain⟨v,H',os,bare,un,hok,r,q⟩:=h;obtain⟨hh,g,d,t,os'⟩:=s';obtain rfl:os'=s.os:=os;exact⟨v,H',I.call (h':=hh) (g':=g) (d':=d) (t':=t) (ch:=[]) un hok bare (λb z=>absurd z (by simp)),r,q⟩
end
def rD(sp:Sp)(dvs:List V)(E:XK)(t:TA):TE:=λσ H Q=>t σ H λvs H1=>sp (vs++dvs) H1 Q E
def vg(C:Addr)(m:Str)(sp:Sp)(dvs:List V)(E:XK)(ta:TE)(t:TA):TE:=λσ H Q=>ta σ H λx H1=>∃a dx fs,x=.ref a/\H1 a=some (.ins C dx fs)/\fs.lookup m=none /\
 t σ H1 λvs H2=>sp (x::(vs++dvs)) H2 Q E
def Binds(K:W.Frag)(fd:FuncData)(ps:List Str)(ds:xF):Prop :=
 ∀(s:Shared)(us:xF),K.In s.heap->(us++ds).length=ps.length->BindsTo s fd ⟨us,[]⟩ (ps.zip (us++ds))
theorem Binds.all{K:W.Frag}{fd:FuncData}{ps:List Str}(h:∀us:List Value,us.length=ps.length->bindArgs fd ⟨us,[]⟩=pure (ps.zip us)):Binds K fd ps []:=λs us _ hl=>by
 rw[mP] at hl ⊢;exact .of_eq (h us hl)
def Passes(CX:CXT)(X:Cx)(E:XK):Prop:=∀(pins:List (Addr×Obj)) (σ:St) (H:Hp) (s:Shared) (e:Value) (s':Shared),Inv X pins σ H s->CX X.stack H s E e s'->X.xe e s'
section
variable{X:Cx}{CX:CXT}{k:Nat}{f C:Addr}{fd:FuncData}{ps:List Str}{sp:Sp}{dvs:List V}{ds:xF}{E:XK}{x m:Str}{p pos apos:Pos}{e o:Expr}{es:List Expr}{ta:TE}{t:TA}
theorem xZ{pins:List (Addr×Obj)}{σ:St}{H:Hp}{s:Shared}{Q:VK}{us:xF}{vs:List V}(F:f9 X.prog X.w X.K X.mg X.base CX k f fd ps sp)(hr:Room k X.A)(hb:Binds X.K fd ps ds)(hd:Vals dvs ds)(hx:Passes CX X E)
  (I:Inv X pins σ H s) (r:Vals vs us) (h:sp (vs++dvs) H Q E):wpAny (model X.prog X.w) X.A (call (.ref f) us) (EP X pins σ Q) X.xe s:=by
 have r2:Vals (vs++dvs) (us++ds):=r.append hd;have hl:(us++ds).length=ps.length:=by rw[<- r2.length];exact F.len _ _ _ _ h
 refine wpAny_call (codeAny_mono (F.run X.A X.stack s H ⟨us,[]⟩ (us++ds) (vs++dvs) Q E hr I.env0 (hb s us I.kIn hl) r2 h) λr s' hq=>?_);cases r with
 | error e=>exact hx pins σ H s e s' I hq
 | ok fl =>
  cases fl with
  | ret u=>exact I.after hq
  | next=>exact False.elim hq
  | brk=>exact False.elim hq
  | cont=>exact False.elim hq
theorem O2(F:f9 X.prog X.w X.K X.mg X.base CX k f fd ps sp)(hr:Room k X.A)(hg:Gl X x)(hm:X.mg x=some (.ref f))(hk:W.keepIn X.K (.ref f)=true)(hb:Binds X.K fd ps ds)(hd:Vals dvs ds)(hx:Passes CX X E)
  (ha:PA X (e::es) t) (hdb:(x==("__debug__" : Str))=false:=by decide) (he:starEach (e::es) X.env=(false,eval e X.env)::starEach es X.env:=by rfl) (hpl:(backTo pos (starEach es X.env)).any (·.1)=false:=by rfl) :
  PE X (.Call (.Name x p) (e::es) [] pos) (rD sp dvs E t):=by
 intro pins s σ H Q I h;refine wpAny_Call_Name_kw (kO I hg hm ?_ hdb);refine W.callWith_K (h₀:=X.base) I.ok.mod.kin hk (thn (ha pos pins s σ H _ I h) λus s1 ⟨vs,H1,I1,r,q⟩=>⟨I1.kIn,?_⟩) he hpl;exact xZ F hr hb hd hx I1 r q
theorem O3{pl:Sem Bool}(he:PE X o ta)(c:Cls X.K C)(hm:Meth X.K C m f)(F:f9 X.prog X.w X.K X.mg X.base CX k f fd ps sp)(hr:Room k X.A)(hb:Binds X.K fd ps ds)(hd:Vals dvs ds)(hx:Passes CX X E)(ha:PA X (e::es) t)
  (hst:starEach (e::es) X.env=(false,eval e X.env)::starEach es X.env:=by rfl) (hpl:(backTo pos (starEach es X.env)).any (·.1)=false:=by rfl)
  (ht:eval (.Call (.Attribute o m apos) (e::es) [] pos) X.env=(do
   let ov <- eval o X.env
   standAt apos.atName
   let (f,first) <- holding [ov] (getMethod ov m pl)
   callWith pos f first (backTo pos (starEach (e::es) X.env)) (backToKw pos (keywordEach [] X.env))):=by rfl) :
  PE X (.Call (.Attribute o m apos) (e::es) [] pos) (vg C m sp dvs E ta t):=by
 intro pins s σ H Q I h;refine W.methodCall_KW (pl:=pl) (thn (he pins s σ H _ I h) λu s1 ⟨x,H1,I1,rx,a,dx,fs,ex,ea,l,q⟩=>?_) ht;subst ex;obtain rfl:u=Value.ref a:=rx;refine mC I1 ea c hm l ?_;refine W.callWith_K (first:=[.ref a]) (h₀:=X.base) I.ok.mod.kin hm.kp (thn (ha pos pins s1 σ H1 _ I1 q) λus s2 ⟨vs,H2,I2,r,q2⟩=>⟨I2.kIn,?_⟩) hst hpl;exact xZ (us:=.ref a::us) (vs:=.ref a::vs) F hr hb hd hx I2 (.cons rfl r) q2
theorem JC{pl:Sem Bool}(he:PE X o ta)(c:Cls X.K C)(hm:Meth X.K C m f)(F:f9 X.prog X.w X.K X.mg X.base CX k f fd ps sp)(hr:Room k X.A)(hb:Binds X.K fd ps ds)(hd:Vals dvs ds)(hx:Passes CX X E)
  (ht:eval (.Call (.Attribute o m apos) [] [] pos) X.env=(do
   let ov <- eval o X.env
   standAt apos.atName
   let (f,first) <- holding [ov] (getMethod ov m pl)
   callWith pos f first (backTo pos (starEach [] X.env)) (backToKw pos (keywordEach [] X.env))):=by rfl) :
  PE X (.Call (.Attribute o m apos) [] [] pos) (vg C m sp dvs E ta xX):=by
 intro pins s σ H Q I h;refine W.methodCall_KW (pl:=pl) (thn (he pins s σ H _ I h) λu s1 ⟨x,H1,I1,rx,a,dx,fs,ex,ea,l,q⟩=>?_) ht;subst ex;obtain rfl:u=Value.ref a:=rx;refine mC I1 ea c hm l ?_;exact W.callWith_K0 (first:=[.ref a]) I1.kIn hm.kp (xZ (us:=[.ref a]) (vs:=[.ref a]) F hr hb hd hx I1 (.cons rfl .nil) q)
structure Mk(K:W.Frag)(C f:Addr):Prop where
 makes:W.makesIn K C=true
 init:W.findIn K (.ref C) "__init__" = some (some (.ref f))
 fn:W.isFn K (.ref f)=true
 kp:W.keepIn K (.ref C)=true
theorem JD{pins:List (Addr×Obj)}{σ:St}{H:Hp}{s:Shared}{Q:VK}{us:xF}{vs:List V}(M:Mk X.K C f)(F:f9 X.prog X.w X.K X.mg X.base CX k f fd ps sp)(hr:Room (k+1) X.A)(hb:Binds X.K fd ps ds)(hd:Vals dvs ds)
  (hx:Passes CX X E) (I:Inv X pins σ H s) (r:Vals vs us)
  (h:∀x dx,H x=none->H dx=none->dx≠x->sp (.ref x::(vs++dvs)) (upd (upd H dx (.own x)) x (.ins C dx [])) (λv H2=>v=.non/\Q (.ref x) H2) E) :
  wpAny (model X.prog X.w) X.A (call (.ref C) us) (EP X pins σ Q) X.xe s:=by
 have hq:=h (s.heap.objs.size+1) s.heap.objs.size (I.hok.fresh (Nat.le_succ _)) (I.hok.fresh (rS _)) (gE (Nat.lt_succ_self _));have I2:=Inv.made (C:=C) I;have r2:Vals (V.ref (s.heap.objs.size+1)::(vs++dvs)) (Value.ref (s.heap.objs.size+1)::(us++ds)):=.cons rfl (r.append hd);have hl:(Value.ref (s.heap.objs.size+1)::us++ds).length=ps.length:=by
  have e:=r2.length;rw[F.len _ _ _ _ hq] at e;exact e.symm
 refine wpAny_call (JB (f:=f) I.kIn M.makes M.init (beq_iff_eq.mp M.fn) (codeAny_mono (F.run _ X.stack _ _ ⟨Value.ref (s.heap.objs.size+1)::us,[]⟩ (Value.ref (s.heap.objs.size+1)::(us++ds)) _ _ E (hr.make C us [])
  (I2.env0.make C us []) (hb _ (Value.ref (s.heap.objs.size+1)::us) I2.kIn hl) r2 hq) λr s' hq'=>?_))
 cases r with
 | error e=>exact hx pins σ _ _ e s' I2 hq'
 | ok fl =>
  cases fl with
  | ret u =>
   obtain⟨v,H',I3,rv,ev,q3⟩:=I2.after hq';subst ev;exact⟨rv,⟨V.ref (s.heap.objs.size+1),H',I3,rfl,q3⟩⟩
  | next=>exact False.elim hq'
  | brk=>exact False.elim hq'
  | cont=>exact False.elim hq'
end
structure aN(N P:List Str)(sc:Scope):Prop where
 kind:sc.kind=.function
 co:sc.isCoroutine=false
 gen:sc.isGenerator=false
 nd:N.Nodup
 pre:N.take P.length=P
 par:∀x∈P,sc.names.lookup x=some .local\/sc.names.lookup x=some .cell
 S9:∀y∈sc.names,y.2≠.free
theorem vh{kindOf:Str->Option NameKind}{x:Str}:∀{binds:List (Str×Value)} {m:xC},(∀v,(x,v) ∉ binds)->bindL kindOf binds m x=m x
 | [],_,_=>rfl
 | (n,v)::r,m,h=>by
  unfold bindL;rw[vh λw hw=>h w (zD _ hw)];split
  ·have:x≠n:=by rintro rfl;exact h v zC
   simp[this]
  ·rfl
theorem vm{kindOf:Str->Option NameKind}{x:Str}:∀{binds:List (Str×Value)} {m:xC},(∀v,(x,v) ∉ binds)->bindC kindOf binds m x=m x
 | [],_,_=>rfl
 | (n,v)::r,m,h=>by
  unfold bindC;rw[vm λw hw=>h w (zD _ hw)];split
  ·rfl
  ·have:x≠n:=by rintro rfl;exact h v zC
   simp[this]
theorem vo{kindOf:Str->Option NameKind}{x:Str}{v:Value}:∀{P:List Str} {vs:xF} {i:Nat} {m:xC},P.Nodup->P[i]?=some x->vs[i]?=some v->kindOf x=some .local ->
  bindL kindOf (P.zip vs) m x=some v
 | [],_,_,_,_,h,_,_=>by simp at h
 | _::_,[],_,_,_,_,h,_=>by simp at h
 | p::P,w::vs,0,m,nd,h1,h2,hk=>by
  simp at h1 h2;subst h1;subst h2;show bindL kindOf ((p,w)::P.zip vs) m p=_;unfold bindL;rw[vh λv hv=>(List.nodup_cons.mp nd).1 (List.of_mem_zip hv).1,yB hk];simp
 | p::P,w::vs,i+1,m,nd,h1,h2,hk=>by
  show bindL kindOf ((p,w)::P.zip vs) m x=_;unfold bindL;exact vo (i:=i) (List.nodup_cons.mp nd).2 (by simpa using h1) (by simpa using h2) hk
theorem vp{kindOf:Str->Option NameKind}{x:Str}{v:Value}:∀{P:List Str} {vs:xF} {i:Nat} {m:xC},P.Nodup->P[i]?=some x->vs[i]?=some v->kindOf x≠some .local ->
  bindC kindOf (P.zip vs) m x=some v
 | [],_,_,_,_,h,_,_=>by simp at h
 | _::_,[],_,_,_,_,h,_=>by simp at h
 | p::P,w::vs,0,m,nd,h1,h2,hk=>by
  simp at h1 h2;subst h1;subst h2;show bindC kindOf ((p,w)::P.zip vs) m p=_;unfold bindC;rw[vm λv hv=>(List.nodup_cons.mp nd).1 (List.of_mem_zip hv).1,yT hk];simp
 | p::P,w::vs,i+1,m,nd,h1,h2,hk=>by
  show bindC kindOf ((p,w)::P.zip vs) m x=_;unfold bindC;exact vp (i:=i) (List.nodup_cons.mp nd).2 (by simpa using h1) (by simpa using h2) hk
def start(N:List Str)(vs:List V):St:=vs.map some++List.replicate (N.length-vs.length) none
def iV(CX:CXT)(P:Program)(w:World)(K:W.Frag)(mg:xC)(base:Heap)(N:List Str)(qual:Str)(scope:Scope)(f:Addr)(cd:Value)(A:Around)(outer:List Env)(s:Shared)(H:Hp)(E:XK):Cx where
 prog:=P
 w:=w
 K:=K
 mg:=mg
 base:=base
 A:=A.deeper (envOfC qual scope s.heap.objs.size f cd)
 N:=N
 s₀:=s
 H₀:=H
 env:=envOfC qual scope s.heap.objs.size f cd
 outer:=outer
 stack:=envOfC qual scope s.heap.objs.size f cd::outer
 ex:=[]
 calm:=true
 fn:=λ_=>true
 pn:=[]
 xe:=λe s'=>wpAny (model P w) (A.deeper (envOfC qual scope s.heap.objs.size f cd)) (leaving (envOfC qual scope s.heap.objs.size f cd) e) (λ_ s''=>CX outer H s E e s'') (λe' s''=>CX outer H s E e' s'') s'
theorem zH{sc:Scope}{n:Nat}{x:Str}(h:sc.names.lookup x=some .cell):∃c,(cellsFrom n sc.names []).lookup x=some c:=by
 have q:=W.cellsFrom_some sc.names n [] (.inl h);exact Option.isSome_iff_exists.mp q
theorem vq{CX:CXT}{P:Program}{w:World}{K:W.Frag}{mg:xC}{base:Heap}{N ps:List Str}{qual:Str}{scope:Scope}{f:Addr}{cd:Value}{A:Around}{outer:List Env}{s s1:Shared}{H:Hp}{E:XK}{us:xF}{vs:List V}
  (S:aN N ps scope) (hd:A.handled=none) (e0:xY P w K mg base A outer s H) (hl:vs.length=ps.length) (r:Vals vs us)
  (x:InCallC s s.heap.objs.size (bindL (envOfC qual scope s.heap.objs.size f cd).kindOf (ps.zip us) λ_=>none) (cellsFrom (s.heap.objs.size+1) scope.names []) (bindC (envOfC qual scope s.heap.objs.size f cd).kindOf (ps.zip us) λ_=>none) s1) :
  Inv (iV CX P w K mg base N qual scope f cd A outer s H E) [] (start N vs) H s1:=by
 have hpl:ps.length<=N.length:=by have:=gN List.length S.pre;rw[nE] at this;lia
 obtain⟨h1,tk,rfl,hk⟩:=x.done;have noA:∀b:Addr,b ∉ (iV CX P w K mg base N qual scope f cd A outer s H E).ex:=λb z=>absurd (show b∈([]:List Addr) from z) (by simp)
 refine⟨⟨e0.mod,S.kind,rfl,rfl,rS _,λy z c h1 h2=>?_,λy hy=>?_,λy c _ h=>?_,λ_=>hd,Around.frames_deeper e0.frames,.inr ⟨rfl,rfl⟩,λb z=>gS z (noA b),e0.bs,e0.bsz,λb _ _=>noA b,λb z=>gS z (noA b),e0.jK,e0.frf⟩,
  rfl,e0.bare,Un.kept hk,⟨_,x.toInCall.ns,λi y v h1 h2 h3=>?_⟩,λy c h=>⟨_,x.cell y c h⟩,e0.hok.fresh (Nat.le_refl _),λy c h=>?_,λp hp=>absurd (show p∈([]:List (Addr×Obj)) from hp) (by simp),e0.hok.kept hk,?_⟩
 ·exact name_of_addr x.apart (PySem.mem_of_lookup h1) (PySem.mem_of_lookup h2)
 ·have hy:scope.names.lookup y=some .cell\/scope.names.lookup y=some .free:=hy;rcases hy with hy|hy
  ·exact zH hy
  ·exact gS rfl (S.S9 _ (PySem.mem_of_lookup hy))
 ·exact zzE (x.above y c (PySem.mem_of_lookup h))
 ·have hi:i<vs.length:=by
   unfold start at h2;by_cases hi:i<vs.length
   ·exact hi
   ·rw[List.getElem?_append_right (by simpa using hi)] at h2;rw[List.getElem?_replicate] at h2;split at h2 <;> cases h2
  have ha:vs[i]?=some v:=by
   unfold start at h2;rw[List.getElem?_append_left (by simpa using hi),List.getElem?_map] at h2;cases e:vs[i]? with
   | none=>rw[e] at h2;cases h2
   | some a=>rw[e] at h2;cases h2;rfl
  obtain⟨u,hu,rv⟩:=r.get ha;have hp:ps[i]?=some y:=by
   rw[<- S.pre,List.getElem?_take_of_lt (by lia)];exact h1
  have ndP:ps.Nodup:=by rw[<- S.pre];exact S.nd.sublist (List.take_sublist _ _)
  refine⟨u,rv,?_⟩;rcases S.par y (wE hp) with k|k
  ·exact .inl ⟨k,vo ndP hp hu k⟩
  ·obtain⟨c,e⟩:=zH (n:=s.heap.objs.size+1) k;refine .inr ⟨.inl k,c,e,?_⟩;have q:=x.cell y c e;rw[vp ndP hp hu (by show scope.names.lookup y≠_;rw[k];decide)] at q;exact q
 ·exact e0.hok.fresh (zzE (x.above y c (PySem.mem_of_lookup h)))
 ·unfold start;show _=N.length;rw[yY,wS,zzB]
  lia
theorem vA{CX:CXT}{P:Program}{w:World}{K:W.Frag}{mg:xC}{base:Heap}{k:Nat}{f:Addr}{name qual:Str}{params:Arguments}{body:List Stmt}{scope:Scope}{dV kV doc pm cdv ct oc:Value}{an od:xL}
  {osl:Array (Option Value)} {N ps:List Str} {sp:Sp} (lk:K.lookup f=some ⟨oc,od,.func (W.fnOf name qual params body scope dV kV doc pm an cdv ct),osl⟩) (hcd:W.codeIn K cdv qual=true) (S:aN N ps scope)
  (len:∀vs H Q E,sp vs H Q E->vs.length=ps.length)
  (hbody:∀(A:Around)(outer:List Env)(s:Shared)(H:Hp)(vs:List V)(Q:VK)(E:XK),Room k (A.deeper (envOfC qual scope s.heap.objs.size f cdv))->sp vs H Q E ->
   ∃t,PSs (iV CX P w K mg base N qual scope f cdv A outer s H E) body t/\t { nx:=λ_ H'=>Q .non H',rt:=Q } (start N vs) H) :
  f9 P w K mg base CX (k+1) f (W.fnOf name qual params body scope dV kV doc pm an cdv ct) ps sp:=by
 refine⟨len,λA outer s H args us vs Q E hr e0 hb r hsp=>?_⟩;have hl:=len _ _ _ _ hsp;have KX:K.In s.heap:=e0.mod.kin.keeps λb o e=>(e0.bs b o e).1
 have lim:s.heap.NoLimit:=e0.mod.nolimit.keeps λb o e=>(e0.bs b o e).1
 have hkind:∀y∈ps.zip us,scope.names.lookup y.1=some .local\/(scope.names.lookup y.1=some .cell/\((cellsFrom (s.heap.objs.size+1) scope.names []).lookup y.1).isSome=true):=λ⟨n,v⟩ hy=>by
  rcases S.par n (List.of_mem_zip hy).1 with q|q
  ·exact .inl q
  ·exact .inr ⟨q,W.cellsFrom_some _ _ _ (.inl q)⟩
 refine codeAny_call_function hr.depth (KX _ _ lk) rfl S.co S.gen rfl (W.codeRec_of KX hcd) (hb _ _ _ _ ?_);refine wpAny_newFunctionEnv_cells S.kind hkind λenv he s1 x=>?_
 subst he;refine⟨lim.keeps x.toInCall.keep,codeAny_func ?_⟩;obtain⟨t,ht,hq⟩:=hbody A outer s H vs Q E (hr.deeper _) hsp;have I:Inv (iV CX P w K mg base N qual scope f cdv A outer s H E) [] (start N vs) H s1:=vq S hr.hd e0 hl r x;refine mM (ht [] s1 (start N vs) H _ I hq) (λfl s' hs=>?_) λe s' hs=>hs
 have fin:∀{σ':St} {H':Hp} {v:V} {u:Value},Inv (iV CX P w K mg base N qual scope f cdv A outer s H E) [] σ' H' s'->RelV v u->Q v H'->CE outer P w H s Q u s' :=
  λ{σ' H' v u} J rv q=>⟨v,H',J.os,J.bare,J.base,J.hok,rv,q⟩
 cases fl with
 | ret u =>
  obtain⟨v,σ',H',J,rv,q⟩:=hs;exact fin J rv q
 | next =>
  obtain⟨σ',H',J,q⟩:=hs;exact fin (v:=V.non) (u:=Value.none) J rfl q
 | brk =>
  obtain⟨_,_,_,q⟩:=hs;exact False.elim q
 | cont =>
  obtain⟨_,_,_,q⟩:=hs;exact False.elim q
section
variable{X:Cx}{x:Str}{p pos:Pos}{e:Expr}{es:List Expr}{t:TA}{id:String}{r:List V->Hp->VK->Prop}
def tCB(r:List V->Hp->VK->Prop)(t:TA):TE:=λσ H Q=>t σ H λvs H1=>r vs H1 Q
theorem bN(hc:gV X (.builtin id) r)(hg:Gl X x)(hm:X.mg x=none)(hv:bootBuiltins x=some (.builtin id))(ha:PA X (e::es) t)(hn:x ≠ "__name__":=by decide)(hdb:(x==("__debug__" : Str))=false:=by decide)
  (he:starEach (e::es) X.env=(false,eval e X.env)::starEach es X.env:=by rfl) (hpl:(backTo pos (starEach es X.env)).any (·.1)=false:=by rfl):PE X (.Call (.Name x p) (e::es) [] pos) (tCB r t):=by
 intro pins s σ H Q I h;refine wpAny_Call_Name_kw (q_ I hg hm hv ?_ hn hdb);exact PyProof.Rows.callWith_builtin1 (thn (ha pos pins s σ H _ I h) λus s1 ⟨vs,H1,I1,r1,q1⟩=>hc pins s1 σ H1 vs us Q I1 r1 q1) he hpl
end
end L2
namespace HT
open PySem PyProof.Rows
section
open PySem.SeqAt
open PySem.AutoSeq1 (wpAny_loadPart')
open PySem.MeetsSeq PySem.MeetsSeq2 PySem.MeetsSeq3
end
section
def sIx(n d:Nat):Option Int->Nat
 | none=>d
 | some v=>if v<0 then (v+(n:Int)).toNat else min v.toNat n
theorem Ew(n d k:Nat):sIx n d (some (k:Int))=min k n:=by
 show (if (k:Int)<0 then ((k:Int)+(n:Int)).toNat else min (k:Int).toNat n)=min k n;rw[yT (by lia),Int.toNat_natCast]
end
end HT
namespace L2
open PySem PySem.Spec PyProof.Rows
abbrev TO:=St->Hp->(Option Int->Hp->Prop)->Prop
def PO(X:Cx)(e:Option Expr)(t:TO):Prop :=
 ∀(pins:List (Addr×Obj)) (s:Shared) (σ:St) (H:Hp) (Q:Option Int->Hp->Prop),Inv X pins σ H s->t σ H Q ->
  wpAny (model X.prog X.w) X.A (evalPart e X.env) (λu s'=>∃o H',Inv X pins σ H' s'/\IsPart u o/\Q o H') X.xe s
def JF(t:TE):TO:=λσ H Q=>t σ H λx H1=>∃i,x=.int i/\Q (some i) H1
section
variable{X:Cx}{e:Expr}{te:TE}{lo hi:Option Expr}{tl th:TO}{pos p2:Pos}
theorem qH(h:PE X e te):PO X (some e) (JF te):=by
 intro pins s σ H Q I hw;rw[evalPart_some];refine thn (h pins s σ H _ I hw) λu s1 ⟨x,H1,I1,r1,q1⟩=>?_
 obtain⟨i,rfl,q⟩:=q1;obtain⟨t,rfl⟩:=r1;exact⟨some i,H1,I1,.int i t,q⟩
def SlR(X:Cx)(r:V->Option Int->Option Int->Hp->VK->Prop):Prop :=
 ∀(pins:List (Addr×Obj)) (s:Shared) (σ:St) (H:Hp) (x:V) (v vl vu:Value) (lo hi:Option Int) (sl:Addr) (Q:VK),Inv X pins σ H s->RelV x v->s.heap.IsSliceOf sl vl vu .none->IsPart vl lo->IsPart vu hi->r x lo hi H Q ->
  ∃T id,typeLookup (.type T) "__getitem__" = pure (some (.builtin id))/\s.TypeIs v T/\wpAny (model X.prog X.w) X.A (getItem v (.ref sl)) (EP X pins σ Q) X.xe s
theorem SlR.or{r r':V->Option Int->Option Int->Hp->VK->Prop}(h:SlR X r)(h':SlR X r'):SlR X (λx lo hi H Q=>r x lo hi H Q\/r' x lo hi H Q):=by
 intro pins s σ H x v vl vu lo hi sl Q I rx hs pl pu q;rcases q with q|q
 ·exact h pins s σ H x v vl vu lo hi sl Q I rx hs pl pu q
 ·exact h' pins s σ H x v vl vu lo hi sl Q I rx hs pl pu q
def tSl(r:V->Option Int->Option Int->Hp->VK->Prop)(te:TE)(tl th:TO):TE:=λσ H Q=>te σ H λx H1=>tl σ H1 λl H2=>th σ H2 λu H3=>r x l u H3 Q
theorem zJ{r:V->Option Int->Option Int->Hp->VK->Prop}(hr:SlR X r)(he:PE X e te)(hl:PO X lo tl)(hu:PO X hi th):PE X (.Subscript e (.Slice lo hi none p2) pos) (tSl r te tl th):=by
 intro pins s σ H Q I h;refine Subscript_ (thn (he pins s σ H _ I h) λv s1 ⟨x,H1,I1,r1,q1⟩=>?_);refine wpAny_Slice (thn (hl pins s1 σ H1 _ I1 q1) λvl s2 ⟨l,H2,I2,pl,q2⟩=>thn (hu pins s2 σ H2 _ I2 q2) λvu s3 ⟨u,H3,I3,pu,q3⟩=>?_);rw[evalPart_none];refine oB ?_;have I4:Inv X pins σ H3 { s3 with heap:=s3.heap.push { cls:=.type "slice", data:=.fields #[vl,vu,.none] } }:=I3.kept (t':=s3.toks) λb ob q=>uS _ q
 obtain⟨T,id,hT,ht,hg⟩:=hr pins { s3 with heap:=s3.heap.push { cls:=.type "slice", data:=.fields #[vl,vu,.none] } } σ H3 x v vl vu l u s3.heap.objs.size Q I4 r1 (Heap.IsSliceOf.new ..) pl pu q3
 show wpAny (model X.prog X.w) X.A (subscriptTail e (.Slice lo hi none p2) v (.ref s3.heap.objs.size)) (EP X pins σ Q) X.xe { s3 with heap:=s3.heap.push { cls:=.type "slice", data:=.fields #[vl,vu,.none] } }
 exact tail_any (ops:=[.ref s3.heap.objs.size,v]) ht hT hg (by with_unfolding_all rfl)
def rE(xs:List V)(lo hi:Option Int):List V:=(xs.drop (HT.sIx xs.length 0 lo)).take (HT.sIx xs.length xs.length hi-HT.sIx xs.length 0 lo)
theorem pY(xs:List V)(lo hi:Option Int):(rE xs lo hi).length<=xs.length:=by
 unfold rE;rw[nE,zzH]
 lia
end
def ixN(n:Nat)(i:Int):Option Nat:=if 0<=i then (if i<n then some i.toNat else none) else if -(n:Int)<=i then some (i+n).toNat else none
def atI{α:Type}(xs:List α)(i:Int):Option α:=(ixN xs.length i).bind λj=>xs[j]?
theorem O4{n:Nat}{i:Int}{j:Nat}(h:ixN n i=some j):seqIndex? i n=some j/\j<n/\-(n:Int)<=i/\i<n:=by
 unfold ixN at h;by_cases h0:0<=i
 ·rw[yB h0] at h;by_cases h1:i<n
  ·rw[yB h1] at h;have e:i.toNat=j:=nS h;exact⟨by rw[seqIndex_of h0 h1,e],by lia,by lia,h1⟩
  ·rw[yT h1] at h;cases h
 ·rw[yT h0] at h;by_cases h1:-(n:Int)<=i
  ·rw[yB h1] at h;have e:(i+n).toNat=j:=nS h;exact⟨by rw[seqIndex_neg (by lia) h1,e],by lia,h1,by lia⟩
  ·rw[yT h1] at h;cases h
theorem Ey{α:Type}{xs:List α}{i:Int}{v:α}(h:atI xs i=some v):∃j,seqIndex? i xs.length=some j/\xs[j]?=some v/\j<xs.length/\-(xs.length:Int)<=i/\i<xs.length:=by
 unfold atI at h;cases e:ixN xs.length i with
 | none=>rw[e] at h;cases h
 | some j =>
  rw[e] at h;obtain⟨h1,h2,h3,h4⟩:=O4 e;exact⟨j,h1,h,h2,h3,h4⟩
theorem gO{α:Type}{xs:List α}{j:Nat}{v:α}(h:xs[j]?=some v):atI xs (j:Int)=some v:=by
 have hj:j<xs.length:=(qE.mp h).1;have e:ixN xs.length (j:Int)=some j:=by
  unfold ixN;rw[if_pos (by lia),if_pos (by lia)];simp
 unfold atI;rw[e];exact h
def O5(b:Expr):Prop:=∀o i,subscripted b false o i=operate [o,i] (getItem o i)
def IxR(X:Cx)(r:R2):Prop :=
 ∀(value slice:Expr) (pins:List (Addr×Obj)) (s:Shared) (σ:St) (H:Hp) (x y:V) (v u:Value) (Q:VK),Inv X pins σ H s->RelV x v->RelV y u->r x y H Q ->
  subscripted slice false v u=operate [v,u] (getItem v u)->wpAny (model X.prog X.w) X.A (subscriptTail value slice v u) (EP X pins σ Q) X.xe s
def MtR(X:Cx)(id:String)(r:V->List V->Hp->VK->Prop):Prop :=
 ∀(pins:List (Addr×Obj)) (s:Shared) (σ:St) (H:Hp) (x:V) (xs:List V) (v:Value) (us:xF) (Q:VK),Inv X pins σ H s->RelV x v->Vals xs us->r x xs H Q ->
  wpAny (model X.prog X.w) X.A (call (.builtin id) (v::us)) (EP X pins σ Q) X.xe s
section
variable{X:Cx}{a b:Expr}{ta tb:TE}{pos:Pos}
theorem IxR.or{r r':R2}(h:IxR X r)(h':IxR X r'):IxR X (λx y H Q=>r x y H Q\/r' x y H Q):=by
 intro value slice pins s σ H x y v u Q I rx ry q hs;rcases q with q|q
 ·exact h value slice pins s σ H x y v u Q I rx ry q hs
 ·exact h' value slice pins s σ H x y v u Q I rx ry q hs
theorem MtR.or{id:String}{r r':V->List V->Hp->VK->Prop}(h:MtR X id r)(h':MtR X id r'):MtR X id (λx xs H Q=>r x xs H Q\/r' x xs H Q):=by
 intro pins s σ H x xs v us Q I rx rs q;rcases q with q|q
 ·exact h pins s σ H x xs v us Q I rx rs q
 ·exact h' pins s σ H x xs v us Q I rx rs q
theorem bJ{r:R2}(hr:IxR X r)(ha:PE X a ta)(hb:PE X b tb)(hs:O5 b):PE X (.Subscript a b pos) (tOp r ta tb):=by
 intro pins s σ H Q I h;exact Subscript_ (SN ha hb I h λv u s2 x y H2 I2 rx ry q=>hr a b pins s2 σ H2 x y v u Q I2 rx ry q (hs _ _))
def O6(K:W.Frag):R2:=λx y H Q=>∃p xs i v,x=.ref p/\y=.int i/\SqL K H p xs/\atI xs i=some v/\Q v H
def O7(K:W.Frag):R2:=λx y H Q=>∃p xs i v,x=.ref p/\y=.int i/\SqT K H p xs/\atI xs i=some v/\Q v H
theorem d9:IxR X (O6 X.K):=by
 intro value slice pins s σ H x y v u Q I rx ry h hs;obtain⟨p,xs,i,z,rfl,rfl,hq,he,q⟩:=h;cases rx;obtain⟨t,rfl⟩:=ry;obtain⟨its,r,pl,hz⟩:=I.list hq;obtain⟨j,h1,h2,h3,h4,h5⟩:=Ey he;obtain⟨w,ew,rw'⟩:=r.get h2;have hl:=r.length;have hn:=Di;have fin:EP X pins σ Q w s:=⟨z,H,I,rw',q⟩;by_cases h0:0<=i
 ·have hj:i.toNat=j:=by
   rw[seqIndex_of h0 h5] at h1;exact nS h1
  exact item_listR pl.isList h0 (by lia) (by rw[hj];simpa using ew) fin hs
 ·have hj:(i+(its.toArray.size:Int)).toNat=j:=by
   rw[seqIndex_neg (by lia) h4] at h1;rw[nX,<- hl];exact nS h1
  exact subscriptTail_builtinR (x:=w) pl.isList.typeIs slot_list_getitem.lookup
   (wpAny_getItem_list_neg (Q:=λr s'=>r=w/\EP X pins σ Q r s') pl.isList (by lia) (by rw[List.size_toArray] <;> lia) (by lia) (by rw[hj];simpa using ew) ⟨rfl,fin⟩) hs
theorem bH:IxR X (O7 X.K):=by
 intro value slice pins s σ H x y v u Q I rx ry h hs;obtain⟨p,xs,i,z,rfl,rfl,hq,he,q⟩:=h;cases rx;obtain⟨t,rfl⟩:=ry;obtain⟨its,r,pl,hz⟩:=I.tuple hq;obtain⟨j,h1,h2,h3,h4,h5⟩:=Ey he;obtain⟨w,ew,rw'⟩:=r.get h2;have hl:=r.length;have hn:=Di;have fin:EP X pins σ Q w s:=⟨z,H,I,rw',q⟩;exact subscriptTail_builtinR (x:=w) pl.typeIs slot_tuple_getitem.lookup
  (getItem_tuple (j:=j) (Q:=λr s'=>r=w/\EP X pins σ Q r s') pl (by lia) (by lia) (by rw[List.size_toArray,<- hl];exact h1) (by simpa using ew) ⟨rfl,fin⟩) hs
theorem Inv.lst{pins:List (Addr×Obj)}{σ:St}{H:Hp}{s:Shared}{p:Addr}{xs:List V}(I:Inv X pins σ H s)(h:H p=some (.lst xs)) :
  ∃(its:xF)(n:Nat),Vals xs its/\s.heap.get? p=some { cls:=.type "list", data:=.seq its.toArray n }/\xs.length<=sizeLine:=by
 obtain⟨z,its,n,r,e⟩:=I.hok p _ h;exact⟨its,n,r,e,z⟩
theorem yc(lo hi:Option Int)(n:Nat):(sliceBounds lo hi none n).1=((HT.sIx n 0 lo:Nat):Int)/\(sliceBounds lo hi none n).2.1=((HT.sIx n n hi:Nat):Int)/\(sliceBounds lo hi none n).2.2=1:=by
 refine⟨?_,?_,rfl⟩
 ·cases lo with
  | none=>simp[sliceBounds,HT.sIx]
  | some i =>
   simp only[sliceBounds,HT.sIx,Option.getD_none,show (1:Int) > 0 by decide,if_true];by_cases h:i<0
   ·simp only[h,if_true] <;> lia
   ·simp only[h,if_false] <;> lia
 ·cases hi with
  | none=>simp[sliceBounds,HT.sIx]
  | some i =>
   simp only[sliceBounds,HT.sIx,Option.getD_none,show (1:Int) > 0 by decide,if_true];by_cases h:i<0
   ·simp only[h,if_true] <;> lia
   ·simp only[h,if_false] <;> lia
theorem uR(its:xF)(lo hi:Option Int):slicePick its.toArray lo hi none=((its.drop (HT.sIx its.length 0 lo)).take (HT.sIx its.length its.length hi-HT.sIx its.length 0 lo)).toArray:=by
 obtain⟨h1,h2,h3⟩:=yc lo hi its.toArray.size;unfold slicePick;rw[h1,h2,h3];simp only[sliceRange_one,pick_run,List.size_toArray] <;> rfl
def Zr(K:W.Frag):V->Option Int->Option Int->Hp->VK->Prop:=λx lo hi H Q=>∃a xs,x=.ref a/\SqL K H a xs/\∀p,H p=none->Q (.ref p) (upd H p (.lst (rE xs lo hi)))
theorem O8:SlR X (Zr X.K):=by
 intro pins s σ H x v vl vu lo hi sl Q I rx hs pl pu h;obtain⟨a,xs,rfl,hx,q⟩:=h;cases rx;obtain⟨its,r,ht,hz⟩:=I.list hx;have hlen:=r.length;refine⟨"list", _,slot_list_getitem.lookup,ht.isList.typeIs,?_⟩;refine wpAny_getItem_list_slice ht.isList hs pl pu .none (by simp) ?_ (by rw[List.size_toArray] <;> lia);rw[uR,<- hlen];refine⟨.ref s.heap.objs.size,_,I.laid (t':=s.toks) (o:=.lst (rE xs lo hi)) (λb ob q=>uS _ q) (rS _) ?_,rfl,q _ (I.hok.fresh (rS _))⟩;exact⟨oC (pY xs lo hi) hz,_,0,(r.drop (HT.sIx xs.length 0 lo)).take (HT.sIx xs.length xs.length hi-HT.sIx xs.length 0 lo),oS _ rfl⟩
theorem gV.or{f:Value}{r r':List V->Hp->VK->Prop}(h:gV X f r)(h':gV X f r'):gV X f (λxs H Q=>r xs H Q\/r' xs H Q):=by
 intro pins s σ H xs us Q I rs q;rcases q with q|q
 ·exact h pins s σ H xs us Q I rs q
 ·exact h' pins s σ H xs us Q I rs q
def tyV(K:W.Frag)(T:String)(x:V)(H:Hp):Prop:=match x with
 | .str _=>T = "str"
 | .int _=>T = "int"
 | .ref p=>(T = "list" /\ ∃xs,SqL K H p xs)\/(T = "tuple" /\ ∃o,K.lookup p=some o/\o.cls=.type "tuple" /\ o.dict=none) \/
   (T = "dict" /\ ((∃kvs,H p=some (.dK kvs))\/∃kvs,H p=some (.dT kvs)))\/(T = "set" /\ ∃S n,H p=some (.set S n))
 | _=>False
theorem S_{pins:List (Addr×Obj)}{σ:St}{H:Hp}{s:Shared}{T:String}{x:V}{v:Value}(I:Inv X pins σ H s)(r:RelV x v)(ty:tyV X.K T x H) :
  s.TypeIs v T/\∀a,v=.ref a->∃ob,s.heap.get? a=some ob/\ob.dict=none:=by
 cases x with
 | str z =>
  obtain⟨t,rfl⟩:=r;cases (show T = "str" from ty);exact⟨typeIs_str s z t,λ_ e=>nomatch e⟩
 | int i =>
  obtain⟨t,rfl⟩:=r;cases (show T = "int" from ty);exact⟨typeIs_int s i t,λ_ e=>nomatch e⟩
 | ref p =>
  cases r;rcases ty with⟨rfl,xs,hq⟩|⟨rfl,o,hk,hc,hd⟩|⟨rfl,hk⟩|⟨rfl,S,n,hk⟩
  ·obtain⟨its,_,pl,_⟩:=I.list hq;refine⟨pl.isList.typeIs,λa e=>?_⟩;cases e;obtain⟨o,n,e,c,hd,_⟩:=pl;exact⟨o,e,hd⟩
  ·refine⟨⟨o,I.kIn p o hk,hc⟩,λa e=>?_⟩;cases e;exact⟨o,I.kIn _ o hk,hd⟩
  ·have z:∃o,s.heap.get? p=some o/\o.ExactDict:=by
    rcases hk with⟨kvs,hk⟩|⟨kvs,hk⟩
    ·obtain⟨_,_,_,_,o,_,_,e,ex,_⟩:=I.hok p _ hk;exact⟨o,e,ex⟩
    ·obtain⟨_,_,_,_,o,_,_,e,ex,_⟩:=I.hok p _ hk;exact⟨o,e,ex⟩
   obtain⟨o,e,ex⟩:=z;refine⟨⟨o,e,ex.1⟩,λa e2=>?_⟩;cases e2;exact⟨o,e,ex.2.1⟩
  ·obtain⟨o,_,_,_,e,ex,_⟩:=I.hok p _ hk;refine⟨⟨o,e,ex.1⟩,λa e2=>?_⟩;cases e2;exact⟨o,e,ex.2.1⟩
 | _=>exact False.elim ty
def tBM(K:W.Frag)(T:String)(r:V->List V->Hp->VK->Prop)(to:TE)(t:TA):TE:=λσ H Q=>to σ H λx H1=>tyV K T x H1/\t σ H1 λxs H2=>r x xs H2 Q
variable{o e:Expr}{es:List Expr}{to:TE}{t:TA}{name:Str}{apos cpos:Pos}{T id:String}{r:V->List V->Hp->VK->Prop}
theorem Ez(pa:PlainAttrs T)(slot:Slot T name id)(hty:typeOf (.builtin id)=pure (.type "method_descriptor"))(hm:MtR X id r)(ho:PE X o to)(ha:PA X (e::es) t)
  (hbase:attributeBase o name X.env (eval o X.env)=eval o X.env:=by rfl)
  (hfew:((backTo cpos (starEach (e::es) X.env)).all (λx=>!x.1) && (backToKw cpos (keywordEach [] X.env)).all (λx=>x.1.isSome)
   && decide ((e::es).length+([]:List Keyword).length+(if ([]:List Keyword).isEmpty then 0 else 1)<30))=true:=by rfl)
  (hline:(apos.endLine==cpos.line)=true:=by rfl) (hs:starEach (e::es) X.env=(false,eval e X.env)::starEach es X.env:=by rfl) (hplain:(backTo cpos (starEach es X.env)).any (·.1)=false:=by rfl) :
  PE X (.Call (.Attribute o name apos) (e::es) [] cpos) (tBM X.K T r to t):=by
 intro pins s σ H Q I h;refine wpAny_Call_method_late hbase hfew hline rfl (thn (ho pins s σ H _ I h) λv s1 ⟨x,H1,I1,r1,ty,q1⟩=>?_);obtain⟨h1,h2⟩:=S_ I1 r1 ty;refine⟨T,id,pa,slot,hty,h1,h2,?_⟩;have hA:=ha cpos pins s1 σ H1 _ I1 q1;rw[hs] at hA ⊢;refine Calls.callWith_builtin (by show (false || (backTo cpos (starEach es X.env)).any (·.1))=false;rw[hplain] <;> rfl) (Calls.evalArgs_plain ?_);exact thn hA λus s2 ⟨vs,H2,I2,r2,q2⟩=>hm pins s2 σ H2 x vs v us Q I2 r1 r2 q2
end
def MtM(X:Cx)(id:String)(r:V->List V->Hp->VK->Prop):Prop :=
 ∀(pins:List (Addr×Obj)) (s:Shared) (σ:St) (H:Hp) (x:V) (xs:List V) (v:Value) (us:xF) (Q:VK),Inv X pins σ H s->RelV x v->Vals xs us->r x xs H Q ->
  wpAny (model X.prog X.w) X.A (call (.builtin id) (v::us)) (EP X pins σ Q) X.xe s
theorem Vals.one:∀{x:V} {us:xF},Vals [x] us->∃u,us=[u]/\RelV x u
 | _,_,.cons r .nil=>⟨_,rfl,r⟩
theorem Vals.two:∀{x y:V} {us:xF},Vals [x,y] us->∃u v,us=[u,v]/\RelV x u/\RelV y v
 | _,_,_,.cons r (.cons q .nil)=>⟨_,_,rfl,r,q⟩
theorem Vals.zero:∀{us:xF},Vals [] us->us=[]
 | _,.nil=>rfl
theorem Vals.eraseIdx:∀{xs:List V} {us:xF} (i:Nat),Vals xs us->Vals (xs.eraseIdx i) (us.eraseIdx i)
 | _,_,_,.nil=>.nil
 | _,_,0,.cons _ t=>t
 | _,_,i+1,.cons r t=>.cons r (Vals.eraseIdx i t)
theorem Vals.rep{xs:List V}{us:xF}(h:Vals xs us):∀k:Nat,Vals (List.replicate k xs).flatten (List.replicate k us).flatten
 | 0=>.nil
 | k+1=>by
  rw[List.replicate_succ,List.replicate_succ,List.flatten_cons,List.flatten_cons];exact Vals.append h (Vals.rep h k)
theorem vB{α:Type}:∀(l:List α)(i:Nat),(l.eraseIdx i).length<=l.length
 | [],_=>rS _
 | _::_,0=>Nat.le_succ _
 | _::r,i+1=>Nat.succ_le_succ (vB r i)
theorem foldl_rep(its:xF):∀(k:Nat)(acc:xF),
  List.foldl (λx1 x2=>x1++x2) acc.toArray (List.replicate k its.toArray)=(acc++(List.replicate k its).flatten).toArray
 | 0,acc=>by simp
 | k+1,acc=>by
  have e:acc.toArray++its.toArray=(acc++its).toArray:=by simp
  have e2:(acc++its)++(List.replicate k its).flatten=acc++(List.replicate (k+1) its).flatten:=by
   rw[List.replicate_succ,List.flatten_cons,jI]
  rw[<- e2,<- foldl_rep its k (acc++its),<- e,List.replicate_succ,List.foldl_cons]
section
variable{X:Cx}{pins:List (Addr×Obj)}{σ:St}{H:Hp}{s:Shared}{l:Addr}{xs ys:List V}
theorem Inv.JG{its its':xF}{n:Nat}{f:Array Value->Array Value}{t':Nat}(I:Inv X pins σ H s)(hH:H l=some (.lst xs))
  (e:s.heap.get? l=some { cls:=.type "list", data:=.seq its.toArray n }) (hf:f its.toArray=its'.toArray) (hv:Vals ys its') (hz:ys.length<=sizeLine) :
  Inv X pins σ (upd H l (.lst ys)) { s with heap:=s.heap.update l (Obj.mapSeq f),toks:=t' }:=by
 have q:=PySem.IsL.update e f;rw[hf] at q;refine I.write (x:=l) (e:=l) (by rw[hH];exact trivial) (.inl rfl) (λb' u hb hu=>(mB s.heap (Obj.mapSeq f) (Ne.symm hb)).trans hu) ⟨_,q⟩ ?_;exact⟨hz,its',_,hv,q⟩
theorem Inv.V6{its:xF}{t':Nat}(I:Inv X pins σ H s)(hv:Vals ys its)(hz:ys.length<=sizeLine) :
  Inv X pins σ (upd H s.heap.objs.size (.lst ys)) { s with heap:=s.heap.push { cls:=.type "list", data:=.seq its.toArray },toks:=t' } :=
 I.laid (λ_ _ q=>uS _ q) (rS _) ⟨hz,its,0,hv,oS _ rfl⟩
theorem Inv.fresh(I:Inv X pins σ H s):H s.heap.objs.size=none:=I.hok.fresh (rS _)
theorem Inv.uT(I:Inv X pins σ H s)(hH:H l=some (.lst xs)):xs.length<=sizeLine/\∃(its:xF)(n:Nat),Vals xs its/\xs.length=its.length/\s.heap.get? l=some { cls:=.type "list", data:=.seq its.toArray n }:=by
 obtain⟨z,its,n,r,e⟩:=I.hok l _ hH;exact⟨z,its,n,r,r.length,e⟩
theorem m9{n:Nat}(h:n<=sizeLine):Builtin.List.listTooLong n=false:=by
 unfold Builtin.List.listTooLong;exact uA (by lia)
end
section
variable{X:Cx}
def O9:V->List V->Hp->VK->Prop:=λx vs H Q=>∃l xs y,x=.ref l/\vs=[y]/\H l=some (.lst xs)/\xs.length<sizeLine/\Q .non (upd H l (.lst (xs++[y])))
theorem vC:MtM X "list.append" O9:=by
 intro pins s σ H x vs v us Q I rx rv h;obtain⟨l,xs,y,rfl,rfl,hH,hz,q⟩:=h;cases rx;obtain⟨u,rfl,ru⟩:=rv.one;obtain⟨z,its,n,r,hl,e⟩:=I.uT hH;refine call_meets F.slot_list_append ⟨_,e,rfl⟩ F.entry_list_append (F.args_list_append_2 _ _) (PySem.list_append l its.toArray n u (by rw[nX];lia)) ⟨e,?_⟩;refine⟨.non,_,I.JG (its':=its++[u]) hH e (by simp) (r.append (.cons ru .nil)) ?_,rfl,q⟩;rw[yY,List.length_singleton]
 lia
def O_:V->List V->Hp->VK->Prop:=λx vs H Q=>∃l b xs zs,x=.ref l/\vs=[.ref b]/\H l=some (.lst xs)/\H b=some (.lst zs)/\xs.length+zs.length<=sizeLine/\Q .non (upd H l (.lst (xs++zs)))
theorem HD:MtM X "list.extend" O_:=by
 intro pins s σ H x vs v us Q I rx rv h;obtain⟨l,b,xs,zs,rfl,rfl,hH,hB,hz,q⟩:=h;cases rx;obtain⟨u,rfl,ru⟩:=rv.one;cases ru;obtain⟨z,its,n,r,hl,e⟩:=I.uT hH;obtain⟨z2,its2,n2,r2,hl2,e2⟩:=I.uT hB;have hsz:its.toArray.size+its2.toArray.size<=sizeLine:=by rw[nX,nX];lia
 have JH:¬ (!its.toArray.isEmpty && Builtin.List.listTooLong (its.toArray.size+its2.toArray.size))=true:=by
  rw[m9 hsz,Bool.and_false];exact vT
 refine call_meets F.slot_list_extend ⟨_,e,rfl⟩ F.entry_list_extend (F.args_list_extend_2 _ _)
  (AutoSeq1.list_extend_list_list_0 l its.toArray n b its2.toArray n2 JH (by rw[nX];lia) (by lia)) ⟨e,e2,?_⟩
 refine⟨.non,_,I.JG (its':=its++its2) hH e (by simp) (r.append r2) ?_,rfl,q⟩;rw[yY]
 lia
def Tc:V->List V->Hp->VK->Prop:=λx vs H Q=>∃l xs i k y,x=.ref l/\vs=[.int i]/\H l=some (.lst xs)/\-(2 ^ 63)<=i/\i<2 ^ 63/\seqIndex? i xs.length=some k/\xs[k]?=some y/\Q y (upd H l (.lst (xs.eraseIdx k)))
theorem JK:MtM X "list.pop" Tc:=by
 intro pins s σ H x vs v us Q I rx rv h;obtain⟨l,xs,i,k,y,rfl,rfl,hH,h1,h2,hk,hy,q⟩:=h;cases rx;obtain⟨u,rfl,ru⟩:=rv.one;obtain⟨t,rfl⟩:=ru;obtain⟨z,its,n,r,hl,e⟩:=I.uT hH;obtain⟨w,hw,rw'⟩:=r.get hy;refine call_meets F.slot_list_pop ⟨_,e,rfl⟩ F.entry_list_pop (F.args_list_pop_2 _ _)
  (MeetsSeq.list_pop_at l its.toArray n i t k w (fitsIndex_both h1 h2) (by rw[nX,<- hl];exact hk) (by rw[<- Array.getElem?_toList];exact hw) (by rw[nX];lia)) ⟨e,?_⟩
 refine⟨y,_,I.JG (its':=its.eraseIdx k) hH e ?_ (r.eraseIdx k) ?_,rw',q⟩
 ·show its.toArray.eraseIdxIfInBounds k=(its.eraseIdx k).toArray;rw[List.eraseIdxIfInBounds_toArray]
 ·have:=vB xs k
  lia
def Zt:R2:=λx y H Q=>∃l b xs zs,x=.ref l/\y=.ref b/\H l=some (.lst xs)/\H b=some (.lst zs)/\xs.length+zs.length<=sizeLine/\∀p,H p=none->Q (.ref p) (upd H p (.lst (xs++zs)))
theorem Td:OpR X (binaryOp .Add) Zt:=by
 intro pins s σ H x y v u Q I rx ry h;obtain⟨l,b,xs,zs,rfl,rfl,hH,hB,hz,q⟩:=h;cases rx;cases ry;obtain⟨z,its,n,r,hl,e⟩:=I.uT hH;obtain⟨z2,its2,n2,r2,hl2,e2⟩:=I.uT hB;refine PySem.P.add_list e e2 ?_ (by rw[nX,nX];lia);have ea:its.toArray++its2.toArray=(its++its2).toArray:=by simp
 rw[ea];exact⟨.ref _,_,I.V6 (t':=s.toks) (r.append r2) (by rw[yY];lia),rfl,q _ I.fresh⟩
def Zu:R2:=λx y H Q=>∃l k xs,x=.ref l/\y=.int k/\H l=some (.lst xs)/\-(2 ^ 63)<=k/\k<2 ^ 63/\xs.length*k.toNat<=sizeLine /\
 ∀p,H p=none->Q (.ref p) (upd H p (.lst (List.replicate k.toNat xs).flatten))
theorem len_rep{α:Type}(xs:List α)(k:Nat):(List.replicate k xs).flatten.length=k*xs.length:=by
 induction k with
 | zero=>simp
 | succ k ih=>rw[List.replicate_succ,List.flatten_cons,yY,ih,Nat.succ_mul,Nat.add_comm]
theorem Te:OpR X (binaryOp .Mult) Zu:=by
 intro pins s σ H x y v u Q I rx ry h;obtain⟨l,k,xs,rfl,rfl,hH,h1,h2,hz,q⟩:=h;cases rx;obtain⟨t,rfl⟩:=ry;obtain⟨z,its,n,r,hl,e⟩:=I.uT hH;have hlen:its.toArray.size*k.toNat<=sizeLine:=by rw[nX,<- hl];exact hz
 have hcap:¬ its.toArray.size*k.toNat > (2 ^ 63-1) / 8:=by
  have:(sizeLine:Nat)<=(2 ^ 63-1) / 8:=by decide
  lia
 have hfit:¬ (!Builtin.List.listFitsIndex k)=true:=by
  rw[fitsIndex_both h1 h2];exact vT
 have JH:¬ Builtin.List.listTooLong (its.toArray.size*k.toNat)=true:=by
  rw[m9 hlen];exact vT
 have hnew:List.foldl (λx1 x2=>x1++x2) #[] (List.replicate (if its.toArray.isEmpty=true then 0 else k.toNat) its.toArray)=(List.replicate k.toNat its).flatten.toArray:=by
  have f0:∀m:Nat,List.foldl (λx1 x2=>x1++x2) #[] (List.replicate m its.toArray)=(List.replicate m its).flatten.toArray:=λm=>by
   have:=foldl_rep its m [];rw[List.nil_append] at this;exact this
  rw[f0];cases its with
  | nil=>simp
  | cons a r'=>rw[if_neg (by simp)]
 refine wpAny_binaryOp_repeat_ref (T := "list") (U := "int") (by decide) ⟨_,e,rfl⟩ (λs'=>typeIs_int s' k t) noFill_list_mul F.fills_int_mul F.slot_int_rmul repeat_list F.slot_int_index.lookup
  (call_meets F.slot_int_rmul (typeIs_int s k t) F.entry_int_rmul (F.args_int_rmul_2 _ _) (int___rmul___int_list k t l its.toArray n)
   ⟨e,rfl,⟨_,e,rfl⟩,call_meets F.slot_list_mul ⟨_,e,rfl⟩ F.entry_list_mul (F.args_list_mul_2 _ _) (AutoListH.list___mul___list_int_3 l its.toArray n k t hfit hcap JH) ⟨e,?_⟩⟩)
 rw[hnew];exact⟨.ref _,_,I.V6 (t':=s.toks) (r.rep k.toNat) (by rw[len_rep,Nat.mul_comm];exact hz),rfl,q _ I.fresh⟩
end
section
variable{prog:Program}{w:World}{A:Around}{E:xB}{s:Shared}
theorem HF(its its2:xF)(a c:Nat):its.toArray.extract 0 a++its2.toArray++its.toArray.extract c its.toArray.size=(its.take a++its2++its.drop c).toArray:=by
 apply Array.toList_inj.mp
 first
  | (simp
     exact List.take_of_length_le (by simp))
  | simp[List.take_of_length_le]
  | simp
theorem Dq{a c n:Nat}(hac:a<=c)(hc:c<=n):sliceBounds (some (a:Int)) (some (c:Int)) none n=((a:Int),(c:Int),1):=by
 simp only[sliceBounds,Option.getD_none];have h1:¬ ((a:Int)<0):=by lia
 have h2:¬ ((c:Int)<0):=by lia
 simp only[h1,h2,if_false,show (1:Int) > 0 by decide,if_true]
 congr 1
 ·lia
 ·congr 1;lia
set_option maxRecDepth 100000 in
theorem uU{l b sl:Addr}{items new:xI}{n n2:Nat}{vl vu:Value}{a c:Nat}{Q:xA}
  (e:s.heap.get? l=some { cls:=.type "list", data:=.seq items n }) (e2:s.heap.get? b=some { cls:=.type "list", data:=.seq new n2 }) (hne:l≠b)
  (hs:s.heap.IsSliceOf sl vl vu .none) (pl:IsPart vl (some (a:Int))) (pu:IsPart vu (some (c:Int))) (hac:a<=c) (hc:c<=items.size)
  (hsz:items.size+new.size<=sizeLine) (h:Q () { s with heap:=s.heap.update l (Obj.mapSeq λxs=>xs.extract 0 a++new++xs.extract c xs.size) }) :
  wpAny (model prog w) A (setItem (.ref l) (.ref sl) (.ref b)) Q E s:=by
 have hl:s.heap.IsList l items:=PySem.IsL.isList e;have hb:s.heap.IsList b new:=PySem.IsL.isList e2;obtain⟨os,hos,hcs,hds⟩:=id hs;have hTs:s.TypeIs (.ref sl) "slice":=⟨os,hos,hcs⟩;have hstep:¬ ((rawPart none==rawInt 0)=true):=vT;have hsame:Builtin.List.listSameRef (.ref l) (.ref b)=false:=by
  unfold Builtin.List.listSameRef;exact beq_eq_false_iff_ne.mpr hne
 have Zv:(max (a:Int) (c:Int)).toNat=c:=by lia
 have hz':((λxs:Array Value=>xs.extract 0 a++new++xs.extract c xs.size) items).size<=sizeLine+1:=by
  simp only[Array.size_append,Array.size_extract]
  lia
 unfold setItem
 try with_reducible refine mI ?_
 first|refine zI (oB ?_)|skip
 refine zI (wpAny_sequenceKey hl.typeIs (by decide) ?_);refine zI (wpAny_callSpecial?_slot (name:=Str.ofString "__setitem__") hl.typeIs slot_list_setitem
  (wpAny_call_entry slot_list_setitem hl.typeIs entry_list_setitem ?_ (args_list_setitem _ _ _)))
 show wpAny _ _ (Builtin.List.listSubscript? (.ref sl) >>= _) _ _ s;refine zI ?_;unfold Builtin.List.listSubscript?;refine zI (wpAny_specialOf hTs slice_no_index ?_);simp only[Option.isNone_none,if_true];refine oB ?_;show wpAny _ _ (typeOf (.ref sl) >>= _) _ _ s;refine zI (wpAny_typeOf hTs ?_)
 first
  | rw[if_neg (by decide)]
  | refine W.KFB.if_not (by decide) ?_
 rw[listSliceParts_eq];refine zI (zI (wpAny_field hos hds (x:=.none) rfl (zI (wpAny_listPart .none ?_))));rw[yT hstep];refine zI (wpAny_field hos hds (x:=vl) rfl (zI (wpAny_listPart pl ?_)));refine zI (wpAny_field hos hds (x:=vu) rfl (zI (wpAny_listPart pu (oB ?_))))
 first
  | simp only[hsame,Bool.false_eq_true,if_false]
  | refine W.KFB.if_not hsame ?_
  | (dsimp only
     rw[yT (by rw[hsame];exact vT)])
 refine zI (m:=Builtin.List.listAllItems (.ref b) "must assign iterable to extended slice") ?_;unfold Builtin.List.listAllItems;refine zI (wpAny_typeOf hb.typeIs ?_)
 first
  | refine W.KFB.if_so (by decide) ?_
  | rw[if_pos (by decide)]
  | simp only[beq_self_eq_true,Bool.true_or,if_true]
 unfold Builtin.List.listItems;refine zI (wpAny_seqItems e2 rfl (oB ?_));refine zI (zI (wpAny_seqItems e rfl (oB ?_)));refine wpAny_bind (wpAny_of_eq ((sliceIndices_raw (some (a:Int)) (some (c:Int)) none items.size (by simp)).trans (congrArg (pure:Int×Int×Int->Sem (Int×Int×Int)) (Dq hac hc))) ?_);show wpAny _ _ (if ((1:Int)==1)=true then _ else _) _ _ s;rw[yB (by decide)];refine zI (wpAny_rule ?_)
 first
  | simp only[m9 hsz,Bool.false_eq_true,if_false]
  | refine W.KFB.if_not (m9 hsz) ?_
 first|refine zI (oB ?_)|skip
 show wpAny _ _ (updateSeq l (λxs=>xs.extract 0 ((a:Int)).toNat++new++xs.extract (max (a:Int) (c:Int)).toNat xs.size) >>= _) _ _ s;rw[Zv,Int.toNat_natCast];refine zI (wpAny_updateSeq (hz:=oC (Nat.le_add_right _ _) hsz) (_hz':=hz') e rfl ?_);refine zI (wpAny_letGo ?_)
 first
  | exact wpAny_bind (wpAny_pure (wpAny_pure ⟨.none,rfl,wpAny_pure h⟩))
  | exact wpAny_pure ⟨.none,rfl,wpAny_pure h⟩
end
section
variable{X:Cx}
theorem HJ{pins:List (Addr×Obj)}{s:Shared}{σ:St}{H:Hp}{l b sl:Addr}{xs ys:List V}{a c:Int}{vl vu:Value}{Q:xA}(I:Inv X pins σ H s)
  (hH:H l=some (.lst xs)) (hB:H b=some (.lst ys)) (hne:l≠b) (hs:s.heap.IsSliceOf sl vl vu .none) (ra:RelV (.int a) vl) (rc:RelV (.int c) vu) (h0:0<=a) (hac:a<=c) (hc:c<=xs.length)
  (hz:xs.length+ys.length<=sizeLine) (h:∀s',Inv X pins σ (upd H l (.lst (xs.take a.toNat++ys++xs.drop c.toNat))) s'->Q () s') :
  wpAny (model X.prog X.w) X.A (setItem (.ref l) (.ref sl) (.ref b)) Q X.xe s:=by
 obtain⟨ta,rfl⟩:=ra;obtain⟨tc,rfl⟩:=rc;obtain⟨z,its,n,r,hl,e⟩:=I.uT hH;obtain⟨z2,its2,n2,r2,hl2,e2⟩:=I.uT hB;obtain⟨a',rfl⟩:=Int.eq_ofNat_of_zero_le h0;obtain⟨c',rfl⟩:=Int.eq_ofNat_of_zero_le (Int.le_trans h0 hac);simp only[Int.toNat_natCast] at h;refine uU (a:=a') (c:=c') e e2 hne hs (.int _ _) (.int _ _) (by lia) (by rw[nX];lia) (by rw[nX,nX];lia) (h _ ?_);refine I.JG (its':=its.take a'++its2++its.drop c') (t':=s.toks) hH e ?_ (Vals.append (Vals.append (r.take _) r2) (r.drop _)) ?_
 ·exact HF its its2 a' c'
 ·rw[yY,yY,nE,zzH]
  lia
end
end L2
namespace Att
open PySem PySem.W PySem.Calls PyProof.Rows
theorem qy{P:Params}{h:Heap}:∀(ns:List Int)(vs:xF),WellAll P h vs (ns.map WData.int)->IntsAre vs ns:=by
 intro ns
 induction ns with
 | nil =>
  intro vs w;rw[List.map_nil] at w;cases w;exact .nil
 | cons n ns ih =>
  intro vs w;rw[nI] at w;cases w with
  | cons a b =>
   cases a;exact .cons _ _ (ih _ b)
theorem HN{l:OpenLaw}{n:Nat}(hn:l.most=some n){P:Params}{h:Heap}{args:List WData}{vals:xF}
  (hpre:l.row.toRowW.claim.pre args=true) (hwl:WellAll P h vals args) :
  ∃a vs ns,vals=[Value.ref a]/\args=[WData.list (ns.map WData.int)]/\h.get? a=some { cls:=.type "list", data:=.seq vs.toArray }/\IntsAre vs ns/\ns.length<=n:=by
 have hsh:WShape.hasAll [] args [.list .int]=true:=(pre_splitW hpre).1;have hc:l.pre.holds [] { args:=args }=true:=(pre_splitW hpre).2;obtain⟨d,r,rfl,h1,h2⟩:=hasAllW_cons hsh;obtain rfl:=hasAllW_nil h2;obtain⟨xs,rfl,h3⟩:=hasW_list h1;obtain⟨ns,rfl⟩:=items_int h3;have hlen:ns.length<=n:=by
  unfold OpenLaw.pre at hc;have h4:(WTm.not (.lt (.lit (.int (n:Int))) (.len (.arg 0)))).holds [] { args:=[.list (ns.map .int)] }=true:=by
   have h4:=(holds_andW hc).1;rw[hn] at h4;exact h4
  have h5:=condW_of h4 (w_not (w_lt w_lit (w_len_list (w_arg rfl))));rw[wS] at h5;refine Nat.le_of_not_lt λq=>?_
  have q':(n:Int)<((ns.length:Nat):Int):=by lia
  first
   | (rw[uB q'] at h5;exact gS h5 (by decide))
   | (simp at h5;lia)
 cases hwl with
 | cons w1 w2 =>
  cases w2;cases w1 with
  | list ho hall=>exact⟨_,_,ns,rfl,rfl,ho,qy ns _ hall,hlen⟩
theorem HS(l:OpenLaw)(args:List WData):l.row.toRowW.claim.post args (.bool true) args=true :=
 postW_of (r:=l.row.toRowW) (X:=(true==true))
  (show WShape.has [] (.bool true) .bool=true by first|rfl|decide|simp[WShape.has,WShape.arms,WShape.armsAll])
  (show (WTm.eq .res (.lit (.bool true))).value [] { args:=args,res:=some (.bool true),after:=args }=some (.bool (true==true)) from w_eq_bool (w_res rfl) w_lit) rfl
theorem zK{l:OpenLaw}{n:Nat}{q:Program}{loose:List Str}{XP:(Str->Option Value)->Heap->Prop}{YP:World->Heap->Prop}{d:DefRec}
  (hn:l.most=some n) (hdf:d.params.defaults=[])
  (call:∀(w:World)(s₀ s₁:Shared)(mg mb:xC)(fa:Addr)(o:Obj)(pm cd doc:Value)(a:Addr)(vs:xF)(ns:List Int),
   Ground q loose [] XP w s₀ mg mb s₁.heap->YP w s₁.heap ->
   s₁.heap.get? fa=some o->o.data=.func (docDef d.name d.params d.body d.scope pm cd doc)->s₁.heap.CodeRec cd d.name->mg d.name=some (.ref fa) ->
   s₁.heap.get? a=some { cls:=.type "list", data:=.seq vs.toArray }->IntsAre vs ns->ns.length<=n->s₁.gens=#[] ->
   codeAny (model l.prog w) callerA (.call (.ref fa) ⟨[.ref a],[]⟩) (λr s'=>r=.ok (.ret (.bool true))/\OldK s₁.heap s'.heap/\s'.os=s₁.os/\AllBare s'.gens) s₁) :
  WalkO q loose XP YP l.row.toRowW d [] (λf vs=>PySem.call f vs):=by
 intro w s₀ s₁ mg mb G Y fa o pm cd doc dV kV ho hd hcd hD hmg hg args vals as hpre hlay hrd hwl hlo;obtain rfl:dV=.none:=Dflts.none hD hdf;obtain rfl:kV=.none:=Dflts.noKw hD;obtain⟨a,vs,ns,rfl,rfl,hobj,hints,hlen⟩:=HN hn hpre hwl;refine enter_call (codeAny_mono (call w s₀ s₁ mg mb fa o pm cd doc a vs ns G Y ho (fd_plain hd) hcd hmg hobj hints hlen hg) λr s' hq=>?_);obtain⟨rfl,h2,h3,h4⟩:=hq;exact⟨.inl ⟨.bool true,.bool true,[],rfl,λ_=>rfl,.bool true,HS l _,λ_=>⟨List.Pairwise.nil,λ_ hm=>(nomatch hm)⟩⟩,h2,h3,h4⟩
end Att
namespace L2
open PySem PySem.Spec PyProof.Rows
theorem vD:∀{vs:xF} {ns:List Int},IntsAre vs ns->Vals (ns.map V.int) vs
 | _,_,.nil=>.nil
 | _,_,.cons n t h=>.cons ⟨t,rfl⟩ (vD h)
def inClass(s:Stmt)(j:Nat):Stmt:=match s with
 | .ClassDef _ _ _ body _ _ _ _ _ _ _=>body.getD j (.Pass ⟨0,0,0,0⟩)
 | _=>.Pass ⟨0,0,0,0⟩
def dw(s:Stmt):Arguments:=match s with
 | .FunctionDef _ a _ _ _ _ _ _ _ _=>a
 | _=>{ posonlyargs:=[],args:=[],vararg:=none,kwonlyargs:=[],kw_defaults:=[],kwarg:=none,defaults:=[] }
def cj(s:Stmt):List Stmt:=match s with
 | .FunctionDef _ _ b _ _ _ _ _ _ _=>b
 | _=>[]
def aF(s:Stmt):Scope:=match s with
 | .FunctionDef _ _ _ _ _ _ sc _ _ _=>sc
 | _=>{ kind:=.function,names:=[],isGenerator:=false,isCoroutine:=false }
abbrev CX0:CXT:=λ_ _ _ _ _ _=>False
abbrev E0:XK:=λ_ _ _=>False
theorem vG{X:Cx}:Passes CX0 X E0:=λ_ _ _ _ _ _ _ h=>h.elim
structure Fun(K:W.Frag)(x qual:Str)(st:Stmt)(f:Addr)(fd:FuncData):Prop where
 ex:∃(oc:Value) (od:xL) (kV doc pm:Value) (an:xL) (cdv ct:Value) (osl:Array (Option Value)),
  fd=W.fnOf x qual (dw st) (cj st) (aF st) .none kV doc pm an cdv ct/\K.lookup f=some ⟨oc,od,.func fd,osl⟩/\W.codeIn K cdv qual=true
 kp:W.keepIn K (.ref f)=true
section
variable{P:Program}{w:World}{K:W.Frag}{mg:xC}{base:Heap}
theorem Fun.ok{x qual:Str}{st:Stmt}{f:Addr}{fd:FuncData}{N ps:List Str}{k:Nat}{sp:Sp}(F:Fun K x qual st f fd)(S:aN N ps (aF st))(len:∀vs H Q E,sp vs H Q E->vs.length=ps.length)
  (hbody:∀(cdv:Value)(A:Around)(outer:List Env)(s:Shared)(H:Hp)(vs:List V)(Q:VK)(E:XK),Room k (A.deeper (envOfC qual (aF st) s.heap.objs.size f cdv))->sp vs H Q E ->
   ∃t,PSs (iV CX0 P w K mg base N qual (aF st) f cdv A outer s H E).nox (cj st) t/\t { nx:=λ_ H'=>Q .non H',rt:=Q } (start N vs) H):f9 P w K mg base CX0 (k+1) f fd ps sp:=by
 obtain⟨oc,od,kV,doc,pm,an,cdv,ct,osl,rfl,lk,hcd⟩:=F.ex;refine vA lk hcd S len λA outer s H vs Q E hr hsp=>?_
 obtain⟨t,h,q⟩:=hbody cdv A outer s H vs Q E hr hsp;exact⟨t,h.nox,q⟩
theorem Fun.binds{x qual:Str}{st:Stmt}{f:Addr}{fd:FuncData}{ps:List Str}(F:Fun K x qual st f fd)
  (h:∀(kV doc pm:Value)(an:xL)(cdv ct:Value)(us:xF),us.length=ps.length->bindArgs (W.fnOf x qual (dw st) (cj st) (aF st) .none kV doc pm an cdv ct) ⟨us,[]⟩=pure (ps.zip us)):Binds K fd ps []:=by
 obtain⟨oc,od,kV,doc,pm,an,cdv,ct,osl,rfl,lk,hcd⟩:=F.ex;exact .all (h kV doc pm an cdv ct)
theorem mD{x qual:Str}{st:Stmt}{f:Addr}{oc:Value}{od an:xL}{osl:Array (Option Value)}{kV doc pm cdv ct:Value}(l:K.lookup f=some ⟨oc,od,.func (W.fnOf x qual (dw st) (cj st) (aF st) .none kV doc pm an cdv ct),osl⟩)
  (c:W.codeIn K cdv qual=true) (k:W.keepIn K (.ref f)=true):Fun K x qual st f (W.fnOf x qual (dw st) (cj st) (aF st) .none kV doc pm an cdv ct):=⟨⟨oc,od,kV,doc,pm,an,cdv,ct,osl,rfl,l,c⟩,k⟩
end
section
variable{X:Cx}
theorem pv(i:Nat){x:Str}{pos:Pos}(hN:X.N[i]?=some x:=by rfl)(hv:Vis X.env.scope x:=by first|exact Or.inl rfl|exact Or.inr (Or.inl rfl)|exact Or.inr (Or.inr rfl))(hd:(x==("__debug__" : Str))=false:=by decide)
  (hcd:(x==("__classdict__" : Str))=false:=by decide):PE X (.Name x pos) (gF i):=Ss hN hv hd hcd
end
theorem V7{A B:Prop}(h:B):if false=true then A else B:=by
 rw[yT vT];exact h
theorem V8{A B:Prop}(h:A):if true=true then A else B:=by
 rw[yB rfl];exact h
def Same(H H':Hp):Prop:=∀b o,H b=some o->H' b=some o
theorem Same.refl(H:Hp):Same H H:=λ_ _ h=>h
theorem Same.trans{H H1 H2:Hp}(a:Same H H1)(b:Same H1 H2):Same H H2:=λc o h=>b c o (a c o h)
theorem Same.free{H H':Hp}(e:Same H H'){l:Addr}(h:H' l=Option.none):H l=Option.none:=by
 cases q:H l with
 | none=>rfl
 | some o =>
  rw[e l o q] at h;cases h
theorem Same.seq{K:W.Frag}{H H':Hp}{a:Addr}{xs:List V}(e:Same H H')(h:SqL K H a xs):SqL K H' a xs:=by
 rcases h with(h|⟨o,h⟩)|h
 ·exact .inl (.inl (e _ _ h))
 ·exact .inl (.inr ⟨o,e _ _ h⟩)
 ·exact .inr h
section
variable{κ:Type}[DecidableEq κ]
def Pa(kvs:List (κ×V))(k:κ):Option V:=(kvs.find? λkv=>decide (kv.1=k)).map (·.2)
def putK(kvs:List (κ×V))(k:κ)(v:V):List (κ×V) :=
 if (kvs.any λkv=>decide (kv.1=k))=true then kvs.map (λkv=>if kv.1=k then (kv.1,v) else kv) else kvs++[(k,v)]
def Rh(kvs:List (κ×V))(k:κ):List (κ×V):=kvs.filter λkv=>decide (kv.1≠k)
theorem ju.getD{o:Option V}{u:Option Value}{d:V}{d':Value}(r:ju o u)(rd:RelV d d'):RelV (o.getD d) (u.getD d'):=by
 cases o with
 | none=>cases u with
  | none=>exact rd
  | some _=>exact(show False from r).elim
 | some _=>cases u with
  | none=>exact(show False from r).elim
  | some _=>exact r
theorem KV.any{kvs:List (κ×V)}{vs:List (κ×Value)}(r:KV kvs vs)(k:κ):(kvs.any λkv=>decide (kv.1=k))=vs.any λkv=>decide (kv.1=k):=by
 unfold KV at r
 induction r with
 | nil=>rfl
 | cons h t ih=>rw[List.any_cons,List.any_cons,ih,h.1]
theorem KV.drop{kvs:List (κ×V)}{vs:List (κ×Value)}(r:KV kvs vs)(k:κ):KV (Rh kvs k) (without vs k):=by
 unfold KV at r ⊢;unfold Rh without
 induction r with
 | nil=>exact .nil
 | @cons p q ps qs h t ih =>
  obtain⟨h1,h2⟩:=h;rw[List.filter_cons,List.filter_cons];by_cases e:p.1=k
  ·have a:¬ decide (p.1≠k)=true:=by simp[e]
   have b:¬ decide (q.1≠k)=true:=by simp[h1.symm.trans e]
   rw[yT a,yT b];exact ih
  ·have e':¬ q.1=k:=λz=>e (h1.trans z)
   have a:decide (p.1≠k)=true:=by simp[e]
   have b:decide (q.1≠k)=true:=by simp[e']
   rw[yB a,yB b];exact .cons ⟨h1,h2⟩ ih
theorem KV.keys{kvs:List (κ×V)}{vs:List (κ×Value)}(r:KV kvs vs):kvs.map (·.1)=vs.map (·.1):=by
 unfold KV at r
 induction r with
 | nil=>rfl
 | cons h t ih=>rw[nI,nI,ih,h.1]
theorem KV.length{kvs:List (κ×V)}{vs:List (κ×Value)}(r:KV kvs vs):kvs.length=vs.length:=Paired.length r
end
def Pb(H:Hp)(a:Addr)(y:V)(r:Option V):Prop :=
 (∃kvs k,Rd H a (.dK kvs)/\y=kV k/\r=Pa kvs k)\/∃kvs k b,Rd H a (.dT kvs)/\y=.ref b/\H b=some (.tup (k.map kV))/\r=Pa kvs k
def Pg(H:Hp)(a:Addr)(y v:V)(H':Hp):Prop :=
 (∃kvs k,H a=some (.dK kvs)/\y=kV k/\kvs.length<sizeLine/\H'=upd H a (.dK (putK kvs k v))) \/
 ∃kvs k b,H a=some (.dT kvs)/\y=.ref b/\H b=some (.tup (k.map kV))/\kvs.length<sizeLine/\H'=upd H a (.dT (putK kvs k v))
theorem Pb.k{H:Hp}{a:Addr}{kvs:List (Key×V)}{k:Key}(e:H a=some (.dK kvs)):Pb H a (kV k) (Pa kvs k):=.inl ⟨kvs,k,.inl e,rfl,rfl⟩
theorem Pb.t{H:Hp}{a b:Addr}{kvs:List (List Key×V)}{k:List Key}(e:H a=some (.dT kvs))(eb:H b=some (.tup (k.map kV))):Pb H a (.ref b) (Pa kvs k):=.inr ⟨kvs,k,b,.inl e,rfl,eb,rfl⟩
theorem Pg.k{H:Hp}{a:Addr}{kvs:List (Key×V)}{k:Key}{v:V}(e:H a=some (.dK kvs))(hl:kvs.length<sizeLine):Pg H a (kV k) v (upd H a (.dK (putK kvs k v))):=.inl ⟨kvs,k,e,rfl,hl,rfl⟩
theorem Pg.t{H:Hp}{a b:Addr}{kvs:List (List Key×V)}{k:List Key}{v:V}(e:H a=some (.dT kvs))(eb:H b=some (.tup (k.map kV)))(hl:kvs.length<sizeLine) :
  Pg H a (.ref b) v (upd H a (.dT (putK kvs k v))):=.inr ⟨kvs,k,b,e,rfl,eb,hl,rfl⟩
structure M2(X:Cx)(o:Expr)(m:Str)(apos:Pos)(e f:Expr)(cpos:Pos):Prop where
 base:attributeBase o m X.env (eval o X.env)=eval o X.env
 few:((backTo cpos (starEach [e,f] X.env)).all (λx=>!x.1) && (backToKw cpos (keywordEach [] X.env)).all (λx=>x.1.isSome)
  && decide (([e,f]:List Expr).length+([]:List Keyword).length+(if ([]:List Keyword).isEmpty then 0 else 1)<30))=true
 line:(apos.endLine==cpos.line)=true
 trees:backTo cpos (starEach [e,f] X.env)=[(false,eval e X.env),(false,eval f X.env)]
end L2
set_option maxHeartbeats 4000000
namespace L2
open PySem PySem.Spec PyProof.Rows
section
variable{P:Program}{w:World}{K:W.Frag}{mg:xC}{base:Heap}{CX:CXT}{x:Str}{ps:List Str}{sp:Sp}{j k:Nat}
structure Def(P:Program)(w:World)(K:W.Frag)(mg:xC)(base:Heap)(CX:CXT)(k:Nat)(x:Str)(ps:List Str)(sp:Sp):Prop where
 ex:∃(f:Addr)(fd:FuncData),f9 P w K mg base CX k f fd ps sp/\mg x=some (.ref f)/\W.keepIn K (.ref f)=true/\Binds K fd ps []
theorem Def.mono(D:Def P w K mg base CX j x ps sp)(h:j<=k):Def P w K mg base CX k x ps sp :=
 let ⟨f,fd,F,a,b,c⟩:=D.ex
 ⟨f,fd,F.mono h,a,b,c⟩
def HasDef(K:W.Frag)(mg:xC)(x:Str)(st:Stmt):Prop:=∃(f:Addr)(fd:FuncData),Fun K x x st f fd/\mg x=some (.ref f)
theorem HasDef.mk{st:Stmt}{f:Addr}{oc:Value}{od an:xL}{osl:Array (Option Value)}{kV doc pm cdv ct:Value}(m:mg x=some (.ref f))
  (l:K.lookup f=some ⟨oc,od,.func (W.fnOf x x (dw st) (cj st) (aF st) .none kV doc pm an cdv ct),osl⟩)
  (c:W.codeIn K cdv x=true) (k:W.keepIn K (.ref f)=true):HasDef K mg x st:=⟨f,_,mD l c k,m⟩
theorem bM{st:Stmt}{N:List Str}(h:HasDef K mg x st)(S:aN N ps (aF st))(len:∀vs H Q E,sp vs H Q E->vs.length=ps.length)
  (hb:∀(kV doc pm:Value)(an:xL)(cdv ct:Value)(us:xF),us.length=ps.length->bindArgs (W.fnOf x x (dw st) (cj st) (aF st) .none kV doc pm an cdv ct) ⟨us,[]⟩=pure (ps.zip us))
  (hbody:∀(f:Addr)(cdv:Value)(A:Around)(outer:List Env)(s:Shared)(H:Hp)(vs:List V)(Q:VK)(E:XK),Room k (A.deeper (envOfC x (aF st) s.heap.objs.size f cdv))->sp vs H Q E ->
   ∃t,PSs (iV CX P w K mg base N x (aF st) f cdv A outer s H E).nox (cj st) t/\t { nx:=λ_ H'=>Q .non H',rt:=Q } (start N vs) H):Def P w K mg base CX (k+1) x ps sp:=by
 obtain⟨f,fd,F,m⟩:=h;refine⟨f,fd,?_,m,F.kp,F.binds hb⟩;obtain⟨oc,od,kV,doc,pm,an,cdv,ct,osl,rfl,lk,hcd⟩:=F.ex;refine vA lk hcd S len λA outer s H vs Q E hr hsp=>?_
 obtain⟨t,h,q⟩:=hbody f cdv A outer s H vs Q E hr hsp;exact⟨t,h.nox,q⟩
end
section
variable{X:Cx}{CX:CXT}{k m:Nat}{x:Str}{ps:List Str}{sp:Sp}{E:XK}{p pos:Pos}{e:Expr}{es:List Expr}{t:TA}
theorem aK(D:Def X.prog X.w X.K X.mg X.base CX k x ps sp)(hr:Room m X.A)(ha:PA X (e::es) t)(hk:k<=m:=by decide)(hx:Passes CX X E:=by exact vG)(hg:Gl X x:=by rfl)
  (hdb:(x==("__debug__" : Str))=false:=by decide) (he:starEach (e::es) X.env=(false,eval e X.env)::starEach es X.env:=by rfl) (hpl:(backTo pos (starEach es X.env)).any (·.1)=false:=by rfl) :
  PE X (.Call (.Name x p) (e::es) [] pos) (rD sp [] E t):=by
 obtain⟨f,fd,F,hm,kp,b⟩:=D.ex;exact O2 F (hr.mono hk) hg hm kp b .nil hx ha hdb he hpl
end
def Dr(mg:xC)(x:Str)(v:V):Prop:=∃u,mg x=some u/\RelV v u
theorem zL{X:Cx}{x:Str}{v:V}{pos:Pos}(h:Dr X.mg x v)(hg:Gl X x:=by rfl)(hd:(x==("__debug__" : Str))=false:=by decide):PE X (.Name x pos) (tC v) :=
 let ⟨_,e,r⟩:=h
 Ow hg e r hd
section
variable{X:Cx}{T:String}{pos:Pos}
theorem m_{x:Str}(hg:Gl X x)(hm:X.mg x=none)(hv:bootBuiltins x=some (.type T))(hn:x ≠ "__name__":=by decide)(hd:(x==("__debug__" : Str))=false:=by decide):PE X (.Name x pos) (tC (.ty T)) :=
 Ox hg hm hv rfl hn hd
def pZ(K:W.Frag)(t:Value):V->Option Bool
 | .ty T=>W.kitOne K t (.type T)
 | .ref C=>W.kitOne K t (.ref C)
 | _=>none
theorem call_isinstance:gV X (.builtin "isinstance") (λxs H Q=>∃x c t b,xs=[x,c]/\dN X.K H x t/\pZ X.K t c=some b/\Q (.bl b) H):=by
 intro pins s σ H xs us Q I r h;obtain⟨x,c,t,b,rfl,ty,e,q⟩:=h;obtain⟨u,v,rfl,ru,rv⟩:=vals2 r;cases c with
 | ty T =>
  obtain rfl:v=Value.type T:=rv;exact vf I ru ty e λtk=>⟨.bl b,H,I.tok _,rfl,q⟩
 | ref C =>
  obtain rfl:v=Value.ref C:=rv;exact vf I ru ty e λtk=>⟨.bl b,H,I.tok _,rfl,q⟩
 | _=>cases e
end
section
variable{X:Cx}
theorem rF:∀{bs:List Bool} {us:xF},Vals (bs.map V.bl) us->LSm.BoolsAre us bs
 | [],_,.nil=>.nil
 | b::bs,_,.cons r t=>by
  cases (show _=Value.bool b from r);exact .cons b (rF t)
theorem zM(hc:X.calm=true):gV X (.builtin "any") (λxs H Q=>∃(p:Addr)(bs:List Bool),xs=[.ref p]/\SqL X.K H p (bs.map V.bl)/\Q (.bl (bs.any id)) H):=by
 intro pins s σ H xs us Q I r h;obtain⟨p,bs,rfl,hq,q⟩:=h;obtain⟨u,rfl,rx⟩:=vals1 r;cases rx;obtain⟨its,rv,pl,hz⟩:=I.list hq;have hb:=rF rv;have hl:=pl.isList;have hlt:p<s.heap.objs.size:=by obtain⟨_,e,_⟩:=hl;exact uC e
 refine call_any_walk (wpAny_pyIter_list hl ?_);refine⟨s.heap.objs.size,[s.heap.objs.size,p],[s.heap.objs.size],its.toArray.size,_,_,λi=>(bs[i]?).getD false,rfl,Walks.list (A:=X.A.in1) (I.ok.hd hc) _ p (gE hlt) its.toArray,
  ⟨⟨_,oS _ rfl,rfl,rfl⟩,hl.push _⟩,λi v s' Q' E' hP hQ=>?_,λh' tk hk=>?_⟩
 ·obtain⟨b,e,rfl⟩:=hb.get i v (by simpa using hP);simp only[e,Option.getD_some] at hQ;exact wpAny_truthy_bool hQ
 ·have e:((List.range its.toArray.size).any λi=>(bs[i]?).getD false)=bs.any id:=by
   rw[nX,hb.length];exact LSm.range_any bs
  rw[e];exact⟨.bl _,H,I.kept (LSm.kept_iter hk),rfl,q⟩
end
def d7(env:Env):List (Str×NameKind)->Option (List (Str×Addr))
 | []=>some []
 | (n,k)::r=>if k=.free then (env.cells.lookup n).bind λc=>(d7 env r).map λcl=>cl++[(n,c)] else d7 env r
theorem iW{env:Env}:∀{names:List (Str×NameKind)} {cl:List (Str×Addr)},d7 env names=some cl->∀x c,cl.lookup x=some c->env.cells.lookup x=some c
 | [],cl,h,x,c,e=>by
  cases (nS h);cases e
 | (n,k)::r,cl,h,x,c,e=>by
  unfold d7 at h;by_cases hk:k=.free
  ·rw[yB hk] at h;cases hc:env.cells.lookup n with
   | none=>rw[hc] at h;cases h
   | some c' =>
    rw[hc] at h;have h:(d7 env r).map (λcl=>cl++[(n,c')])=some cl:=h;cases hr:d7 env r with
    | none=>rw[hr] at h;cases h
    | some cl' =>
     rw[hr] at h;have h:cl'++[(n,c')]=cl:=nS h;subst h;rw[List.lookup_append] at e;cases h2:cl'.lookup x with
     | some c2 =>
      rw[h2] at e;have e:c2=c:=by simpa using e
      subst e;exact iW hr x c2 h2
     | none =>
      rw[h2] at e;have e:List.lookup x [(n,c')]=some c:=by simpa using e
      by_cases hx:x=n
      ·subst hx;have:c'=c:=by simpa using e
       subst this;exact hc
      ·have hb:(x==n)=false:=by simpa using hx
       simp[List.lookup_cons,hb] at e
  ·rw[yT hk] at h;exact iW h x c e
theorem iY{env:Env}:∀(names:List (Str×NameKind)) (acc cl:List (Str×Addr)),d7 env names=some cl ->
  (forIn (m:=Sem) names acc λx c=>if x.2==NameKind.free then (do let a <- cellOf env x.1;pure (ForInStep.yield ((x.1,a)::c))) else pure (ForInStep.yield c))=pure (cl++acc)
 | [],acc,cl,h=>by
  cases (nS h)
  rfl
 | (n,k)::r,acc,cl,h=>by
  unfold d7 at h;rw[List.forIn_cons];by_cases hk:k=.free
  ·rw[yB hk] at h;cases hc:env.cells.lookup n with
   | none=>rw[hc] at h;cases h
   | some c' =>
    rw[hc] at h;have h:(d7 env r).map (λcl=>cl++[(n,c')])=some cl:=h;cases hr:d7 env r with
    | none=>rw[hr] at h;cases h
    | some cl' =>
     rw[hr] at h;have h:cl'++[(n,c')]=cl:=nS h;subst h;have hb:(k==NameKind.free)=true:=by simpa using hk
     have:=iY r ((n,c')::acc) cl' hr;have ec:cellOf env n=pure c':=by unfold cellOf;rw[hc]
     simp only[hb,if_true,ec,pure_bind,bind_assoc];rw[this];simp
  ·rw[yT hk] at h;have hb:(k==NameKind.free)=false:=by simpa using hk
   have:=iY r acc cl h;simp only[hb,Bool.false_eq_true,if_false,pure_bind];exact this
theorem lZ{env:Env}{scope:Scope}{cl:List (Str×Addr)}(h:d7 env scope.names=some cl):closureFor scope env=pure cl:=by
 have:=iY scope.names [] cl h;rw[mP] at this;have key:closureFor scope env=(forIn (m:=Sem) scope.names ([]:List (Str×Addr)) λx c=>if x.2==NameKind.free then (do let a <- cellOf env x.1;pure (ForInStep.yield ((x.1,a)::c))) else pure (ForInStep.yield c)) >>= λcs=>pure cs:=by
  unfold closureFor
  rfl
 rw[key,this]
 rfl
theorem HW{prog:Program}{w:World}{A:Around}{R:Result->Shared->Prop}{s:Shared}{elt target iter:Expr}{ifs:List Expr}{scope:Scope}{pos:Pos}{it acc:Value}{env:Env}(I:Nat->Shared->Prop)
  (turn:∀n s,I n s->wpAny (model prog w) A (pyNext it) (λr s₁=>match r with
   | none=>R (.ok .next) s₁
   | some v=>wpAny (model prog w) A (letOwnedTupleGo target it v) (λ_ s₀=>wpAny (model prog w) A (assign target env v) (λ_ s₂ =>
     wpAny (model prog w) A (forIn ifs true λc r=>if r=true then do let ok <- isTrue c env (eval c env);pure (ForInStep.yield ok) else pure (ForInStep.yield r)) (λok s₃ =>
      if ok=true then wpAny (model prog w) A (eval elt env) (λx s₄ =>
       wpAny (model prog w) A (call (.builtin "list.append") [acc,x]) (λ_ s₅=>∃m,m<n/\I m s₅) (λ_ _=>False) s₄) (λ_ _=>False) s₃
      else ∃m,m<n/\I m s₃) (λ_ _=>False) s₂) (λ_ _=>False) s₀) (λ_ _=>False) s₁) (λ_ _=>False) s)
  (n:Nat) (h:I n s) :
  codeAny (model prog w) A (.compLoop (.ListComp elt [⟨target,iter,ifs,0⟩] scope pos) 0 it acc env) R s:=by
 refine codeAny_loop rfl I (λn s hI=>?_) n h;show wpAny _ A ((compTurn (.ListComp elt [⟨target,iter,ifs,0⟩] scope pos) 0 it acc env).onRaise (λx=>do noteFrame x env;theTreesLotGoes x)) _ _ s;refine wpAny_noted ?_;rw[compTurn_list];refine zI (wpAny_standAt (zI (mM (turn n s hI) (λr s₁ h₁=>?_) λ_ _ h'=>h'.elim)));cases r with
 | none=>exact oB h₁
 | some v =>
  refine zI (mM h₁ (λ_ s₀ h₀=>?_) λ_ _ h'=>h'.elim);refine zI (mM h₀ (λ_ s₂ h₂=>zI (mM h₂ (λok s₃ h₃=>?_) λ_ _ h'=>h'.elim)) λ_ _ h'=>h'.elim);cases ok with
  | false=>exact oB ⟨rfl,h₃⟩
  | true =>
   exact zI (zI (mM h₃ (λx s₄ h₄=>zI (mM h₄ (λ_ s₅ h₅=>oB (oB ⟨rfl,h₅⟩)) λ_ _ h'=>h'.elim)) λ_ _ h'=>h'.elim))
def dO(X:Cx)(N:List Str)(scope:Scope)(cl:List (Str×Addr))(pins:List (Addr×Obj))(s:Shared)(H:Hp)(fp:List Addr):Cx where
 prog:=X.prog
 w:=X.w
 K:=X.K
 mg:=X.mg
 base:=X.base
 A:=X.A
 N:=N
 s₀:=s
 H₀:=H
 env:=compEnvC scope cl s.heap.objs.size X.env
 outer:=X.stack
 stack:=X.stack
 ex:=fp
 fn:=λ_=>false
 calm:=X.calm
 pn:=X.pn++pins
 xe:=λ_ _=>False
def eY(nt:Nat)(fr:List Nat)(σ:St):St:=List.replicate nt none++fr.map λi=>(σ[i]?).getD none
structure fu(X:Cx)(N:List Str)(nt:Nat)(fr:List Nat)(scope:Scope)(cl:List (Str×Addr)):Prop where
 len:N.length=nt+fr.length
 free:∀(j:Nat)(i:Nat)(x:Str),fr[j]?=some i->N[nt+j]?=some x->X.N[i]?=some x/\(∃c,cl.lookup x=some c)/\(X.env.kindOf x=some .cell\/X.env.kindOf x=some .free) /\
  ((relabel scope X.env).names.lookup x=some .cell\/(relabel scope X.env).names.lookup x=some .free)
 cells:∀x c,cl.lookup x=some c->X.env.cells.lookup x=some c
 has:∀x,((relabel scope X.env).names.lookup x=some .cell\/(relabel scope X.env).names.lookup x=some .free)->∃c,cl.lookup x=some c
 kind:scope.kind=.function
theorem zN{X:Cx}{x:Str}(h:X.env.kindOf x=some .cell\/X.env.kindOf x=some .free):Vis X.env.scope x:=by
 rcases h with h|h
 ·exact .inr (.inl h)
 ·exact .inr (.inr h)
section
variable{X:Cx}{N:List Str}{nt:Nat}{fr:List Nat}{scope:Scope}{cl:List (Str×Addr)}{pins:List (Addr×Obj)}{σ:St}{H:Hp}{s:Shared}{fp:List Addr}
theorem Ph(I:Inv X pins σ H s)(cn:fu X N nt fr scope cl)(hf:∀b∈fp,m8 X pins H b)(ho:∀b∈fp,b<s.heap.objs.size):(dO X N scope cl pins s H fp).Ok where
 mod:=I.mod
 kind:=cn.kind
 glob:=I.ok.glob
 blt:=I.ok.blt
 above:=rS _
 inj:=λx y c h1 h2=>I.ok.inj x y c (cn.cells x c h1) (cn.cells y c h2)
 has:=λx hx=>cn.has x hx
 cab:=λx c h _=>by cases (show false=true from h)
 hd:=I.ok.hd
 frames:=I.ok.frames
 stk:=.inl rfl
 exf:=λb hb=>⟨gE (ho b hb),λx c e=>(hf b hb).2.2.2.2.1 x c (cn.cells x c e)⟩
 bs:=I.bs
 bsz:=oC I.ok.bsz I.sz
 uO:=λb o e hb=>by
  rcases(hf b hb).2.2.2.1 with z|z
  ·exact I.ok.uO b o e z
  ·exact gS (qV (uC e) (oC I.ok.bsz z)) (gI _)
 xR:=λb hb z=>(jS.mp (I.qY b z)).elim (λe=>(hf b hb).2.1 e) λe=>(hf b hb).2.2.1 e
 jK:=I.stack
 frf:=I.mZ
theorem JL{h4:Heap}{t':Nat}(I:Inv X pins σ H s)(cn:fu X N nt fr scope cl)(hf:∀b∈fp,m8 X pins H b)(ho:∀b∈fp,b<s.heap.objs.size)
  (k:∀b o,s.heap.get? b=some o->h4.get? b=some o) (hns:∃m,h4.Ns s.heap.objs.size m):Inv (dO X N scope cl pins s H fp) [] (eY nt fr σ) H { s with heap:=h4,toks:=t' }:=by
 have ck:∀{c:Addr} {v:Option Value},s.heap.IsCell c v->h4.IsCell c v:=λ⟨o,e,d⟩=>⟨o,k _ o e,d⟩
 refine⟨Ph I cn hf ho,rfl,I.bare,Un.kept k,?_,λx c e=>?_,?_,λx c e=>?_,λp hp=>?_,I.hok.kept k,?_⟩
 ·obtain⟨m,hm⟩:=hns;refine⟨m,hm,λi x v e1 e2 _=>?_⟩;have e2:(eY nt fr σ)[i]?=some (some v):=e2;have e1:N[i]?=some x:=e1;unfold eY at e2;by_cases hi:i<nt
  ·rw[List.getElem?_append_left (by simpa using hi),List.getElem?_replicate,if_pos hi] at e2;cases e2
  ·obtain⟨j,rfl⟩:∃j,i=nt+j:=⟨i-nt,by lia⟩;rw[List.getElem?_append_right (by simp),List.length_replicate,Nat.add_sub_cancel_left,List.getElem?_map] at e2;cases hj:fr[j]? with
   | none=>rw[hj] at e2;cases e2
   | some i' =>
    rw[hj] at e2;have e2:(σ[i']?).getD none=some v:=nS e2;have e3:σ[i']?=some (some v):=by
     cases q:σ[i']? with
     | none=>rw[q] at e2;cases e2
     | some o=>rw[q] at e2;rw[show o=some v from e2]
    obtain⟨hN,⟨c,hc⟩,hk,hk'⟩:=cn.free j i' x hj e1;obtain⟨m0,_,hl⟩:=I.loc;obtain⟨u,r,l⟩:=hl i' x v hN e3 (zN hk);refine⟨u,r,.inr ⟨hk',c,hc,?_⟩⟩;rcases l with⟨hl',_⟩|⟨_,c',hc',hcell⟩
    ·rcases hk with z|z <;> (rw[hl'] at z;cases z)
    ·have hcc:=cn.cells x c hc;rw[hc'] at hcc;cases hcc;exact ck hcell
 ·obtain⟨v,hv⟩:=I.cell x c (cn.cells x c e);exact⟨v,ck hv⟩
 ·exact I.hok.fresh (rS _)
 ·exact I.fZ x c (cn.cells x c e)
 ·have hp:p∈(X.pn++pins)++[]:=hp;rw[mP] at hp;obtain⟨e,n,ne,nf,d⟩:=I.pin p hp;exact⟨k p.1 p.2 e,n,gE (uC e),λz=>(jS.mp (I.qY p.1 z)).elim ne nf,d⟩
 ·show (eY nt fr σ).length=N.length;unfold eY;rw[cn.len,yY,zzB,wS]
theorem comp_back{H':Hp}{s1 s':Shared}{h':Heap}{σ':St}(I:Inv X pins σ H s)(hsz:s.heap.objs.size<=s1.heap.objs.size)(hos:s1.os=s.os){H1:Hp}(hH:Un (frs X.stack) fp H H1 s.heap s1.heap)
  (hf:∀b∈fp,m8 X pins H b)
  (J:Inv (dO X N scope cl pins s1 H1 fp) [] σ' H' s') (sb:Heap.SameBut s1.heap.objs.size s'.heap h'):Inv X pins σ H' { s' with heap:=h' }:=by
 have u:Un (frs X.stack) fp H H' s.heap s'.heap:=hH.trans J.base;have lt:∀b o,s.heap.get? b=some o->b≠s1.heap.objs.size:=λb o e=>gE (qV (uC e) hsz)
 have kk:∀b o,b≠s1.heap.objs.size->s'.heap.get? b=some o->h'.get? b=some o:=λb o hb e=>sb.extBut b o hb e
 have u':Un (frs X.stack) fp H H' s.heap h':=⟨λb o e n hb hx=>kk b o (lt b o e) (u.keep b o e n hb hx),λb o e n hb hx=>let ⟨sl,z⟩:=u.slot b o e n hb hx;⟨sl,kk b _ (lt b o e) z⟩,u.free,
  λb o e hx=>let ⟨o',z⟩:=u.there b o e hx;⟨o',kk b o' (lt b o e) z⟩,u.tups,u.jH,u.jJ⟩
 have nC:H' s1.heap.objs.size=none:=J.free;refine I.call' (s':={ s' with heap:=h' }) (ch:=fp) (J.os.trans hos) u' (λa o e=>?_) J.bare λb hb=>⟨(hf b hb).2.2.2.1,(hf b hb).2.1,(hf b hb).2.2.2.2.1,(hf b hb).2.2.2.2.2⟩
 refine(J.hok a o e).stay (λb v hb q=>kk b v ?_ q) (λ_ q=>q) λ_ _ q=>q
 rcases hb with z|z
 ·rintro rfl;rw[<- z,nC] at e;cases e
 ·rintro rfl;rw[nC] at z;cases z
end
def vH(X:Cx)(N:List Str)(nt:Nat)(scope:Scope):List Nat->Nat->Bool
 | [],_=>true
 | i::r,j=>(match N[nt+j]? with
  | some x=>decide (X.N[i]?=some x) && decide (scope.names.lookup x=some .free) && (decide (X.env.kindOf x=some .cell) || decide (X.env.kindOf x=some .free))
  | none=>false) && vH X N nt scope r (j+1)
theorem zO{X:Cx}{N:List Str}{nt:Nat}{scope:Scope}:∀{fr:List Nat} {k:Nat},vH X N nt scope fr k=true->∀(j i:Nat)(x:Str),fr[j]?=some i->N[nt+(k+j)]?=some x ->
  X.N[i]?=some x/\scope.names.lookup x=some .free/\(X.env.kindOf x=some .cell\/X.env.kindOf x=some .free)
 | [],_,_,j,i,x,e,_=>by simp at e
 | i0::r,k,h,j,i,x,e1,e2=>by
  unfold vH at h;rw[Bool.and_eq_true] at h;obtain⟨h1,h2⟩:=h;cases j with
  | zero =>
   have e1:i0=i:=by simpa using e1
   subst e1;rw[Nat.add_zero] at e2;rw[e2] at h1;simp only[Bool.and_eq_true,Bool.or_eq_true,decide_eq_true_eq] at h1;exact⟨h1.1.1,h1.1.2,h1.2⟩
  | succ j =>
   exact zO h2 j i x (by simpa using e1) (by rw[show nt+(k+1+j)=nt+(k+(j+1)) by lia];exact e2)
theorem gW{env:Env}:∀{names:List (Str×NameKind)} {x:Str} {k':NameKind},
  (names.map λ(n,k)=>if (k==NameKind.free && env.scope.kind==.function && env.kindOf n==some .cell) then (n,NameKind.cell) else (n,k)).lookup x=some k' ->
  ∃k,names.lookup x=some k/\(k=k'\/(k=.free/\k'=.cell))
 | [],_,_,h=>by simp at h
 | (n,k)::r,x,k',h=>by
  have h:List.lookup x ((if (k==NameKind.free && env.scope.kind==.function && env.kindOf n==some .cell)=true then (n,NameKind.cell) else (n,k))::r.map _)=some k':=h;cases hx:x==n with
  | true =>
   by_cases hc:(k==NameKind.free && env.scope.kind==.function && env.kindOf n==some .cell)=true
   ·rw[yB hc] at h;simp only[List.lookup_cons,hx] at h;have hk:k=.free:=by
     simp only[Bool.and_eq_true,beq_iff_eq] at hc;exact hc.1.1
    exact⟨k,by simp[List.lookup_cons,hx],.inr ⟨hk,(Option.some.inj h).symm⟩⟩
   ·rw[yT hc] at h;simp only[List.lookup_cons,hx] at h;exact⟨k,by simp[List.lookup_cons,hx],.inl (Option.some.inj h)⟩
  | false =>
   have h2:List.lookup x (r.map λ(n,k)=>if (k==NameKind.free && env.scope.kind==.function && env.kindOf n==some .cell) then (n,NameKind.cell) else (n,k))=some k':=by
    by_cases hc:(k==NameKind.free && env.scope.kind==.function && env.kindOf n==some .cell)=true
    ·rw[if_pos hc] at h;simpa only[List.lookup_cons,hx] using h
    ·rw[if_neg hc] at h;simpa only[List.lookup_cons,hx] using h
   obtain⟨k2,e2,o2⟩:=gW h2;exact⟨k2,by simp only[List.lookup_cons,hx];exact e2,o2⟩
theorem ni{env:Env}:∀{names:List (Str×NameKind)} {x:Str},names.lookup x=some .free ->
  (names.map λ(n,k)=>if (k==NameKind.free && env.scope.kind==.function && env.kindOf n==some .cell) then (n,NameKind.cell) else (n,k)).lookup x=some .cell \/
  (names.map λ(n,k)=>if (k==NameKind.free && env.scope.kind==.function && env.kindOf n==some .cell) then (n,NameKind.cell) else (n,k)).lookup x=some .free
 | [],_,h=>by simp at h
 | (n,k)::r,x,h=>by
  show List.lookup x ((if (k==NameKind.free && env.scope.kind==.function && env.kindOf n==some .cell)=true then (n,NameKind.cell) else (n,k))::r.map _)=some .cell\/List.lookup x ((if (k==NameKind.free && env.scope.kind==.function && env.kindOf n==some .cell)=true then (n,NameKind.cell) else (n,k))::r.map _)=some .free;cases hx:x==n with
  | true =>
   simp only[List.lookup_cons,hx] at h;cases h;by_cases hc:(NameKind.free==NameKind.free && env.scope.kind==.function && env.kindOf n==some .cell)=true
   ·rw[if_pos hc];left;simp[List.lookup_cons,hx]
   ·rw[if_neg hc];right;simp[List.lookup_cons,hx]
  | false =>
   simp only[List.lookup_cons,hx] at h;have ih:=ni (env:=env) h;by_cases hc:(k==NameKind.free && env.scope.kind==.function && env.kindOf n==some .cell)=true
   ·rw[if_pos hc];simpa only[List.lookup_cons,hx] using ih
   ·rw[if_neg hc];simpa only[List.lookup_cons,hx] using ih
theorem jy{env:Env}:∀{names:List (Str×NameKind)} {cl:List (Str×Addr)},d7 env names=some cl->∀x,names.lookup x=some .free->∃c,cl.lookup x=some c
 | [],_,_,x,e=>by simp at e
 | (n,k)::r,cl,h,x,e=>by
  unfold d7 at h;by_cases hk:k=.free
  ·rw[yB hk] at h;cases hc:env.cells.lookup n with
   | none=>rw[hc] at h;cases h
   | some c' =>
    rw[hc] at h;have h:(d7 env r).map (λcl=>cl++[(n,c')])=some cl:=h;cases hr:d7 env r with
    | none=>rw[hr] at h;cases h
    | some cl' =>
     rw[hr] at h;have h:cl'++[(n,c')]=cl:=nS h;subst h;rw[List.lookup_append];cases h2:cl'.lookup x with
     | some c2=>exact⟨c2,by simp⟩
     | none =>
      cases hx:x==n with
      | true=>exact⟨c',by simp[List.lookup_cons,hx]⟩
      | false =>
       simp only[List.lookup_cons,hx] at e;obtain⟨c3,e3⟩:=jy hr x e;rw[h2] at e3;cases e3
  ·rw[yT hk] at h;cases hx:x==n with
   | true =>
    simp only[List.lookup_cons,hx] at e;exact gS (nS e) hk
   | false =>
    simp only[List.lookup_cons,hx] at e;exact jy h x e
theorem fu.of{X:Cx}{N:List Str}{nt:Nat}{fr:List Nat}{scope:Scope}{cl:List (Str×Addr)}(hcl:d7 X.env scope.names=some cl)(hlen:N.length=nt+fr.length)(hB:vH X N nt scope fr 0=true)
  (hcell:∀y∈scope.names,y.2≠.cell) (hkind:scope.kind=.function):fu X N nt fr scope cl where
 len:=hlen
 free:=λj i x e1 e2=>by
  obtain⟨h1,h2,h3⟩:=zO hB j i x e1 (by rw[Nat.zero_add];exact e2);exact⟨h1,jy hcl x h2,h3,ni h2⟩
 cells:=iW hcl
 has:=λx hx=>by
  have:scope.names.lookup x=some .free:=by
   rcases hx with hx|hx
   ·obtain⟨k,e,o⟩:=gW (names:=scope.names) (env:=X.env) hx;rcases o with rfl|⟨rfl,_⟩
    ·exact gS rfl (hcell _ (PySem.mem_of_lookup e))
    ·exact e
   ·obtain⟨k,e,o⟩:=gW (names:=scope.names) (env:=X.env) hx;rcases o with rfl|⟨rfl,_⟩
    ·exact e
    ·exact e
  exact jy hcl x this
 kind:=hkind
def PIf(X:Cx)(ifs:List Expr)(t:TT):Prop :=
 ∀(pins:List (Addr×Obj)) (s:Shared) (σ:St) (H:Hp) (Q:Bool->Hp->Prop),Inv X pins σ H s->t σ H Q ->
  wpAny (model X.prog X.w) X.A (forIn ifs true λc r=>if r=true then do let ok <- isTrue c X.env (eval c X.env);pure (ForInStep.yield ok) else pure (ForInStep.yield r)) (TP X pins σ Q) X.xe s
def qb:TT:=λ_ H Q=>Q true H
theorem kZ{X:Cx}:PIf X [] qb:=λ_ _ _ H _ I h=>oB ⟨H,I,h⟩
theorem iD{X:Cx}{c:Expr}{t:TT}(h:PT X c t):PIf X [c] t:=by
 intro pins s σ H Q I hw;rw[List.forIn_cons];simp only[if_true];refine zI (zI (thn (h pins s σ H Q I hw) λb s1 q=>oB ?_));exact oB q
def nj(J:It)(nt:Nat)(fr:List Nat)(g:TG)(c:TT)(te:TE)(σ:St)(H1:Hp)(Q:VK)(acc:Addr):Prop :=
 ∃W:Nat->Nat->St->List V->Hp->Prop,(∃m,W 0 m (eY nt fr σ) [] (upd H1 acc (.lst [])))/\∀i m σ' ys H',W i m σ' ys H'->H' acc=some (.lst ys) /\
  ((J.stop i H'/\Q (.ref acc) H')\/(J.go i H'/\∀x H2,J.yld i H' x H2->g x σ' H2 λσ2 H3=>c σ2 H3 λb H4=>if b=true then
   te σ2 H4 λy H5=>ys.length<sizeLine/\H5 acc=some (.lst ys)/\∃m',m'<m/\W (i+1) m' σ2 (ys++[y]) (upd H5 acc (.lst (ys++[y])))
   else ∃m',m'<m/\W (i+1) m' σ2 ys H4))
def zP(wi:TI)(nt:Nat)(fr:List Nat)(g:TG)(c:TT)(te:TE):TE:=λσ H Q=>wi σ H λJ H1=>∀acc,H1 acc=none->nj J nt fr g c te σ H1 Q acc
section
variable{X:Cx}{target iter elt:Expr}{ifs:List Expr}{scope:Scope}{pos:Pos}{N:List Str}{nt:Nat}{fr:List Nat}{cl:List (Str×Addr)}{wi:TI}{g:TG}{c:TT}{te:TE}
theorem Pj{pins:List (Addr×Obj)}{σ:St}{H H1:Hp}{s:Shared}{fp:List Addr}(I:Inv X pins σ H s)(cn:fu X N nt fr scope cl)(hf:∀b∈fp,m8 X pins H b)(ho:∀b∈fp,b<s.heap.objs.size){H':Hp}(hn:∀b∈fp,H' b=none) :
  ∀b∈fp,m8 (dO X N scope cl pins s H1 fp) [] H' b:=λb hb =>
 ⟨hn b hb,gE (ho b hb),λz=>(jS.mp (I.qY b z)).elim (hf b hb).2.1 (hf b hb).2.2.1,.inl hb,λx c e=>(hf b hb).2.2.2.2.1 x c (cn.cells x c e),λp hp=>(hf b hb).2.2.2.2.2 p (by
  have hp:p∈(X.pn++pins)++[]:=hp;rw[mP] at hp;exact hp)⟩
theorem rG{pins:List (Addr×Obj)}{σ:St}{s:Shared}{Q:VK}{itv:Value}{RR:Value->Addr->Result->Shared->Prop}{E:xB}
  (hc:X.calm=true) (cn:fu X N nt fr scope cl) (hcell:∀y∈scope.names,y.2≠.cell)
  (hg:∀pins s H fp,PG (dO X N scope cl pins s H fp) target g) (hif:∀pins s H fp,PIf (dO X N scope cl pins s H fp) ifs c) (he:∀pins s H fp,PE (dO X N scope cl pins s H fp) elt te)
  (h:PIE X pins σ target (λJ H1=>∀acc,H1 acc=none->nj J nt fr g c te σ H1 Q acc) itv s)
  (hRR:∀(acc C:Addr)(s':Shared)(H':Hp),(∃m,s'.heap.Ns C m)->Inv X pins σ H' s'->m8 X pins H' C->Q (.ref acc) H'->RR (.ref acc) C (.ok .next) s') :
  wpAny (model X.prog X.w) X.A (newList []) (λacc s₃=>wpAny (model X.prog X.w) X.A (newFunctionEnv scope X.env.globals cl [] X.env.qual none .none (some X.env)) (λcenv s₄ =>
   codeAny (model X.prog X.w) X.A (.compStart (.ListComp elt [⟨target,iter,ifs,0⟩] scope pos) 0 itv acc { cenv with scope:=relabel scope X.env }) (RR acc cenv.locals) s₄) E s₃) E s:=by
 obtain⟨it,fp,tn,J,H2,e,I2,T,st2,f2,R⟩:=h;subst e;have fo:∀b∈fp,b<s.heap.objs.size:=λb hb=>let ⟨o,e,_⟩:=T.obj 0 _ st2 b hb;uC e
 refine wpAny_newObj_type (wpAny_newFunctionEnv hcell (by intro y hy;simp at hy) (λh₁ hns₁ hsb₁=>?_) cn.kind);dsimp only at hns₁ hsb₁ ⊢;have ha:H2 s.heap.objs.size=none:=I2.hok.fresh (rS _);have I3:Inv X pins σ (upd H2 s.heap.objs.size (.lst [])) { s with heap:=s.heap.push { cls:=.type "list", data:=.seq ([]:xF).toArray } } :=
  I2.laid (t':=s.toks) (λb u e=>uS _ e) (rS _) ⟨Nat.zero_le _,[],0,.nil,oS _ rfl⟩
 generalize hs3:({ s with heap:=s.heap.push { cls:=.type "list", data:=.seq ([]:xF).toArray } }:Shared)=s3 at I3
 have hh3:s3.heap=s.heap.push { cls:=.type "list", data:=.seq ([]:xF).toArray }:=by rw[<- hs3]
 have hsz:s3.heap.objs.size=s.heap.objs.size+1:=by rw[hh3,Heap.size_push]
 have fne:∀b∈fp,b≠s.heap.objs.size:=λb hb=>gE (fo b hb)
 have f3:∀b∈fp,m8 X pins (upd H2 s.heap.objs.size (.lst [])) b:=λb hb=>⟨by rw[bf (fne b hb)];exact(f2 b hb).1,(f2 b hb).2⟩
 have fo3:∀b∈fp,b<s3.heap.objs.size:=λb hb=>by rw[hsz];exact nV (fo b hb)
 have k3:∀b o,s3.heap.get? b=some o->h₁.get? b=some o:=λb o e=>hsb₁.extBut b o (by rw[<- hh3];exact gE (uC e)) (by rw[<- hh3];exact uS _ e)
 have hns:∃m,h₁.Ns s3.heap.objs.size m:=⟨_,by rw[hh3];exact hns₁⟩;have I4:Inv (dO X N scope cl pins s3 (upd H2 s.heap.objs.size (.lst [])) fp) [] (eY nt fr σ) (upd H2 s.heap.objs.size (.lst [])) { s3 with heap:=h₁,toks:=s3.toks+([]:List (Str×Value)).length }:=JL I3 cn f3 fo3 k3 hns
 have st4:tn 0 h₁:=T.keep 0 _ _ st2 λb hb o e=>k3 b o (by rw[hh3];exact uS _ e)
 obtain⟨W,⟨m0,w0⟩,turn⟩:=R s.heap.objs.size ha;have stat:∀{H':Hp},(∀b∈fp,H' b=none)->∀b∈fp,m8 (dO X N scope cl pins s3 (upd H2 s.heap.objs.size (.lst [])) fp) [] H' b:=λhn=>Pj I3 cn f3 fo3 hn
 have hH:Un (frs X.stack) fp H2 (upd H2 s.heap.objs.size (.lst [])) s.heap s3.heap:=by
  rw[hh3];exact Un.laid (λb u e=>uS _ e) (rS _) ha
 have back:∀{σ':St} {H':Hp} {s':Shared} {h':Heap},Inv (dO X N scope cl pins s3 (upd H2 s.heap.objs.size (.lst [])) fp) [] σ' H' s'->Heap.SameBut s3.heap.objs.size s'.heap h'->Inv X pins σ H' { s' with heap:=h' }:=λJ' sb =>
  comp_back I2 (by rw[hsz];exact Nat.le_succ _) (by rw[<- hs3]) hH f2 J' sb
 have loop:codeAny (model X.prog X.w) X.A (.compLoop (.ListComp elt [⟨target,iter,ifs,0⟩] scope pos) 0 (.ref it) (.ref s.heap.objs.size) (compEnvC scope cl s3.heap.objs.size X.env)) (RR (.ref s.heap.objs.size) s3.heap.objs.size)
   { s3 with heap:=h₁,toks:=s3.toks+([]:List (Str×Value)).length }:=by
  refine HW (λn s'=>∃i σ' ys H',Inv (dO X N scope cl pins s3 (upd H2 s.heap.objs.size (.lst [])) fp) [] σ' H' s'/\tn i s'.heap/\(∀b∈fp,H' b=none)/\W i n σ' ys H') ?_ m0
   ⟨0,_,[],_,I4,st4,λb hb=>(f3 b hb).1,w0⟩
  rintro n s5 ⟨i,σ5,ys,H5,I5,st5,fr5,w5⟩;obtain⟨hacc,step⟩:=turn i n σ5 ys H5 w5;rcases step with⟨stop,q⟩|⟨go,step⟩
  ·refine thn (T.done (dO X N scope cl pins s3 (upd H2 s.heap.objs.size (.lst [])) fp) rfl rfl rfl hc i [] s5 σ5 H5 (λ_ _=>False) I5 (stat fr5) st5 stop) λr s6 ⟨hr,I6⟩=>?_
   subst hr;obtain⟨m,hm,_⟩:=I6.loc;exact hRR _ _ s6 H5 ⟨m,hm⟩ (back I6 (Heap.SameBut.refl _ _)) (I2.SM (by rw[hsz];exact Nat.le_succ _) I6.free) q
  ·refine thn (T.item (dO X N scope cl pins s3 (upd H2 s.heap.objs.size (.lst [])) fp) rfl rfl rfl hc i [] s5 σ5 H5 (λ_ _=>False) I5 (stat fr5) st5 go) λr s6 ⟨u,hr,h6⟩=>?_
   subst hr;refine thn h6 λ_ s7 ⟨x,H7,I7,r7,y7,st7,fr7⟩=>?_
   have I7':=I7.pinned (stat fr7) (T.obj _ _ st7);refine thn (hg pins s3 _ fp _ s7 σ5 H7 x u _ I7' r7 (step x H7 y7)) λ_ s8 ⟨σ8,H8,I8,q8⟩=>?_
   have EY:∀{σ':St} {H':Hp} {s':Shared},Inv (dO X N scope cl pins s3 (upd H2 s.heap.objs.size (.lst [])) fp) ([]++rA fp s7.heap) σ' H' s'->tn (i+1) s'.heap/\∀b∈fp,H' b=none:=λ{σ' H' s'} I' =>
    ⟨T.keep _ _ _ st7 λb hb o e=>(I'.pin (b,o) (rX _ (rX _ (jw hb e)))).1,λb hb=>by
     obtain⟨o,e,d⟩:=T.obj _ _ st7 b hb;exact(I'.pin (b,o) (rX _ (rX _ (jw hb e)))).2.1⟩
   refine thn (hif pins s3 _ fp _ s8 σ8 H8 _ I8 q8) λok s9 ⟨H9,I9,q9⟩=>?_
   cases ok with
   | false =>
    have q9:∃m',m'<n/\W (i+1) m' σ8 ys H9:=q9;obtain⟨m',hm,w9⟩:=q9;exact⟨m',hm,i+1,σ8,ys,H9,I9.jP,(EY I9).1,(EY I9).2,w9⟩
   | true =>
    rw[yB rfl];refine thn (he pins s3 _ fp _ s9 σ8 H9 _ I9 q9) λz s10 ⟨y,H10,I10,r10,hz,Zw,m',hm,w10⟩=>?_
    refine thn (vC _ s10 σ8 H10 (.ref s.heap.objs.size) [y] (.ref s.heap.objs.size) [z] (λv H'=>v=.non/\H'=upd H10 s.heap.objs.size (.lst (ys++[y]))) I10 rfl (.cons r10 .nil) ⟨_,ys,y,rfl,rfl,Zw,hz,rfl,rfl⟩) λv s11 ⟨_,H11,I11,_,_,e11⟩=>?_
    subst e11;exact⟨m',hm,i+1,σ8,ys++[y],_,I11.jP,(EY I11).1,(EY I11).2,w10⟩
 have fin:codeAny (model X.prog X.w) X.A (.compStart (.ListComp elt [⟨target,iter,ifs,0⟩] scope pos) 0 (.ref it) (.ref s.heap.objs.size) (compEnvC scope cl s3.heap.objs.size X.env)) (RR (.ref s.heap.objs.size) s3.heap.objs.size)
   { s3 with heap:=h₁,toks:=s3.toks+([]:List (Str×Value)).length } :=
  codeAny_compStart_list loop (T.self _ 0 _ _ _ st4 loop)
 rw[<- hs3] at fin;exact fin
theorem nq(hi:PI X target iter wi)(hg:∀pins s H fp,PG (dO X N scope cl pins s H fp) target g)(hif:∀pins s H fp,PIf (dO X N scope cl pins s H fp) ifs c)(he:∀pins s H fp,PE (dO X N scope cl pins s H fp) elt te)
  (hc:X.calm=true:=by rfl) (hcl:d7 X.env scope.names=some cl:=by rfl) (hlen:N.length=nt+fr.length:=by rfl) (hB:vH X N nt scope fr 0=true:=by rfl)
  (hcell:∀y∈scope.names,y.2≠.cell:=by decide +kernel) (hkind:scope.kind=.function:=by rfl) (hnames:∀y∈scope.names,y.2=.local->scope.names.lookup y.1=some .local:=by decide +kernel)
  (hs:∀x,foldedSetIterable iter X.env x=pure x:=by intro _;rfl):PE X (.ListComp elt [⟨target,iter,ifs,0⟩] scope pos) (zP wi nt fr g c te):=by
 intro pins s σ H Q I h;rw[eval_ListComp];refine wpAny_comprehension_free (use:=none) rfl hs (lZ hcl) hkind hnames (thn (hi pins s σ H _ I h) λxv s1 h1=>thn h1 λitv s2 h2=>?_);exact rG hc (fu.of hcl hlen hB hcell hkind) hcell hg hif he h2 λacc C s' H' ⟨m,hm⟩ hI hF hq=>⟨m,hm,λh' sb=>⟨.ref acc,H',hI.turned (t':=s'.toks) (λb o hb e=>sb.extBut b o hb e) hF.1 hF.2.1 hF.2.2.2.1 hF.2.2.2.2.1 hF.2.2.2.2.2,rfl,hq⟩⟩
theorem gP{i:Nat}{y:Str}{py spos:Pos}(hN:X.N.Nodup)(hyi:X.N[i]?=some y)(hy:Loc X.env.scope y)(hi:PI X target iter wi)(hg:∀pins s H fp,PG (dO X N scope cl pins s H fp) target g)(hif:∀pins s H fp,PIf (dO X N scope cl pins s H fp) ifs c)(he:∀pins s H fp,PE (dO X N scope cl pins s H fp) elt te)
  (hsw:swapsWith (.ListComp elt [⟨target,iter,ifs,0⟩] scope pos) (some (.Name y py)) spos.line X.env=pure true:=by rfl)
  (hc:X.calm=true:=by rfl) (hcl:d7 X.env scope.names=some cl:=by rfl) (hlen:N.length=nt+fr.length:=by rfl) (hB:vH X N nt scope fr 0=true:=by rfl)
  (hcell:∀y∈scope.names,y.2≠.cell:=by decide +kernel) (hkind:scope.kind=.function:=by rfl) (hnames:∀y∈scope.names,y.2=.local->scope.names.lookup y.1=some .local:=by decide +kernel)
  (hs:∀x,foldedSetIterable iter X.env x=pure x:=by intro _;rfl) (hf:X.fn y=true\/X.env.scope.names.lookup y=some .local:=by first|exact .inl rfl|exact .inr rfl|assumption) :
  PS X (.Assign [.Name y py] (.ListComp elt [⟨target,iter,ifs,0⟩] scope pos) spos) (Jl (zP wi nt fr g c te) (bT i)):=by
 intro pins s σ H D I h;rw[exec_Assign_Name_used _ _ _ _ hsw];refine zI (wpAny_standAt (zI ?_));show wpAny _ X.A (do let _ <- comprehension (.ListComp elt [⟨target,iter,ifs,0⟩] scope pos) scope X.env _ (newList []) false (eval iter X.env) (some (assign (.Name y py) X.env))) _ _ s;refine zI (mM (wpAny_comprehension_free (use:=some (assign (.Name y py) X.env)) (Q:=λ_ s'=>SP X pins D .next s') rfl hs (lZ hcl) hkind hnames (thn (hi pins s σ H _ I h) λxv s1 h1=>thn h1 λitv s2 h2=>?_)) (λ_ s' hq=>oB (oB hq)) λ_ _ e=>e);refine rG (Q:=λx H1=>bT i x σ H1 D.nx) (RR:=λacc C=>compPost (model X.prog X.w) X.A X.xe (some (assign (.Name y py) X.env)) (λ_ s'=>SP X pins D .next s') acc C) hc (fu.of hcl hlen hB hcell hkind) hcell hg hif he h2 λacc C s' H' ⟨m,hm⟩ hI hF hq=>?_
 show wpAny _ X.A (assign (.Name y py) X.env (.ref acc)) _ _ _;refine wpAny_assign_Name (u6 hI hN hyi hy (v:=.ref acc) rfl (λs3 I3 ⟨a,sb,ha⟩=>?_) hf);have hne:C≠a:=by
  rcases ha with rfl|ha
  ·exact hF.2.1
  ·exact λz=>hF.2.2.2.2.1 y a ha z.symm
 refine⟨m,hm.sameBut sb hne,λh' sb'=>⟨_,H',I3.turned (t':=s3.toks) (λb o hb e=>sb'.extBut b o hb e) hF.1 hF.2.1 hF.2.2.2.1 hF.2.2.2.2.1 hF.2.2.2.2.2,hq⟩⟩
end
structure ItemsOf(J:It)(xs:List V)(L:Hp->Prop):Prop where
 go:∀i H,L H->i<xs.length->J.go i H
 yld:∀i H x H',L H->i<xs.length->J.yld i H x H'->H'=H/\xs[i]?=some x
 stop:∀H,L H->J.stop xs.length H
theorem jz{K:W.Frag}{a:Addr}{xs:List V}:ItemsOf (Itl K a) xs (λH=>SqL K H a xs) :=
 ⟨λi H h hi=>⟨xs,xs[i],h,by simp[hi]⟩,λi H x H' h hi y=>⟨y.1,y.2 xs h⟩,λH h=>⟨xs,h,Nat.le_refl _⟩⟩
def nu(xs:List V)(nt:Nat)(fvs:St)(Pv:Nat->List V->Hp->Prop):Nat->Nat->St->List V->Hp->Prop:=λi m σ' ys H' =>
 m=xs.length-i/\i<=xs.length/\Pv i ys H'/\∃tv:List (Option V),tv.length=nt/\σ'=tv++fvs
theorem nu.next{xs:List V}{nt:Nat}{fvs:St}{Pv:Nat->List V->Hp->Prop}{i:Nat}{tv:List (Option V)}{ys:List V}{H:Hp}(hi:i<xs.length)(p:Pv (i+1) ys H)(ht:tv.length=nt) :
  ∃m',m'<xs.length-i/\nu xs nt fvs Pv (i+1) m' (tv++fvs) ys H:=⟨xs.length-(i+1),by lia,rfl,hi,p,tv,ht,rfl⟩
theorem yd{J:It}{xs:List V}{L:Hp->Prop}{σ:St}{H1:Hp}{nt:Nat}{fr:List Nat}{g:TG}{c:TT}{te:TE}{Q:VK}{acc:Addr}(it:ItemsOf J xs L)(Pv:Nat->List V->Hp->Prop)
  (h0:Pv 0 [] (upd H1 acc (.lst []))) (hL:∀i ys H',i<=xs.length->Pv i ys H'->L H'/\H' acc=some (.lst ys))
  (turn:∀i x tv ys H',xs[i]?=some x->i<xs.length->Pv i ys H'->tv.length=nt->g x (tv++fr.map λi=>(σ[i]?).getD none) H' λσ2 H3 =>
   c σ2 H3 λb H4=>if b=true then te σ2 H4 λy H5=>ys.length<sizeLine/\H5 acc=some (.lst ys)/\∃m',m'<xs.length-i/\nu xs nt (fr.map λi=>(σ[i]?).getD none) Pv (i+1) m' σ2 (ys++[y]) (upd H5 acc (.lst (ys++[y])))
    else ∃m',m'<xs.length-i/\nu xs nt (fr.map λi=>(σ[i]?).getD none) Pv (i+1) m' σ2 ys H4)
  (hd:∀ys H',Pv xs.length ys H'->Q (.ref acc) H'):nj J nt fr g c te σ H1 Q acc:=by
 refine⟨nu xs nt (fr.map λi=>(σ[i]?).getD none) Pv,⟨xs.length,by simp,Nat.zero_le _,h0,List.replicate nt none,by simp,rfl⟩,?_⟩;rintro i m σ' ys H' ⟨rfl,hi,p,tv,htv,rfl⟩;obtain⟨l,ha⟩:=hL i ys H' hi p;refine⟨ha,?_⟩;by_cases hlt:i<xs.length
 ·refine .inr ⟨it.go i H' l hlt,λx H2 y=>?_⟩;obtain⟨rfl,hx⟩:=it.yld i H' x H2 l hlt y;exact turn i x tv ys H2 hx hlt p htv
 ·have e:i=xs.length:=by lia
  subst e;exact .inl ⟨it.stop H' l,hd ys H' p⟩
end L2
namespace L2
open PySem PySem.Spec PyProof.Rows PySem.SeqAt
inductive Dt where
 | non|bl (b:Bool)|int (i:Int)|str (x:Str)|lst (xs:List Dt)|tup (xs:List Dt)
mutual
def Rep(K:W.Frag)(H:Hp):Dt->V->Prop
 | .non,v=>v=.non
 | .bl b,v=>v=.bl b
 | .int i,v=>v=.int i
 | .str x,v=>v=.str x
 | .lst ds,v=>∃p xs,v=.ref p/\SqL K H p xs/\cU K H ds xs
 | .tup ds,v=>∃p xs,v=.ref p/\SqT K H p xs/\cU K H ds xs
def cU(K:W.Frag)(H:Hp):List Dt->List V->Prop
 | [],xs=>xs=[]
 | d::ds,xs=>∃x r,xs=x::r/\Rep K H d x/\cU K H ds r
end
mutual
def gQ:Dt->Dt->Bool
 | .non,.non=>true
 | .bl a,.bl b=>a==b
 | .bl a,.int b=>(if a then 1 else 0)==b
 | .int a,.bl b=>a==(if b then 1 else 0)
 | .int a,.int b=>a==b
 | .str a,.str b=>a==b
 | .lst xs,.lst ys=>gM xs ys
 | .tup xs,.tup ys=>gM xs ys
 | _,_=>false
def gM:List Dt->List Dt->Bool
 | [],[]=>true
 | x::xs,y::ys=>gQ x y && gM xs ys
 | _,_=>false
end
mutual
def fM:Dt->Nat
 | .lst xs=>fO xs+1
 | .tup xs=>fO xs+1
 | _=>0
def fO:List Dt->Nat
 | []=>0
 | x::xs=>max (fM x) (fO xs)
end
theorem cU.length{K:W.Frag}{H:Hp}:∀{ds:List Dt} {xs:List V},cU K H ds xs->ds.length=xs.length
 | [],xs,h=>by rw[show xs=[] from by simpa[cU] using h];rfl
 | d::ds,xs,h=>by
  obtain⟨x,r,rfl,_,h2⟩:∃x r,xs=x::r/\Rep K H d x/\cU K H ds r:=by simpa[cU] using h
  simp[cU.length h2]
theorem cU.get{K:W.Frag}{H:Hp}:∀{ds:List Dt} {xs:List V} {j:Nat} {d:Dt},cU K H ds xs->ds[j]?=some d->∃x,xs[j]?=some x/\Rep K H d x
 | [],_,_,_,_,e=>by simp at e
 | d0::ds,xs,j,d,h,e=>by
  obtain⟨x,r,rfl,h1,h2⟩:∃x r,xs=x::r/\Rep K H d0 x/\cU K H ds r:=by simpa[cU] using h
  cases j with
  | zero =>
   have e:d0=d:=by simpa using e
   subst e;exact⟨x,rfl,h1⟩
  | succ j =>
   obtain⟨y,e1,e2⟩:=cU.get (j:=j) h2 (by simpa using e);exact⟨y,by simpa using e1,e2⟩
theorem vI:∀{ds:List Dt} {j:Nat} {d:Dt},ds[j]?=some d->fM d<=fO ds
 | [],_,_,e=>by simp at e
 | d0::ds,j,d,e=>by
  cases j with
  | zero =>
   have e:d0=d:=by simpa using e
   subst e;simp only[fO];lia
  | succ j =>
   have:=vI (ds:=ds) (j:=j) (d:=d) (by simpa using e);simp only[fO];lia
theorem oR:∀(ds es:List Dt),ds.length=es.length->((List.range ds.length).all λj=>gQ (ds.getD j .non) (es.getD j .non))=gM ds es
 | [],[],_=>rfl
 | [],_::_,h=>by simp at h
 | _::_,[],h=>by simp at h
 | d::ds,e::es,h=>by
  have h:ds.length=es.length:=by simpa using h
  rw[zzD,List.range_succ_eq_map,List.all_cons,List.all_map];have:=oR ds es h;simp only[gM];rw[<- this]
  rfl
theorem jA:∀(ds es:List Dt),ds.length≠es.length->gM ds es=false
 | [],[],h=>by simp at h
 | [],_::_,_=>rfl
 | _::_,[],_=>rfl
 | d::ds,e::es,h=>by
  have h:ds.length≠es.length:=λz=>h (by simp[z])
  simp only[gM,jA ds es h,Bool.and_false]
mutual
theorem oU:∀d:Dt,gQ d d=true
 | .non=>rfl
 | .bl b=>by simp[gQ]
 | .int i=>by simp[gQ]
 | .str x=>by simp[gQ]
 | .lst xs=>by simp only[gQ];exact gY xs
 | .tup xs=>by simp only[gQ];exact gY xs
theorem gY:∀ds:List Dt,gM ds ds=true
 | []=>rfl
 | d::ds=>by simp only[gM,oU d,gY ds,Bool.and_true]
end
section
variable{X:Cx}{pins:List (Addr×Obj)}{σ:St}{H:Hp}{s:Shared}
theorem qd{a:Addr}{xs ys:List V}(I:Inv X pins σ H s)(h:SqL X.K H a xs)(h':SqT X.K H a ys):False:=by
 obtain⟨its,_,pl,_⟩:=I.list h;obtain⟨its',_,pt,_⟩:=I.tuple h';obtain⟨o,n,e,c,_,_⟩:=pl;obtain⟨o',e',c',_⟩:=pt;rw[e] at e';cases e';rw[c] at c';exact gS c' (by decide)
mutual
theorem Pn(I:Inv X pins σ H s):∀(d d':Dt)(v:V),Rep X.K H d v->Rep X.K H d' v->d=d'
 | .non,d',v,h,h'=>by
  have h:v=.non:=by simpa[Rep] using h
  subst h;cases d' <;> simp[Rep] at h' <;> rfl
 | .bl b,d',v,h,h'=>by
  have h:v=.bl b:=by simpa[Rep] using h
  subst h;cases d' <;> simp[Rep] at h'
  rw[h']
 | .int b,d',v,h,h'=>by
  have h:v=.int b:=by simpa[Rep] using h
  subst h;cases d' <;> simp[Rep] at h'
  rw[h']
 | .str b,d',v,h,h'=>by
  have h:v=.str b:=by simpa[Rep] using h
  subst h;cases d' <;> simp[Rep] at h'
  rw[h']
 | .lst ds,d',v,h,h'=>by
  obtain⟨p,xs,rfl,hq,hr⟩:∃p xs,v=.ref p/\SqL X.K H p xs/\cU X.K H ds xs:=by simpa only[Rep] using h
  cases d' with
  | lst es =>
   obtain⟨p',ys,e,hq',hr'⟩:∃p' ys,V.ref p=.ref p'/\SqL X.K H p' ys/\cU X.K H es ys:=by simpa only[Rep] using h'
   cases e;rw[I.rm hq' hq] at hr';rw[jT I ds es xs hr hr']
  | tup es =>
   obtain⟨p',ys,e,hq',hr'⟩:∃p' ys,V.ref p=.ref p'/\SqT X.K H p' ys/\cU X.K H es ys:=by simpa only[Rep] using h'
   cases e;exact(qd I hq hq').elim
  | _=>simp[Rep] at h'
 | .tup ds,d',v,h,h'=>by
  obtain⟨p,xs,rfl,hq,hr⟩:∃p xs,v=.ref p/\SqT X.K H p xs/\cU X.K H ds xs:=by simpa only[Rep] using h
  cases d' with
  | tup es =>
   obtain⟨p',ys,e,hq',hr'⟩:∃p' ys,V.ref p=.ref p'/\SqT X.K H p' ys/\cU X.K H es ys:=by simpa only[Rep] using h'
   cases e;rw[I.u9 hq' hq] at hr';rw[jT I ds es xs hr hr']
  | lst es =>
   obtain⟨p',ys,e,hq',hr'⟩:∃p' ys,V.ref p=.ref p'/\SqL X.K H p' ys/\cU X.K H es ys:=by simpa only[Rep] using h'
   cases e;exact(qd I hq' hq).elim
  | _=>simp[Rep] at h'
theorem jT(I:Inv X pins σ H s):∀(ds es:List Dt)(xs:List V),cU X.K H ds xs->cU X.K H es xs->ds=es
 | [],es,xs,h,h'=>by
  have h:xs=[]:=by simpa[cU] using h
  subst h;cases es with
  | nil=>rfl
  | cons e es=>simp[cU] at h'
 | d::ds,es,xs,h,h'=>by
  obtain⟨x,r,rfl,h1,h2⟩:∃x r,xs=x::r/\Rep X.K H d x/\cU X.K H ds r:=by simpa only[cU] using h
  cases es with
  | nil=>simp[cU] at h'
  | cons e es =>
   obtain⟨x',r',e',h1',h2'⟩:∃x' r',x::r=x'::r'/\Rep X.K H e x'/\cU X.K H es r':=by simpa only[cU] using h'
   cases e';rw[Pn I d e x h1 h1',jT I ds es r h2 h2']
end
structure Eq3(A:Around)(s:Shared)(u v:Value)(b:Bool):Prop where
 eq:EqAt A s u v b
 rc:RcAt A s u v b
 ne:RcNeAt A s u v (!b)
theorem nA(I:Inv X pins σ H s){n:Nat}{A:Around}(ih:∀(d d':Dt)(x y:V)(u v:Value),fM d<=n->Rep X.K H d x->Rep X.K H d' y->RelV x u->RelV y v->Eq3 A.in1 s u v (gQ d d'))
  {ds es:List Dt} {xs ys:List V} {us vs:xF} (hd:fO ds<=n) (hx:cU X.K H ds xs) (hy:cU X.K H es ys) (ru:Vals xs us) (rv:Vals ys vs) :
  ∀j (h1:j<us.toArray.size) (h2:j<vs.toArray.size),EqAt A.in1 s us.toArray[j] vs.toArray[j] (gQ (ds.getD j .non) (es.getD j .non)):=by
 intro j h1 h2;have l1:j<ds.length:=by rw[hx.length,ru.length];simpa using h1
 have l2:j<es.length:=by rw[hy.length,rv.length];simpa using h2
 have e1:ds[j]?=some ds[j]:=by simp[l1]
 have e2:es[j]?=some es[j]:=by simp[l2]
 obtain⟨x,ex,rx⟩:=hx.get e1;obtain⟨y,ey,ry⟩:=hy.get e2;obtain⟨u,eu,qu⟩:=ru.get ex;obtain⟨v,ev,qv⟩:=rv.get ey;have h1':j<us.length:=by simpa using h1
 have h2':j<vs.length:=by simpa using h2
 have z1:us.toArray[j]=u:=by
  have:us[j]?=some us[j]:=by simp[h1']
  rw[this] at eu;simpa using eu
 have z2:vs.toArray[j]=v:=by
  have:vs[j]?=some vs[j]:=by simp[h2']
  rw[this] at ev;simpa using ev
 rw[z1,z2];have g1:ds.getD j .non=ds[j]:=by simp[List.getD,l1]
 have g2:es.getD j .non=es[j]:=by simp[List.getD,l2]
 rw[g1,g2];exact(ih _ _ x y u v (oC (vI e1) hd) rx ry qu qv).eq
theorem HX(I:Inv X pins σ H s){n:Nat}{A:Around}(hu:A.units<cLine)(ih:∀(d d':Dt)(x y:V)(u v:Value),fM d<=n->Rep X.K H d x->Rep X.K H d' y->RelV x u->RelV y v->Eq3 A.in1 s u v (gQ d d'))
  {ds es:List Dt} {p q:Addr} (hd:fO ds<=n) (hp:Rep X.K H (.lst ds) (.ref p)) (hq:Rep X.K H (.lst es) (.ref q)):Eq3 A s (.ref p) (.ref q) (gM ds es):=by
 obtain⟨p',xs,e,lx,hx⟩:∃p' xs,V.ref p=.ref p'/\SqL X.K H p' xs/\cU X.K H ds xs:=by simpa only[Rep] using hp
 cases e;obtain⟨q',ys,e,ly,hy⟩:∃q' ys,V.ref q=.ref q'/\SqL X.K H q' ys/\cU X.K H es ys:=by simpa only[Rep] using hq
 cases e;obtain⟨us,ru,pu,_⟩:=I.list lx;obtain⟨vs,rv,pv',_⟩:=I.list ly;have both:RcAt A s (.ref p) (.ref q) (gM ds es)/\RcNeAt A s (.ref p) (.ref q) (!gM ds es):=by
  by_cases hl:ds.length=es.length
  ·have hsz:us.toArray.size=vs.toArray.size:=by simp[<- ru.length,<- rv.length,<- hx.length,<- hy.length,hl]
   have hz:us.toArray.size=ds.length:=by simp[<- ru.length,<- hx.length]
   have a:=RcAt.lists pu.isList pv'.isList hsz hu (nA I ih hd hx hy ru rv);have b:=RcNeAt.lists pu.isList pv'.isList hsz hu (nA I ih hd hx hy ru rv);rw[hz,oR ds es hl] at a b;exact⟨a,b⟩
  ·have hsz:(us.toArray.size != vs.toArray.size)=true:=by simp[<- ru.length,<- rv.length,<- hx.length,<- hy.length,hl]
   rw[jA ds es hl];exact⟨RcAt.lists_lengths pu.isList pv'.isList hsz hu,RcNeAt.lists_lengths pu.isList pv'.isList hsz hu⟩
 refine⟨?_,both.1,both.2⟩;by_cases hpq:p=q
 ·subst hpq;have:ds=es:=by
   rw[I.rm ly lx] at hy;exact jT I ds es xs hx hy
  subst this;rw[gY];exact EqAt.same _
 ·exact EqAt.of_refs hpq both.1
theorem JM(I:Inv X pins σ H s){n:Nat}{A:Around}(hu:A.units<cLine)(ih:∀(d d':Dt)(x y:V)(u v:Value),fM d<=n->Rep X.K H d x->Rep X.K H d' y->RelV x u->RelV y v->Eq3 A.in1 s u v (gQ d d'))
  {ds es:List Dt} {p q:Addr} (hd:fO ds<=n) (hp:Rep X.K H (.tup ds) (.ref p)) (hq:Rep X.K H (.tup es) (.ref q)):Eq3 A s (.ref p) (.ref q) (gM ds es):=by
 obtain⟨p',xs,e,lx,hx⟩:∃p' xs,V.ref p=.ref p'/\SqT X.K H p' xs/\cU X.K H ds xs:=by simpa only[Rep] using hp
 cases e;obtain⟨q',ys,e,ly,hy⟩:∃q' ys,V.ref q=.ref q'/\SqT X.K H q' ys/\cU X.K H es ys:=by simpa only[Rep] using hq
 cases e;obtain⟨us,ru,pu,_⟩:=I.tuple lx;obtain⟨vs,rv,pv',_⟩:=I.tuple ly;have hz:us.toArray.size=ds.length:=by simp[<- ru.length,<- hx.length]
 have hz':vs.toArray.size=es.length:=by simp[<- rv.length,<- hy.length]
 have key:((List.range (min us.toArray.size vs.toArray.size)).all (λj=>gQ (ds.getD j .non) (es.getD j .non)) && us.toArray.size==vs.toArray.size)=gM ds es:=by
  rw[hz,hz'];by_cases hl:ds.length=es.length
  ·rw[<- hl,Nat.min_self,oR ds es hl];simp
  ·rw[jA ds es hl];simp[hl]
 have a:=RcAt.tuples pu pv' hu (nA I ih hd hx hy ru rv);have b:=RcNeAt.tuples pu pv' hu (nA I ih hd hx hy ru rv);rw[key] at a b;refine⟨?_,a,b⟩;by_cases hpq:p=q
 ·subst hpq;have:ds=es:=by
   rw[I.u9 ly lx] at hy;exact jT I ds es xs hx hy
  subst this;rw[gY];exact EqAt.same _
 ·exact EqAt.of_refs hpq a
end
section
variable{X:Cx}{pins:List (Addr×Obj)}{σ:St}{H:Hp}{s:Shared}
theorem gh{ds:List Dt}{x:V}(h:Rep X.K H (.lst ds) x):∃p xs,x=.ref p/\SqL X.K H p xs:=by
 obtain⟨p,xs,e,l,_⟩:∃p xs,x=.ref p/\SqL X.K H p xs/\cU X.K H ds xs:=by simpa only[Rep] using h
 exact⟨p,xs,e,l⟩
theorem gj{ds:List Dt}{x:V}(h:Rep X.K H (.tup ds) x):∃p xs,x=.ref p/\SqT X.K H p xs:=by
 obtain⟨p,xs,e,l,_⟩:∃p xs,x=.ref p/\SqT X.K H p xs/\cU X.K H ds xs:=by simpa only[Rep] using h
 exact⟨p,xs,e,l⟩
theorem zQ(I:Inv X pins σ H s){n:Nat}{A:Around}(ih:∀(d d':Dt)(x y:V)(u v:Value),fM d<n->Rep X.K H d x->Rep X.K H d' y->RelV x u->RelV y v->Eq3 A.in1 s u v (gQ d d'))
  {d d':Dt} {x y:V} {u v:Value} (hu:A.units+n<cLine) (hd:fM d<=n) (hx:Rep X.K H d x) (hy:Rep X.K H d' y) (rx:RelV x u) (ry:RelV y v):Eq3 A s u v (gQ d d'):=by
 have hu0:A.units<cLine:=by lia
 cases d with
 | non =>
  have e:x=V.non:=by simpa[Rep] using hx
  subst e;cases rx;cases d' with
  | non =>
   have e:y=V.non:=by simpa[Rep] using hy
   subst e;cases ry;exact⟨(EqAt.same _),RcAt.none_none , RcNeAt.none_none ⟩
  | bl b =>
   have e:y=V.bl b:=by simpa[Rep] using hy
   subst e;cases ry;exact⟨(EqAt.none_bool b),RcAt.none_bool b,RcNeAt.none_bool b⟩
  | int b =>
   have e:y=V.int b:=by simpa[Rep] using hy
   subst e;obtain⟨u,rfl⟩:=ry;exact⟨(EqAt.none_int b u),RcAt.none_int b u,RcNeAt.none_int b u⟩
  | str b =>
   have e:y=V.str b:=by simpa[Rep] using hy
   subst e;obtain⟨u,rfl⟩:=ry;exact⟨(EqAt.none_str b u),RcAt.none_str b u,RcNeAt.none_str b u⟩
  | lst b =>
   obtain⟨pW,xsW,rfl,lW⟩:=gh hy;cases ry;obtain⟨itW,_,plW,_⟩:=I.list lW;exact⟨EqAt.none_list  plW.isList hu0,RcAt.none_list  plW.isList hu0,RcNeAt.none_list  plW.isList hu0⟩
  | tup b =>
   obtain⟨pW,xsW,rfl,lW⟩:=gj hy;cases ry;obtain⟨itW,_,plW,_⟩:=I.tuple lW;exact⟨EqAt.none_tuple  plW hu0,RcAt.none_tuple  plW hu0,RcNeAt.none_tuple  plW hu0⟩
 | bl a =>
  have e:x=V.bl a:=by simpa[Rep] using hx
  subst e;cases rx;cases d' with
  | non =>
   have e:y=V.non:=by simpa[Rep] using hy
   subst e;cases ry;exact⟨(EqAt.bool_none a),RcAt.bool_none a,RcNeAt.bool_none a⟩
  | bl b =>
   have e:y=V.bl b:=by simpa[Rep] using hy
   subst e;cases ry;exact⟨(EqAt.bool_bool a b),RcAt.bool_bool a b,RcNeAt.bool_bool a b⟩
  | int b =>
   have e:y=V.int b:=by simpa[Rep] using hy
   subst e;obtain⟨u,rfl⟩:=ry;exact⟨(EqAt.bool_int a b u),RcAt.bool_int a b u,RcNeAt.bool_int a b u⟩
  | str b =>
   have e:y=V.str b:=by simpa[Rep] using hy
   subst e;obtain⟨u,rfl⟩:=ry;exact⟨(EqAt.bool_str a b u),RcAt.bool_str a b u,RcNeAt.bool_str a b u⟩
  | lst b =>
   obtain⟨pW,xsW,rfl,lW⟩:=gh hy;cases ry;obtain⟨itW,_,plW,_⟩:=I.list lW;exact⟨EqAt.bool_list a plW.isList hu0,RcAt.bool_list a plW.isList hu0,RcNeAt.bool_list a plW.isList hu0⟩
  | tup b =>
   obtain⟨pW,xsW,rfl,lW⟩:=gj hy;cases ry;obtain⟨itW,_,plW,_⟩:=I.tuple lW;exact⟨EqAt.bool_tuple a plW hu0,RcAt.bool_tuple a plW hu0,RcNeAt.bool_tuple a plW hu0⟩
 | int a =>
  have e:x=V.int a:=by simpa[Rep] using hx
  subst e;obtain⟨t,rfl⟩:=rx;cases d' with
  | non =>
   have e:y=V.non:=by simpa[Rep] using hy
   subst e;cases ry;exact⟨(EqAt.int_none a t),RcAt.int_none a t,RcNeAt.int_none a t⟩
  | bl b =>
   have e:y=V.bl b:=by simpa[Rep] using hy
   subst e;cases ry;exact⟨(EqAt.int_bool a t b),RcAt.int_bool a t b,RcNeAt.int_bool a t b⟩
  | int b =>
   have e:y=V.int b:=by simpa[Rep] using hy
   subst e;obtain⟨u,rfl⟩:=ry;exact⟨(EqAt.int_int a t b u),RcAt.int_int a t b u,RcNeAt.int_int a t b u⟩
  | str b =>
   have e:y=V.str b:=by simpa[Rep] using hy
   subst e;obtain⟨u,rfl⟩:=ry;exact⟨(EqAt.int_str a t b u),RcAt.int_str a t b u,RcNeAt.int_str a t b u⟩
  | lst b =>
   obtain⟨pW,xsW,rfl,lW⟩:=gh hy;cases ry;obtain⟨itW,_,plW,_⟩:=I.list lW;exact⟨EqAt.int_list a t plW.isList hu0,RcAt.int_list a t plW.isList hu0,RcNeAt.int_list a t plW.isList hu0⟩
  | tup b =>
   obtain⟨pW,xsW,rfl,lW⟩:=gj hy;cases ry;obtain⟨itW,_,plW,_⟩:=I.tuple lW;exact⟨EqAt.int_tuple a t plW hu0,RcAt.int_tuple a t plW hu0,RcNeAt.int_tuple a t plW hu0⟩
 | str a =>
  have e:x=V.str a:=by simpa[Rep] using hx
  subst e;obtain⟨t,rfl⟩:=rx;cases d' with
  | non =>
   have e:y=V.non:=by simpa[Rep] using hy
   subst e;cases ry;exact⟨(EqAt.str_none a t),RcAt.str_none a t,RcNeAt.str_none a t⟩
  | bl b =>
   have e:y=V.bl b:=by simpa[Rep] using hy
   subst e;cases ry;exact⟨(EqAt.str_bool a t b),RcAt.str_bool a t b,RcNeAt.str_bool a t b⟩
  | int b =>
   have e:y=V.int b:=by simpa[Rep] using hy
   subst e;obtain⟨u,rfl⟩:=ry;exact⟨(EqAt.str_int a t b u),RcAt.str_int a t b u,RcNeAt.str_int a t b u⟩
  | str b =>
   have e:y=V.str b:=by simpa[Rep] using hy
   subst e;obtain⟨u,rfl⟩:=ry;exact⟨(EqAt.str_str a t b u),RcAt.str_str a t b u,RcNeAt.str_str a t b u⟩
  | lst b =>
   obtain⟨pW,xsW,rfl,lW⟩:=gh hy;cases ry;obtain⟨itW,_,plW,_⟩:=I.list lW;exact⟨EqAt.str_list a t plW.isList hu0,RcAt.str_list a t plW.isList hu0,RcNeAt.str_list a t plW.isList hu0⟩
  | tup b =>
   obtain⟨pW,xsW,rfl,lW⟩:=gj hy;cases ry;obtain⟨itW,_,plW,_⟩:=I.tuple lW;exact⟨EqAt.str_tuple a t plW hu0,RcAt.str_tuple a t plW hu0,RcNeAt.str_tuple a t plW hu0⟩
 | lst a =>
  obtain⟨pU,xsU,rfl,lU⟩:=gh hx;cases rx;obtain⟨itU,_,plU,_⟩:=I.list lU;cases d' with
  | non =>
   have e:y=V.non:=by simpa[Rep] using hy
   subst e;cases ry;exact⟨EqAt.list_none  plU.isList hu0,RcAt.list_none  plU.isList hu0,RcNeAt.list_none  plU.isList hu0⟩
  | bl b =>
   have e:y=V.bl b:=by simpa[Rep] using hy
   subst e;cases ry;exact⟨EqAt.list_bool b plU.isList hu0,RcAt.list_bool b plU.isList hu0,RcNeAt.list_bool b plU.isList hu0⟩
  | int b =>
   have e:y=V.int b:=by simpa[Rep] using hy
   subst e;obtain⟨u,rfl⟩:=ry;exact⟨EqAt.list_int b u plU.isList hu0,RcAt.list_int b u plU.isList hu0,RcNeAt.list_int b u plU.isList hu0⟩
  | str b =>
   have e:y=V.str b:=by simpa[Rep] using hy
   subst e;obtain⟨u,rfl⟩:=ry;exact⟨EqAt.list_str b u plU.isList hu0,RcAt.list_str b u plU.isList hu0,RcNeAt.list_str b u plU.isList hu0⟩
  | lst b =>
   obtain⟨pW,xsW,rfl,lW⟩:=gh hy;cases ry;obtain⟨itW,_,plW,_⟩:=I.list lW;have hd:fO a+1<=n:=by simpa only[fM] using hd
   exact HX I (n:=n-1) hu0 (λd d' x y u v h=>ih d d' x y u v (by lia)) (by lia) hx hy
  | tup b =>
   obtain⟨pW,xsW,rfl,lW⟩:=gj hy;cases ry;obtain⟨itW,_,plW,_⟩:=I.tuple lW;exact⟨EqAt.list_tuple plU.isList plW hu0,RcAt.list_tuple plU.isList plW hu0,RcNeAt.list_tuple plU.isList plW hu0⟩
 | tup a =>
  obtain⟨pU,xsU,rfl,lU⟩:=gj hx;cases rx;obtain⟨itU,_,plU,_⟩:=I.tuple lU;cases d' with
  | non =>
   have e:y=V.non:=by simpa[Rep] using hy
   subst e;cases ry;exact⟨EqAt.tuple_none  plU hu0,RcAt.tuple_none  plU hu0,RcNeAt.tuple_none  plU hu0⟩
  | bl b =>
   have e:y=V.bl b:=by simpa[Rep] using hy
   subst e;cases ry;exact⟨EqAt.tuple_bool b plU hu0,RcAt.tuple_bool b plU hu0,RcNeAt.tuple_bool b plU hu0⟩
  | int b =>
   have e:y=V.int b:=by simpa[Rep] using hy
   subst e;obtain⟨u,rfl⟩:=ry;exact⟨EqAt.tuple_int b u plU hu0,RcAt.tuple_int b u plU hu0,RcNeAt.tuple_int b u plU hu0⟩
  | str b =>
   have e:y=V.str b:=by simpa[Rep] using hy
   subst e;obtain⟨u,rfl⟩:=ry;exact⟨EqAt.tuple_str b u plU hu0,RcAt.tuple_str b u plU hu0,RcNeAt.tuple_str b u plU hu0⟩
  | lst b =>
   obtain⟨pW,xsW,rfl,lW⟩:=gh hy;cases ry;obtain⟨itW,_,plW,_⟩:=I.list lW;exact⟨EqAt.tuple_list plU plW.isList hu0,RcAt.tuple_list plU plW.isList hu0,RcNeAt.tuple_list plU plW.isList hu0⟩
  | tup b =>
   obtain⟨pW,xsW,rfl,lW⟩:=gj hy;cases ry;obtain⟨itW,_,plW,_⟩:=I.tuple lW;have hd:fO a+1<=n:=by simpa only[fM] using hd
   exact JM I (n:=n-1) hu0 (λd d' x y u v h=>ih d d' x y u v (by lia)) (by lia) hx hy
end
section
variable{X:Cx}{pins:List (Addr×Obj)}{σ:St}{H:Hp}{s:Shared}
theorem eq3(I:Inv X pins σ H s):∀(n:Nat)(A:Around)(d d':Dt)(x y:V)(u v:Value),A.units+n<cLine->fM d<=n->Rep X.K H d x->Rep X.K H d' y->RelV x u->RelV y v->Eq3 A s u v (gQ d d'):=by
 intro n
 induction n with
 | zero=>exact λA d d' x y u v hu hd hx hy rx ry=>zQ I (n:=0) (λ_ _ _ _ _ _ h=>gS h (Nat.not_lt_zero _)) hu hd hx hy rx ry
 | succ n ih=>exact λA d d' x y u v hu hd hx hy rx ry=>zQ I (n:=n+1) (λd d' x y u v h hx hy rx ry=>ih A.in1 d d' x y u v (by show A.units+1+n<cLine;lia) (Nat.le_of_lt_succ h) hx hy rx ry) hu hd hx hy rx ry
end
section
variable{X:Cx}
theorem Pq{k:Nat}(hr:Room k X.A):OpR X (compareOp .Eq) (λx y H Q=>∃d d',Rep X.K H d x/\Rep X.K H d' y/\fM d<=100/\Q (.bl (gQ d d')) H):=by
 intro pins s σ H x y v u Q I rx ry h;obtain⟨d,d',h1,h2,hd,q⟩:=h;exact(eq3 I 100 X.A d d' x y v u (by have:=hr.un;lia) hd h1 h2 rx ry).rc X.prog X.w X.xe _ ⟨.bl _,H,I,rfl,q⟩
theorem Pr{k:Nat}(hr:Room k X.A):OpR X (compareOp .NotEq) (λx y H Q=>∃d d',Rep X.K H d x/\Rep X.K H d' y/\fM d<=100/\Q (.bl (!gQ d d')) H):=by
 intro pins s σ H x y v u Q I rx ry h;obtain⟨d,d',h1,h2,hd,q⟩:=h;exact(eq3 I 100 X.A d d' x y v u (by have:=hr.un;lia) hd h1 h2 rx ry).ne X.prog X.w X.xe _ ⟨.bl _,H,I,rfl,q⟩
end
end L2
namespace L2
open PySem PySem.Spec PyProof.Rows
def isW:V->Bool
 | .int _=>true
 | _=>false
def yg:V->Bool
 | .int _=>true
 | .bl _=>true
 | _=>false
def isB:V->Bool
 | .bl _=>true
 | _=>false
theorem Tf(x:V):isW x=(yg x && !isB x):=by cases x <;> rfl
section
variable{K:W.Frag}{H:Hp}{x:V}{n:String}
theorem JN(h:dN K H x (.type n)):pZ K (.type n) (.ty "int")=some (yg x):=by cases h <;> rfl
theorem yh(h:dN K H x (.type n)):pZ K (.type n) (.ty "bool")=some (isB x):=by cases h <;> rfl
theorem Pu(h:dN K H x (.type n)):pZ K (.type n) (.ty "list")=some (n == "list"):=by cases h <;> rfl
theorem JQ(h:dN K H x (.type n)):pZ K (.type n) (.ty "tuple")=some (n == "tuple"):=by cases h <;> rfl
end
theorem Ri{α:Type}{c:α}{cs:List α}:atI (c::cs) (0:Int)=some c:=gO (j:=0) rfl
theorem JR{α:Type}{xs:List α}{i:Int}(h0:0<=i)(h1:i<xs.length):∃v,atI xs i=some v/\v∈xs:=by
 obtain⟨j,rfl⟩:∃j:Nat,i=(j:Int):=⟨i.toNat,by lia⟩;have hj:j<xs.length:=by lia
 exact⟨xs[j],gO (by simp[hj]),List.getElem_mem hj⟩
theorem Same.new{H:Hp}{p:Addr}{o:HO}(h:H p=none):Same H (upd H p o):=λb u e=>by
 rw[bf (aQ e h)];exact e
theorem Same.tup{K:W.Frag}{H H':Hp}{a:Addr}{xs:List V}(e:Same H H')(h:SqT K H a xs):SqT K H' a xs:=by
 rcases h with(h|⟨o,h⟩)|h
 ·exact .inl (.inl (e _ _ h))
 ·exact .inl (.inr ⟨o,e _ _ h⟩)
 ·exact .inr h
def Off(p:Addr)(H H':Hp):Prop:=∀b,b≠p->H' b=H b
theorem Off.trans{p:Addr}{H H1 H2:Hp}(a:Off p H H1)(b:Off p H1 H2):Off p H H2:=λc h=>(b c h).trans (a c h)
theorem Off.upd{p:Addr}{H:Hp}{o:HO}:Off p H (upd H p o):=λ_ h=>bf h
theorem Off.seq{K:W.Frag}{p a:Addr}{H H':Hp}{xs:List V}(e:Off p H H')(ne:a≠p)(h:SqL K H a xs):SqL K H' a xs:=by
 rcases h with(h|⟨o,h⟩)|h
 ·exact .inl (.inl (by rw[e a ne];exact h))
 ·exact .inl (.inr ⟨o,by rw[e a ne];exact h⟩)
 ·exact .inr h
theorem cO{n:Nat}(h:n<=1000000):n<=sizeLine:=oC h (by decide)
theorem Px{P:Program}{w:World}{K:W.Frag}{mg:xC}{base:Heap}{CX:CXT}{x:Str}{ps:List Str}{sp:Sp}{k:Nat}{st:Stmt}{N:List Str}{f:Addr}{fd:FuncData}
  (F:Fun K x x st f fd) (S:aN N ps (aF st)) (len:∀vs H Q E,sp vs H Q E->vs.length=ps.length)
  (hbody:∀(cdv:Value)(A:Around)(outer:List Env)(s:Shared)(H:Hp)(vs:List V)(Q:VK)(E:XK),Room k (A.deeper (envOfC x (aF st) s.heap.objs.size f cdv))->sp vs H Q E ->
   ∃t,PSs (iV CX P w K mg base N x (aF st) f cdv A outer s H E).nox (cj st) t/\t { nx:=λ_ H'=>Q .non H',rt:=Q } (start N vs) H):f9 P w K mg base CX (k+1) f fd ps sp:=by
 obtain⟨oc,od,kV,doc,pm,an,cdv,ct,osl,rfl,lk,hcd⟩:=F.ex;refine vA lk hcd S len λA outer s H vs Q E hr hsp=>?_
 obtain⟨t,h,q⟩:=hbody cdv A outer s H vs Q E hr hsp;exact⟨t,h.nox,q⟩
structure rH(B newId initId:String)(bm:xF):Prop where
 call:ExcCallFacts B newId initId
 split:splitId newId=some (B, "__new__")
 kind:builtinKind newId=some .builtinFn
 row:Manifest.signature? newId=some ⟨.any,B,B,.cls,[⟨"args", .varPos,false⟩,⟨"kwargs", .varKw,false⟩]⟩
 hasB:bm.contains (.type B)=true
 V9:bm.contains (.type "BaseException")=true
 noA:bm.contains (.type "AttributeError")=false
 noN:bm.contains (.type "NameError")=false
 canon:Manifest.canonical newId=Manifest.canonical "BaseException.__new__"
theorem qz:rH "ValueError" "ValueError.__new__" "ValueError.__init__" [.type "ValueError", .type "Exception", .type "BaseException", .type "object"] :=
 ⟨PySem.F.excBase_ValueError.toExcCallFacts,PySem.F.excBase_ValueError.newSplit,PySem.F.excBase_ValueError.newKind,PySem.F.excBase_ValueError.newRow,PySem.F.excBase_ValueError.hasB,PySem.F.excBase_ValueError.hasBase,PySem.F.excBase_ValueError.noAttr,PySem.F.excBase_ValueError.noName,PySem.F.excBase_ValueError.canon⟩
theorem rH.under{B newId initId:String}{bm:xF}(F:rH B newId initId bm)(R:Addr):rH B newId initId (.ref R::bm) :=
 ⟨F.call,F.split,F.kind,F.row,by rw[List.contains_cons,F.hasB,Bool.or_true],by rw[List.contains_cons,F.V9,Bool.or_true],by rw[List.contains_cons,F.noA];rfl,by rw[List.contains_cons,F.noN];rfl,F.canon⟩
section
variable{prog:Program}{w:World}{M:Model}{A:Around}{E:xB}{R:Result->Shared->Prop}{h:Heap}{g:Array GenState}{d:Drawn}{t:Nat}{os:OsState}
variable{nm q:Str}{C N:Addr}{bs bm:xF}{hdct:Bool}{sn:List Str}{sub:xF}{ab:Bool}{col:Option Bool}{dd:xL}{k0 k1 k2 k3 k5:Option Value}{B newId initId:String}
theorem rH.has(F:rH B newId initId bm):(Value.ref C::bm).contains (.type B)=true:=by rw[List.contains_cons,F.hasB,Bool.or_true]
theorem uV(F:rH B newId initId bm){rest:xF}{Q:xA}(hC:h.get? C=some (excClassObj nm q C N bs bm hdct sn sub ab col dd k0 k1 k2 k3 k5 newId))(hq:Q () ⟨h,g,d,t,os⟩) :
  wpAny M A (checkBuiltinCall newId ⟨.ref C::rest,[]⟩) Q E ⟨h,g,d,t,os⟩:=by
 have e1:(Value.ref C::bm).contains (.type B)=true:=F.has;have e2:=F.call.noStar;simp only[checkBuiltinCall,F.kind,F.split,F.row]
 repeat (first|refine wpAny_loadPart_at hC ?_|(refine wpAny_isSubtype_exc hC ?_;rw[e1])|refine wpAny_staticBase_exc hC ?_|refine wpAny_madeBy_exc hC ?_|simp only[bne_self_eq_false,Bool.false_eq_true,if_false]|wp_step)
 exact hq
theorem Py(F:rH B newId initId bm){rest:xF}(hC:h.get? C=some (excClassObj nm q C N bs bm hdct sn sub ab col dd k0 k1 k2 k3 k5 newId))
  (hq:R (.ok (.ret (.ref (h.objs.size+1)))) ⟨(h.push { cls:=.type "tuple", data:=.seq rest.toArray }).push { cls:=.ref C,data:=.fields #[.ref h.objs.size,.none,.none,.none,.bool false,.none] },g,d,t,os⟩) (hz:rest.length<=sizeLine) :
  codeAny (model prog w) A (.builtin newId ⟨.ref C::rest,[]⟩) R ⟨h,g,d,t,os⟩:=by
 have e0:=F.call.ends;have e1:(Value.ref C::bm).contains (.type B)=true:=F.has;have e2:(Value.ref C::bm).contains (.type "AttributeError")=false:=by rw[List.contains_cons,F.noA];rfl
 have e3:(Value.ref C::bm).contains (.type "NameError")=false:=by rw[List.contains_cons,F.noN];rfl
 refine codeAny_builtinAt F.call.entry ?_;unfold Builtin.«BaseException.__new__»;refine PySem.wpAt_bind ?_;show PySem.wpAt _ _ _ (stack >>= _) _ _ _;refine PySem.wpAt_bind (PySem.wpAt_stack λp below=>PySem.wpAt_of_wpAny ?_)
 wp_walk;refine PySem.wpAt_of_wpAny ?_
 rw[F.call.owner]
 repeat (first|with_reducible refine wpAny_madeHere_exc F.canon hC ?_|with_reducible refine wpAny_loadPart_at hC ?_|(with_reducible refine wpAny_isSubtype_exc hC ?_;first|rw[e1]|rw[e2]|rw[e3])|wp_step)
 show R _ _;rw[Heap.size_push];exact hq
theorem JT(F:rH B newId initId bm){rest:xF}{fI:Addr}{oI:Obj}{Q:xB}(hC:h.get? C=some (excClassObj nm q C N bs bm hdct sn sub ab col dd k0 k1 k2 k3 k5 newId))
  (hi:W.Looks (model prog w) h (typeLookup (.ref C) "__init__") (some (.ref fI))) (hfI:h.get? fI=some oI) (hfc:oI.cls=.type "function")
  (hq:∀h',(∀b o,h.get? b=some o->h'.get? b=some o)->h'.get? (h.objs.size+1)=some { cls:=.ref C,data:=.fields #[.ref h.objs.size,.none,.none,.none,.bool false,.none] }->wpAny (model prog w) (A.under (.builtin "type.__call__" ⟨.ref C::rest,[]⟩)) (PySem.call (.ref fI) (.ref (h.objs.size+1)::rest)) (λr s'=>r=.none/\Q (.ref (h.objs.size+1)) s') E ⟨h',g,d,t,os⟩) (hz:rest.length<=sizeLine) :
  wpAny (model prog w) A (PySem.call (.ref C) rest) Q E ⟨h,g,d,t,os⟩:=by
 have f1:=tc_lookup;have f2:=tc_bind (.ref C);have hT:(⟨h,g,d,t,os⟩:Shared).TypeIs (.ref C) "type":=⟨_,hC,rfl⟩;refine wpAny_call (codeAny_of_tree ?_);show wpAny _ _ (callAny (.ref C) _) _ _ _
 repeat (any_goals (first|assumption|with_reducible refine wpAny_loadPart_at hC ?_|wp_step))
 refine⟨rfl,codeAny_call_builtin_at (Code.quiet_builtin _ (by decide +kernel)) entry_typeCall (wpAny_check_type_call_sub hC ?_)⟩
 repeat (first|with_reducible refine wpAny_loadPart_at hC ?_|with_reducible refine wpAny_madeBy_exc hC ?_|wp_step)
 refine codeAny_call_builtin_code (Code.quiet_builtin _ F.call.quiet) (uV F hC (Py F hC ?_ hz));show wpAny _ _ _ _ _ (⟨(h.push { cls:=.type "tuple", data:=.seq rest.toArray }).push { cls:=.ref C,data:=.fields #[.ref h.objs.size,.none,.none,.none,.bool false,.none] },g,d,t,os⟩:Shared)
 generalize hh2:(h.push { cls:=.type "tuple", data:=.seq rest.toArray }).push { cls:=.ref C,data:=.fields #[.ref h.objs.size,.none,.none,.none,.bool false,.none] }=h2
 have kp:∀b o,h.get? b=some o->h2.get? b=some o:=λb o e=>by rw[<- hh2];exact uS _ (uS _ e)
 have hget:h2.get? (h.objs.size+1)=some { cls:=.ref C,data:=.fields #[.ref h.objs.size,.none,.none,.none,.bool false,.none] }:=by rw[<- hh2];heap_get
 have htup:h2.get? h.objs.size=some { cls:=.type "tuple", data:=.seq rest.toArray }:=by rw[<- hh2];exact uS _ (Heap.get?_push_at rfl rfl)
 have hcC:(Value.ref C::bm).contains (.ref C)=true:=by simp
 unfold isInstance
 repeat (first|with_reducible refine wpAny_loadPart_at hget ?_|(with_reducible refine wpAny_isSubtype_exc (kp _ _ hC) ?_;rw[hcC])|wp_step)
 show wpAny _ _ (typeLookup (.ref C) _) _ _ _;refine hi _ _ _ _ kp ?_;refine mI (zI ?_);unfold bindSpecial;refine wpAny_bind (wpAny_typeOf (T := "function") ⟨_,kp _ _ hfI,hfc⟩ ?_);rw[yB (by decide)];refine oB (zI (mM (hq h2 kp hget) (λr s' hr=>?_) λ_ _ x=>x));obtain⟨rfl,hQ⟩:=hr
 wp_walk
 exact hQ
end
section
variable{prog:Program}{w:World}{A:Around}{E:xB}{s:Shared}{K:W.Frag}{e C:Addr}{oe:Obj}{vs:xI}{name:Str}{v:Value}
theorem gZ(hf:oe.data=.fields vs):W.notCls oe=true:=by
 unfold W.notCls;rw[hf]
def yj:List Value->Bool
 | .ref _::r=>yj r
 | l=>l==[.type "ValueError", .type "Exception", .type "BaseException", .type "object"]
theorem HY(self:Value):refuseLoop self "__setattr__" [.type "ValueError", .type "Exception", .type "BaseException", .type "object"]=pure ():=by kernel_rfl
theorem vJ(self:Value):∀{l:xF},yj l=true->refuseLoop self "__setattr__" l=pure ()
 | .ref c::r,h=>by
  rw[refuseLoop_ref];exact vJ self h
 | [],h=>by cases h
 | .type n::r,h=>by
  have z:(Value.type n::r)=[.type "ValueError", .type "Exception", .type "BaseException", .type "object"]:=gX h;rw[z];exact HY self
 | .none::r,h=>by cases (gX h:(Value.none::r)=_)
 | .bool _::r,h=>by cases (gX h:(_::r)=_)
 | .int _ _::r,h=>by cases (gX h:(_::r)=_)
 | .str _ _::r,h=>by cases (gX h:(_::r)=_)
 | .bytes _ _::r,h=>by cases (gX h:(_::r)=_)
 | .float _ _::r,h=>by cases (gX h:(_::r)=_)
 | .builtin _::r,h=>by cases (gX h:(_::r)=_)
 | .ellipsis::r,h=>by cases (gX h:(_::r)=_)
 | .notImplemented::r,h=>by cases (gX h:(_::r)=_)
theorem rJ:∀{l:xF},yj l=true->l.contains (.type "object")=true/\l.isEmpty=false
 | .ref c::r,h=>⟨by rw[List.contains_cons,(rJ (l:=r) h).1,Bool.or_true],rfl⟩
 | [],h=>by cases h
 | .type n::r,h=>by
  have z:(Value.type n::r)=[.type "ValueError", .type "Exception", .type "BaseException", .type "object"]:=gX h;rw[z];exact⟨by decide,rfl⟩
 | .none::r,h=>by cases (gX h:(Value.none::r)=_)
 | .bool _::r,h=>by cases (gX h:(_::r)=_)
 | .int _ _::r,h=>by cases (gX h:(_::r)=_)
 | .str _ _::r,h=>by cases (gX h:(_::r)=_)
 | .bytes _ _::r,h=>by cases (gX h:(_::r)=_)
 | .float _ _::r,h=>by cases (gX h:(_::r)=_)
 | .builtin _::r,h=>by cases (gX h:(_::r)=_)
 | .ellipsis::r,h=>by cases (gX h:(_::r)=_)
 | .notImplemented::r,h=>by cases (gX h:(_::r)=_)
def nF(K:W.Frag)(C:Addr):Bool:=(W.clsIn K C).any λcd=>yj cd.mro
theorem E_{ox:Obj}{od:Option Obj}{tk:Tok}{R:Result->Shared->Prop}(X:K.In s.heap)(I:W.InstAt s.heap e ox C od)(hp:nF K C=true)(ht:W.takerIn K C name=some none)
  (h:∀b,wpAny (model prog w) A.in1 (Builtin.ObjectAttr.storeInOwnDict (.ref e) (.ref C) (.str name tk) name v b)
   (λfin s'=>match fin with|.done f=>R (.ok f) s'|.again c'=>c'.quiet=true/\codeAny (model prog w) A c' R s') (λx s'=>R (.error x) s') s) :
  codeAny (model prog w) A (.call (.builtin "object.__setattr__") ⟨[.ref e,.str name tk,v],[]⟩) R s:=by
 have SF:=PySem.F.store_object;obtain⟨cd,hc,ho⟩:=W.any_some hp;obtain⟨Zx,ne⟩:=rJ ho;have sub:W.Looks (model prog w) s.heap (isInstance (.ref e) (.type "object")) true:=I.type.andThen (W.looks_mroIn X (by unfold W.mroIn;rw[hc,Option.bind_some,if_neg (by rw[ne];decide),Zx]));refine codeAny_call_builtin SF.slot.plain SF.entry (@W.check_slot (model prog w) _ _ s "object.__setattr__" "object" "__setattr__" (.ref e) [.str name tk,v] [] _ SF.kind SF.split sub (SF.args (.ref e) (.str name tk) v) ?_);obtain⟨attr,ha,hr⟩:=Option.bind_eq_some_iff.mp ht;have hm:W.Looks (model prog w) s.heap (mroOf (.ref C)) cd.mro:=(W.looks_clsIn X hc).andThen .now;have L3:W.Looks (model prog w) s.heap (Builtin.ObjectAttr.storeTaker? attr) none:=by
  cases attr with
  | none=>exact .now
  | some a =>
   obtain⟨b,hb,q⟩:=Option.map_eq_some_iff.mp hr;refine(W.looks_takesIn X hb).andThen ?_;cases b with
   | true=>cases q
   | false=>exact .now
 rw[W.osa_eq,refuse_eq];refine zI (zI (I.type.here (zI (hm.here ?_))));rw[vJ _ ho];refine oB (zI (I.type.here (zI ((W.looks_findIn X ha).here (zI (L3.here ?_))))));exact h _
theorem JV{Q:xA}(X:K.In s.heap)(he:s.heap.get? e=some oe)(hc:oe.cls=.ref C)(hd:oe.dict=none)(hf:oe.data=.fields vs)
  (hs:W.findIn K (.ref C) "__setattr__" = some (some (.builtin "object.__setattr__"))) (hp:nF K C=true) (ht:W.takerIn K C name=some none) (hh:W.hasDictIn K C=true)
  (h:∀h',(∀b o,b≠e->s.heap.get? b=some o->h'.get? b=some o)->h'.get? e=some { oe with dict:=some s.heap.objs.size }->h'.Ns1 s.heap.objs.size (λy=>if y=name then some v else none)->Q () { s with heap:=h',toks:=s.toks+2 }) :
  wpAny (model prog w) A (setAttr (.ref e) name v) Q E s:=by
 have J:W.InstAt s.heap e oe C none:=⟨he,hc,gZ hf,by rw[hd];trivial⟩;refine W.set_plain X J hs (E_ (s:={ s with toks:=s.toks+1 }) X J hp ht λb=>?_)
 obtain⟨cd,hcd,hdd⟩:=W.any_some hh;obtain⟨oc,od,odt,osl⟩:=oe;simp only at hc hd hf;subst hc hd hf;refine zI (oB (zI (zI (wpAny_loadPart he (zI (W.Looks.here (s:={ s with toks:=s.toks+1 }) (W.looks_clsIn X hcd) ?_))))))
 rw[hdd];show wpAny (model prog w) A.in1 (alloc { cls:=.type "dict", data:=.dict #[] } >>= λd=>(update e λo=>{ o with dict:=some d }) >>= λ_=>dictMade (.ref C) e d) _ _ _
 have hlt:e<s.heap.objs.size:=uC he;have hne:e≠s.heap.objs.size:=gE hlt;refine zI (wpAny_alloc (zI (wpAny_update (uS _ he) ?_)));show wpAny (model prog w) A.in1 (pure (some s.heap.objs.size)) _ _ _;refine oB (zI (oB (zI ?_)));have e0:((s.heap.push { cls:=.type "dict", data:=.dict #[] }).update e λo=>{ o with dict:=some s.heap.objs.size }).get? s.heap.objs.size=some { cls:=.type "dict", data:=.dict #[] } :=
  (mB _ _ hne).trans (oS s.heap rfl)
 have e1:((s.heap.push { cls:=.type "dict", data:=.dict #[] }).update e λo=>{ o with dict:=some s.heap.objs.size }).get? e=some { cls:=.ref C,dict:=some s.heap.objs.size,data:=.fields vs,slots:=osl } :=
  Heap.get?_update_self _ (uS _ he) rfl
 have n0:((s.heap.push { cls:=.type "dict", data:=.dict #[] }).update e λo=>{ o with dict:=some s.heap.objs.size }).Ns s.heap.objs.size (λ_=>none) :=
  ⟨_,#[],_,e0,rfl,(λy hy=>absurd hy (by simp)),λ_=>rfl⟩
 refine wpAny_nsSet1 (Heap.Ns1.of_empty n0) λh' hn2 hs2=>?_
 obtain⟨oD,esD,epD,hoD,hdD,hcD⟩:=hn2.count (PySem.Within.cons (ns:=[]) name v (λy hy=>gS rfl hy));refine zI (wpAny_lookBehind hoD (by rw[hdD];exact pastItsLine_dict (oC hcD (by show 1<=_;decide))) ?_);refine oB (h h' (λb o hb q=>?_) ((hs2.2 _ hne).trans e1) hn2);rw[hs2.2 b (gE (uC q))];exact(mB _ _ (Ne.symm hb)).trans (uS _ q)
theorem JW{dx:Addr}{mA:xC}{ns:List Str}{Q:xA}(X:K.In s.heap)(he:s.heap.get? e=some oe)(hc:oe.cls=.ref C)(hd:oe.dict=some dx)(hf:oe.data=.fields vs)(hn:s.heap.Ns1 dx mA)(hne:dx≠e)
  (hs:W.findIn K (.ref C) "__setattr__" = some (some (.builtin "object.__setattr__"))) (hp:nF K C=true) (ht:W.takerIn K C name=some none) (hh:W.hasDictIn K C=true) (hw:PySem.Within mA ns) (hsz:ns.length<=1000)
  (h:∀h',Heap.SameBut dx s.heap h'->h'.Ns1 dx (λy=>if y=name then some v else mA y)->Q () { s with heap:=h',toks:=s.toks+2 }) :
  wpAny (model prog w) A (setAttr (.ref e) name v) Q E s:=by
 obtain⟨od,ho,_⟩:=kY hn;have J:W.InstAt s.heap e oe C (some od):=⟨he,hc,gZ hf,by rw[hd];exact ho⟩;refine W.set_plain X J hs (E_ (s:={ s with toks:=s.toks+1 }) X J hp ht λb=>?_)
 obtain⟨cd,hcd,hdd⟩:=W.any_some hh;obtain⟨oc,od',odt,osl⟩:=oe;simp only at hc hd hf;subst hc hd hf;refine zI (oB (zI (zI (wpAny_loadPart he (zI (W.Looks.here (s:={ s with toks:=s.toks+1 }) (W.looks_clsIn X hcd) ?_))))))
 rw[hdd];refine oB (a:=some dx) (zI (oB (zI (wpAny_nsSet1 (s:={ s with toks:=s.toks+1 }) hn λh' hn2 hs2=>?_))))
 obtain⟨oD,esD,epD,hoD,hdD,hcD⟩:=hn2.count (PySem.Within.cons name v hw);refine zI (wpAny_lookBehind hoD (by rw[hdD];exact pastItsLine_dict (oC hcD (by rw[zzD];have:=sizeLine_eq;lia))) ?_);exact oB (h h' hs2 hn2)
theorem Pz{dx:Addr}{mA:xC}{expr:Bool}{Q:xB}(X:K.In s.heap)(he:s.heap.get? e=some oe)(hc:oe.cls=.ref C)(hd:oe.dict=some dx)(hf:oe.data=.fields vs)(hn:s.heap.Ns1 dx mA)
  (hga:W.findIn K (.ref C) "__getattribute__" = some (some (.builtin "BaseException.__getattribute__"))) (hgb:W.findIn K (.ref C) "__getattr__" = some none) (hmb:W.mroIn K C (.type "BaseException")=some true)
  (hh:W.hasDictIn K C=true) (ha:W.findIn K (.ref C) name=some none) (hv:mA name=some v) (hv':W.handedIn v=true) (h:Q v { s with toks:=s.toks+1 }) :
  wpAny (model prog w) A (getAttr (.ref e) name expr) Q E s:=by
 obtain⟨od,ho,hl⟩:=kY hn;have J:W.InstAt s.heap e oe C (some od):=⟨he,hc,gZ hf,by rw[hd];exact ho⟩;have hfo:W.findObj K C (some od) name=some (.value v):=W.findObj_own hh ha rfl (by rw[hl,hv]);obtain⟨hp,g,d,t,os⟩:=s;have L0:=J.type (M:=model prog w);have L1:=W.looks_findIn (M:=model prog w) X hga;have L2:=W.looks_find (M:=model prog w) X J hfo;have L3:=W.looks_findIn (M:=model prog w) X hgb;have hx0:(expr && onTheHeap (Value.builtin "BaseException.__getattribute__"))=false:=by cases expr <;> rfl
 have sub:W.Looks (model prog w) hp (isInstance (.ref e) (.type "BaseException")) true:=J.type.andThen (W.looks_mroIn X hmb);unfold getAttr getAttrBy;refine zI (wpAny_mkText (mI (zI (L0.at (zI (L1.at ?_))))));show wpAny _ _ (getAttrByItsOwn (.ref e) (.str name t) (.ref C) (.builtin "BaseException.__getattribute__") true expr) _ _ _;unfold getAttrByItsOwn;refine zI (show wpAny _ _ (typeLookup (.ref C) "__getattr__") _ _ _ from L3.at ?_);refine zI (wpAny_attempt (mI ?_));unfold callGetattribute;rw[hx0,yT vT];unfold boundAndCalled;rw[PySem.F.excAttr_ValueError.ga.bind (.ref e)];refine zI (oB (wpAny_call (codeAny_call_builtin PySem.F.excAttr_ValueError.ga.plain PySem.F.entry_bexc_ga (@W.check_slot (model prog w) _ _ _ "BaseException.__getattribute__" "BaseException" "__getattribute__" (.ref e) [.str name t] [] _ (by decide +kernel) (by decide +kernel) sub (PySem.F.args_bexc_ga _ _) ?_))));refine zI (oB (zI (oB (zI (L0.at (zI (L2.at (oB ?_))))))));show wpAny _ _ (handedOut v) _ _ _;rw[W.handedOut_of hv'];exact oB h
end
def jL(e C:Addr)(dx:xL):HO:=.ext λh=>∃t sl,h.get? e=some { cls:=.ref C,dict:=dx,data:=.fields #[.ref t,.none,.none,.none,.bool false,.none],slots:=sl }
def jf(dx:Addr)(fs:List (Str×V)):HO:=.ext λh=>∃mA,h.Ns1 dx mA/\(∀f,ju (fs.lookup f) (mA f))/\PySem.Within mA (fs.map (·.1))/\fs.length<=100
section
variable{P:Program}{w:World}{H:Hp}{h:Heap}{e C dx:Addr}
theorem Fb{do':xL}{t:Addr}{sl:Array (Option Value)}(q:h.get? e=some { cls:=.ref C,dict:=do',data:=.fields #[.ref t,.none,.none,.none,.bool false,.none],slots:=sl }):cH P w H h e (jL e C do') :=
 ⟨⟨t,sl,q⟩,⟨_,q⟩,λh1 h2 ⟨t,sl,z⟩ k=>⟨t,sl,k _ z⟩⟩
theorem Fd{fs:List (Str×V)}{mA:xC}(n:h.Ns1 dx mA)(r:∀f,ju (fs.lookup f) (mA f))(wi:PySem.Within mA (fs.map (·.1)))(hl:fs.length<=100):cH P w H h dx (jf dx fs):=by
 refine⟨⟨mA,n,r,wi,hl⟩,?_,λh1 h2 ⟨mA,n,r,wi,hl⟩ k=>⟨mA,n.at k,r,wi,hl⟩⟩;obtain⟨o,_,_,q,_⟩:=n;exact⟨o,q⟩
end
structure V_(K:W.Frag)(C f:Addr)(bm:xF):Prop where
 obj:∃nm q N bs hdct sn sub ab col dd k0 k1 k2 k3 k5,K.lookup C=some (excClassObj nm q C N bs bm hdct sn sub ab col dd k0 k1 k2 k3 k5 "ValueError.__new__")
 Fe:rH "ValueError" "ValueError.__new__" "ValueError.__init__" bm
 init:W.findIn K (.ref C) "__init__" = some (some (.ref f))
 fn:∃o,K.lookup f=some o/\o.cls=.type "function"
 kp:W.keepIn K (.ref C)=true
structure JX(K:W.Frag)(C:Addr):Prop where
 sa:W.findIn K (.ref C) "__setattr__" = some (some (.builtin "object.__setattr__"))
 po:nF K C=true
 hd:W.hasDictIn K C=true
section
variable{X:Cx}{f C:Addr}{ps:List Str}{x:Str}{pos:Pos}{e:Expr}{t:TA}
def Zy(K:W.Frag)(ta tv:TE)(f:Str):TS:=λD σ H=>tv σ H λy H1=>ta σ H1 λx H2=>∃a C,x=.ref a/\JX K C/\W.takerIn K C f=some none /\
 ((H2 a=some (jL a C none)/\∀dx,H2 dx=none->D.nx σ (upd (upd H2 dx (jf dx [(f,y)])) a (jL a C (some dx)))) \/
  ∃dx fs,H2 a=some (jL a C (some dx))/\H2 dx=some (jf dx fs)/\dx≠a/\fs.length<100/\D.nx σ (upd H2 dx (jf dx (fL f y fs))))
theorem JZ{o value:Expr}{f:Str}{ta tv:TE}{pos':Pos}(ha:PE X o ta)(hv:PE X value tv)(hs:swapsWith value (some (.Attribute o f pos')) pos.line X.env=pure false:=by rfl):PS X (.Assign [.Attribute o f pos'] value pos) (Zy X.K ta tv f):=by
 intro pins s σ H D I h;refine plainObj_wpAny_Assign_Attribute (thn (hv pins s σ H _ I h) λu s1 ⟨y,H1,I1,ry,q⟩=>thn (ha pins s1 σ H1 _ I1 q) λov s2 ⟨x,H2,I2,rx,a,C,ex,S,tk,q2⟩=>?_) hs;subst ex;obtain rfl:ov=Value.ref a:=rx;rcases q2 with⟨ho,q3⟩|⟨dx,fs,ho,hd,hne,hl,q3⟩
 ·obtain⟨⟨t,sl,ge⟩,_,_⟩:cH X.prog X.w H2 s2.heap a (jL a C none):=I2.hok a _ ho;refine JV I2.kIn ge rfl rfl rfl S.sa S.po tk S.hd λh' kp ge' n'=>?_
  have hfr:H2 s2.heap.objs.size=none:=I2.hok.fresh (rS _);have nas:a≠s2.heap.objs.size:=aQ ho hfr;have other:∀b,b≠a->b≠s2.heap.objs.size->(upd (upd H2 s2.heap.objs.size (jf s2.heap.objs.size [(f,y)])) a (jL a C (some s2.heap.objs.size))) b=H2 b:=λb h1 h2=>by rw[bf h1,bf h2]
  have nlt:∀b o,s2.heap.get? b=some o->b≠s2.heap.objs.size:=λb o z=>gE (uC z)
  have na:∀b,H2 b=none->b≠a:=λb z q=>by rw[q,ho] at z;cases z
  have oV:∀b u,H2 b=some u->u≠jL a C none->b≠a:=λb u z d q=>by
   rw[q,ho] at z;exact d (nS z).symm
  refine⟨σ,_,I2.un ⟨λb o z n _ _=>kp b o (na b n) z,λb o z n _ _=>⟨o.slots,kp b o (na b n) z⟩,λb o z n _=>by rw[other b (na b n) (nlt b o z)];exact n,λb o z _=>?_,λb xs z=>?_,λb o u z=>?_,λb ps z=>⟨#[],?_⟩⟩ (λb u z=>?_),q3 _ hfr⟩
  ·by_cases hb:b=a
   ·exact⟨_,by rw[hb];exact ge'⟩
   ·exact⟨o,kp b o hb z⟩
  ·rw[other b (oV b _ z (by intro q;cases q)) (aQ z hfr)];exact z
  ·rw[other b (oV b _ z (by intro q;cases q)) (aQ z hfr)];exact z
  ·rw[other b (oV b _ z (by intro q;cases q)) (aQ z hfr),z];simp
  ·by_cases hb:b=a
   ·subst hb;rw[bx] at z;cases z;exact Fb ge'
   ·by_cases hb2:b=s2.heap.objs.size
    ·subst hb2;rw[bf hb,bx] at z;cases z;refine Fd n' (λg=>?_) (λg hg=>?_) (by simp)
     ·show ju ([(f,y)].lookup g) (if g=f then some u else none);by_cases zz:g=f
      ·rw[if_pos zz,zz];simpa[List.lookup_cons,ju] using ry
      ·have:(g==f)=false:=by simpa using zz
       rw[yT zz];simp[List.lookup_cons,this,ju]
     ·by_cases zz:g=f
      ·simp[zz]
      ·exact gS (show (if g=f then some u else none)=none by rw[yT zz]) hg
    ·rw[other b hb hb2] at z;refine(I2.hok b u z).stay (λc v hc q=>kp c v ?_ q) (λc q=>?_) λc xs q=>?_
     ·rcases hc with rfl|hc
      ·exact hb
      ·exact oV c _ hc (by intro q;cases q)
     ·rw[other c (oV c _ q (by intro q;cases q)) (aQ q hfr)];exact q
     ·rw[other c (oV c _ q (by intro q;cases q)) (aQ q hfr)];exact q
 ·obtain⟨⟨t,sl,ge⟩,_,_⟩:cH X.prog X.w H2 s2.heap a (jL a C (some dx)):=I2.hok a _ ho;obtain⟨⟨mA,n,r,wi,hl'⟩,_,_⟩:cH X.prog X.w H2 s2.heap dx (jf dx fs):=I2.hok dx _ hd;refine JW I2.kIn ge rfl rfl rfl n hne S.sa S.po tk S.hd wi (by rw[wS];lia) λh' sb n'=>?_
  refine⟨σ,_,I2.write (x:=dx) (e:=dx) (by rw[hd];trivial) (.inl rfl) (λb o hb z=>(sb.2 b hb).trans z) (let ⟨o,_,_,z,_⟩:=n';⟨o,z⟩) (Fd n' (λg=>?_) (λg hg=>?_) ?_),q3⟩
  ·show ju ((fL f y fs).lookup g) (if g=f then some u else mA g);rw[cQ];by_cases z:g=f
   ·rw[yB z,yB z];exact ry
   ·rw[yT z,yT z];exact r g
  ·by_cases z:g=f
   ·rw[z];exact(je f y fs).1
   ·refine(je f y fs).2 g (wi g λz2=>hg ?_);show (if g=f then some u else mA g)=none;rw[yT z];exact z2
  ·have:=jR f y fs;lia
structure Wa(K:W.Frag)(C:Addr):Prop where
 ga:W.findIn K (.ref C) "__getattribute__" = some (some (.builtin "BaseException.__getattribute__"))
 gb:W.findIn K (.ref C) "__getattr__" = some none
 mb:W.mroIn K C (.type "BaseException")=some true
 hd:W.hasDictIn K C=true
end
section
variable{M:Model}{A:Around}{E:xB}{s:Shared}{base:Heap}{env:Env}{outer:List Env}{L e:Addr}{oe:Obj}{vs:xI}
structure Left(fr:List Addr)(h h':Heap)(e:Addr)(oe:Obj)(vs:xI)(T:Addr):Prop where
 keep:∀b o,b≠e->b ∉ fr->h.get? b=some o->(∀z,vs[1]?=some (.ref z)->b≠z)->h'.get? b=some o
 slot:∀b o,b∈fr->h.get? b=some o->∃sl,h'.get? b=some { o with slots:=sl }
 new:h.objs.size<=T
 ent:∃oT ts,h'.get? T=some oT/\oT.data=.fields ts/\ts[3]?=some .none
 obj:h'.get? e=some { oe with data:=.fields (vs.setIfInBounds 1 (.ref T)) }
theorem PB(hl:s.heap.FunFrames base (env::outer))(he:s.heap.get? e=some oe)(hd:oe.data=.fields vs):e ∉ frs (env::outer):=λhm=>by
 obtain⟨_,o,ho,hn⟩:=hl.mem hm;rw[he] at ho;cases ho;exact hn vs hd
theorem mF{head:Value}{hadNext:Bool}{Q:xA}(hfr:A.frames=some (env::outer))(hl:s.heap.FunFrames base (env::outer))(hf:env.frame=some L)(he:s.heap.get? e=some oe)(hd:oe.data=.fields vs)(hsz:1<vs.size)
  (h:∀h' T,Left (frs (env::outer)) s.heap h' e oe vs T->Q () { s with heap:=h' }) :
  wpAny M A (do let a <- frameOf env;let pl <- entryPlaceOf L hadNext;let b <- EntryCells.newEntry head a .none (rawInt L) .none pl;setField (.ref e) 1 b) (λ_ s'=>wpAny M A (setFlight (.ref e) none) Q E s') E s:=by
 have hne:=PB hl he hd;refine zI (wpAny_frameOf_fun hfr hl hf λg hg=>zI (wpAny_entryPlaceOf λpl hpl=>?_));unfold EntryCells.newEntry newFields;refine zI (wpAny_newObj_type ?_ (hpl.sizeOk5 _ _ _ _ _));have he1:g.get? e=some oe:=(hg.2.1 e hne).trans he;have gsz:s.heap.objs.size<=g.objs.size:=by
  have:=hg.1
  lia
 generalize hT:({ cls:=.type "traceback", data:=.fields ([head,.ref L,.none,rawInt L,.none]++(if pl.isEmpty then List.replicate 6 Value.none else pl)).toArray }:Obj)=oT
 obtain⟨ts,hts,h4⟩:∃ts:Array Value,oT.data=.fields ts/\3<ts.size:=by
  rw[<- hT];exact⟨_,rfl,by simp only[List.size_toArray,List.length_append,List.length_cons,List.length_nil];lia⟩
 have fresh:∀b o,g.get? b=some o->g.objs.size≠b:=λb o z=>Nat.ne_of_gt (uC z)
 have he2:(g.push oT).get? e=some oe:=uS _ he1;have hTe:g.objs.size≠e:=fresh e oe he1;refine wpAny_setField he2 hd hsz ?_;have hd3:=Obj.data_mapFields hd (·.setIfInBounds 1 (Value.ref g.objs.size));have he3:=Heap.get?_update_self (Obj.mapFields (·.setIfInBounds 1 (Value.ref g.objs.size))) he2 (Obj.isFreed_of_fields hd3);have hfr':oT.isFreed=false:=Obj.isFreed_of_fields hts;have hT3:((g.push oT).update e (Obj.mapFields (·.setIfInBounds 1 (Value.ref g.objs.size)))).get? g.objs.size=some oT:=(mB _ _ (Ne.symm hTe)).trans (oS g hfr');unfold setFlight;refine wpAny_bind (wpAny_field he3 hd3 (x:=.ref g.objs.size) (by simp[hsz]) ?_);rw[if_pos (show (Value.ref g.objs.size != Value.none)=true from by simp)];have Fg:∀b o,b≠e->g.get? b=some o->(((g.push oT).update e (Obj.mapFields (·.setIfInBounds 1 (Value.ref g.objs.size)))).update g.objs.size (Obj.mapFields (·.setIfInBounds 3 ((none:xL).elim Value.none λf=>rawInt f)))).get? b=some o:=λb o hb z=>by
  rw[mB _ _ (fresh b o z),mB _ _ (Ne.symm hb)];exact uS _ z
 refine wpAny_setField hT3 hts h4 (h _ g.objs.size ⟨λb o hb hn z _=>Fg b o hb ((hg.2.1 b hn).trans z),λb o hb z=>?_,gsz,?_,?_⟩)
 ·obtain⟨sl,z2⟩:=hg.2.2 b o z;exact⟨sl,Fg b _ (λq=>hne (by rw[<- q];exact hb)) z2⟩
 ·exact⟨_,_,Heap.get?_update_self _ hT3 (Obj.isFreed_of_fields (Obj.data_mapFields hts _)),Obj.data_mapFields hts _,by simp[h4]⟩
 ·rw[mB _ _ hTe,he3];obtain⟨c1,d1,t1,s1⟩:=oe;simp only at hd;subst hd
  rfl
theorem zR{Q:xA}(hfr:A.frames=some (env::outer))(hl:s.heap.FunFrames base (env::outer))(hf:env.frame=some L)(he:s.heap.get? e=some oe)(hd:oe.data=.fields vs)(h1:vs[1]?=some .none)
  (h:∀h' T,Left (frs (env::outer)) s.heap h' e oe vs T->Q () { s with heap:=h' }):wpAny M A (leaving env (.ref e)) Q E s:=by
 unfold leaving noteFrame;simp only[hf];refine zI (zI (wpAny_field he hd h1 ?_));rw[yT (by decide)];exact mF hfr hl hf he hd (Array.getElem?_eq_some_iff.mp h1).1 h
theorem Ds{Q:xA}{T0:Addr}{o0:Obj}{ts0:xI}(hfr:A.frames=some (env::outer))(hl:s.heap.FunFrames base (env::outer))(hf:env.frame=some L)(he:s.heap.get? e=some oe)(hd:oe.data=.fields vs)(h1:vs[1]?=some (.ref T0))
  (hT:s.heap.get? T0=some o0) (hdT:o0.data=.fields ts0) (h3:ts0[3]?=some .none) (hTe:T0≠e)
  (h:∀h' T,Left (frs (env::outer)) s.heap h' e oe vs T->Q () { s with heap:=h' }):wpAny M A (leaving env (.ref e)) Q E s:=by
 unfold leaving noteFrame;simp only[hf];refine zI (zI (wpAny_field he hd h1 ?_));rw[if_pos (show (Value.ref T0 != Value.none)=true from by simp)];refine zI (wpAny_field hT hdT h3 ?_);rw[if_neg (show ¬ ((Value.none==rawInt L)=true) from by simp[rawInt])];refine zI (wpAny_setField hT hdT (Array.getElem?_eq_some_iff.mp h3).1 ?_);have hoth:∀b,b≠T0->(s.heap.update T0 (Obj.mapFields (·.setIfInBounds 3 Value.none))).get? b=s.heap.get? b:=λb hb=>mB _ _ (Ne.symm hb)
 have hno:∀b o,s.heap.get? b=some o->(∀z,o.data≠.fields z)->b≠T0:=λb o z hn q=>by
  rw[q,hT] at z;cases z;exact hn ts0 hdT
 have hl2:(s.heap.update T0 (Obj.mapFields (·.setIfInBounds 3 Value.none))).FunFrames base (env::outer):=hl.of_keeps λb o z hn=>⟨o,(hoth b (hno b o z hn)).trans z,rfl⟩
 refine mF (s:={ s with heap:=s.heap.update T0 (Obj.mapFields (·.setIfInBounds 3 Value.none)) }) hfr hl2 hf ((hoth e (Ne.symm hTe)).trans he) hd (Array.getElem?_eq_some_iff.mp h1).1 λh' T lf=>h h' T ⟨λb o hb hn z hz=>lf.keep b o hb hn ((hoth b (hz T0 h1)).trans z) hz,λb o hb z=>?_,?_,lf.ent,lf.obj⟩
 ·obtain⟨_,o',ho',hn'⟩:=hl.mem hb;rw[z] at ho';cases ho';exact lf.slot b o hb ((hoth b (hno b o z hn')).trans z)
 ·have:=lf.new;rw[Heap.size_update] at this;exact this
end
def Wb(n:Nat)(h:Heap)(a C:Addr)(dx:xL)(H:Hp):Prop :=
 ∃oe vs T oT ts,h.get? a=some oe/\oe.cls=.ref C/\oe.dict=dx/\oe.data=.fields vs/\vs[1]?=some (.ref T)/\T≠a/\h.get? T=some oT/\oT.data=.fields ts/\ts[3]?=some .none/\H a=none/\H T=none/\n<=a/\n<=T
def CX1(P:Program)(w:World):CXT:=λouter H s E ev s' =>
 ∃a C dx H',ev=.ref a/\s'.os=s.os/\AllBare s'.gens/\Un (frs outer) [] H H' s.heap s'.heap/\HOk P w H' s'.heap/\Wb s.heap.objs.size s'.heap a C dx H'/\E (.ref C) dx H'
theorem Du{P:Program}{w:World}{X:Cx}:Passes (CX1 P w) X E0:=λ_ _ _ _ _ _ _ ⟨_,_,_,_,_,_,_,_,_,_,z⟩=>z.elim
theorem rK{P:Program}{w:World}{H:Hp}{h h':Heap}{fr:List Addr}{e T:Addr}{oe:Obj}{vs:xI}(ok:HOk P w H h)(lf:Left fr h h' e oe vs T)(he:H e=none)(hT:∀z,vs[1]?=some (.ref z)->H z=none)(hfr:∀b∈fr,H b=none):HOk P w H h':=λb u z=>by
 refine(ok b u z).stay (λc v hc q=>?_) (λ_ q=>q) λ_ _ q=>q
 have hcs:∃x,H c=some x:=by
  rcases hc with rfl|hc
  ·exact⟨_,z⟩
  ·exact⟨_,hc⟩
 obtain⟨x,hx⟩:=hcs;exact lf.keep c v (aQ hx he) (λm=>by rw[hfr c m] at hx;cases hx) q λy hy=>aQ hx (hT y hy)
theorem Fi{H0 H:Hp}{h0 h h':Heap}{fs fr:List Addr}{e T:Addr}{oe:Obj}{vs:xI}(u:Un fs [] H0 H h0 h)(lf:Left fr h h' e oe vs T)(hfs:∀b,b∈fs->b∈fr)(hfr:∀b o,h0.get? b=some o->b∈fr->b∈fs)
  (he:h0.objs.size<=e) (hT:∀z,vs[1]?=some (.ref z)->h0.objs.size<=z):Un fs [] H0 H h0 h':=by
 have ne:∀b o,h0.get? b=some o->b≠e/\∀z,vs[1]?=some (.ref z)->b≠z:=λb o q =>
  ⟨gE (qV (uC q) he),λz hz=>gE (qV (uC q) (hT z hz))⟩
 refine⟨λb o q n hb hx=>lf.keep b o (ne b o q).1 (λm=>hb (hfr b o q m)) (u.keep b o q n hb hx) (ne b o q).2,λb o q n hb hx=>?_,u.free,λb o q hx=>?_,u.tups,u.jH,u.jJ⟩
 ·obtain⟨sl,z⟩:=u.slot b o q n hb hx;obtain⟨sl2,z2⟩:=lf.slot b _ (hfs b hb) z;exact⟨sl2,z2⟩
 ·obtain⟨o2,z⟩:=u.there b o q hx;by_cases m:b∈fr
  ·obtain⟨sl,z2⟩:=lf.slot b o2 m z;exact⟨_,z2⟩
  ·exact⟨o2,lf.keep b o2 (ne b o q).1 m z (ne b o q).2⟩
section
variable{P:Program}{w:World}{K:W.Frag}{mg:xC}{base:Heap}{N:List Str}{qual:Str}{scope:Scope}{f:Addr}{cd:Value}{A:Around}{outer:List Env}{s:Shared}{H:Hp}{E:XK}
theorem Wc:Passes (CX1 P w) (iV (CX1 P w) P w K mg base N qual scope f cd A outer s H E) E:=by
 intro pins σ H1 s1 ev s2 I hc;obtain⟨a,C,dx,H',rfl,hos,hb,un,hok,⟨oe,vs,T,oT,ts,ga,gc,gd,gf,g1,gne,gT,gt,g3,ha,hT,na,nT⟩,q⟩:=hc;have I2:Inv (iV (CX1 P w) P w K mg base N qual scope f cd A outer s H E) pins σ H' s2:=I.call' (ch:=[]) hos un hok hb (λb z=>absurd z (by simp));show wpAny (model P w) (A.deeper (envOfC qual scope s.heap.objs.size f cd)) (leaving (envOfC qual scope s.heap.objs.size f cd) (.ref a)) _ _ s2;refine Ds (base:=base) I.ok.frames I2.stack rfl ga gf g1 gT gt g3 gne λh' T' lf=>?_
 have hz:∀z,vs[1]?=some (.ref z)->z=T:=λz hz=>by rw[g1] at hz;cases hz;rfl
 have s0:s.heap.objs.size<=s1.heap.objs.size:=I.sz;have J0:∀b∈frs (envOfC qual scope s.heap.objs.size f cd::outer),H' b=none:=I2.mZ;obtain⟨oT',ts',gT',gt',g3'⟩:=lf.ent;refine⟨a,C,dx,H',rfl,I2.os,I2.bare,Fi I2.base lf (λb hb=>?_) (λb o q m=>?_) (oC s0 na) (λz h=>by rw[hz z h];exact oC s0 nT),rK I2.hok lf ha (λz h=>by rw[hz z h];exact hT) J0,?_,q⟩
 ·show b∈frs (envOfC qual scope s.heap.objs.size f cd::outer);unfold frs;rw[List.filterMap_cons];exact zD _ hb
 ·have m:b∈frs (envOfC qual scope s.heap.objs.size f cd::outer):=m;unfold frs at m;rw[List.filterMap_cons] at m;rcases jS.mp m with z|z
  ·exact gS (uC q) (by rw[z];exact gI _)
  ·exact z
 ·have hsz2:s.heap.objs.size<=s2.heap.objs.size:=I2.sz;have nTa:T'≠a:=λz=>gS (uC ga) (by rw[<- z];exact Nat.not_lt.mpr lf.new)
  refine⟨_,_,T',oT',ts',lf.obj,gc,gd,rfl,?_,nTa,gT',gt',g3',ha,I2.hok.fresh lf.new,oC s0 na,oC hsz2 lf.new⟩;have:1<vs.size:=(Array.getElem?_eq_some_iff.mp g1).1;simp[this]
end
mutual
def pyD:Dt->PyData
 | .non=>.none
 | .bl b=>.bool b
 | .int i=>.int i
 | .str x=>.str x
 | .lst xs=>.list (Tg xs)
 | .tup xs=>.tuple (Tg xs)
def Tg:List Dt->List PyData
 | []=>[]
 | x::xs=>pyD x::Tg xs
end
structure rM(K:W.Frag)(C R:Addr):Prop where
 g:Wa K C
 mro:(W.clsIn K C).map (·.mro)=some [.ref C,.ref R,.type "ValueError", .type "Exception", .type "BaseException", .type "object"]
 ty:W.typeIn K (.ref C)=some (.type "type")
 ha:W.findIn K (.ref C) "__class__" = some (some (.builtin "object.__class__"))
 hn:W.specialIn K (.builtin "object.__class__") "__get__" = some (some (.builtin "getset_descriptor.__get__"))
 tk:W.takesIn K (.builtin "object.__class__")=some true
section
variable{prog:Program}{w:World}{A:Around}{E:xB}{s:Shared}{K:W.Frag}{e C R:Addr}{oe:Obj}{odo:Option Obj}
theorem rM.in(G:rM K C R)(b:Value):W.mroIn K C b=some ([Value.ref C,.ref R,.type "ValueError", .type "Exception", .type "BaseException", .type "object"].contains b):=by
 obtain⟨cd,hc,hm⟩:=Option.map_eq_some_iff.mp G.mro;unfold W.mroIn;rw[hc,Option.bind_some,hm]
 rfl
theorem Ia{Q:Option Value->Shared->Prop}(G:rM K C R)(X:K.In s.heap)(J:W.InstAt s.heap e oe C odo)(h:Q (some (.ref C)) { s with toks:=s.toks+1 }):wpAny (model prog w) A (getAttr? (.ref e) "__class__") Q E s:=by
 have hfo:W.findObj K C odo "__class__" = some (.bind (.builtin "getset_descriptor.__get__") (.builtin "object.__class__")):=by
  obtain⟨cd,hc,hm⟩:=Option.map_eq_some_iff.mp G.mro;unfold W.findObj;rw[hc,Option.bind_some,G.ha,Option.bind_some];simp[G.hn,G.tk]
 obtain⟨hp,g,d,t,os⟩:=s;have L0:=J.type (M:=model prog w);have L1:=W.looks_findIn (M:=model prog w) X G.g.ga;have L2:=W.looks_find (M:=model prog w) X J hfo;have L3:=W.looks_findIn (M:=model prog w) X G.g.gb;have hx0:(false && onTheHeap (Value.builtin "BaseException.__getattribute__"))=false:=rfl;have sub:W.Looks (model prog w) hp (isInstance (.ref e) (.type "BaseException")) true:=J.type.andThen (W.looks_mroIn X G.g.mb);unfold getAttr? getAttrBy? getAttrBy;refine zI (wpAny_mkText (zI (wpAny_attempt (mI (zI (L0.at (zI (L1.at ?_))))))));show wpAny _ _ (getAttrByItsOwn (.ref e) (.str "__class__" t) (.ref C) (.builtin "BaseException.__getattribute__") false false) _ _ _;unfold getAttrByItsOwn;refine zI (show wpAny _ _ (typeLookup (.ref C) "__getattr__") _ _ _ from L3.at ?_);refine zI (wpAny_attempt (mI ?_));unfold callGetattribute;rw[hx0,yT vT];unfold boundAndCalled;rw[PySem.F.excAttr_ValueError.ga.bind (.ref e)];refine zI (oB (wpAny_call (codeAny_call_builtin PySem.F.excAttr_ValueError.ga.plain PySem.F.entry_bexc_ga (@W.check_slot (model prog w) _ _ _ "BaseException.__getattribute__" "BaseException" "__getattribute__" (.ref e) [.str "__class__" t] [] _ (by decide +kernel) (by decide +kernel) sub (PySem.F.args_bexc_ga _ _) ?_))));refine zI (oB (zI (oB (zI (L0.at (zI (L2.at ?_)))))));have hm:W.mroIn K C (.type "object")=some true:=G.in _;refine zI (mI (wpAny_call (W.class_get (s:=⟨hp,g,d,t+1,os⟩) (ox:=oe) (od:=odo) X J hm (oB ?_))));exact W.handed_on rfl (oB h)
theorem zT(G:rM K C R):W.KitX K (.ref e) (.ref C) (λh=>∃oe odo,W.InstAt h e oe C odo) where
 ty:=λ_ _ _ ⟨_,_,J⟩=>J.type
 it:=λ_ _ X _=>by
  obtain⟨cd,hc,_⟩:=Option.map_eq_some_iff.mp G.mro;unfold W.clsIn at hc;split at hc
  ·rename_i c' d' cd' sl' ho;intro A' Q' E' s' k q;unfold isType loadHead;exact zI (wpAny_loadPart (k _ _ (X _ _ ho)) (oB q))
  ·cases hc
 ne:=λh tp dd its n sl X htp=>by
  obtain⟨cd,hc,_⟩:=Option.map_eq_some_iff.mp G.mro;refine Bool.eq_false_iff.mpr λq=>?_
  have e:C=tp:=Value.ref.inj (beq_iff_eq.mp q);subst e;unfold W.clsIn at hc;split at hc
  ·rename_i c' d' cd' sl' ho;have z:=(X _ _ ho).symm.trans htp;cases z
  ·cases hc
 ca:=λX ⟨_,_,J⟩ k=>Ia G X J k
theorem zU(G:rM K C R)(hR:(W.clsIn K R).isSome=true)(tR:W.typeIn K (.ref R)=some (.type "type")):W.kitOne K (.ref C) (.ref R)=some true:=by
 unfold W.kitOne;by_cases q:C=R
 ·subst q;rw[if_pos (by simp)]
 ·rw[if_neg (by simpa using q)];unfold W.kitCls;simp only;rw[yB (by rw[hR,tR];rfl)];show W.mroIn K C (.ref R)=_;rw[G.in];simp[List.contains_cons]
end
def ExcAt(H:Hp)(x C:Addr)(fs:List (Str×V)):Prop:=(fs=[]/\H x=some (jL x C none))\/∃dx,H x=some (jL x C (some dx))/\H dx=some (jf dx fs)/\dx≠x
def Wd(C:Addr)(f g:Str):Sp:=λvs H Q _=>∃x v y,vs=[.ref x,v,y]/\H x=some (jL x C none)/\∀dx,H dx=none->Q .non (upd (upd (upd H dx (jf dx [(f,v)])) x (jL x C (some dx))) dx (jf dx (fL g y [(f,v)])))
structure rN(K:W.Frag)(mg:xC)(x qual:Str)(st:Stmt)(C R:Addr):Prop where
 ex:∃f fd,V_ K C f [.ref R,.type "ValueError", .type "Exception", .type "BaseException", .type "object"]/\Fun K "__init__" qual st f fd
 gl:mg x=some (.ref C)
 S:JX K C
 I:rM K C R
theorem Fe(R:Addr):rH "ValueError" "ValueError.__new__" "ValueError.__init__" [.ref R,.type "ValueError", .type "Exception", .type "BaseException", .type "object"]:=qz.under R
section
variable{P:Program}{w:World}{K:W.Frag}{mg:xC}{base:Heap}{CX:CXT}{qual f:Str}{st:Stmt}
def J1(P:Program)(w:World)(K:W.Frag)(mg:xC)(base:Heap)(CX:CXT)(qual:Str)(st:Stmt)(ps:List Str)(sp:Sp):Prop:=∀f fd,Fun K "__init__" qual st f fd->f9 P w K mg base CX 1 f fd ps sp/\Binds K fd ps []
end
section
variable{K:W.Frag}{mg:xC}{x qual:Str}{st:Stmt}{C R f:Addr}{nm q:Str}{N:Addr}{bs:xF}{sn:List Str}{sub:xF}{ab:Bool}{col:Option Bool}{dd:xL}{k0 k1 k2 k3 k5:Option Value}{od an:xL}{osl:Array (Option Value)}{kV doc pm cdv ct:Value}
theorem PJ(l:K.lookup C=some (excClassObj nm q C N bs [.ref R,.type "ValueError", .type "Exception", .type "BaseException", .type "object"] true sn sub ab col dd k0 k1 k2 k3 k5 "ValueError.__new__"))
  (sa:W.findIn K (.ref C) "__setattr__" = some (some (.builtin "object.__setattr__"))):JX K C:=by
 have hc:∃cd,W.clsIn K C=some cd/\cd.mro=[.ref C,.ref R,.type "ValueError", .type "Exception", .type "BaseException", .type "object"]/\cd.hasDict=true:=by
  unfold W.clsIn;rw[l];exact⟨_,rfl,rfl,rfl⟩
 obtain⟨cd,h1,h2,h3⟩:=hc;refine⟨sa,?_,?_⟩
 ·unfold nF;rw[h1,Option.any_some,h2]
  rfl
 ·unfold W.hasDictIn;rw[h1,Option.any_some,h3]
theorem PK(l:K.lookup C=some (excClassObj nm q C N bs [.ref R,.type "ValueError", .type "Exception", .type "BaseException", .type "object"] true sn sub ab col dd k0 k1 k2 k3 k5 "ValueError.__new__"))
  (ga:W.findIn K (.ref C) "__getattribute__" = some (some (.builtin "BaseException.__getattribute__"))) (gb:W.findIn K (.ref C) "__getattr__" = some none)
  (ha:W.findIn K (.ref C) "__class__" = some (some (.builtin "object.__class__"))) (hn:W.specialIn K (.builtin "object.__class__") "__get__" = some (some (.builtin "getset_descriptor.__get__"))) (tk:W.takesIn K (.builtin "object.__class__")=some true):rM K C R:=by
 have hc:∃cd,W.clsIn K C=some cd/\cd.mro=[.ref C,.ref R,.type "ValueError", .type "Exception", .type "BaseException", .type "object"]/\cd.hasDict=true:=by
  unfold W.clsIn;rw[l];exact⟨_,rfl,rfl,rfl⟩
 obtain⟨cd,h1,h2,h3⟩:=hc;refine⟨⟨ga,gb,?_,?_⟩,?_,?_,ha,hn,tk⟩
 ·unfold W.mroIn;rw[h1,Option.bind_some,h2]
  rfl
 ·unfold W.hasDictIn;rw[h1,Option.any_some,h3]
 ·rw[h1,Option.map_some,h2]
 ·show (List.lookup C K).map (·.cls)=_;rw[l]
  rfl
theorem rN.mk1(m:mg x=some (.ref C))(l:K.lookup C=some (excClassObj nm q C N bs [.ref R,.type "ValueError", .type "Exception", .type "BaseException", .type "object"] true sn sub ab col dd k0 k1 k2 k3 k5 "ValueError.__new__"))
  (i:W.findIn K (.ref C) "__init__" = some (some (.ref f))) (lf:K.lookup f=some ⟨.type "function", od,.func (W.fnOf "__init__" qual (dw st) (cj st) (aF st) .none kV doc pm an cdv ct),osl⟩)
  (c:W.codeIn K cdv qual=true) (kf:W.keepIn K (.ref f)=true) (kc:W.keepIn K (.ref C)=true) (S:JX K C) (I:rM K C R):rN K mg x qual st C R :=
 ⟨⟨f,_,⟨⟨nm,q,N,bs,true,sn,sub,ab,col,dd,k0,k1,k2,k3,k5,l⟩,Fe R,i,⟨_,lf,rfl⟩,kc⟩,mD lf c kf⟩,m,S,I⟩
end
structure Shm(m d:Nat)(x:PyData):Prop where
 sh:x.showable=true
 ln:x.shown.length<=m
 dp:x.depth<=d
theorem Shm.mono{m m' d d':Nat}{x:PyData}(h:Shm m d x)(a:m<=m')(b:d<=d'):Shm m' d' x:=⟨h.sh,oC h.ln a,oC h.dp b⟩
structure New(H H':Hp)(p:Addr)(o:HO):Prop where
 s:Same H H'
 e:H' p=some o
 n:∀a u,H a=some u->a≠p
theorem New.mk'{H:Hp}{p:Addr}{o:HO}(h:H p=none):New H (upd H p o) p o:=⟨Same.new h,bx,λa u q=>aQ q h⟩
section
variable{X:Cx}{es:List Expr}{t:TA}{pos:Pos}
def J2(t:TA):TE:=λσ H Q=>t σ H λxs H1=>xs.length<=sizeLine/\∀p H',New H1 H' p (.tup xs)->Q (.ref p) H'
def J3(t:TA):TE:=λσ H Q=>t σ H λxs H1=>xs.length<=sizeLine/\∀p H',New H1 H' p (.lst xs)->Q (.ref p) H'
theorem bK{x1}(h:PA X es t):PE X (.Tuple es x1 pos) (J2 t):=by
 intro pins s σ H Q I hq;refine wpAny_Tuple_spliced (thn (h pos pins s σ H _ I hq) λus s1 ⟨xs,H1,I1,r,z,q⟩=>⟨by rw[<- r.length];exact z,?_⟩);have hf:H1 s1.heap.objs.size=none:=I1.hok.fresh (rS _);refine⟨.ref s1.heap.objs.size,upd H1 s1.heap.objs.size (.tup xs),I1.laid (t':=s1.toks) (λb u e=>uS _ e) (rS _) ?_,rfl,q _ _ (.mk' hf)⟩;exact⟨z,us,r,⟨_,oS _ rfl,rfl,_,rfl⟩⟩
theorem bB(h:PA X es t):PE X (.List es pos) (J3 t):=by
 intro pins s σ H Q I hq;refine wpAny_List_spliced (thn (h pos pins s σ H _ I hq) λus s1 ⟨xs,H1,I1,r,z,q⟩=>⟨by rw[<- r.length];exact z,?_⟩);have hf:H1 s1.heap.objs.size=none:=I1.hok.fresh (rS _);refine⟨.ref s1.heap.objs.size,upd H1 s1.heap.objs.size (.lst xs),I1.laid (t':=s1.toks) (λb u e=>uS _ e) (rS _) ?_,rfl,q _ _ (.mk' hf)⟩;exact⟨z,us,0,r,oS _ rfl⟩
def J4:R2:=λx y H Q=>∃l b xs zs,x=.ref l/\y=.ref b/\H l=some (.lst xs)/\H b=some (.lst zs)/\xs.length+zs.length<=sizeLine/\∀p H',New H H' p (.lst (xs++zs))->Q (.ref p) H'
theorem iG:OpR X (binaryOp .Add) J4:=by
 intro pins s σ H x y v u Q I rx ry h;obtain⟨l,b,xs,zs,e1,e2,hH,hB,hz,q⟩:=h;exact Td pins s σ H x y v u Q I rx ry ⟨l,b,xs,zs,e1,e2,hH,hB,hz,λp hp=>q p _ (.mk' hp)⟩
def J5:R2:=λx y H Q=>∃l k xs,x=.ref l/\y=.int k/\H l=some (.lst xs)/\-(2 ^ 63)<=k/\k<2 ^ 63/\xs.length*k.toNat<=sizeLine/\∀p H',New H H' p (.lst (List.replicate k.toNat xs).flatten)->Q (.ref p) H'
theorem Fj:OpR X (binaryOp .Mult) J5:=by
 intro pins s σ H x y v u Q I rx ry h;obtain⟨l,k,xs,e1,e2,hH,h1,h2,hz,q⟩:=h;exact Te pins s σ H x y v u Q I rx ry ⟨l,k,xs,e1,e2,hH,h1,h2,hz,λp hp=>q p _ (.mk' hp)⟩
def Fl:V->List V->Hp->VK->Prop:=λx vs H Q=>∃l xs y,x=.ref l/\vs=[y]/\H l=some (.lst xs)/\xs.length<sizeLine/\∀H',Off l H H'->H' l=some (.lst (xs++[y]))->Q .non H'
theorem Dv:MtM X "list.append" Fl:=by
 intro pins s σ H x vs v us Q I rx rv h;obtain⟨l,xs,y,e1,e2,hH,hz,q⟩:=h;exact vC pins s σ H x vs v us Q I rx rv ⟨l,xs,y,e1,e2,hH,hz,q _ Off.upd bx⟩
theorem dG{o e:Expr}{to te:TE}{apos cpos:Pos}(ho:PE X o to)(he:PE X e te)(hbase:attributeBase o "append" X.env (eval o X.env)=eval o X.env:=by rfl)
  (hfew:((backTo cpos (starEach [e] X.env)).all (λx=>!x.1) && (backToKw cpos (keywordEach [] X.env)).all (λx=>x.1.isSome)
   && decide (([e]:List Expr).length+([]:List Keyword).length+(if ([]:List Keyword).isEmpty then 0 else 1)<30))=true:=by rfl)
  (hline:(apos.endLine==cpos.line)=true:=by rfl) (hs:starEach [e] X.env=(false,eval e X.env)::starEach [] X.env:=by rfl) :
  PE X (.Call (.Attribute o "append" apos) [e] [] cpos) (tBM X.K "list" Fl to (rC te xX)) :=
 Ez PySem.F.plainAttrs_list PySem.F.slot_list_append PySem.F.type_list_append Dv ho (aj he ao hs) hbase hfew hline hs (by rfl)
end
section
variable{σ:St}{H:Hp}{x y:V}{vs:List V}{t ta tb:TE}{tr:TA}{Q:VK}{D:Ends}{s u:TS}{tg:TG}{c:TT}
theorem Fo{Q:List V->Hp->Prop}(h:t σ H λx H1=>tr σ H1 λxs H2=>Q (x::xs) H2):rC t tr σ H Q:=h
theorem J6{Q:List V->Hp->Prop}(h:Q [] H):xX σ H Q:=h
theorem J7(h:s { D with nx:=u D } σ H):Oz s u D σ H:=h
theorem Rj{nx bk ct:St->Hp->Prop}{rt:VK}(h:nx σ H):(Ends.mk nx rt bk ct).nx σ H:=h
theorem Fp(h:D.nx σ H):Ep D σ H:=h
theorem J8(h:t σ H λx H1=>tg x σ H1 D.nx):Jl t tg D σ H:=h
theorem Fq(h:tr σ H λxs H1=>xs.length<=sizeLine/\∀p H',New H1 H' p (.tup xs)->Q (.ref p) H'):J2 tr σ H Q:=h
theorem Ft(h:tr σ H λxs H1=>xs.length<=sizeLine/\∀p H',New H1 H' p (.lst xs)->Q (.ref p) H'):J3 tr σ H Q:=h
theorem Rk{r:R2}(h:ta σ H λx H1=>tb σ H1 λy H2=>r x y H2 Q):tOp r ta tb σ H Q:=h
theorem J9(h:t σ H D.rt):Sx t D σ H:=h
theorem Fv(h:t σ H λ_ H1=>D.nx σ H1):Jk t D σ H:=h
theorem Rm(h:c σ H λb H1=>if b=true then s D σ H1 else u D σ H1):Sy c s u D σ H:=h
theorem Fw{Q:Bool->Hp->Prop}(h:t σ H λx H'=>∃k,x=.bl k/\Q k H'):Jv t σ H Q:=h
theorem Wf{Q:Bool->Hp->Prop}(h:t σ H λx H'=>∃k,x=.bl k/\Q k H'):tB t σ H Q:=h
theorem Rn{r:List V->Hp->VK->Prop}(h:tr σ H λvs H1=>r vs H1 Q):tCB r tr σ H Q:=h
end
def del(H:Hp)(a:Addr):Hp:=λb=>if b=a then none else H b
section
variable{P:Program}{w:World}{H:Hp}{h:Heap}{a b:Addr}{φ:Heap->Prop}{o:HO}
theorem rO:del H a a=none:=by unfold del;rw[if_pos rfl]
theorem jU(h:b≠a):del H a b=H b:=by unfold del;rw[if_neg h]
theorem nH(h:H b=none):del H a b=none:=by
 unfold del;split
 ·rfl
 ·exact h
theorem HOk.del(ok:HOk P w H h)(ha:H a=some (.ext φ)):HOk P w (del H a) h:=λb u z=>by
 by_cases hb:b=a
 ·rw[hb,rO] at z;cases z
 ·rw[jU hb] at z;refine(ok b u z).stay (λ_ _ _ q=>q) (λc q=>?_) λc xs q=>?_
  ·rw[jU λe=>by rw[e,ha] at q;cases q];exact q
  ·rw[jU λe=>by rw[e,ha] at q;cases q];exact q
theorem HOk.track(ok:HOk P w H h)(ha:H a=none)(new:cH P w (upd H a o) h a o):HOk P w (upd H a o) h:=λb u z=>by
 by_cases hb:b=a
 ·subst hb;rw[bx] at z;cases z;exact new
 ·rw[bf hb] at z;refine(ok b u z).stay (λ_ _ _ q=>q) (λc q=>?_) λc xs q=>?_
  ·rw[bf (aQ q ha)];exact q
  ·rw[bf (aQ q ha)];exact q
end
section
variable{X:Cx}{pins:List (Addr×Obj)}{σ:St}{H H1:Hp}{s s1:Shared}{a:Addr}{φ:Heap->Prop}{o:HO}
theorem Inv.del(I:Inv X pins σ H s)(ha:H a=some (.ext φ))(h0:X.H₀ a=none):Inv X pins σ (del H a) s:=by
 have ne:∀{b:Addr} {u:HO},X.H₀ b=some u->b≠a:=λ{b u} z=>aQ z h0
 refine⟨I.ok,I.os,I.bare,⟨I.base.keep,I.base.slot,λb o e n hx=>nH (I.base.free b o e n hx),I.base.there,λb xs e=>?_,λb o u e=>?_,λb ps e=>?_⟩,I.loc,I.cell,nH I.free,λx c e=>nH (I.fZ x c e),λp hp=>?_,I.hok.del ha,I.len⟩
 ·rw[jU (ne e)];exact I.base.tups b xs e
 ·rw[jU (ne e)];exact I.base.jH b o u e
 ·rw[jU (ne e)];exact I.base.jJ b ps e
 ·obtain⟨q1,q2,q3,q4,q5⟩:=I.pin p hp;exact⟨q1,nH q2,q3,q4,q5⟩
theorem Inv.track(I:Inv X pins σ H s)(I0:Inv X pins σ H1 s1)(na:s1.heap.objs.size<=a)(ha:H a=none)(new:cH X.prog X.w (upd H a o) s.heap a o):Inv X pins σ (upd H a o) s:=by
 have s0:X.s₀.heap.objs.size<=s1.heap.objs.size:=I0.sz;have ne:∀b ob,s1.heap.get? b=some ob->b≠a:=λb ob q=>gE (qV (uC q) na)
 refine⟨I.ok,I.os,I.bare,⟨I.base.keep,I.base.slot,λb o e n hx=>?_,I.base.there,λb xs e=>?_,λb o u e=>?_,λb ps e=>?_⟩,I.loc,I.cell,?_,λx c e=>?_,λp hp=>?_,I.hok.track ha new,I.len⟩
 ·rw[bf (gE (qV (uC e) (oC s0 na)))];exact I.base.free b o e n hx
 ·have z:=I.base.tups b xs e;rw[bf (aQ z ha)];exact z
 ·have z:=I.base.jH b o u e;rw[bf (aQ z ha)];exact z
 ·obtain⟨m,z⟩:=I.base.jJ b ps e;exact⟨m,by rw[bf (aQ z ha)];exact z⟩
 ·rw[bf (gE (qV I0.lt na))];exact I.free
 ·obtain⟨v,ob,ho,_⟩:=I0.cell x c e;rw[bf (ne c ob ho)];exact I.fZ x c e
 ·obtain⟨q1,q2,q3,q4,q5⟩:=I.pin p hp;obtain⟨r1,_⟩:=I0.pin p hp;exact⟨q1,by rw[bf (ne _ _ r1)];exact q2,q3,q4,q5⟩
end
section
variable{M:Model}{A:Around}{E:xB}{env:Env}
variable{nm q:Str}{C N:Addr}{bs bm:xF}{hdct:Bool}{sn:List Str}{sub:xF}{ab:Bool}{col:Option Bool}{dd:xL}{k0 k1 k2 k3 k5:Option Value}{newId:String}
theorem Ib{s:Shared}{x:Sem Value}{Q:Flow->Shared->Prop}(hbase:bm.contains (.type "BaseException")=true)(hh:A.handled=none)
  (h:wpAny M A x (λv s₁=>∃e t dx sl,v=.ref e/\s₁.heap.get? C=some (excClassObj nm q C N bs bm hdct sn sub ab col dd k0 k1 k2 k3 k5 newId) /\
   s₁.heap.get? e=some { cls:=.ref C,dict:=dx,data:=.fields #[.ref t,.none,.none,.none,.bool false,.none],slots:=sl }/\E (.ref e) s₁) E s) :
  wpAny M A (raiseStmt env (some x) none) Q E s:=by
 have hcB:(Value.ref C::bm).contains (.type "BaseException")=true:=by rw[List.contains_cons,hbase,Bool.or_true]
 unfold raiseStmt;refine zI (mM h (λv s₁ h₁=>?_) λ_ _ x=>x);obtain⟨e,t,dx,sl,rfl,hC,he,hE⟩:=h₁;obtain⟨hp,g,d,tk,os⟩:=s₁
 repeat (first|with_reducible refine wpAny_loadPart_at he ?_|with_reducible refine wpAny_loadPart_at hC ?_|(with_reducible refine wpAny_isSubtype_exc hC ?_;rw[hcB])|wp_step)
 exact wpAny_raiseNew_none hh hE
end
def Wg(K:W.Frag)(C R:Addr):Prop:=∃nm q N bs hdct sn sub ab col dd k0 k1 k2 k3 k5,K.lookup C=some (excClassObj nm q C N bs [.ref R,.type "ValueError", .type "Exception", .type "BaseException", .type "object"] hdct sn sub ab col dd k0 k1 k2 k3 k5 "ValueError.__new__")
def J_(C:Addr)(H0:Hp)(n:Nat)(E:XK)(te:TE):TS:=λD σ H=>te σ H λx H1=>∃a dx,x=.ref a/\n<=a/\H0 a=none/\H1 a=some (jL a C dx)/\E (.ref C) dx (del H1 a)
section
variable{P:Program}{w:World}{K:W.Frag}{mg:xC}{base:Heap}{N:List Str}{qual:Str}{scope:Scope}{f:Addr}{cd:Value}{A:Around}{outer:List Env}{s:Shared}{H:Hp}{E:XK}
theorem Ka{C R:Addr}{e:Expr}{te:TE}{pos:Pos}(hC:Wg K C R)(he:PE (iV (CX1 P w) P w K mg base N qual scope f cd A outer s H E) e te) :
  PS (iV (CX1 P w) P w K mg base N qual scope f cd A outer s H E) (.Raise (some e) none pos) (J_ C H s.heap.objs.size E te):=by
 intro pins s1 σ H1 D I h;obtain⟨nm,q,N',bs,hdct,sn,sub,ab,col,dd,k0,k1,k2,k3,k5,ho⟩:=hC;rw[arm_exec_Raise];show wpAny (model P w) (A.deeper (envOfC qual scope s.heap.objs.size f cd)) (do standAt pos;raiseStmt (envOfC qual scope s.heap.objs.size f cd) (some (do let v <- eval e (envOfC qual scope s.heap.objs.size f cd);standAt pos;pure v)) none) _ _ s1;refine zI (wpAny_standAt (Ib (C:=C) (nm:=nm) (q:=q) (N:=N') (bs:=bs) (bm:=[.ref R,.type "ValueError", .type "Exception", .type "BaseException", .type "object"]) (hdct:=hdct) (sn:=sn) (sub:=sub) (ab:=ab) (col:=col) (dd:=dd) (k0:=k0) (k1:=k1) (k2:=k2) (k3:=k3) (k5:=k5) (newId := "ValueError.__new__") (Fe R).V9 (I.ok.hd rfl) (zI (thn (he pins s1 σ H1 _ I h) λv s2 ⟨x,H2,I2,rx,a,dx,ex,na,h0,ha,q2⟩=>zI (wpAny_standAt (oB ?_))))));subst ex;obtain rfl:v=Value.ref a:=rx;obtain⟨⟨t,sl,ge⟩,_,_⟩:cH P w H2 s2.heap a (jL a C dx):=I2.hok a _ ha;refine⟨a,t,dx,sl,rfl,I2.kIn C _ ho,ge,?_⟩;have I3:Inv (iV (CX1 P w) P w K mg base N qual scope f cd A outer s H E) pins σ (del H2 a) s2:=I2.del ha h0;show wpAny (model P w) (A.deeper (envOfC qual scope s.heap.objs.size f cd)) (leaving (envOfC qual scope s.heap.objs.size f cd) (.ref a)) _ _ s2;refine zR (base:=base) I.ok.frames I3.stack rfl ge rfl rfl λh' T' lf=>?_
 have hz:∀z,(#[Value.ref t,.none,.none,.none,.bool false,.none]:xI)[1]?=some (.ref z)->False:=λz q=>by
  simp at q
 have J0:∀b∈frs (envOfC qual scope s.heap.objs.size f cd::outer),del H2 a b=none:=I3.mZ;obtain⟨oT',ts',gT',gt',g3'⟩:=lf.ent;refine⟨a,C,dx,del H2 a,rfl,I3.os,I3.bare,Fi I3.base lf (λb hb=>?_) (λb o q m=>?_) na (λz q=>(hz z q).elim),rK I3.hok lf rO (λz q=>(hz z q).elim) J0,?_,q2⟩
 ·show b∈frs (envOfC qual scope s.heap.objs.size f cd::outer);unfold frs;rw[List.filterMap_cons];exact zD _ hb
 ·have m:b∈frs (envOfC qual scope s.heap.objs.size f cd::outer):=m;unfold frs at m;rw[List.filterMap_cons] at m;rcases jS.mp m with z|z
  ·exact gS (uC q) (by rw[z];exact gI _)
  ·exact z
 ·have hsz2:s.heap.objs.size<=s2.heap.objs.size:=I2.sz;have nTa:T'≠a:=λz=>gS (uC ge) (by rw[<- z];exact Nat.not_lt.mpr lf.new)
  exact⟨_,_,T',oT',ts',lf.obj,rfl,rfl,rfl,by simp,nTa,gT',gt',g3',rO,I3.hok.fresh lf.new,na,Nat.le_trans hsz2 lf.new⟩
end
section
variable{X:Cx}{CX:CXT}{k:Nat}{f C:Addr}{fd:FuncData}{ps:List Str}{sp:Sp}{E:XK}{e:Expr}{t:TA}{bm:xF}
theorem Kc{pins:List (Addr×Obj)}{σ:St}{H:Hp}{s:Shared}{Q:VK}{us:xF}{vs:List V}(M:V_ X.K C f bm)(F:f9 X.prog X.w X.K X.mg X.base CX k f fd ps sp)(hr:Room (k+1) X.A)(hb:Binds X.K fd ps [])
  (hx:Passes CX X E) (I:Inv X pins σ H s) (r:Vals vs us) (hz:vs.length<=sizeLine)
  (h:∀x,H x=none->s.heap.objs.size<=x->sp (.ref x::vs) (upd H x (jL x C none)) (λv H2=>v=.non/\Q (.ref x) H2) E) :
  wpAny (model X.prog X.w) X.A (call (.ref C) us) (EP X pins σ Q) X.xe s:=by
 obtain⟨nm,q,N,bs,hdct,sn,sub,ab,col,dd,k0,k1,k2,k3,k5,ho⟩:=M.obj;obtain⟨oI,hoI,hcI⟩:=M.fn;have hsz:us.length<=sizeLine:=by rw[<- r.length];exact hz
 refine JT (h:=s.heap) (g:=s.gens) (d:=s.drawn) (t:=s.toks) (os:=s.os) M.Fe (I.kIn C _ ho) (W.looks_findIn I.kIn M.init) (I.kIn f _ hoI) hcI (λh' kp hget=>?_) hsz;have hfr:H (s.heap.objs.size+1)=none:=I.hok.fresh (Nat.le_succ _);have hq:=h (s.heap.objs.size+1) hfr (Nat.le_succ _);have I2:Inv X pins σ (upd H (s.heap.objs.size+1) (jL (s.heap.objs.size+1) C none)) { s with heap:=h' }:=I.laid (t':=s.toks) kp (Nat.le_succ _) (Fb hget)
 have r2:Vals (V.ref (s.heap.objs.size+1)::vs) (Value.ref (s.heap.objs.size+1)::us):=.cons rfl r;have hl:(Value.ref (s.heap.objs.size+1)::us++[]).length=ps.length:=by
  rw[mP,<- r2.length];exact F.len _ _ _ _ hq
 refine wpAny_call (codeAny_mono (F.run _ X.stack _ _ ⟨Value.ref (s.heap.objs.size+1)::us,[]⟩ (Value.ref (s.heap.objs.size+1)::us) _ _ E (hr.make C us []) (I2.env0.make C us []) (by
  have:=hb { s with heap:=h' } (Value.ref (s.heap.objs.size+1)::us) I2.kIn hl
  rwa [mP] at this) r2 hq) λr s' hq'=>?_)
 cases r with
 | error e=>exact hx pins σ _ _ e s' I2 hq'
 | ok fl =>
  cases fl with
  | ret u =>
   obtain⟨v,H',I3,rv,ev,q3⟩:=I2.after hq';subst ev;exact⟨rv,⟨V.ref (s.heap.objs.size+1),H',I3,rfl,q3⟩⟩
  | next=>exact False.elim hq'
  | brk=>exact False.elim hq'
  | cont=>exact False.elim hq'
end
def Ro(n:Nat)(C:Addr)(f g:Str)(t:TA):TE:=λσ H Q=>t σ H λvs H1=>∃v y,vs=[v,y]/\∀z H',n<=z->H1 z=none->Same H1 H'->ExcAt H' z C (fL g y [(f,v)])->Q (.ref z) H'
section
variable{CX:CXT}{X:Cx}{m:Nat}{C R:Addr}{E:XK}{x qual f g:Str}{st:Stmt}{p pos:Pos}{e:Expr}{es:List Expr}{t:TA}
theorem PL(M:rN X.K X.mg x qual st C R)(F:J1 X.prog X.w X.K X.mg X.base CX qual st ["self", f,g] (Wd C f g))(hr:Room m X.A)(ha:PA X (e::es) t)(hk:2<=m:=by decide)(hx:Passes CX X E:=by exact vG)(hg:Gl X x:=by rfl)
  (hdb:(x==("__debug__" : Str))=false:=by decide) (he:starEach (e::es) X.env=(false,eval e X.env)::starEach es X.env:=by rfl) (hpl:(backTo pos (starEach es X.env)).any (·.1)=false:=by rfl) :
  PE X (.Call (.Name x p) (e::es) [] pos) (Ro X.s₀.heap.objs.size C f g t):=by
 intro pins s σ H Q I h;obtain⟨fa,fd,C1,Fn⟩:=M.ex;obtain⟨ok,hb⟩:=F fa fd Fn;refine wpAny_Call_Name_kw (kO I hg M.gl ?_ hdb);refine W.callWith_K (h₀:=X.base) I.ok.mod.kin C1.kp (thn (ha pos pins s σ H _ I h) λus s1 ⟨vs,H1,I1,r,v,y,ev,q⟩=>⟨I1.kIn,?_⟩) he hpl;subst ev;refine Kc C1 ok (hr.mono hk) hb hx I1 r (cO (show (_:Nat)<=_ by simp only[List.length_cons,List.length_nil];decide)) λz hz hn=>⟨z,v,y,rfl,bx,λdx hd=>⟨rfl,q z _ (Nat.le_trans I1.sz hn) hz (λb u eb=>?_) ?_⟩⟩
 ·have hzx:dx≠z:=λq=>by rw[q,bx] at hd;cases hd
  rw[bf hzx] at hd;rw[bf (aQ eb hd),bf (aQ eb hz),bf (aQ eb hd),bf (aQ eb hz)];exact eb
 ·have hzx:dx≠z:=λq=>by rw[q,bx] at hd;cases hd
  exact .inr ⟨dx,by rw[bf (Ne.symm hzx),bx],bx,hzx⟩
end
theorem Kd{n:Nat}{H0 H1 H':Hp}{E:XK}{C z:Addr}{fs:List (Str×V)}(hfs:fs≠[])(hn:n<=z)(hz:H1 z=none)(h0:H0 z=none)(s:Same H1 H')(e:ExcAt H' z C fs)(k:∀dx H2,Same H1 H2->H2 dx=some (jf dx fs)->E (.ref C) (some dx) H2) :
  ∃a dx,V.ref z=.ref a/\n<=a/\H0 a=none/\H' a=some (jL a C dx)/\E (.ref C) dx (del H' a):=by
 rcases e with⟨w,_⟩|⟨dx,a,b,c⟩
 ·exact gS w hfs
 ·exact⟨z,some dx,rfl,hn,h0,a,k dx _ (λb u q=>by rw[jU (aQ q hz)];exact s b u q) (by rw[jU c];exact b)⟩
theorem zV{es:Array DictEntry}{name x:Str}{i:Nat}(h:x≠name)(hi:es.findIdx? (·.key.isStr name)=some i):nsFind (es.eraseIdxIfInBounds i) x=nsFind es x:=by
 obtain⟨l⟩:=es;have h1:=find?_drop (·.key.isStr x) (·.key.isStr name) (isStr_other h) l;rw[List.findIdx?_toArray] at hi;simp only[hi] at h1;have e1:(l.toArray.eraseIdxIfInBounds i).find? (·.key.isStr x)=l.toArray.find? (·.key.isStr x):=by simpa using h1
 unfold nsFind findBy;rw[e1]
section
variable{M:Model}{A:Around}{E:xB}{s:Shared}
theorem yp{a:Addr}{m}{name:Str}{Q:Bool->Shared->Prop}(hn:s.heap.Ns a m)
  (hQ:∀h' m',h'.Ns a m'->(∀x,x≠name->m' x=m x)->Heap.SameBut a s.heap h'->Q (m name).isSome { s with heap:=h' }):wpAny M A (nsDel a name) Q E s:=by
 obtain⟨o,es,ep,ho,hd,hk,hm⟩:=id hn;have hany:es.any (·.refKey)=false:=by
  rw[Array.any_eq_false'];intro e he;obtain⟨n,t,h⟩:=hk e he;simp[DictEntry.refKey,h]
 have hsome:(m name).isSome=es.any (·.key.isStr name):=by
  rw[<- hm name];simp only[nsFind,findBy,Option.isSome_map];rw[Bool.eq_iff_iff];simp only[Array.find?_isSome,Array.any_eq_true]
  constructor
  ·rintro ⟨x,hx,hp⟩;obtain⟨i,hi,rfl⟩:=Array.mem_iff_getElem.mp hx;exact⟨i,hi,hp⟩
  ·rintro ⟨i,hi,hp⟩;exact⟨_,Array.getElem_mem hi,hp⟩
 have hhas:nsHas name o=pure (es.any (·.key.isStr name)):=by
  rw[nsHas_eq];unfold nsHasByArray;rw[hd];show (if (es.any λx=>x.key.isStr name)=true then _ else _)=_
  generalize (es.any λx=>x.key.isStr name)=b
  cases b <;> simp[hany]
 unfold nsDel;refine zI (wpAny_loadPart ho ?_);rw[hhas];refine zI (oB ?_);rw[<- hsome];cases hmn:(m name).isSome
 ·have:=hQ s.heap m hn (λ_ _=>rfl) (.refl ..);rw[hmn] at this;exact oB this
 ·refine zI (wpAny_updatePart ho (oB ?_));have key:∃m',(s.heap.update a (Obj.dropName name)).Ns a m'/\∀x,x≠name->m' x=m x:=by
   obtain⟨cl,d,dt,sl⟩:=o;subst hd;cases hi:es.findIdx? (·.key.isStr name) with
   | some i=>exact⟨_,⟨_,_,ep+1,Heap.get?_update_self _ ho (by simp only[Obj.dropName_eq,Obj.dropNameByArray,hi] <;> rfl),(by simp only[Obj.dropName_eq,Obj.dropNameByArray,hi] <;> rfl),hk.erase i,λ_=>rfl⟩,λx hx=>(zV hx hi).trans (hm x)⟩
   | none=>exact⟨_,⟨_,_,ep,Heap.get?_update_self _ ho (by simp only[Obj.dropName_eq,Obj.dropNameByArray,hi] <;> rfl),(by simp only[Obj.dropName_eq,Obj.dropNameByArray,hi] <;> rfl),hk,λ_=>rfl⟩,λx hx=>hm x⟩
  obtain⟨m',hm',hx'⟩:=key;have:=hQ _ m' hm' hx' (Heap.SameBut.update ..);rw[hmn] at this;exact this
end
section
variable{X:Cx}{pins:List (Addr×Obj)}{σ:St}{H:Hp}{s:Shared}
theorem name_goes{M:Model}{A:Around}{E:xB}{i:Nat}{n:Str}{pos:Pos}{Q:xA}(I:Inv X pins σ H s)(hN:X.N.Nodup)(hi:X.N[i]?=some n)(hl:X.env.scope.names.lookup n=some .local)
  (h:∀s',Inv X pins (σ.set i none) H s'->Q () s'):wpAny M A (do bindName X.env n .none;unbindBehindTheSuite X.env n pos) Q E s:=by
 have hp:(X.env.scope.kind==.class || (X.env.scope.kind==.module && X.env.locals != X.env.globals))=false:=by rw[I.ok.kind];rfl
 have hl':X.env.kindOf n=some .local:=hl;have hiσ:i<σ.length:=by rw[I.len];exact(qE.mp hi).1
 refine zI (wpAny_bindName (m7 (v:=V.non) (u:=Value.none) I hN hi (.inl hl) rfl (λs1 I1=>?_) (.inr hl)));unfold unbindBehindTheSuite;refine wpAny_onRaise ?_;unfold unbindName;refine zI (wpAny_point (zI ?_));unfold deleteName;simp only[hl',hp];rw[yT (by decide)];obtain⟨m,hn,hm⟩:=id I1.loc;have hmn:(m n).isSome=true:=by
  obtain⟨u,_,q⟩:=hm i n .non hi (by rw[List.getElem?_set_self hiσ]) (.inl hl);rcases q with⟨_,e⟩|⟨k,_⟩
  ·rw[e];rfl
  ·rw[hl'] at k;rcases k with k|k <;> cases k
 have cne:=I1.cne;refine zI (yp hn λh₂ m₂ hn₂ hk hs=>?_);rw[hmn];simp only[if_true,Bool.not_true,Bool.false_eq_true,if_false];refine oB (wpAny_point (h _ ?_));obtain⟨oL,_,_,hoL,_⟩:=id hn;refine⟨I1.ok,I1.os,I1.bare,⟨λb o e n hb hx=>?_,λb o e n hb hx=>?_,I1.base.free,λb o e hx=>?_,I1.base.tups,I1.base.jH,I1.base.jJ⟩,⟨_,hn₂,λj y v' e1 e2 e3=>?_⟩,λy c e=>?_,I1.free,I1.fZ,λp hp=>?_,λb ob e=>?_,by rw[List.length_set];exact I.len⟩
 ·exact(hs.2 b (gE (qV (uC e) I1.ok.above))).trans (I1.base.keep b o e n hb hx)
 ·obtain⟨sl,e1⟩:=I1.base.slot b o e n hb hx;exact⟨sl,(hs.2 b (gE (qV (uC e) I1.ok.above))).trans e1⟩
 ·obtain⟨o',e1⟩:=I1.base.there b o e hx;exact⟨o',(hs.2 b (gE (qV (uC e) I1.ok.above))).trans e1⟩
 ·by_cases hj:j=i
  ·subst hj;rw[List.getElem?_set_self hiσ] at e2;cases e2
  ·rw[List.getElem?_set_ne (Ne.symm hj)] at e2;obtain⟨u',r',q⟩:=hm j y v' e1 (by rw[List.getElem?_set_ne (Ne.symm hj)];exact e2) e3;refine⟨u',r',?_⟩;rcases q with⟨k,e⟩|⟨k,c,e,z⟩
   ·refine .inl ⟨k,?_⟩;have:y≠n:=λe=>hj (qZ hN e1 (e▸hi))
    rw[hk y this];exact e
   ·exact .inr ⟨k,c,e,z.sameBut hs (cne y c e)⟩
 ·obtain⟨w',z⟩:=I1.cell y c e;exact⟨w',z.sameBut hs (cne y c e)⟩
 ·obtain⟨e,n,ne,nf,d⟩:=I1.pin p hp;exact⟨(hs.2 p.1 ne).trans e,n,ne,nf,d⟩
 ·refine(I1.hok b ob e).stay (λc w' hc q=>(hs.2 c ?_).trans q) (λ_ q=>q) λ_ _ q=>q
  rintro rfl;rcases hc with rfl|hc
  ·rw[I1.free] at e;cases e
  ·rw[I1.free] at hc;cases hc
end
section
variable{M:Model}{A:Around}{E:xB}{s:Shared}{base:Heap}{env:Env}{outer:List Env}{L e:Addr}{oe:Obj}{vs:xI}
theorem Ie{Q:xA}{T0:Addr}{o0:Obj}{ts0:xI}(hfr:A.frames=some (env::outer))(hl:s.heap.FunFrames base (env::outer))(hf:env.frame=some L)(he:s.heap.get? e=some oe)(hd:oe.data=.fields vs)(h1:vs[1]?=some (.ref T0))
  (hT:s.heap.get? T0=some o0) (hdT:o0.data=.fields ts0) (h3:ts0[3]?=some .none) (hTe:T0≠e)
  (h:∀h' T,Left (frs (env::outer)) s.heap h' e oe vs T->Q () { s with heap:=h' }):wpAny M A (noteFrame (.ref e) env) (λ_ s'=>wpAny M A (setFlight (.ref e) none) Q E s') E s:=by
 unfold noteFrame;simp only[hf];refine zI (wpAny_field he hd h1 ?_);rw[if_pos (show (Value.ref T0 != Value.none)=true from by simp)];refine zI (wpAny_field hT hdT h3 ?_);rw[if_neg (show ¬ ((Value.none==rawInt L)=true) from by simp[rawInt])];refine zI (wpAny_setField hT hdT (Array.getElem?_eq_some_iff.mp h3).1 ?_);have hoth:∀b,b≠T0->(s.heap.update T0 (Obj.mapFields (·.setIfInBounds 3 Value.none))).get? b=s.heap.get? b:=λb hb=>mB _ _ (Ne.symm hb)
 have hno:∀b o,s.heap.get? b=some o->(∀z,o.data≠.fields z)->b≠T0:=λb o z hn q=>by
  rw[q,hT] at z;cases z;exact hn ts0 hdT
 have hl2:(s.heap.update T0 (Obj.mapFields (·.setIfInBounds 3 Value.none))).FunFrames base (env::outer):=hl.of_keeps λb o z hn=>⟨o,(hoth b (hno b o z hn)).trans z,rfl⟩
 refine mF (s:={ s with heap:=s.heap.update T0 (Obj.mapFields (·.setIfInBounds 3 Value.none)) }) hfr hl2 hf ((hoth e (Ne.symm hTe)).trans he) hd (Array.getElem?_eq_some_iff.mp h1).1 λh' T lf=>h h' T ⟨λb o hb hn z hz=>lf.keep b o hb hn ((hoth b (hz T0 h1)).trans z) hz,λb o hb z=>?_,?_,lf.ent,lf.obj⟩
 ·obtain⟨_,o',ho',hn'⟩:=hl.mem hb;rw[z] at ho';cases ho';exact lf.slot b o hb ((hoth b (hno b o z hn')).trans z)
 ·have:=lf.new;rw[Heap.size_update] at this;exact this
end
abbrev Cx.pinned(X:Cx)(pins:List (Addr×Obj)):Cx:={ X with pn:=X.pn++pins }
section
variable{X:Cx}{pins fj:List (Addr×Obj)}{σ:St}{H:Hp}{s:Shared}{a:Addr}
theorem Inv.Zz(I:Inv X pins σ H s):Inv (X.pinned pins) [] σ H s :=
 ⟨⟨I.ok.mod,I.ok.kind,I.ok.glob,I.ok.blt,I.ok.above,I.ok.inj,I.ok.has,I.ok.cab,I.ok.hd,I.ok.frames,I.ok.stk,I.ok.exf,I.ok.bs,I.ok.bsz,I.ok.uO,I.ok.xR,I.ok.jK,I.ok.frf⟩,I.os,I.bare,I.base,I.loc,I.cell,I.free,I.fZ,λp hp=>I.pin p (by
  have hp:p∈(X.pn++pins)++[]:=hp;rw[mP] at hp;exact hp),I.hok,I.len⟩
theorem Inv.rP(I:Inv (X.pinned pins) fj σ H s):Inv X pins σ H s :=
 ⟨⟨I.ok.mod,I.ok.kind,I.ok.glob,I.ok.blt,I.ok.above,I.ok.inj,I.ok.has,I.ok.cab,I.ok.hd,I.ok.frames,I.ok.stk,I.ok.exf,I.ok.bs,I.ok.bsz,I.ok.uO,I.ok.xR,I.ok.jK,I.ok.frf⟩,I.os,I.bare,I.base,I.loc,I.cell,I.free,I.fZ,λp hp=>I.pin p (mN _ hp),I.hok,I.len⟩
abbrev Cx.hand(X:Cx)(a:Addr):Cx:={ X with A:=X.A.mark (some (.ref a)),calm:=false,xe:=λ_ _=>False }
theorem Inv.hand(I:Inv X pins σ H s):Inv (X.hand a) pins σ H s :=
 ⟨⟨I.ok.mod,I.ok.kind,I.ok.glob,I.ok.blt,I.ok.above,I.ok.inj,I.ok.has,I.ok.cab,(λh=>by cases h),I.ok.frames,I.ok.stk,I.ok.exf,I.ok.bs,I.ok.bsz,I.ok.uO,I.ok.xR,I.ok.jK,I.ok.frf⟩,I.os,I.bare,I.base,I.loc,I.cell,I.free,I.fZ,I.pin,I.hok,I.len⟩
theorem Inv.yq(ok:X.Ok)(I:Inv (X.hand a) pins σ H s):Inv X pins σ H s :=
 ⟨ok,I.os,I.bare,I.base,I.loc,I.cell,I.free,I.fZ,I.pin,I.hok,I.len⟩
end
abbrev Cx.tr(X:Cx)(pins:List (Addr×Obj))(EX:St->XK):Cx:=(X.pinned pins).wish λev s'=>∃fj σ' H1 s1,Inv (X.pinned pins) fj σ' H1 s1/\CX1 X.prog X.w X.stack H1 s1 (EX σ') ev s'
def qC(a C:Addr)(dx:xL):HO:=.ext λh=>∃oe vs,h.get? a=some oe/\oe.cls=.ref C/\oe.dict=dx/\oe.data=.fields vs
theorem PN{P:Program}{w:World}{H:Hp}{h:Heap}{a C:Addr}{dx:xL}{oe:Obj}{vs:xI}(q:h.get? a=some oe)(hc:oe.cls=.ref C)(hd:oe.dict=dx)(hf:oe.data=.fields vs):cH P w H h a (qC a C dx) :=
 ⟨⟨oe,vs,q,hc,hd,hf⟩,⟨_,q⟩,λh1 h2 ⟨oe,vs,z,r⟩ k=>⟨oe,vs,k _ z,r⟩⟩
def mG(H:Hp)(x C:Addr)(fs:List (Str×V)):Prop:=(fs=[]/\H x=some (qC x C none))\/∃dx,H x=some (qC x C (some dx))/\H dx=some (jf dx fs)/\dx≠x
theorem mG.same{H H':Hp}{x C:Addr}{fs:List (Str×V)}(e:Same H H')(h:mG H x C fs):mG H' x C fs:=by
 rcases h with⟨a,b⟩|⟨dx,a,b,c⟩
 ·exact .inl ⟨a,e _ _ b⟩
 ·exact .inr ⟨dx,e _ _ a,e _ _ b,c⟩
theorem mG.mk{H:Hp}{a C dx:Addr}{fs:List (Str×V)}(hd:H dx=some (jf dx fs))(ha:H a=none):mG (upd H a (qC a C (some dx))) a C fs :=
 .inr ⟨dx,bx,by rw[bf (aQ hd ha)];exact hd,aQ hd ha⟩
structure rQ(X:Cx)(pins:List (Addr×Obj))(σ:St)(H:Hp)(s:Shared)(a C:Addr)(dx:xL):Prop where
 I:Inv X pins σ H s
 ha:H a=some (qC a C dx)
 tb:∃T oe vs oT ts,s.heap.get? a=some oe/\oe.data=.fields vs/\vs[1]?=some (.ref T)/\s.heap.get? T=some oT/\oT.data=.fields ts/\3<ts.size/\H T=none/\T≠X.env.locals/\(T∈X.ex\/X.s₀.heap.objs.size<=T)/\(∀x c,X.env.cells.lookup x=some c->c≠T)/\∀p∈X.pn++pins,p.1≠T
abbrev THd:=Ends->Addr->Addr->Option Addr->St->Hp->Prop
def PH(X:Cx)(hs:List ExceptHandler)(t:THd):Prop :=
 ∀(pins:List (Addr×Obj)) (s:Shared) (σ:St) (H:Hp) (C a:Addr) (dx:xL) (D:Ends),rQ X pins σ H s a C dx->t D C a dx σ H->wpAny (model X.prog X.w) X.A (handleBy (.ref a) X.env hs) (SP X pins D) X.xe s
def Ends.forget(D:Ends)(i:Nat):Ends:=⟨λσ H=>D.nx (σ.set i none) H,D.rt,λσ H=>D.bk (σ.set i none) H,λσ H=>D.ct (σ.set i none) H⟩
def ZC:THd:=λ_ _ _ _ _ _=>False
def hAs(K:W.Frag)(d:Addr)(i:Nat)(th:Addr->TS)(tr:THd):THd:=λD C a dx σ H=>∃b,W.exmOne K (.ref C) (.ref d)=some b/\if b=true then th a (D.forget i) (σ.set i (some (.ref a))) H else tr D C a dx σ H
section
variable{X:Cx}{x n:Str}{d:Addr}{i:Nat}{b₀:Stmt}{suite:List Stmt}{rest:List ExceptHandler}{th:Addr->TS}{tr:THd}{p pos:Pos}
theorem Ti:PH X [] ZC:=λ_ _ _ _ _ _ _ _ _ h=>h.elim
theorem rQ.lit{pins:List (Addr×Obj)}{σ:St}{H:Hp}{s:Shared}{a C:Addr}{dx:xL}{A:Around}{E:xB}{Q:xA}(c:rQ X pins σ H s a C dx)(h:∀s',Inv X pins σ H s'->Q () s'):wpAny (model X.prog X.w) A (setFlight (.ref a) none) Q E s:=by
 obtain⟨T,oe,vs,oT,ts,ga,gf,g1,gT,gt,g3,hT,n1,n2,n3,n4⟩:=c.tb;exact wpAny_setFlight_none ga gf g1 gT gt g3 (h _ (c.I.turned (t':=s.toks) (λb o hb e=>(mB _ _ (Ne.symm hb)).trans e) hT n1 n2 n3 n4))
theorem vK{pins:List (Addr×Obj)}{σ:St}{H:Hp}{s:Shared}{a C:Addr}{fs:List (Str×V)}(I:Inv X pins σ H s)(h:mG H a C fs):∃oe odo,W.InstAt s.heap a oe C odo:=by
 rcases h with⟨_,b⟩|⟨dx,a',b,_⟩
 ·obtain⟨⟨oe,vs,ge,gc,gd,gf⟩,_,_⟩:cH X.prog X.w H s.heap a (qC a C none):=I.hok a _ b;exact⟨oe,none,ge,gc,gZ gf,by rw[gd];trivial⟩
 ·obtain⟨⟨oe,vs,ge,gc,gd,gf⟩,_,_⟩:cH X.prog X.w H s.heap a (qC a C (some dx)):=I.hok a _ a';obtain⟨⟨mA,nn,_⟩,_,_⟩:cH X.prog X.w H s.heap dx (jf dx fs):=I.hok dx _ b;obtain⟨od,ho,_⟩:=kY nn;exact⟨oe,some od,ge,gc,gZ gf,by rw[gd];exact ho⟩
theorem rQ.type{pins:List (Addr×Obj)}{σ:St}{H:Hp}{s:Shared}{a C:Addr}{dx:xL}(c:rQ X pins σ H s a C dx):W.Looks (model X.prog X.w) s.heap (typeOf (.ref a)) (.ref C):=by
 obtain⟨⟨oe,vs,ge,gc,gd,gf⟩,_,_⟩:cH X.prog X.w H s.heap a (qC a C dx):=c.I.hok a _ c.ha;exact gc▸(W.Looks.ld ge).andThen .now
theorem Wh(hm:X.mg x=some (.ref d))(hs:∀a,PSs (X.hand a) (b₀::suite) (th a))(hrest:PH X rest tr)(hN:X.N.Nodup)(hi:X.N[i]?=some n)(hl:X.env.scope.names.lookup n=some .local)(hg:Gl X x:=by rfl)
  (hdb:(x==("__debug__" : Str))=false:=by decide):PH X (.ExceptHandler (some (.Name x p)) (some n) (b₀::suite) pos::rest) (hAs X.K d i th tr):=by
 intro pins s σ H C a dx D c h;obtain⟨b,hb,h⟩:=h;refine wpAny_handleBy_cons (codeAny_handlers_test (kO (X:=X.hand a) c.I.hand hg hm ?_ hdb)) (by intro q;cases q);refine(W.exm_one (M:=model X.prog X.w) c.I.kIn c.type hb).here ?_;cases b with
 | false =>
  rw[yT vT] at h;exact hrest pins s σ H C a dx D c h
 | true =>
  rw[yB rfl] at h;show codeAny _ _ _ _ _;refine codeAny_handlers_suite_as (c.lit λs1 I1=>m7 I1 hN hi (.inl hl) (v:=V.ref a) rfl (λs2 I2=>?_) (.inr hl));refine mM (hs a pins s2 (σ.set i (some (.ref a))) H (D.forget i) I2.hand h) (λf s3 q=>?_) λ_ _ z=>z.elim
  show wpAny (model X.prog X.w) X.A (do bindName X.env n .none;unbindBehindTheSuite X.env n pos) _ _ s3;cases f with
  | next =>
   obtain⟨σ',H',I',q⟩:=q;exact name_goes (I'.yq c.I.ok) hN hi hl λs4 I4=>⟨_,H',I4,q⟩
  | brk =>
   obtain⟨σ',H',I',q⟩:=q;exact name_goes (I'.yq c.I.ok) hN hi hl λs4 I4=>⟨_,H',I4,q⟩
  | cont =>
   obtain⟨σ',H',I',q⟩:=q;exact name_goes (I'.yq c.I.ok) hN hi hl λs4 I4=>⟨_,H',I4,q⟩
  | ret u =>
   obtain⟨v,σ',H',I',r,q⟩:=q;exact name_goes (I'.yq c.I.ok) hN hi hl λs4 I4=>⟨v,_,H',I4,r,q⟩
end
def Wi(tb:List (Addr×Obj)->(St->XK)->TS)(th:THd):TS:=λD σ H=>∀pins,tb pins (λσ' cv dx H'=>∃C,cv=.ref C/\∀a,H' a=none->th D C a dx σ' (upd H' a (qC a C dx))) D σ H
section
variable{X:Cx}{body:List Stmt}{h₀:ExceptHandler}{hs:List ExceptHandler}{tb:List (Addr×Obj)->(St->XK)->TS}{th:THd}{pos:Pos}
theorem Tj(hb:∀pins EX,PSs (X.tr pins EX) body (tb pins EX))(hh:PH X (h₀::hs) th)(hst:X.stack=X.env::X.outer:=by rfl)(hf:X.env.frame=some X.env.locals:=by rfl):PS X (.Try body (h₀::hs) [] [] pos) (Wi tb th):=by
 intro pins s σ H D I h;refine wpAny_Try_except (mM (hb pins _ [] s σ H D (I.Zz.wish _) (h pins)) (λf s1 q=>?_) λev s1 q=>?_)
 ·cases f with
  | next =>
   obtain⟨σ',H',I',q⟩:=q;exact wpAny_execs_nil ⟨σ',H',I'.eX.rP,q⟩
  | brk =>
   obtain⟨σ',H',I',q⟩:=q;exact⟨σ',H',I'.eX.rP,q⟩
  | cont =>
   obtain⟨σ',H',I',q⟩:=q;exact⟨σ',H',I'.eX.rP,q⟩
  | ret u =>
   obtain⟨v,σ',H',I',r,q⟩:=q;exact⟨v,σ',H',I'.eX.rP,r,q⟩
 ·obtain⟨fj,σ',H1,s2,I1,a,C,dx,H',rfl,hos,hbr,un,hok,⟨oe,vs,T,oT,ts,ga,gc,gd,gf,g1,gne,gT,gt,g3,ha,hT,na,nT⟩,C',eC,q⟩:=q;cases eC;have I1:Inv X pins σ' H1 s2:=I1.rP;have I2:Inv X pins σ' H' s1:=I1.call' (ch:=[]) hos un hok hbr (λb z=>absurd z (by simp));refine Ie (base:=X.base) (by rw[I.ok.frames,hst]) (by rw[<- hst];exact I2.stack) hf ga gf g1 gT gt g3 gne λh' T' lf=>?_
  have hz:∀z,vs[1]?=some (.ref z)->z=T:=λz hz=>by rw[g1] at hz;cases hz;rfl
  have J0:∀b∈frs (X.env::X.outer),H' b=none:=by rw[<- hst];exact I2.mZ
  have hok':HOk X.prog X.w H' h':=rK hok lf ha (λz h=>by rw[hz z h];exact hT) J0;have lo:∀b o,s2.heap.get? b=some o->∀c,s2.heap.objs.size<=c->b≠c:=λb o z c hc=>gE (qV (uC z) hc)
  have far:∀c,s2.heap.objs.size<=c->(c∈X.ex\/X.s₀.heap.objs.size<=c)/\c≠X.env.locals/\(∀x d,X.env.cells.lookup x=some d->d≠c)/\∀p∈X.pn++pins,p.1≠c:=λc hc =>
   ⟨.inr (oC I1.sz hc),Ne.symm (gE (qV I1.lt hc)),λx d hd=>by
    obtain⟨v,ob,ho,_⟩:=I1.cell x d hd;exact lo d ob ho c hc,λp hp=>lo _ _ (I1.pin p hp).1 c hc⟩
  have u3:Un (frs X.stack) [a,T] H' H' s1.heap h':=by
   rw[hst];refine⟨λb o q n hb hx=>?_,λb o q n hb hx=>lf.slot b o hb q,λb o q n hx=>n,λb o q hx=>?_,λ_ _ e=>e,λ_ _ _ e=>e,λb ps e=>⟨#[],by rw[e];simp⟩⟩
   ·exact lf.keep b o (λz=>hx (by simp[z])) hb q λz hz' z2=>hx (by rw[z2,hz z hz'];simp)
   ·by_cases m:b∈frs (X.env::X.outer)
    ·obtain⟨sl,z⟩:=lf.slot b o m q;exact⟨_,z⟩
    ·exact⟨o,lf.keep b o (λz=>hx (by simp[z])) m q λz hz' z2=>hx (by rw[z2,hz z hz'];simp)⟩
  have I3:Inv X pins σ' H' { s1 with heap:=h' }:=I2.call (g':=s1.gens) (d':=s1.drawn) (t':=s1.toks) u3 hok' hbr λb hb=>by
   rcases jS.mp hb with rfl|hb
   ·exact far _ na
   ·rw[rV.mp hb];exact far _ nT
  have new:s2.heap.objs.size<=T':=by
   refine oC ?_ lf.new;exact oC na (zzE (uC ga))
  have hT':H' T'=none:=I2.hok.fresh lf.new;have nTa:T'≠a:=λz=>gS (uC ga) (by rw[<- z];exact Nat.not_lt.mpr lf.new)
  have I4:Inv X pins σ' (upd H' a (qC a C dx)) { s1 with heap:=h' }:=I3.track I1 na ha (PN lf.obj gc gd rfl)
  obtain⟨oT',ts',gT',gt',g3'⟩:=lf.ent;obtain⟨f1,f2,f3,f4⟩:=far T' new;refine hh pins _ σ' _ C a dx D ⟨I4,bx,T',_,_,oT',ts',lf.obj,rfl,?_,gT',gt',(Array.getElem?_eq_some_iff.mp g3').1,by rw[bf nTa];exact hT',f2,f1,f3,f4⟩ (q a ha);have:1<vs.size:=(Array.getElem?_eq_some_iff.mp g1).1;simp[this]
end
def Rp(C:Addr)(ta:TE)(f:Str):TE:=λσ H Q=>ta σ H λx H1=>∃a fs v,x=.ref a/\mG H1 a C fs/\fs.lookup f=some v/\Q v H1
def Wj(K:W.Frag):List V->Hp->VK->Prop:=λxs H Q=>∃x c C R fs b,xs=[.ref x,c]/\mG H x C fs/\rM K C R/\pZ K (.ref C) c=some b/\Q (.bl b) H
section
variable{X:Cx}
theorem yr{C:Addr}{o:Expr}{f:Str}{ta:TE}{pos:Pos}(G:Wa X.K C)(n:cX X.K C f)(he:PE X o ta)(hb:attributeBase o f X.env (eval o X.env)=eval o X.env:=by rfl):PE X (.Attribute o f pos) (Rp C ta f):=by
 intro pins s σ H Q I h;refine Eu hb (thn (he pins s σ H _ I h) λu s1 ⟨x,H1,I1,rx,a,fs,v,ex,ea,l,q⟩=>?_);subst ex;obtain rfl:u=Value.ref a:=rx;rcases ea with⟨rfl,_⟩|⟨dx,ea,ed,_⟩
 ·cases l
 ·obtain⟨⟨oe,vs,ge,gc,gd,gf⟩,_,_⟩:cH X.prog X.w H1 s1.heap a (qC a C (some dx)):=I1.hok a _ ea;obtain⟨⟨mA,nn,r,wi,hl⟩,_,_⟩:cH X.prog X.w H1 s1.heap dx (jf dx fs):=I1.hok dx _ ed;obtain⟨u',hu,ru⟩:=ju.some_of (v:=v) (o:=mA f) (by rw[<- l];exact r f);exact Pz I1.kIn ge gc gd gf nn G.ga G.gb G.mb G.hd n hu (vd ru) ⟨v,H1,I1.tok _,ru,q⟩
theorem Ig:gV X (.builtin "isinstance") (Wj X.K):=by
 intro pins s σ H xs us Q I r h;obtain⟨x,c,C,R,fs,b,rfl,ex,G,e,q⟩:=h;obtain⟨u,v,rfl,ru,rv⟩:=vals2 r;obtain rfl:u=Value.ref x:=ru;cases c with
 | ty T =>
  obtain rfl:v=Value.type T:=rv;exact W.kia_one (zT G) I.kIn (vK I ex) e (λz=>nomatch z) λtk=>⟨.bl b,H,I.tok _,rfl,q⟩
 | ref D =>
  obtain rfl:v=Value.ref D:=rv;exact W.kia_one (zT G) I.kIn (vK I ex) e (λz=>nomatch z) λtk=>⟨.bl b,H,I.tok _,rfl,q⟩
 | _=>cases e
end
theorem Ke{K:W.Frag}{C R:Addr}(G:rM K C R):W.exmOne K (.ref C) (.ref C)=some true:=by
 have hb:W.subIn K (.ref C) (.type "BaseException")=some true:=G.g.mb;unfold W.exmOne;rw[hb,yB (by rfl)];obtain⟨cd,hc,_⟩:=Option.map_eq_some_iff.mp G.mro;unfold W.kitCls;simp only;rw[yB (by rw[hc,G.ty];rfl)];show W.mroIn K C (.ref C)=_;rw[G.in];simp[List.contains_cons]
theorem Tn{K:W.Frag}{C R:Addr}(G:rM K C R)(hR:(W.clsIn K R).isSome=true)(tR:W.typeIn K (.ref R)=some (.type "type"))(mR:W.mroIn K R (.type "BaseException")=some true):W.exmOne K (.ref C) (.ref R)=some true:=by
 have hb:W.subIn K (.ref R) (.type "BaseException")=some true:=mR;unfold W.exmOne;rw[hb,yB (by rfl)];unfold W.kitCls;simp only;rw[yB (by rw[hR,tR];rfl)];show W.mroIn K C (.ref R)=_;rw[G.in];simp[List.contains_cons]
section
variable{σ:St}{H:Hp}{D:Ends}
theorem Ih{K:W.Frag}{d C a:Addr}{dx:xL}{i:Nat}{tha:Addr->TS}{rest:THd}(e:W.exmOne K (.ref C) (.ref d)=some true)(h:tha a (D.forget i) (σ.set i (some (.ref a))) H):hAs K d i tha rest D C a dx σ H:=⟨true,e,by rw[yB rfl];exact h⟩
end
section
variable{prog:Program}{w:World}{A:Around}{E:xB}{s:Shared}
theorem vL{it t:Addr}{items:xI}(hne:t≠it):∀(n i:Nat)(s:Shared)(Q:List Value->Shared->Prop),s.heap.IsListIter it t i->s.heap.IsList t items->i+n<=items.size ->
  (∀h':Heap,h'.IsListIter it t (i+n)->Heap.SameBut it s.heap h'->Q ((items.toList.drop i).take n) { s with heap:=h' })->wpAny (model prog w) A (draw (.ref it) n) Q E s
 | 0,i,s,Q,hit,_,_,hQ=>by
  show wpAny _ _ (pure []) Q E s;exact wpAny_pure (by simpa using hQ s.heap hit (Heap.SameBut.refl ..))
 | n+1,i,s,Q,hit,ht,hle,hQ=>by
  have hlt:i<items.size:=by lia
  show wpAny _ _ (pyNext (.ref it) >>= _) Q E s;refine wpAny_bind (wpAny_pyNext_list_item hit ht (x:=items[i]) (by simp[hlt]) λh₁ hit₁ hs₁=>?_);refine zI (mI (vL hne n (i+1) _ _ hit₁ (ht.extBut hs₁.extBut hne) (by lia) λh₂ hit₂ hs₂=>oB ?_));have hd:items.toList.drop i=items[i]::items.toList.drop (i+1):=by simp[List.drop_eq_getElem_cons,hlt]
  have:=hQ h₂ (by rw[show i+(n+1)=i+1+n by lia];exact hit₂) (hs₁.trans hs₂);rw[hd,List.take_succ_cons] at this;exact this
theorem oW{t:Addr}{items:xI}{Q:List Value->Shared->Prop}(hh:A.handled=none)(ht:s.heap.IsList t items)
  (hQ:∀h',Heap.ExtBut s.heap.objs.size s.heap h'->Q items.toList { s with heap:=h' }):wpAny (model prog w) A (unpackItems (.ref t) items.size none) Q E s:=by
 have hlt:t≠s.heap.objs.size:=by obtain⟨o,ho,_⟩:=ht;exact gE (uC ho)
 unfold unpackItems;refine zI ?_;unfold notIterableAtAll;refine zI (wpAny_specialOf ht.typeIs slot_list_iter.lookup ?_);refine oB ?_;simp only[Bool.false_eq_true,if_false];refine zI (mI (wpAny_pyIter_list ht ?_));refine zI (mI (vL hlt items.size 0 _ _ ⟨_,oS _ rfl,rfl,rfl⟩ (ht.push _) (by lia) λh₁ hit₁ hs₁=>?_));have hall:List.take items.size (List.drop 0 items.toList)=items.toList:=by
  rw[List.drop_zero];exact List.take_of_length_le (by simp)
 rw[hall];rw[if_neg (by simp)];have ht₁:h₁.IsList t items:=(ht.push _).extBut hs₁.extBut hlt;refine wpAny_bind (wpAny_holding (wpAny_pyNext_list_end hh hit₁ ht₁ (by simp) λh₂ he₂=>?_));simp only[Option.isSome_none,Bool.false_eq_true,if_false];refine oB (hQ h₂ λb o hb e=>he₂ b o hb (hs₁.extBut b o hb (uS _ e)))
theorem nJ{env:Env}{elts:List Expr}{x1}{pos:Pos}{t:Addr}{items:xI}{Q:xA}(hh:A.handled=none)(ht:s.heap.IsList t items)
  (hn:(assignEach elts env).length=items.size) (hstar:(assignEach elts env).findIdx? (·.1)=none)
  (h:∀h',Heap.ExtBut s.heap.objs.size s.heap h'->wpAny (model prog w) A (assignInOrder ((assignEach elts env).map (·.2)) items.toList) Q E { s with heap:=h' }) :
  wpAny (model prog w) A (assign (.Tuple elts x1 pos) env (.ref t)) Q E s:=by
 rw[assign_Tuple];refine zI (wpAny_standAt ?_);unfold unpack;rw[hn,hstar];exact zI (mI (oW hh ht h))
end
def Wk(K:W.Frag)(n:Nat)(t:TGs):TG:=λv σ H Q=>∃a xs,v=.ref a/\SqL K H a xs/\xs.length=n/\t xs σ H Q
theorem Tp{X:Cx}{pos:Pos}{es:List Expr}{k:Nat}{t:TGs}{n:Nat}(hc:X.calm=true)(h:PGs X es t)
  (hn:(assignEach es X.env).length=n:=by rfl) (hst:(assignEach es X.env).findIdx? (·.1)=none:=by rfl):PG X (.Tuple es k pos) (Wk X.K n t):=by
 intro pins s σ H v u Q I r hw;obtain⟨a,xs,e1,hq,hl,hw⟩:=hw;subst e1;cases r;obtain⟨its,rv,ht,hz⟩:=I.list hq;refine nJ (I.ok.hd hc) ht.isList (by simp[hn,<- hl,rv.length]) hst λh' hx=>?_
 have I1:Inv X pins σ H { s with heap:=h' }:=I.kept (t':=s.toks) λb o e=>hx b o (gE (uC e)) e
 exact h pins _ σ H xs _ Q I1 (by simpa using rv) hw
section
variable{σ σ':St}{H:Hp}{K:W.Frag}{p:Addr}{a b:V}{i0 i1:Nat}{R:St->Hp->Prop}
theorem Wl(hp:SqL K H p [a,b])(e:(σ.set i0 (some a)).set i1 (some b)=σ')(h:R σ' H):Wk K 2 (jO (bT i0) (jO (bT i1) Hr)) (.ref p) σ H R :=
 ⟨p,_,rfl,hp,rfl,_,_,rfl,_,_,rfl,rfl,by rw[e];exact h⟩
end
def rR(K:W.Frag):List V->Hp->VK->Prop:=λxs H Q=>∃x d t b,xs=[x,d]/\dN K H x t/\pZ K t d=some b/\Q (.bl b) H
theorem fP{X:Cx}:gV X (.builtin "isinstance") (rR X.K):=call_isinstance
section
variable{X:Cx}
def Tq(K:W.Frag):V->Option Int->Option Int->Hp->VK->Prop:=λx lo hi H Q=>∃a xs,x=.ref a/\SqL K H a xs/\∀p H',New H H' p (.lst (rE xs lo hi))->Q (.ref p) H'
theorem zW:SlR X (Tq X.K):=by
 intro pins s σ H x v vl vu lo hi sl Q I rx hs pl pu h;obtain⟨a,xs,e,hx,q⟩:=h;exact O8 pins s σ H x v vl vu lo hi sl Q I rx hs pl pu ⟨a,xs,e,hx,λp hp=>q p _ (.mk' hp)⟩
end
section
variable{σ:St}{H:Hp}{Q:VK}{v x y:V}{i j:Int}{K:W.Frag}{t ta tb tc:TE}{tr:TA}{u:TS}{c d:TT}
theorem wv0{r:St}(h:Q v H):gF 0 (some v::r) H Q:=⟨v,rfl,h⟩
theorem wv1{o0:Option V}{r:St}(h:Q v H):gF 1 (o0::some v::r) H Q:=⟨v,rfl,h⟩
theorem wn1{o0:Option V}{o:Option V}{r:St}{R:St->Hp->Prop}(h:R (o0::some v::r) H):bT 1 v (o0::o::r) H R:=h
theorem wv2{o0 o1:Option V}{r:St}(h:Q v H):gF 2 (o0::o1::some v::r) H Q:=⟨v,rfl,h⟩
theorem wn2{o0 o1:Option V}{o:Option V}{r:St}{R:St->Hp->Prop}(h:R (o0::o1::some v::r) H):bT 2 v (o0::o1::o::r) H R:=h
theorem wv3{o0 o1 o2:Option V}{r:St}(h:Q v H):gF 3 (o0::o1::o2::some v::r) H Q:=⟨v,rfl,h⟩
theorem wn3{o0 o1 o2:Option V}{o:Option V}{r:St}{R:St->Hp->Prop}(h:R (o0::o1::o2::some v::r) H):bT 3 v (o0::o1::o2::o::r) H R:=h
theorem wv4{o0 o1 o2 o3:Option V}{r:St}(h:Q v H):gF 4 (o0::o1::o2::o3::some v::r) H Q:=⟨v,rfl,h⟩
theorem wn4{o0 o1 o2 o3:Option V}{o:Option V}{r:St}{R:St->Hp->Prop}(h:R (o0::o1::o2::o3::some v::r) H):bT 4 v (o0::o1::o2::o3::o::r) H R:=h
theorem wv5{o0 o1 o2 o3 o4:Option V}{r:St}(h:Q v H):gF 5 (o0::o1::o2::o3::o4::some v::r) H Q:=⟨v,rfl,h⟩
theorem wn5{o0 o1 o2 o3 o4:Option V}{o:Option V}{r:St}{R:St->Hp->Prop}(h:R (o0::o1::o2::o3::o4::some v::r) H):bT 5 v (o0::o1::o2::o3::o4::o::r) H R:=h
theorem wv6{o0 o1 o2 o3 o4 o5:Option V}{r:St}(h:Q v H):gF 6 (o0::o1::o2::o3::o4::o5::some v::r) H Q:=⟨v,rfl,h⟩
theorem wn6{o0 o1 o2 o3 o4 o5:Option V}{o:Option V}{r:St}{R:St->Hp->Prop}(h:R (o0::o1::o2::o3::o4::o5::some v::r) H):bT 6 v (o0::o1::o2::o3::o4::o5::o::r) H R:=h
theorem wv7{o0 o1 o2 o3 o4 o5 o6:Option V}{r:St}(h:Q v H):gF 7 (o0::o1::o2::o3::o4::o5::o6::some v::r) H Q:=⟨v,rfl,h⟩
theorem wn7{o0 o1 o2 o3 o4 o5 o6:Option V}{o:Option V}{r:St}{R:St->Hp->Prop}(h:R (o0::o1::o2::o3::o4::o5::o6::some v::r) H):bT 7 v (o0::o1::o2::o3::o4::o5::o6::o::r) H R:=h
theorem wv8{o0 o1 o2 o3 o4 o5 o6 o7:Option V}{r:St}(h:Q v H):gF 8 (o0::o1::o2::o3::o4::o5::o6::o7::some v::r) H Q:=⟨v,rfl,h⟩
theorem wn8{o0 o1 o2 o3 o4 o5 o6 o7:Option V}{o:Option V}{r:St}{R:St->Hp->Prop}(h:R (o0::o1::o2::o3::o4::o5::o6::o7::some v::r) H):bT 8 v (o0::o1::o2::o3::o4::o5::o6::o7::o::r) H R:=h
theorem wv9{o0 o1 o2 o3 o4 o5 o6 o7 o8:Option V}{r:St}(h:Q v H):gF 9 (o0::o1::o2::o3::o4::o5::o6::o7::o8::some v::r) H Q:=⟨v,rfl,h⟩
theorem wn9{o0 o1 o2 o3 o4 o5 o6 o7 o8:Option V}{o:Option V}{r:St}{R:St->Hp->Prop}(h:R (o0::o1::o2::o3::o4::o5::o6::o7::o8::some v::r) H):bT 9 v (o0::o1::o2::o3::o4::o5::o6::o7::o8::o::r) H R:=h
theorem w_c(h:Q v H):tC v σ H Q:=h
theorem Wm{f:Int->Int->V}(h:Q (f i j) H):rI0 f (.int i) (.int j) H Q:=⟨i,j,rfl,rfl,h⟩
theorem w_mod{f:Int->Int->V}(hj:0<j)(h:Q (f i j) H):rI (λ_ j=>0<j) f (.int i) (.int j) H Q:=⟨i,j,rfl,rfl,hj,h⟩
theorem w_div{f:Int->Int->V}(h0:0<j)(h1:j<1073741824)(h:Q (f i j) H):rI SQ f (.int i) (.int j) H Q:=⟨i,j,rfl,rfl,⟨h0,h1⟩,h⟩
theorem w_pow{f:Int->Int->V}(h0:0<=j)(h1:j<=1000000)(h2:i.natAbs<2 ^ 64)(h:Q (f i j) H):rI SX f (.int i) (.int j) H Q:=⟨i,j,rfl,rfl,⟨h0,h1,h2⟩,h⟩
theorem Kf{f:Int->Int->V}(h0:-(2 ^ 64)<i)(h1:i<2 ^ 64)(h:Q (f i j) H):rI Hy f (.int i) (.int j) H Q:=⟨i,j,rfl,rfl,.inl ⟨h0,h1⟩,h⟩
theorem Kg{f:Int->Int->V}(h0:-(2 ^ 64)<j)(h1:j<2 ^ 64)(h:Q (f i j) H):rI Hy f (.int i) (.int j) H Q:=⟨i,j,rfl,rfl,.inr ⟨h0,h1⟩,h⟩
theorem Rq(h:Q (.bl (decide (i=j))) H):rEq (.int i) (.int j) H Q:=⟨rfl,by rw[show decide (V.int i=V.int j)=decide (i=j) from decide_eq_decide.mpr ⟨λe=>by cases e;rfl,λe=>by rw[e]⟩];exact h⟩
theorem Rr(h:Q (.bl (!decide (i=j))) H):rNe (.int i) (.int j) H Q:=⟨rfl,by rw[show decide (V.int i=V.int j)=decide (i=j) from decide_eq_decide.mpr ⟨λe=>by cases e;rfl,λe=>by rw[e]⟩];exact h⟩
theorem Wn{k:Bool}{R:Bool->Prop}(h:R k):∃c,V.bl k=.bl c/\R c:=⟨k,rfl,h⟩
theorem w_not{R:Bool->Hp->Prop}(h:c σ H λb H1=>R (!b) H1):Sw c σ H R:=h
theorem w_and{R:Bool->Hp->Prop}(h:c σ H λb H1=>if b=true then d σ H1 R else R false H1):Sv c d σ H R:=h
theorem w_or{R:Bool->Hp->Prop}(h:c σ H λb H1=>if b=true then R true H1 else d σ H1 R):tOr c d σ H R:=h
theorem Kh(h:ta σ H λx H1=>∃c,x=.bl c/\Q (.bl (!c)) H1):Jj ta σ H Q:=h
theorem Kl(h:ta σ H λx H1=>∃c,x=.bl c/\if c=true then tb σ H1 Q else Q (.bl false) H1):Ji ta tb σ H Q:=h
theorem PX{r r':R2}(h:ta σ H λx H1=>tb σ H1 λy H2=>r x y H2 λz H3=>∃k,z=.bl k/\if k=true then tc σ H3 λw H4=>r' y w H4 Q else Q (.bl false) H3):Jw r r' ta tb tc σ H Q:=h
theorem Wo{nx bk ct:St->Hp->Prop}{rt:VK}(h:rt v H):(Ends.mk nx rt bk ct).rt v H:=h
theorem w_call{sp:Sp}{E:XK}(h:tr σ H λvs H1=>sp vs H1 Q E):rD sp [] E tr σ H Q:=by
 have e:(λvs H1=>sp (vs++[]) H1 Q E)=λvs H1=>sp vs H1 Q E:=by
  funext vs H1
  rw[mP]
 show tr σ H λvs H1=>sp (vs++[]) H1 Q E
 rw[e];exact h
theorem Wq{T:String}{r:V->List V->Hp->VK->Prop}{to:TE}(h:to σ H λx H1=>tyV K T x H1/\tr σ H1 λxs H2=>r x xs H2 Q):tBM K T r to tr σ H Q:=h
theorem Fx{r:V->Option Int->Option Int->Hp->VK->Prop}{tl th:TO}(h:t σ H λx H1=>tl σ H1 λl H2=>th σ H2 λu H3=>r x l u H3 Q):tSl r t tl th σ H Q:=h
theorem Km{R:Option Int->Hp->Prop}(h:t σ H λx H1=>∃i,x=.int i/\R (some i) H1):JF t σ H R:=h
theorem Rt{R:Int->Prop}(h:R i):∃k,V.int i=.int k/\R k:=⟨i,rfl,h⟩
theorem Ko{p:Addr}{xs:List V}(h:SqL K H p xs)(e:atI xs i=some v)(k:Q v H):O6 K (.ref p) (.int i) H Q:=⟨p,xs,i,v,rfl,rfl,h,e,k⟩
theorem Ru{p:Addr}{xs:List V}(h:SqT K H p xs)(e:atI xs i=some v)(k:Q v H):O7 K (.ref p) (.int i) H Q:=⟨p,xs,i,v,rfl,rfl,h,e,k⟩
def Kq(K:W.Frag):List V->Hp->VK->Prop:=λxs H Q=>∃x n,xs=[x]/\V5 K x H n/\Q (.int n) H
theorem Ks{p:Addr}{xs:List V}(h:SqL K H p xs)(k:Q (.int xs.length) H):Kq K [.ref p] H Q:=⟨_,xs.length,rfl,.inl ⟨xs,h,rfl⟩,k⟩
theorem Ku{p:Addr}{xs:List V}(h:SqT K H p xs)(k:Q (.int xs.length) H):Kq K [.ref p] H Q:=⟨_,xs.length,rfl,.inr ⟨xs,h,rfl⟩,k⟩
def Kv:List V->Hp->VK->Prop:=λxs H Q=>∃i j,xs=[.int i,.int j]/\Q (.int (if j > i then j else i)) H
theorem Rv(h:Q (.int (max i j)) H):Kv [.int i,.int j] H Q:=⟨i,j,rfl,by
 rw[show (if j > i then j else i)=max i j by rw[Int.max_def];split <;> split <;> lia];exact h⟩
theorem w_is{x d:V}{tv:Value}{b:Bool}(ty:dN K H x tv)(e:pZ K tv d=some b)(h:Q (.bl b) H):rR K [x,d] H Q:=⟨x,d,tv,b,rfl,ty,e,h⟩
def Tr:R2:=λx y H Q=>y=.non/\Q (.bl (decide (x=.non))) H
end
section
variable{X:Cx}
theorem jg:gV X (.builtin "len") (Kq X.K):=Jy
theorem Ii(hc:X.calm=true):gV X (.builtin "max") Kv:=Hz hc
theorem P0:OpR X (compareOp .Is) Tr:=S6
end
section
variable{A B p:Prop}[Decidable p]{b:Bool}
theorem fB(h1:p->A)(h2:¬ p->B):if decide p=true then A else B:=by
 by_cases h:p
 ·rw[yB (uB h)];exact h1 h
 ·rw[if_neg (by simpa using h)];exact h2 h
theorem i_b(h1:b=true->A)(h2:b=false->B):if b=true then A else B:=by
 cases b with
 | true=>exact V8 (h1 rfl)
 | false=>exact V7 (h2 rfl)
theorem i_T(h:b=true)(k:A):if b=true then A else B:=by rw[yB h];exact k
theorem i_F(h:b=false)(k:B):if b=true then A else B:=by rw[yT (by rw[h];exact vT)];exact k
theorem Kw(h:p)(k:A):if decide p=true then A else B:=by rw[yB (uB h)];exact k
theorem Ky(h:¬ p)(k:B):if decide p=true then A else B:=by rw[if_neg (by simpa using h)];exact k
theorem Dw(h:p)(k:B):if (!decide p)=true then A else B:=by rw[if_neg (by simpa using h)];exact k
end
section
variable{H H1 H2 H':Hp}{p q a:Addr}{o u:HO}{ys:List V}
theorem New.trans(n1:New H H1 p o)(n2:New H1 H2 q u):New H H2 q u:=⟨n1.s.trans n2.s,n2.e,λa v e=>n2.n a v (n1.s a v e)⟩
def aB(H:Hp)(ys:List V)(rows:List (List V)):Prop:=ys.length=rows.length/\∀(j:Nat)(r:List V),rows[j]?=some r->∃q,ys[j]?=some (.ref q)/\H q=some (.tup r)
theorem aB.same{rows:List (List V)}(s:Same H H')(h:aB H ys rows):aB H' ys rows:=⟨h.1,λj r e=>let ⟨q,a,b⟩:=h.2 j r e;⟨q,a,s _ _ b⟩⟩
theorem aB.nil:aB H [] []:=⟨rfl,λj r e=>by simp at e⟩
end
section
variable{σ:St}{H:Hp}{K:W.Frag}{a b:V}{p:Addr}
theorem Kz{i0 i1:Nat}{R:St->Hp->Prop}(hp:SqT K H p [a,b])(h:bT i0 a σ H λσ1 H1=>bT i1 b σ1 H1 R):Ht K 2 (jO (bT i0) (jO (bT i1) Hr)) (.ref p) σ H R :=
 ⟨p,_,rfl,hp,rfl,_,_,rfl,_,_,rfl,rfl,h⟩
end
def KC(K:W.Frag):R2:=λx y H Q=>∃d d',Rep K H d x/\Rep K H d' y/\fM d<=100/\Q (.bl (gQ d d')) H
def P_(K:W.Frag):R2:=λx y H Q=>∃d d',Rep K H d x/\Rep K H d' y/\fM d<=100/\Q (.bl (!gQ d d')) H
theorem zX{X:Cx}{k:Nat}(hr:Room k X.A):OpR X (compareOp .Eq) (KC X.K):=Pq hr
theorem zY{X:Cx}{k:Nat}(hr:Room k X.A):OpR X (compareOp .NotEq) (P_ X.K):=Pr hr
end L2
namespace L2
open PySem PySem.Spec PyProof.Rows PySem.SeqAt
section
variable{X:Cx}
def idV:V->Bool
 | .non=>true
 | .bl _=>true
 | .int _=>true
 | .str _=>true
 | .ref _=>true
 | _=>false
theorem vM{A:Around}{s:Shared}{x:V}{u v:Value}(f:idV x=true)(ru:RelV x u)(rv:RelV x v):EqAt A s u v true:=by
 cases x with
 | non=>cases ru;cases rv;exact EqAt.same _
 | bl b=>cases ru;cases rv;exact EqAt.same _
 | ref b=>cases ru;cases rv;exact EqAt.same _
 | int i =>
  obtain⟨t,rfl⟩:=ru;obtain⟨t',rfl⟩:=rv;have:=EqAt.int_int (A:=A) (s:=s) i t i t'
  rwa [beq_self_eq_true] at this
 | str z =>
  obtain⟨t,rfl⟩:=ru;obtain⟨t',rfl⟩:=rv;have:=EqAt.str_str (A:=A) (s:=s) z t z t'
  rwa [beq_self_eq_true] at this
 | _=>exact gS (show false=true from f) vT
def ZD(K:W.Frag):R2:=λx y H Q=>∃p q xs,x=.ref p/\y=.ref q/\SqL K H p xs/\SqL K H q xs/\xs.all idV=true/\Q (.bl false) H
theorem Tt{k:Nat}(hr:Room k X.A):OpR X (compareOp .NotEq) (ZD X.K):=by
 intro pins s σ H x y v u Q I rx ry h;obtain⟨p,q,xs,rfl,rfl,hp,hq,hf,qq⟩:=h;cases rx;cases ry;obtain⟨us,ru,pu,_⟩:=I.list hp;obtain⟨vs,rv,pw,_⟩:=I.list hq;have hsz:us.toArray.size=vs.toArray.size:=by simp[<- ru.length,<- rv.length]
 have b:=RcNeAt.lists (A:=X.A) (s:=s) (e:=λ_=>true) pu.isList pw.isList hsz (by have:=hr.un;lia) (λj h1 h2=>by
  have l1:j<us.length:=by simpa using h1
  have l2:j<vs.length:=by simpa using h2
  have l3:j<xs.length:=by rw[ru.length];exact l1
  have e3:xs[j]?=some xs[j]:=by simp[l3]
  obtain⟨u,eu,qu⟩:=ru.get e3;obtain⟨v,ev,qv⟩:=rv.get e3;have z1:us.toArray[j]=u:=by
   have:us[j]?=some us[j]:=by simp[l1]
   rw[this] at eu;simpa using eu
  have z2:vs.toArray[j]=v:=by
   have:vs[j]?=some vs[j]:=by simp[l2]
   rw[this] at ev;simpa using ev
  rw[z1,z2];exact vM (List.all_eq_true.mp hf _ (List.getElem_mem l3)) qu qv)
 rw[show ((List.range us.toArray.size).all λ_=>true)=true by simp] at b;exact b X.prog X.w X.xe _ ⟨.bl _,H,I,rfl,qq⟩
end
theorem Ij{σ:St}{H:Hp}{wi:TI}{J:It}{xs:List V}{Lk:Hp->Prop}{c:TT}{Q:VK}{fr:List Nat}{fvs:St}{p:V->Bool}(hz:xs.length<=1000000)(hf:(fr.map λi=>(σ[i]?).getD none)=fvs)
  (it:L2.ItemsOf J xs Lk) (hw:∀R:It->Hp->Prop,R J H->wi σ H R) (hL:∀H',Same H H'->Lk H')
  (turn:∀(i:Nat)(v:V)(H':Hp)(R:Bool->Hp->Prop),xs[i]?=some v->Same H H'->(∀H2,Same H' H2->R (p v) H2)->c (some v::fvs) H' R)
  (k:∀l H',New H H' l (.lst (xs.filter p))->Q (.ref l) H'):zP wi 1 fr (bT 0) c (gF 0) σ H Q:=by
 refine hw _ λacc hacc=>?_
 subst hf;have zZ:∀b u,H b=some u->b≠acc:=λb u e=>aQ e hacc
 refine yd it (λi ys H'=>H' acc=some (.lst ys)/\Same H H'/\ys=(xs.take i).filter p) ⟨bx,Same.new hacc,by simp⟩ (λi ys H' _ h=>⟨hL H' h.2.1,h.1⟩) ?_ ?_
 ·rintro i x tv ys H' hx hi ⟨ha,hs,rfl⟩ htv;obtain⟨tv0,rfl⟩:∃a,tv=[a]:=List.length_eq_one_iff.mp htv;have tk:xs.take (i+1)=xs.take i++[x]:=by
   rw[gL,hx]
   rfl
  unfold bT;refine turn i x H' _ hx hs λH2 s2=>?_
  cases hp:p x with
  | true =>
   refine V8 ⟨x,rfl,?_,s2 _ _ ha,nu.next (tv:=[some x]) hi ⟨bx,λb u e=>?_,?_⟩ rfl⟩
   ·refine Nat.lt_of_le_of_lt (List.length_filter_le _ _) (qV ?_ (cO hz));rw[nE]
    lia
   ·rw[bf (zZ b u e)];exact s2 _ _ (hs _ _ e)
   ·rw[tk,List.filter_append];simp[hp]
  | false =>
   refine V7 (nu.next (tv:=[some x]) hi ⟨s2 _ _ ha,hs.trans s2,?_⟩ rfl);rw[tk,List.filter_append];simp[hp]
 ·rintro ys H' ⟨ha,hs,rfl⟩;rw[List.take_length] at ha;exact k acc H' ⟨hs,ha,zZ⟩
def Kp(b:Addr)(H H':Hp):Prop:=∀x u,x≠b->H x=some u->H' x=some u
section
variable{b:Addr}{H H1 H2:Hp}
theorem Kp.trans(a:Kp b H H1)(c:Kp b H1 H2):Kp b H H2:=λx u n h=>c x u n (a x u n h)
theorem Off.kp(f:Off b H H1):Kp b H H1:=λx u n h=>by rw[f x n];exact h
end
section
variable{X:Cx}{K:W.Frag}
theorem Fy(h:X.K=K):IxR X (O7 K):=h▸bH
end
def Dy(K:PySem.W.Frag)(a:Addr)(g:TG)(tb:TS)(D:Ends)(σ:St)(H:Hp):Prop:=∃W:Nat->Nat->St->Hp->Prop,(∃m,W 0 m σ H)/\∀i m σ H,W i m σ H ->
 ((Itl K a).stop i H/\D.nx σ H)\/((Itl K a).go i H/\∃N:St->Hp->Prop,(∀σ' H',N σ' H'->∃m',m'<m/\W (i+1) m' σ' H')/\∀x H',(Itl K a).yld i H x H'->g x σ H' λσ2 H2=>tb { D with nx:=N,ct:=N,bk:=D.nx } σ2 H2)
theorem KD{K:W.Frag}{te:TE}{g:TG}{tb:TS}{D:Ends}{σ:St}{H:Hp}(h:te σ H λx H1=>∃a,x=.ref a/\(∃xs,SqL K H1 a xs)/\Dy K a g tb D σ H1):Jq (zF K te) g tb D σ H:=h
theorem k_{K:W.Frag}{a:Addr}{xs:List V}{g:TG}{tb:TS}{D:Ends}{σ:St}{H:Hp}(Pv:Nat->St->Hp->Prop)(h0:Pv 0 σ H)(hl:∀i σ H,i<=xs.length->Pv i σ H->SqL K H a xs)
  (hs:∀i x σ H,xs[i]?=some x->Pv i σ H->g x σ H λσ2 H2=>tb { D with nx:=Pv (i+1),ct:=Pv (i+1),bk:=D.nx } σ2 H2) (hd:∀σ H,Pv xs.length σ H->D.nx σ H):Dy K a g tb D σ H:=Jr Pv h0 hl hs hd
def eE(J:It)(nt:Nat)(fr:List Nat)(g:TG)(c:TT)(te:TE)(σ:St)(H1:Hp)(Q:VK):Prop:=∀acc,H1 acc=none->nj J nt fr g c te σ H1 Q acc
theorem Fz{K:W.Frag}{t0 te:TE}{nt:Nat}{fr:List Nat}{g:TG}{c:TT}{σ:St}{H:Hp}{Q:VK}(h:t0 σ H λx H1=>∃a,x=.ref a/\(∃xs,SqL K H1 a xs)/\eE (Itl K a) nt fr g c te σ H1 Q):zP (zF K t0) nt fr g c te σ H Q:=h
theorem comp_map{J:It}{xs:List V}{Lk:Hp->Prop}{te:TE}{σ:St}{H:Hp}{Q:VK}{fr:List Nat}{fvs:St}{P:Nat->V->Prop}(it:L2.ItemsOf J xs Lk)(hz:xs.length<=1000000)(hf:(fr.map λi=>(σ[i]?).getD none)=fvs)(hL:∀H',Same H H'->Lk H')
  (turn:∀(i:Nat)(v:V)(H':Hp)(R:VK),xs[i]?=some v->Same H H'->(∀y H2,Same H' H2->P i y->R y H2)->te (some v::fvs) H' R)
  (k:∀l H' ys,New H H' l (.lst ys)->ys.length=xs.length->(∀(i:Nat)(y:V),ys[i]?=some y->P i y)->Q (.ref l) H'):eE J 1 fr (bT 0) qb te σ H Q:=by
 intro acc hacc;subst hf;have zZ:∀b u,H b=some u->b≠acc:=λb u e=>aQ e hacc
 refine yd it (λi ys H'=>H' acc=some (.lst ys)/\Same H H'/\ys.length=i/\∀(j:Nat)(y:V),ys[j]?=some y->P j y) ⟨bx,Same.new hacc,rfl,λj y e=>by simp at e⟩ (λi ys H' _ h=>⟨hL H' h.2.1,h.1⟩) ?_ ?_
 ·rintro i x tv ys H' hx hi ⟨ha,hs,hl,hp⟩ htv;obtain⟨tv0,rfl⟩:∃a,tv=[a]:=List.length_eq_one_iff.mp htv;unfold bT qb;dsimp only;rw[yB rfl];refine turn i x H' _ hx hs λy H2 s2 py=>⟨?_,s2 _ _ ha,nu.next (tv:=[some x]) hi ⟨bx,λb u e=>?_,by rw[yY,hl];rfl,λj z e=>?_⟩ rfl⟩
  ·rw[hl];exact qV hi (cO hz)
  ·rw[bf (zZ b u e)];exact s2 _ _ (hs _ _ e)
  ·by_cases hj:j<ys.length
   ·rw[wP hj] at e;exact hp j z e
   ·rw[nK (by lia)] at e;have hj2:j-ys.length=0:=by
     by_cases h0:j-ys.length=0
     ·exact h0
     ·rw[List.getElem?_eq_none (by simp;lia)] at e;cases e
    rw[hj2] at e;cases e;have:j=i:=by lia
    rw[this];exact py
 ·rintro ys H' ⟨ha,hs,hl,hp⟩;exact k acc H' ys ⟨hs,ha,zZ⟩ hl hp
def Dz(C:Addr)(m:Str)(EX:St->XK)(sp:Sp)(ta:TE)(t:TA):TE:=λσ H Q=>ta σ H λx H1=>∃a dx fs,x=.ref a/\H1 a=some (.ins C dx fs)/\fs.lookup m=none/\t σ H1 λvs H2=>sp (x::vs) H2 Q (EX σ)
section
variable{X:Cx}{pins:List (Addr×Obj)}{EX:St->XK}{k m:Nat}{x:Str}{ps:List Str}{sp:Sp}{p pos apos:Pos}{e o:Expr}{es:List Expr}{t:TA}{ta:TE}{f C:Addr}{fd:FuncData}{nm:Str}
theorem ZF{fj:List (Addr×Obj)}{σ:St}{H:Hp}{s:Shared}{Q:VK}{us:xF}{vs:List V}(F:f9 X.prog X.w X.K X.mg X.base (CX1 X.prog X.w) k f fd ps sp)(hr:Room k X.A)(hb:Binds X.K fd ps [])(I:Inv (X.tr pins EX) fj σ H s)(r:Vals vs us)
  (h:sp vs H Q (EX σ)):wpAny (model X.prog X.w) X.A (call (.ref f) us) (EP (X.tr pins EX) fj σ Q) (X.tr pins EX).xe s:=by
 have hl:(us++[]).length=ps.length:=by rw[mP,<- r.length];exact F.len _ _ _ _ h
 have b:=hb s us I.kIn hl;rw[mP] at b;refine wpAny_call (codeAny_mono (F.run X.A X.stack s H ⟨us,[]⟩ us vs Q (EX σ) hr I.env0 b r h) ?_);rintro (e|fl) s' hq
 ·exact⟨fj,σ,H,s,I.eX,hq⟩
 ·cases fl <;> first|exact I.after hq|exact False.elim hq
theorem KH{pl:Sem Bool}(he:PE (X.tr pins EX) o ta)(c:Cls X.K C)(hm:Meth X.K C nm f)(F:f9 X.prog X.w X.K X.mg X.base (CX1 X.prog X.w) k f fd ps sp)(hr:Room m X.A)(hb:Binds X.K fd ps [])(ha:PA (X.tr pins EX) (e::es) t)(hk:k<=m:=by decide)
  (hst:starEach (e::es) X.env=(false,eval e X.env)::starEach es X.env:=by rfl) (hpl:(backTo pos (starEach es X.env)).any (·.1)=false:=by rfl)
  (ht:eval (.Call (.Attribute o nm apos) (e::es) [] pos) X.env=(do
   let ov <- eval o X.env
   standAt apos.atName
   let (f,first) <- holding [ov] (getMethod ov nm pl)
   callWith pos f first (backTo pos (starEach (e::es) X.env)) (backToKw pos (keywordEach [] X.env))):=by rfl) :
  PE (X.tr pins EX) (.Call (.Attribute o nm apos) (e::es) [] pos) (Dz C nm EX sp ta t):=by
 intro fj s σ H Q I h;refine W.methodCall_KW (pl:=pl) (thn (he fj s σ H _ I h) ?_) ht;rintro u s1 ⟨x,H1,I1,rx,a,dx,fs,rfl,ea,l,q⟩;obtain rfl:u=Value.ref a:=rx;refine mC I1 ea c hm l (W.callWith_K (first:=[.ref a]) (h₀:=X.base) I.ok.mod.kin hm.kp (thn (ha pos fj s1 σ H1 _ I1 q) ?_) hst hpl);rintro us s2 ⟨vs,H2,I2,r,q2⟩;exact⟨I2.kIn,ZF (us:=.ref a::us) (vs:=.ref a::vs) F (hr.mono hk) hb I2 (.cons rfl r) q2⟩
structure vN(K:W.Frag)(C:Addr)(m:Str)(f:Addr):Prop where
 ga:W.specialIn K (.ref C) "__getattribute__" = some (some (.builtin "type.__getattribute__"))
 rd:W.readsIn K C (.type "type")=true
 at_:W.findCls K (.ref C) (.type "type") m=some (.val (.ref f))
 hi:W.handedIn (.ref f)=true
 kp:W.keepIn K (.ref f)=true
theorem Ik{fj:List (Addr×Obj)}{σ:St}{H:Hp}{s:Shared}{A:Around}{E:xB}{pl:Sem Bool}{Q:Value×List Value->Shared->Prop}(I:Inv X fj σ H s)(c:vN X.K C nm f)(h:∀s',Inv X fj σ H s'->Q (.ref f,[]) s') :
  wpAny (model X.prog X.w) A (getMethod (.ref C) nm pl) Q E s:=W.method_cls I.kIn c.ga (W.cls_value I.kIn c.rd c.at_ c.hi (h _ (I.tok _)))
theorem KJ{CX:CXT}{E:XK}{pl:Sem Bool}(hC:X.mg x=some (.ref C))(c:vN X.K C nm f)(F:f9 X.prog X.w X.K X.mg X.base CX k f fd ps sp)(hr:Room k X.A)(hb:Binds X.K fd ps [])(hx:Passes CX X E)(ha:PA X (e::es) t)(hg:Gl X x:=by rfl)(hdb:(x==("__debug__" : Str))=false:=by decide)
  (hst:starEach (e::es) X.env=(false,eval e X.env)::starEach es X.env:=by rfl) (hpl:(backTo pos (starEach es X.env)).any (·.1)=false:=by rfl)
  (ht:eval (.Call (.Attribute (.Name x p) nm apos) (e::es) [] pos) X.env=(do
   let ov <- eval (.Name x p) X.env
   standAt apos.atName
   let (f,first) <- holding [ov] (getMethod ov nm pl)
   callWith pos f first (backTo pos (starEach (e::es) X.env)) (backToKw pos (keywordEach [] X.env))):=by rfl) :
  PE X (.Call (.Attribute (.Name x p) nm apos) (e::es) [] pos) (rD sp [] E t):=by
 intro fj s σ H Q I h;have hn:PE X (.Name x p) (tC (.ref C)):=zL (v:=.ref C) ⟨_,hC,rfl⟩ hg hdb;refine W.methodCall_KW (pl:=pl) (thn (hn fj s σ H (λv H1=>v=.ref C/\H1=H) I ⟨rfl,rfl⟩) ?_) ht;rintro u s1 ⟨y,H1,I1,ry,rfl,rfl⟩;obtain rfl:u=Value.ref C:=ry;refine Ik I1 c λs2 I2=>W.callWith_K (first:=[]) (h₀:=X.base) I.ok.mod.kin c.kp (thn (ha pos fj s2 σ _ _ I2 h) ?_) hst hpl
 rintro us s3 ⟨vs,H3,I3,r,q⟩;exact⟨I3.kIn,xZ F hr hb .nil hx I3 r q⟩
end
section
variable{P:Program}{w:World}{K:W.Frag}{mg:xC}{base:Heap}{CX:CXT}{k:Nat}{x nm qual:Str}{ps:List Str}{sp:Sp}{C:Addr}
structure Met(P:Program)(w:World)(K:W.Frag)(mg:xC)(base:Heap)(CX:CXT)(k:Nat)(C:Addr)(nm:Str)(ps:List Str)(sp:Sp):Prop where
 ex:∃(f:Addr)(fd:FuncData),f9 P w K mg base CX k f fd ps sp/\Meth K C nm f/\Binds K fd ps []
structure Mak(P:Program)(w:World)(K:W.Frag)(mg:xC)(base:Heap)(CX:CXT)(k:Nat)(x:Str)(C:Addr)(ps:List Str)(sp:Sp):Prop where
 ex:∃(f:Addr)(fd:FuncData),f9 P w K mg base CX k f fd ps sp/\Mk K C f/\mg x=some (.ref C)/\Binds K fd ps []
structure Cdf(P:Program)(w:World)(K:W.Frag)(mg:xC)(base:Heap)(CX:CXT)(k:Nat)(x:Str)(C:Addr)(nm:Str)(ps:List Str)(sp:Sp):Prop where
 ex:∃(f:Addr)(fd:FuncData),f9 P w K mg base CX k f fd ps sp/\vN K C nm f/\mg x=some (.ref C)/\Binds K fd ps []
def FnAt(K:W.Frag)(nm qual:Str)(st:Stmt)(f:Addr):Prop:=∃fd:FuncData,Fun K nm qual st f fd
structure iH(P:Program)(w:World)(K:W.Frag)(mg:xC)(base:Heap)(CX:CXT)(k:Nat)(f:Addr)(ps:List Str)(sp:Sp):Prop where
 ex:∃fd:FuncData,f9 P w K mg base CX k f fd ps sp/\Binds K fd ps []
theorem iH.met{f:Addr}(t:iH P w K mg base CX k f ps sp)(m:Meth K C nm f):Met P w K mg base CX k C nm ps sp:=let ⟨fd,F,b⟩:=t.ex;⟨f,fd,F,m,b⟩
theorem iH.mak{f:Addr}(t:iH P w K mg base CX k f ps sp)(m:Mk K C f)(g:mg x=some (.ref C)):Mak P w K mg base CX k x C ps sp:=let ⟨fd,F,b⟩:=t.ex;⟨f,fd,F,m,g,b⟩
theorem iH.cdf{f:Addr}(t:iH P w K mg base CX k f ps sp)(m:vN K C nm f)(g:mg x=some (.ref C)):Cdf P w K mg base CX k x C nm ps sp:=let ⟨fd,F,b⟩:=t.ex;⟨f,fd,F,m,g,b⟩
variable{st:Stmt}{N:List Str}{f:Addr}
theorem cI(h:FnAt K nm qual st f)(S:aN N ps (aF st))(len:∀vs H Q E,sp vs H Q E->vs.length=ps.length)
  (hb:∀(kV doc pm:Value)(an:xL)(cdv ct:Value)(us:xF),us.length=ps.length->bindArgs (W.fnOf nm qual (dw st) (cj st) (aF st) .none kV doc pm an cdv ct) ⟨us,[]⟩=pure (ps.zip us))
  (hbody:∀(f:Addr)(cdv:Value)(A:Around)(outer:List Env)(s:Shared)(H:Hp)(vs:List V)(Q:VK)(E:XK),Room k (A.deeper (envOfC qual (aF st) s.heap.objs.size f cdv))->sp vs H Q E ->
   ∃t,PSs (iV CX P w K mg base N qual (aF st) f cdv A outer s H E).nox (cj st) t/\t { nx:=λ_ H'=>Q .non H',rt:=Q } (start N vs) H):iH P w K mg base CX (k+1) f ps sp:=by
 obtain⟨fd,F⟩:=h;refine⟨fd,?_,F.binds hb⟩;obtain⟨oc,od,kV,doc,pm,an,cdv,ct,osl,rfl,lk,hcd⟩:=F.ex;refine vA lk hcd S len λA outer s H vs Q E hr hsp=>?_
 obtain⟨t,h,q⟩:=hbody f cdv A outer s H vs Q E hr hsp;exact⟨t,h.nox,q⟩
theorem vO(h:FnAt K nm qual st f)(S:aN N ps (aF st))(len:∀vs H Q E,sp vs H Q E->vs.length=ps.length)
  (hb:∀(kV doc pm:Value)(an:xL)(cdv ct:Value)(us:xF),us.length=ps.length->bindArgs (W.fnOf nm qual (dw st) (cj st) (aF st) .none kV doc pm an cdv ct) ⟨us,[]⟩=pure (ps.zip us))
  (hbody:∀(f:Addr)(cdv:Value)(A:Around)(outer:List Env)(s:Shared)(H:Hp)(vs:List V)(Q:VK)(E:XK),Room k (A.deeper (envOfC qual (aF st) s.heap.objs.size f cdv))->sp vs H Q E ->
   ∃t,PSs (iV (CX1 P w) P w K mg base N qual (aF st) f cdv A outer s H E) (cj st) t/\t { nx:=λ_ H'=>Q .non H',rt:=Q } (start N vs) H):iH P w K mg base (CX1 P w) (k+1) f ps sp:=by
 obtain⟨fd,F⟩:=h;refine⟨fd,?_,F.binds hb⟩;obtain⟨oc,od,kV,doc,pm,an,cdv,ct,osl,rfl,lk,hcd⟩:=F.ex;exact vA lk hcd S len λA outer s H vs Q E hr hsp=>hbody f cdv A outer s H vs Q E hr hsp
end
section
variable{X:Cx}{CX:CXT}{k m:Nat}{x nm:Str}{ps:List Str}{sp:Sp}{E:XK}{p pos apos:Pos}{e o:Expr}{es:List Expr}{t:TA}{ta:TE}{C:Addr}
theorem g8{pl:Sem Bool}(he:PE X o ta)(c:Cls X.K C)(D:Met X.prog X.w X.K X.mg X.base CX k C nm ps sp)(hr:Room m X.A)(ha:PA X (e::es) t)(hk:k<=m:=by decide)(hx:Passes CX X E:=by exact vG)
  (hst:starEach (e::es) X.env=(false,eval e X.env)::starEach es X.env:=by rfl) (hpl:(backTo pos (starEach es X.env)).any (·.1)=false:=by rfl)
  (ht:eval (.Call (.Attribute o nm apos) (e::es) [] pos) X.env=(do
   let ov <- eval o X.env
   standAt apos.atName
   let (f,first) <- holding [ov] (getMethod ov nm pl)
   callWith pos f first (backTo pos (starEach (e::es) X.env)) (backToKw pos (keywordEach [] X.env))):=by rfl) :
  PE X (.Call (.Attribute o nm apos) (e::es) [] pos) (vg C nm sp [] E ta t):=by
 obtain⟨f,fd,F,mt,b⟩:=D.ex;exact O3 (pl:=pl) he c mt F (hr.mono hk) b .nil hx ha hst hpl ht
theorem dW{pl:Sem Bool}(he:PE X o ta)(c:Cls X.K C)(D:Met X.prog X.w X.K X.mg X.base CX k C nm ps sp)(hr:Room m X.A)(hk:k<=m:=by decide)(hx:Passes CX X E:=by exact vG)
  (ht:eval (.Call (.Attribute o nm apos) [] [] pos) X.env=(do
   let ov <- eval o X.env
   standAt apos.atName
   let (f,first) <- holding [ov] (getMethod ov nm pl)
   callWith pos f first (backTo pos (starEach [] X.env)) (backToKw pos (keywordEach [] X.env))):=by rfl) :
  PE X (.Call (.Attribute o nm apos) [] [] pos) (vg C nm sp [] E ta xX):=by
 obtain⟨f,fd,F,mt,b⟩:=D.ex;exact JC (pl:=pl) he c mt F (hr.mono hk) b .nil hx ht
theorem Tv{pl:Sem Bool}(D:Cdf X.prog X.w X.K X.mg X.base CX k x C nm ps sp)(hr:Room m X.A)(ha:PA X (e::es) t)(hk:k<=m:=by decide)(hx:Passes CX X E:=by exact vG)(hg:Gl X x:=by rfl)(hdb:(x==("__debug__" : Str))=false:=by decide)
  (hst:starEach (e::es) X.env=(false,eval e X.env)::starEach es X.env:=by rfl) (hpl:(backTo pos (starEach es X.env)).any (·.1)=false:=by rfl)
  (ht:eval (.Call (.Attribute (.Name x p) nm apos) (e::es) [] pos) X.env=(do
   let ov <- eval (.Name x p) X.env
   standAt apos.atName
   let (f,first) <- holding [ov] (getMethod ov nm pl)
   callWith pos f first (backTo pos (starEach (e::es) X.env)) (backToKw pos (keywordEach [] X.env))):=by rfl) :
  PE X (.Call (.Attribute (.Name x p) nm apos) (e::es) [] pos) (rD sp [] E t):=by
 obtain⟨f,fd,F,c,g,b⟩:=D.ex;exact KJ (pl:=pl) g c F (hr.mono hk) b hx ha hg hdb hst hpl ht
end
end L2
namespace L2
open PySem PySem.Spec PyProof.Rows
def Bd(k:Nat)(x:Int):Prop:=0<=x/\x<2 ^ k
theorem Qa{a b:Nat}(h:a<=b):(2:Int) ^ a<=2 ^ b:=by
 have h:(2:Nat) ^ a<=2 ^ b:=Nat.pow_le_pow_right (by decide) h
 exact_mod_cast h
theorem Bd.mono{a b:Nat}{x:Int}(h:a<=b)(hx:Bd a x):Bd b x:=⟨hx.1,Int.lt_of_lt_of_le hx.2 (Qa h)⟩
theorem Bd.le{k:Nat}{x y:Int}(h:Bd k x)(h0:0<=y)(hy:y<=x):Bd k y:=⟨h0,Int.lt_of_le_of_lt hy h.2⟩
theorem FJ{X:Cx}{K:W.Frag}{pos:Pos}{es:List Expr}{k:Nat}{t:TGs}{n:Nat}(hK:X.K=K)(hc:X.calm=true)(h:PGs X es t)
  (hn:(assignEach es X.env).length=n:=by rfl) (hst:(assignEach es X.env).findIdx? (·.1)=none:=by rfl):PG X (.Tuple es k pos) (Ht K n t):=by
 subst hK;exact xW hc h hn hst
theorem Il{J:It}{xs:List V}{Lk:Hp->Prop}{te:TE}{g:TG}{σ:St}{H:Hp}{Q:VK}{fr:List Nat}{fvs:St}{nt:Nat}{P:Nat->V->Hp->Prop}(it:L2.ItemsOf J xs Lk)(hz:xs.length<=1000000)(hf:(fr.map λi=>(σ[i]?).getD none)=fvs)(hL:∀H',Same H H'->Lk H')
  (hP:∀i y H1 H2,P i y H1->(∀q u,H1 q=some (.tup u)->H2 q=some (.tup u))->P i y H2)
  (turn:∀(i:Nat)(v:V)(tv:St)(H':Hp),xs[i]?=some v->Same H H'->tv.length=nt->∃tv' σ':St,tv'.length=nt/\tv'++fvs=σ'/\(∀R2:St->Hp->Prop,R2 σ' H'->g v (tv++fvs) H' R2)/\∀R:VK,(∀y H2,Same H' H2->P i y H2->R y H2)->te σ' H' R)
  (k:∀l H' ys,New H H' l (.lst ys)->ys.length=xs.length->(∀(i:Nat)(y:V),ys[i]?=some y->P i y H')->Q (.ref l) H'):eE J nt fr g qb te σ H Q:=by
 intro acc hacc;subst hf;have zZ:∀b u,H b=some u->b≠acc:=λb u e=>aQ e hacc
 refine yd it (λi ys H'=>H' acc=some (.lst ys)/\Same H H'/\ys.length=i/\∀(j:Nat)(y:V),ys[j]?=some y->P j y H') ⟨bx,Same.new hacc,rfl,λj y e=>by simp at e⟩ (λi ys H' _ h=>⟨hL H' h.2.1,h.1⟩) ?_ ?_
 ·rintro i x tv ys H' hx hi ⟨ha,hs,hl,hp⟩ htv;obtain⟨tv',_,ht',rfl,hg,he⟩:=turn i x tv H' hx hs htv;refine hg _ ?_;unfold qb;dsimp only;rw[yB rfl];refine he _ λy H2 s2 py=>⟨by rw[hl];exact qV hi (cO hz),s2 _ _ ha,nu.next (tv:=tv') hi ⟨bx,λb u e=>by rw[bf (zZ b u e)];exact s2 _ _ (hs _ _ e),by rw[yY,hl];rfl,λj z e=>?_⟩ ht'⟩
  have stay:∀q u,H2 q=some (.tup u)->(upd H2 acc (.lst (ys++[y]))) q=some (.tup u):=λq u h=>by
   have ne:q≠acc:=λz=>by
    rw[z,s2 _ _ ha] at h;cases h
   rw[bf ne];exact h
  by_cases hj:j<ys.length
  ·rw[wP hj] at e;exact hP _ _ _ _ (hP _ _ _ _ (hp j z e) λq u h=>s2 _ _ h) stay
  ·rw[nK (by lia)] at e;have hj2:j-ys.length=0:=by
    by_cases h0:j-ys.length=0
    ·exact h0
    ·rw[List.getElem?_eq_none (by simp;lia)] at e;cases e
   rw[hj2] at e;cases e;have:j=i:=by lia
   rw[this];exact hP _ _ _ _ py stay
 ·rintro ys H' ⟨ha,hs,hl,hp⟩;exact k acc H' ys ⟨hs,ha,zZ⟩ hl hp
def jB:V->Dt
 | .int i=>.int i
 | .str x=>.str x
 | .bl b=>.bl b
 | _=>.non
def gJ:V->Bool
 | .int _=>true
 | .str _=>true
 | .bl _=>true
 | .non=>true
 | _=>false
section
variable{K:W.Frag}{H:Hp}
theorem KN{v:V}(h:gJ v=true):Rep K H (jB v) v:=by
 cases v <;> simp_all [gJ,jB,Rep]
theorem vP:∀{vs:List V},(∀v∈vs,gJ v=true)->cU K H (vs.map jB) vs
 | [],_=>by simp[cU]
 | v::vs,h=>by
  simp only[List.map_cons,cU];exact⟨_,_,rfl,KN (h v (zC ..)),vP λx hx=>h x (zD _ hx)⟩
theorem z6:∀vs:List V,fO (vs.map jB)=0
 | []=>rfl
 | v::vs=>by
  have:fM (jB v)=0:=by cases v <;> rfl
  simp[fO,this,z6 vs]
abbrev qe(r:List V):Dt:=.tup (r.map jB)
theorem vQ:∀{rows:List (List V)} {ys:List V},aB H ys rows->(∀r∈rows,∀v∈r,gJ v=true)->cU K H (rows.map qe) ys
 | [],ys,h,_=>by
  have:ys=[]:=List.eq_nil_of_length_eq_zero h.1;subst this;simp[cU]
 | r::rows,[],h,_=>by simp[aB] at h
 | r::rows,y::ys,h,hf=>by
  obtain⟨q,e,hq⟩:=h.2 0 r rfl;cases e;simp only[List.map_cons,cU];refine⟨_,_,rfl,?_,vQ (rows:=rows) (ys:=ys) ⟨by simpa using h.1,λj r' e=>h.2 (j+1) r' e⟩ λx hx=>hf x (List.mem_cons_of_mem _ hx)⟩;simp only[Rep];exact⟨q,r,rfl,SqT.of hq,vP (hf r (zC ..))⟩
theorem z7:∀rows:List (List V),fO (rows.map qe)<=1
 | []=>by decide
 | r::rows=>by
  have h1:fM (qe r)=1:=by simp only[fM,z6]
  have h2:=z7 rows;simp only[List.map_cons,fO,h1]
  lia
theorem rT{p:Addr}{rows:List (List V)}{ys:List V}(hp:SqL K H p ys)(h:aB H ys rows)(hf:∀r∈rows,∀v∈r,gJ v=true):Rep K H (.lst (rows.map qe)) (.ref p):=by
 simp only[Rep];exact⟨p,ys,rfl,hp,vQ h hf⟩
theorem vR(rows:List (List V)):fM (.lst (rows.map qe))<=2:=by
 have:=z7 rows;simp only[fM]
 lia
theorem z8{d:Dt}{x y:V}{Q:VK}(hx:Rep K H d x)(hy:Rep K H d y)(hd:fM d<=100)(k:Q (.bl false) H):P_ K x y H Q :=
 ⟨d,d,hx,hy,hd,by rw[oU];exact k⟩
theorem z9{d:Dt}{x y:V}{Q:VK}(hx:Rep K H d x)(hy:Rep K H d y)(hd:fM d<=100)(k:Q (.bl true) H):KC K x y H Q :=
 ⟨d,d,hx,hy,hd,by rw[oU];exact k⟩
end
section
variable{K:W.Frag}{σ:St}{H:Hp}{Q:VK}{ta:TE}{f:Str}{C:Addr}
theorem KQ(h:ta σ H λx H1=>∃a C dx fs v,x=.ref a/\H1 a=some (.ins C dx fs)/\Cls K C/\cX K C f/\fs.lookup f=some v/\Q v H1):S7 K ta f σ H Q:=h
theorem w_fld{a dx:Addr}{fs:List (Str×V)}{v:V}{R:V->Prop}(ho:H a=some (.ins C dx fs))(c:Cls K C)(n:cX K C f)(l:fs.lookup f=some v)(k:R v) :
  ∃a' C' dx' fs' v',V.ref a=.ref a'/\H a'=some (.ins C' dx' fs')/\Cls K C'/\cX K C' f/\fs'.lookup f=some v'/\R v':=⟨a,C,dx,fs,v,rfl,ho,c,n,l,k⟩
end
theorem Io{H:Hp}{x dx C:Addr}(hx:H x=none)(hd:H dx=none):Same H (upd (upd H dx (.own x)) x (.ins C dx [])):=λb u e=>by
 rw[bf (aQ e hx),bf (aQ e hd)];exact e
def FN:V->List V->Hp->VK->Prop:=λx vs H Q=>∃l b xs zs,x=.ref l/\vs=[.ref b]/\H l=some (.lst xs)/\H b=some (.lst zs)/\xs.length+zs.length<=sizeLine/\∀H',Off l H H'->H' l=some (.lst (xs++zs))->Q .non H'
section
variable{X:Cx}
theorem Qc:MtM X "list.extend" FN:=by
 intro pins s σ H x vs v us Q I rx rv h;obtain⟨l,b,xs,zs,e1,e2,hH,hB,hz,q⟩:=h;exact HD pins s σ H x vs v us Q I rx rv ⟨l,b,xs,zs,e1,e2,hH,hB,hz,q _ Off.upd bx⟩
theorem Qd{o e:Expr}{to te:TE}{apos cpos:Pos}(ho:PE X o to)(he:PE X e te)(hbase:attributeBase o "extend" X.env (eval o X.env)=eval o X.env:=by rfl)
  (hfew:((backTo cpos (starEach [e] X.env)).all (λx=>!x.1) && (backToKw cpos (keywordEach [] X.env)).all (λx=>x.1.isSome)
   && decide (([e]:List Expr).length+([]:List Keyword).length+(if ([]:List Keyword).isEmpty then 0 else 1)<30))=true:=by rfl)
  (hline:(apos.endLine==cpos.line)=true:=by rfl) (hs:starEach [e] X.env=(false,eval e X.env)::starEach [] X.env:=by rfl) :
  PE X (.Call (.Attribute o "extend" apos) [e] [] cpos) (tBM X.K "list" FN to (rC te xX)) :=
 Ez PySem.F.plainAttrs_list PySem.F.slot_list_extend PySem.F.type_list_extend Qc ho (aj he ao hs) hbase hfew hline hs (by rfl)
end
end L2
namespace L2
open PySem PySem.Spec PyProof.Rows PySem.SeqAt
section
variable{H H':Hp}{p a l:Addr}{o u:HO}
theorem New.at(n:New H H' p o)(h:H a=some u):H' a=some u:=n.s a u h
theorem Same.at(s:Same H H')(h:H a=some u):H' a=some u:=s a u h
theorem Off.at(f:Off l H H')(ne:a≠l)(h:H a=some u):H' a=some u:=by rw[f a ne];exact h
theorem Kp.at(k:Kp l H H')(ne:a≠l)(h:H a=some u):H' a=some u:=k a u ne h
end
section
variable{X:Cx}{id:String}{x nm:Str}{e v:Expr}{es:List Expr}{t:TA}{tv:TE}{p kp pos:Pos}
def KR(X:Cx)(id:String)(nm:Str)(r:List V->V->Hp->VK->Prop):Prop:=∀(pins:List (Addr×Obj)) (s:Shared) (σ:St) (H:Hp) (xs:List V) (us:xF) (y:V) (u:Value) (Q:VK),Inv X pins σ H s->Vals xs us->RelV y u->r xs y H Q ->
 wpAny (model X.prog X.w) X.A (call (.builtin id) us [(nm,u)]) (EP X pins σ Q) X.xe s
def tCK(r:List V->V->Hp->VK->Prop)(t:TA)(tv:TE):TE:=λσ H Q=>t σ H λxs H1=>tv σ H1 λy H2=>r xs y H2 Q
theorem Rx{r:List V->V->Hp->VK->Prop}{σ:St}{H:Hp}{Q:VK}(h:t σ H λxs H1=>tv σ H1 λy H2=>r xs y H2 Q):tCK r t tv σ H Q:=h
theorem yt{r:List V->V->Hp->VK->Prop}(hc:KR X id nm r)(hg:Gl X x)(hm:X.mg x=none)(hv:bootBuiltins x=some (.builtin id))(ha:PA X (e::es) t)(hw:PE X v tv)(hn:x ≠ "__name__":=by decide)(hdb:(x==("__debug__" : Str))=false:=by decide)
  (he:backTo pos (starEach (e::es) X.env)=(false,eval e X.env)::backTo pos (starEach es X.env):=by rfl) (hpl:(backTo pos (starEach (e::es) X.env)).any (·.1)=false:=by rfl):PE X (.Call (.Name x p) (e::es) [⟨some nm,v,kp⟩] pos) (tCK r t tv):=by
 intro pins s σ H Q I h;refine wpAny_Call_Name_kw (q_ I hg hm hv ?_ hn hdb);refine callWith_kw (thn (ha pos pins s σ H _ I h) λus s1 ⟨vs,H1,I1,r1,q1⟩=>?_) he hpl;refine kws_cons (thn (hw pins s1 σ H1 _ I1 q1) λz s2 ⟨y,H2,I2,r2,q2⟩=>kws_nil ?_);have hv2:Vals vs us:=r1;exact hc pins s2 σ H2 vs us y z Q I2 hv2 r2 q2
end
theorem rU:∀{ns:List Int} {us:xF},Vals (ns.map V.int) us->IntsAre us ns
 | [],_,.nil=>.nil
 | n::ns,_,.cons r t=>by
  obtain⟨k,rfl⟩:=r;exact .cons n k (rU t)
theorem jV:∀{us:xF} {ns:List Int} {i:Nat} {v:Value},IntsAre us ns->us[i]?=some v->∃t,v=.int (ns.getD i 0) t
 | _,_,_,_,.nil,e=>by simp at e
 | _,_,0,_,.cons n t h,e=>by
  simp at e;exact⟨t,e.symm⟩
 | _,_,i+1,_,.cons n t h,e=>by
  obtain⟨t',e'⟩:=jV (i:=i) h (by simpa using e);exact⟨t',by rw[e'];simp⟩
theorem jW(ns:List Int):∀n,n<=ns.length->preSum (λi=>ns.getD i 0) n=(ns.take n).sum
 | 0,_=>by simp[preSum]
 | n+1,h=>by
  rw[preSum,jW ns n (by lia),gL,List.sum_append];have:ns[n]?=some ns[n]:=by simp
  rw[nB,this];simp
theorem DG{ns:List Int}(h:∀n∈ns,0<=n/\n<=1000000):0<=ns.sum/\ns.sum<=1000000*(ns.length:Int):=by
 induction ns with
 | nil=>simp
 | cons a t ih =>
  have h1:=h a zC;have h2:=ih λn hn=>h n (zD _ hn)
  rw[List.sum_cons,zzD]
  lia
def fH(d:Int)(ns:List Int):Int:=ns.foldl max d
section
variable{X:Cx}
def Ry(K:W.Frag):List V->Hp->VK->Prop:=λxs H Q=>∃(p:Addr)(ns:List Int),xs=[.ref p]/\SqL K H p (ns.map V.int)/\(∀n∈ns,0<=n/\n<=1000000)/\ns.length<=1000000/\Q (.int ns.sum) H
theorem oX(hc:X.calm=true):gV X (.builtin "sum") (Ry X.K):=by
 intro pins s σ H xs us Q I r h;obtain⟨p,ns,rfl,hq,hb,hz,q⟩:=h;obtain⟨u,rfl,rx⟩:=vals1 r;cases rx;obtain⟨its,rv,pl,_⟩:=I.list hq;have hi:=rU rv;have hn:its.length=ns.length:=by have:=rv.length;simpa using this.symm
 have hl:=pl.isList;have hlt:p<s.heap.objs.size:=let ⟨_,e,_⟩:=hl;uC e
 have part:∀j,j<=ns.length->0<=(ns.take j).sum/\(ns.take j).sum<=1000000*1000000:=λj hj=>by
  have b:=DG (ns:=ns.take j) λn hn=>hb n (oP hn)
  have:(ns.take j).length<=1000000:=by rw[nE];lia
  lia
 refine call_sum_walk (wpAny_pyIter_list hl ?_);refine⟨s.heap.objs.size,[s.heap.objs.size,p],[s.heap.objs.size],its.toArray.size,_,_,λi=>ns.getD i 0,rfl,Walks.list (A:=X.A.in1) (I.ok.hd hc) _ p (gE hlt) its.toArray,
  ⟨⟨_,Heap.get?_push_size _ rfl,rfl,rfl⟩,hl.push _⟩,λb hb'=>?_,λi v hP=>jV hi (by simpa using hP),λj hj=>?_,λh' tk t' hk=>?_⟩
 ·rcases jS.mp hb' with rfl|hb'
  ·show _<(s.heap.push _).objs.size;rw[size_push'];exact Nat.lt_succ_self _
  ·rw[rV.mp hb'];show _<(s.heap.push _).objs.size;rw[size_push'];exact nV hlt
 ·have hj':j<ns.length:=by rw[<- hn];simpa using hj
  rw[jW ns (j+1) hj'];have b1:=part (j+1) hj';have b2:=hb (ns.getD j 0) (by rw[nB,qS hj'];exact List.getElem_mem hj');exact⟨⟨by show _<=ns.getD j 0;lia,by show ns.getD j 0<_;lia⟩,by lia,by lia⟩
 ·rw[nX,hn,jW ns _ (rS _),List.take_length];exact⟨.int _,H,I.kept (LSm.kept_iter hk),⟨_,rfl⟩,q⟩
theorem Qe{P:Program}{w:World}{A:Around}{E:xB}{s:Shared}{i j:Int}{t u:Tok}{Q:xB}(h:Q (.bool (decide (j<i))) s):wpAny (model P w) A (richCompare .Gt (.int i t) (.int j u)) Q E s:=gt_int h
section
variable{P:Program}{w:World}{A:Around}{R:Result->Shared->Prop}{it:Addr}{fp wr:List Addr}{ns:List Int}{V0:Nat->Value->Prop}{St0:Nat->Heap->Prop}{kw:List (Str×Value)}
abbrev FP(vs:xI)(c:Nat):Obj:={ cls:=.type "list", dict:=none,data:=.seq vs c,slots:=#[] }
theorem KY(W:Walks P w A.in1 it fp wr ns.length V0 St0)(hv:∀i v,V0 i v->∃t,v=.int (ns.getD i 0) t)(B:Addr)(hB:B ∉ fp)(left:Nat) :
  ∀(j:Nat)(s:Shared)(m:Int)(t:Tok)(c:Nat),j+left=ns.length->St0 j s.heap->m=fH (ns.getD 0 0) (ns.take j)->s.heap.get? B=some (FP #[.int m t,.int m t] c) ->
  (∀h' tk t',(∀b ob,b ∉ wr->b≠B->s.heap.get? b=some ob->h'.get? b=some ob)->R (.ok (.ret (.int (fH (ns.getD 0 0) ns) t'))) { s with heap:=h',toks:=tk }) ->
  codeAny (model P w) A (.builtin "max.loop" ⟨[.ref it,.none,.ref B],kw⟩) R s:=by
 have hBw:B ∉ wr:=λz=>hB (W.sub _ z)
 induction left with
 | zero =>
  intro j s m t c hj st hm hb k;have ej:j=ns.length:=by lia
  subst ej;refine codeAny_builtin F.entry_max_loop ?_;rw[Around.under_plainId F.plain_max_loop _];show wpAny _ _ (seqItems? (Value.ref B) >>= _) _ _ _;refine zI (wpAny_seqItems hb rfl ?_);show wpAny _ _ (tryCatch (pyNext (Value.ref it)) _ >>= _) _ _ _;refine zI (wpAny_tryCatch (W.done s _ _ st λh1 tk1 k1=>?_));have hb1:=k1 B _ hBw hb;show wpAny _ _ (updateSeq B _ >>= _) _ _ _;refine zI (wpAny_updateSeq hb1 rfl (zI (wpAny_letGo (oB ?_))));rw[List.take_length] at hm;rw[hm];exact k _ _ t λb ob n1 n2 q=>(mB _ _ (λz=>n2 z.symm)).trans (k1 b ob n1 q)
 | succ left ih =>
  intro j s m t c hj st hm hb k;have hlt:j<ns.length:=by lia
  refine codeAny_builtin F.entry_max_loop ?_;rw[Around.under_plainId F.plain_max_loop _];show wpAny _ _ (seqItems? (Value.ref B) >>= _) _ _ _;refine zI (wpAny_seqItems hb rfl ?_);show wpAny _ _ (tryCatch (pyNext (Value.ref it)) _ >>= _) _ _ _;refine zI (wpAny_tryCatch (W.item j s _ _ hlt st λv h1 tk1 pv st1 k1=>?_));obtain⟨t1,rfl⟩:=hv j v pv;have hb1:=k1 B _ hBw hb;have nx:fH (ns.getD 0 0) (ns.take (j+1))=max m (ns.getD j 0):=by
   have e:ns[j]?=some ns[j]:=by simp
   rw[gL,e,hm,nB (i:=j),e];show List.foldl max _ _=_;rw[List.foldl_append]
   rfl
  show wpAny _ _ (tryCatch (holding _ (richCompare .Gt _ _ >>= _)) _ >>= _) _ _ _;refine zI (wpAny_tryCatch (mI (zI (Qe ?_))));refine zI (mI (wpAny_truthy_bool ?_));refine zI (wpAny_letGo (oB ?_));have hs:(toString "max" ++ toString ".loop" : String) = "max.loop":=by decide
  by_cases hg:m<ns.getD j 0
  ·rw[uB hg];simp only[if_true];refine zI (wpAny_updateSeq hb1 rfl (zI (wpAny_letGo ?_)));rw[hs];refine oB ⟨plainId_quiet F.plain_max_loop _,ih (j+1) _ (ns.getD j 0) t1 _ (by lia) (W.frame _ _ _ st1 λb hbf ob q=>?_) (by rw[nx];lia) (Heap.get?_update_self _ hb1 rfl) λh2 tk2 t2 k2=>?_⟩
   ·exact(mB _ _ (λz=>hB (by rw[z];exact hbf))).trans q
   ·exact k h2 tk2 t2 λb ob n1 n2 q=>k2 b ob n1 n2 ((mB _ _ (λz=>n2 z.symm)).trans (k1 b ob n1 q))
  ·rw[uA hg];simp only[Bool.false_eq_true,if_false];refine zI (wpAny_letGo ?_);rw[hs];refine oB ⟨plainId_quiet F.plain_max_loop _,ih (j+1) _ m t c (by lia) st1 (by rw[nx];lia) hb1 λh2 tk2 t2 k2=>k h2 tk2 t2 λb ob n1 n2 q=>k2 b ob n1 n2 (k1 b ob n1 q)⟩
theorem Qf{d:Int}{td:Tok}(W:Walks P w A.in1 it fp wr ns.length V0 St0)(hv:∀i v,V0 i v->∃t,v=.int (ns.getD i 0) t)(B:Addr)(hB:B ∉ fp){s:Shared}{c:Nat}(st:St0 0 s.heap)
  (hkw:ns=[]->kw=[(("default" : Str),Value.int d td)]) (hb:s.heap.get? B=some (FP #[] c))
  (k:∀h' tk t',(∀b ob,b ∉ wr->b≠B->s.heap.get? b=some ob->h'.get? b=some ob)->R (.ok (.ret (.int (if ns=[] then d else fH (ns.getD 0 0) ns) t'))) { s with heap:=h',toks:=tk }) :
  codeAny (model P w) A (.builtin "max.loop" ⟨[.ref it,.none,.ref B],kw⟩) R s:=by
 have hBw:B ∉ wr:=λz=>hB (W.sub _ z)
 have hs:(toString "max" ++ toString ".loop" : String) = "max.loop":=by decide
 refine codeAny_builtin F.entry_max_loop ?_;rw[Around.under_plainId F.plain_max_loop _];show wpAny _ _ (seqItems? (Value.ref B) >>= _) _ _ _;refine zI (wpAny_seqItems hb rfl ?_);show wpAny _ _ (tryCatch (pyNext (Value.ref it)) _ >>= _) _ _ _;by_cases hn:ns=[]
 ·subst hn;rw[hkw rfl];refine zI (wpAny_tryCatch (W.done s _ _ st λh1 tk1 k1=>?_));refine zI (wpAny_rule ?_);exact oB (k h1 tk1 td λb ob n1 _ q=>k1 b ob n1 q)
 ·have hlt:0<ns.length:=List.length_pos_iff.mpr hn;refine zI (wpAny_tryCatch (W.item 0 s _ _ hlt st λv h1 tk1 pv st1 k1=>?_));obtain⟨t1,rfl⟩:=hv 0 v pv;have hb1:=k1 B _ hBw hb;show wpAny _ _ (updateSeq B _ >>= _) _ _ _;refine zI (wpAny_updateSeq hb1 rfl ?_);rw[hs];rw[yT hn] at k;refine oB ⟨plainId_quiet F.plain_max_loop _,KY W hv B hB (ns.length-1) 1 _ (ns.getD 0 0) t1 _ (by lia) (W.frame _ _ _ st1 λb hbf ob q=>?_) ?_ (Heap.get?_update_self _ hb1 rfl) λh2 tk2 t2 k2=>?_⟩
  ·exact(mB _ _ (λz=>hB (by rw[z];exact hbf))).trans q
  ·have e:ns[0]?=some ns[0]:=by simp
   rw[gL,e,nB,e];simp[fH]
  ·exact k h2 tk2 t2 λb ob n1 n2 q=>k2 b ob n1 n2 ((mB _ _ (λz=>n2 z.symm)).trans (k1 b ob n1 q))
end
theorem Ip{ns:List Int}{d:Int}(hd:∀n∈ns,d<=n)(hn:ns≠[]):fH (ns.getD 0 0) ns=fH d ns:=by
 cases ns with
 | nil=>exact gS rfl hn
 | cons a t =>
  have h:=hd a zC;show List.foldl max a (a::t)=List.foldl max d (a::t);simp only[List.foldl_cons];rw[show max a a=a by lia,show max d a=a by lia]
theorem yu{P:Program}{w:World}{A:Around}{E:xB}{s:Shared}{id:String}{b:Builtin}{args:xF}{kw:List (Str×Value)}{Q:xB}(hk:builtinKind id=none)(hp:plainId id=true)
  (hb:entryFor table id=some b) (ha:argsOk id ⟨args,kw⟩)
  (hc:wpAny (model P w) A.in1 (b ⟨args,kw⟩) (λfin s1=>match fin with
   | .done f=>(match (Except.ok f:Result) with|.ok (.ret v)=>Q v s1|.ok _=>False|.error e=>E e s1)
   | .again c=>c.quiet=true/\codeAny (model P w) A c (λr s2=>match r with|.ok (.ret v)=>Q v s2|.ok _=>False|.error e=>E e s2) s1) E s):wpAny (model P w) A (call (.builtin id) args kw) Q E s:=by
 refine wpAny_call (codeAny_call_builtin hp hb ?_);simp only[checkBuiltinCall,hk];unfold argsOk at ha;cases hg:Manifest.signature? id with
 | none=>exact oB hc
 | some sg =>
  rw[hg] at ha;have ha2:Bind.checkArgs id sg ⟨args,kw⟩=pure ():=ha;simp only[ha2];exact oB hc
theorem Ir(a d:Value):argsOk "max" ⟨[a],[(("default" : Str),d)]⟩:=by unfold argsOk;kernel_rfl
def Rz(K:W.Frag):List V->V->Hp->VK->Prop:=λxs y H Q=>∃(p:Addr)(ns:List Int)(d:Int),xs=[.ref p]/\y=.int d/\SqL K H p (ns.map V.int)/\(∀n∈ns,d<=n)/\Q (.int (fH d ns)) H
theorem oY(hc:X.calm=true):KR X "max" "default" (Rz X.K):=by
 intro pins s σ H xs us y u Q I r ry h;obtain⟨p,ns,d,rfl,rfl,hq,hd,q⟩:=h;obtain⟨v,rfl,rx⟩:=vals1 r;cases rx;obtain⟨td,rfl⟩:=ry;obtain⟨its,rv,pl,_⟩:=I.list hq;have hi:=rU rv;have hn:its.length=ns.length:=by have:=rv.length;simpa using this.symm
 have hl:=pl.isList;have hlt:p<s.heap.objs.size:=let ⟨_,e,_⟩:=hl;uC e
 have hs:(toString "max" ++ toString ".loop" : String) = "max.loop":=by decide
 refine yu F.kind_max F.plain_max F.entry_max (Ir _ _) ?_;show wpAny _ _ (Builtin.Builtins.bindParams "max" ["key","default"] 0 ⟨[],[(("default" : Str),Value.int d td)]⟩ >>= _) _ _ s;refine zI (wpAny_of_eq (show Builtin.Builtins.bindParams "max" ["key","default"] 0 ⟨[],[(("default" : Str),Value.int d td)]⟩=pure [none,some (.int d td)] from rfl) ?_);refine zI (oB ?_);refine zI (wpAny_pyIter_list hl ?_);refine zI (wpAny_newObj_type ?_);rw[hs];have W:=Walks.list (prog:=X.prog) (w:=X.w) (A:=X.A.in1) (I.ok.hd hc) s.heap.objs.size p (gE hlt) its.toArray;rw[show its.toArray.size=ns.length by rw[nX];exact hn] at W;refine wpAny_pure ⟨plainId_quiet F.plain_max_loop _,Qf (d:=d) (td:=td) W (λi v hP=>jV hi (by simpa using hP)) _ (λz=>?_) (W.frame _ _ _ ⟨⟨_,Heap.get?_push_size _ rfl,rfl,rfl⟩,hl.push _⟩ λb _ ob e=>Heap.get?_push_of_some _ e) (λ_=>rfl) (Heap.get?_push_size _ rfl) λh' tk t' hk=>?_⟩
 ·rcases jS.mp z with z|z
  ·exact gS z (by rw[size_push'];exact Nat.succ_ne_self _)
  ·exact gS (rV.mp z) (by rw[size_push'];exact Nat.ne_of_gt (nV hlt))
 ·have e:(if ns=[] then d else fH (ns.getD 0 0) ns)=fH d ns:=by
   by_cases h0:ns=[]
   ·rw[yB h0,h0];rfl
   ·rw[yT h0,Ip hd h0]
  rw[e];refine⟨.int _,H,I.kept λb ob q=>?_,⟨_,rfl⟩,by assumption⟩;have hb:b<s.heap.objs.size:=uC q;exact hk b ob (λz=>gS (rV.mp z) (gE hb)) (by rw[size_push'];exact gE (nV hb)) (uS _ (uS _ q))
end
theorem cC{CX:CXT}{P:Program}{w:World}{K:W.Frag}{mg:xC}{base:Heap}{N:List Str}{q:Str}{sc:Scope}{f:Addr}{cdv:Value}{A:Around}{outer:List Env}{s:Shared}{H:Hp}{E:XK}:(iV CX P w K mg base N q sc f cdv A outer s H E).nox.K=K:=rfl
theorem bI{CX:CXT}{P:Program}{w:World}{K:W.Frag}{mg:xC}{base:Heap}{N:List Str}{q:Str}{sc:Scope}{f:Addr}{cdv:Value}{A:Around}{outer:List Env}{s:Shared}{H:Hp}{E:XK}:(iV CX P w K mg base N q sc f cdv A outer s H E).K=K:=rfl
section
variable{o:Expr}{to tl th:TE}
def Tw(to tl th:TE):TG:=λv σ H Q=>to σ H λo H1=>tl σ H1 λa H2=>th σ H2 λc H3=>∃(l b:Addr)(xs ys:List V)(i j:Int),o=.ref l/\v=.ref b/\a=.int i/\c=.int j/\H3 l=some (.lst xs)/\H3 b=some (.lst ys)/\l≠b /\
 0<=i/\i<=j/\j<=xs.length/\xs.length+ys.length<=sizeLine/\∀H',Off l H3 H'->H' l=some (.lst (xs.take i.toNat++ys++xs.drop j.toNat))->Q σ H'
theorem KZ{v:V}{σ:St}{H:Hp}{Q:St->Hp->Prop}(h:to σ H λo H1=>tl σ H1 λa H2=>th σ H2 λc H3=>∃(l b:Addr)(xs ys:List V)(i j:Int),o=.ref l/\v=.ref b/\a=.int i/\c=.int j/\H3 l=some (.lst xs)/\H3 b=some (.lst ys)/\l≠b /\
 0<=i/\i<=j/\j<=xs.length/\xs.length+ys.length<=sizeLine/\∀H',Off l H3 H'->H' l=some (.lst (xs.take i.toNat++ys++xs.drop j.toNat))->Q σ H'):Tw to tl th v σ H Q:=h
theorem Wr{l b:Addr}{xs ys:List V}{i j:Int}{H:Hp}{R:Hp->Prop}(e1:H l=some (.lst xs))(e2:H b=some (.lst ys))(ne:l≠b)(h0:0<=i)(h1:i<=j)(h2:j<=xs.length)(hz:xs.length+ys.length<=sizeLine)
  (k:∀H',Off l H H'->H' l=some (.lst (xs.take i.toNat++ys++xs.drop j.toNat))->R H'):∃(l' b':Addr)(xs' ys':List V)(i' j':Int),V.ref l=.ref l'/\V.ref b=.ref b'/\V.int i=.int i'/\V.int j=.int j'/\H l'=some (.lst xs')/\H b'=some (.lst ys')/\l'≠b' /\
 0<=i'/\i'<=j'/\j'<=xs'.length/\xs'.length+ys'.length<=sizeLine/\∀H',Off l' H H'->H' l'=some (.lst (xs'.take i'.toNat++ys'++xs'.drop j'.toNat))->R H':=⟨l,b,xs,ys,i,j,rfl,rfl,rfl,rfl,e1,e2,ne,h0,h1,h2,hz,k⟩
end
def Hs(H:Hp)(a:Addr):Prop:=∃u,H a=some u
section
variable{H H':Hp}{a p:Addr}{o u:HO}
theorem Hs.of(h:H a=some u):Hs H a:=⟨u,h⟩
theorem New.hs(n:New H H' p o):Hs H' p:=⟨o,n.e⟩
end
section
variable{H:Hp}{Q:VK}{K:W.Frag}{l b:Addr}{xs ys:List V}{y:V}{σ:St}
theorem RB{R:Prop}(h:SqL K H l xs)(k:R):tyV K "list" (.ref l) H/\R:=⟨.inl ⟨rfl,_,h⟩,k⟩
theorem RD(h:H l=some (.lst xs))(z:xs.length<sizeLine)(k:∀H',Off l H H'->H' l=some (.lst (xs++[y]))->Q .non H'):Fl (.ref l) [y] H Q:=⟨l,xs,y,rfl,rfl,h,z,k⟩
theorem Ws(h:H l=some (.lst xs))(e:H b=some (.lst ys))(z:xs.length+ys.length<=sizeLine)(k:∀H',Off l H H'->H' l=some (.lst (xs++ys))->Q .non H'):FN (.ref l) [.ref b] H Q:=⟨l,b,xs,ys,rfl,rfl,h,e,z,k⟩
theorem RG{lo hi:Option Int}(h:SqL K H l xs)(k:∀p H',New H H' p (.lst (rE xs lo hi))->Q (.ref p) H'):Tq K (.ref l) lo hi H Q:=⟨l,xs,rfl,h,k⟩
theorem K1(h:H l=some (.lst xs))(e:H b=some (.lst ys))(z:xs.length+ys.length<=sizeLine)(k:∀p H',New H H' p (.lst (xs++ys))->Q (.ref p) H'):J4 (.ref l) (.ref b) H Q:=⟨l,b,xs,ys,rfl,rfl,h,e,z,k⟩
theorem K4{n:Nat}(h:H l=some (.lst [y]))(z:n<=1000000)(k:∀p H',New H H' p (.lst (List.replicate n y))->Q (.ref p) H'):J5 (.ref l) (.int (n:Int)) H Q :=
 ⟨l,n,[y],rfl,rfl,h,by lia,by lia,by simp only[List.length_singleton,Int.toNat_natCast,Nat.one_mul];exact cO z,λp H' q=>k p H' (by
  have e:(List.replicate ((n:Int).toNat) [y]).flatten=List.replicate n y:=by
   rw[Int.toNat_natCast];clear z q k h
   induction n with
   | zero=>rfl
   | succ n ih=>rw[List.replicate_succ,List.flatten_cons,ih];rfl
  rw[<- e];exact q)⟩
theorem w_sumL{ns:List Int}(h:SqL K H l (ns.map V.int))(hb:∀n∈ns,0<=n/\n<=1000000)(hz:ns.length<=1000000)(k:Q (.int ns.sum) H):Ry K [.ref l] H Q:=⟨l,ns,rfl,h,hb,hz,k⟩
theorem DK{ns:List Int}{d:Int}(h:SqL K H l (ns.map V.int))(hd:∀n∈ns,d<=n)(k:Q (.int (fH d ns)) H):Rz K [.ref l] (.int d) H Q:=⟨l,ns,d,rfl,rfl,h,hd,k⟩
theorem Tz{C dx:Addr}{fs:List (Str×V)}{m:Str}{R:Prop}(h:H l=some (.ins C dx fs))(e:fs.lookup m=none)(k:R):∃a' dx' fs',V.ref l=.ref a'/\H a'=some (.ins C dx' fs')/\fs'.lookup m=none/\R:=⟨l,dx,fs,rfl,h,e,k⟩
theorem Wt{x y:V}{r:List V}:atI (x::y::r) 1=some y:=gO (j:=1) rfl
theorem Wu{x y z:V}{r:List V}:atI (x::y::z::r) 2=some z:=gO (j:=2) rfl
theorem Wv{x y z w:V}{r:List V}:atI (x::y::z::w::r) 3=some w:=gO (j:=3) rfl
theorem Ww{A B:Prop}(k:A):if (true:Bool)=true then A else B:=by rw[yB rfl];exact k
theorem Wx{A B:Prop}(k:B):if (false:Bool)=true then A else B:=by rw[yT (by decide)];exact k
theorem RJ{A B:Prop}(k:B):if (!true:Bool)=true then A else B:=by rw[yT (by decide)];exact k
theorem RK{A B:Prop}(k:A):if (!false:Bool)=true then A else B:=by rw[yB (by decide)];exact k
theorem K5(h:H l=some (.tup xs))(k:Q (.bl true) H):rR K [.ref l,.ty "tuple"] H Q:=w_is (.tup h) (JQ (.tup h)) k
theorem K6(h:H l=some (.lst xs))(k:Q (.bl true) H):rR K [.ref l,.ty "list"] H Q:=w_is (.lst h) (Pu (.lst h)) k
theorem K7{i:Int}(k:Q (.bl false) H):rR K [.int i,.ty "bool"] H Q:=w_is (dN.int (K:=K) (H:=H) i) (yh (dN.int (K:=K) (H:=H) i)) k
theorem K8{b:Bool}(k:Q (.bl true) H):rR K [.bl b,.ty "bool"] H Q:=w_is (dN.bl (K:=K) (H:=H) b) (yh (dN.bl (K:=K) (H:=H) b)) k
theorem rW{n:Nat}(h:n<1000000):n<sizeLine:=qV h (cO (rS _))
theorem K9{n i0 i1:Nat}{a b:V}{R:St->Hp->Prop}(hn:n=2)(hp:SqT K H l [a,b])(h:bT i0 a σ H λσ1 H1=>bT i1 b σ1 H1 R):Ht K n (jO (bT i0) (jO (bT i1) Hr)) (.ref l) σ H R:=by
 subst hn;exact Kz hp h
theorem Wy{i:Int}(h:SqL K H l xs)(h0:0<=i)(h1:i<xs.length)(k:∀v∈xs,Q v H):O6 K (.ref l) (.int i) H Q:=let ⟨v,e,m⟩:=JR h0 h1;Ko h e (k v m)
theorem gA{rows:List (List V)}{i:Nat}{v:V}(h:aB H xs rows)(e:xs[i]?=some v):∃r q,rows[i]?=some r/\v=.ref q/\H q=some (.tup r):=by
 have hi:i<rows.length:=by rw[<- h.1];exact(qE.mp e).1
 obtain⟨q,e1,e2⟩:=h.2 i rows[i] (by simp);rw[e] at e1;exact⟨rows[i],q,by simp,Option.some.inj e1,e2⟩
theorem vU{te:TE}{fr:List Nat}{fvs:St}{rows:List (List V)}{F:List V->V}(hq:H l=some (.lst xs))(tp:aB H xs rows)(hz:xs.length<=1000000)(hf:(fr.map λi=>(σ[i]?).getD none)=fvs)
  (turn:∀(q:Addr)(r:List V)(H':Hp)(R:VK),r∈rows->Same H H'->H' q=some (.tup r)->(∀H2,Same H' H2->R (F r) H2)->te (some (.ref q)::fvs) H' R)
  (k:∀p H',New H H' p (.lst (rows.map F))->Q (.ref p) H'):eE (Itl K l) 1 fr (bT 0) qb te σ H Q:=by
 refine comp_map (P:=λi y=>∃r,rows[i]?=some r/\y=F r) (jz (xs:=xs)) hz hf (λH' s=>s.seq (SqL.of hq)) (λi v H' R hv s kk=>?_) λp H' ys n hl hP=>k p H' ?_
 ·obtain⟨r,q,e1,rfl,e2⟩:=gA tp hv;exact turn q r H' R (wE e1) s (s _ _ e2) λH2 s2=>kk _ _ s2 ⟨r,e1,rfl⟩
 ·have e:ys=rows.map F:=by
   apply List.ext_getElem?
   intro i;rw[vE];by_cases hi:i<ys.length
   ·obtain⟨r,e1,e2⟩:=hP i ys[i] (by simp);rw[e1,qS hi,e2]
    rfl
   ·have:¬ i<rows.length:=by rw[<- tp.1];lia
    rw[zzC (by lia),zzC (by lia)]
    rfl
  rw[e] at n;exact n
end
section
variable{K:W.Frag}{g:TG}{tb:TS}{D:Ends}{σ:St}{H:Hp}{tr:TA}
def K_(lo:Int)(n:Nat)(g:TG)(tb:TS)(D:Ends)(σ:St)(H:Hp):Prop:=∃W:Nat->Nat->St->Hp->Prop,(∃m,W 0 m σ H)/\∀i m σ H,W i m σ H ->
 ((Itr lo n).stop i H/\D.nx σ H)\/((Itr lo n).go i H/\∃N:St->Hp->Prop,(∀σ' H',N σ' H'->∃m',m'<m/\W (i+1) m' σ' H')/\∀x H',(Itr lo n).yld i H x H'->g x σ H' λσ2 H2=>tb { D with nx:=N,ct:=N,bk:=D.nx } σ2 H2)
theorem FQ(h:tr σ H λvs H1=>∃j:Int,vs=[.int j]/\-(2 ^ 62)<=j/\j<2 ^ 62/\K_ 0 j.toNat g tb D σ H1):Jq (Jp tr) g tb D σ H:=h
theorem ZG{a:Addr}{xs:List V}(h:SqL K H a xs)(k:Dy K a g tb D σ H):∃a',V.ref a=.ref a'/\(∃xs,SqL K H a' xs)/\Dy K a' g tb D σ H:=⟨a,rfl,⟨xs,h⟩,k⟩
theorem TF{a:Addr}{xs:List V}{nt:Nat}{fr:List Nat}{c:TT}{te:TE}{Q:VK}(h:SqL K H a xs)(k:eE (Itl K a) nt fr g c te σ H Q):∃a',V.ref a=.ref a'/\(∃xs,SqL K H a' xs)/\eE (Itl K a') nt fr g c te σ H Q:=⟨a,rfl,⟨xs,h⟩,k⟩
end
section
variable{K:W.Frag}{σ:St}{H:Hp}{Q:VK}{ta tv:TE}{t:TA}{f m:Str}{C:Addr}{sp:Sp}{E:XK}{D:Ends}
def Qg(K:W.Frag)(f:Str)(y x:V)(H:Hp)(R:Hp->Prop):Prop:=∃a C dx fs,x=.ref a/\H a=some (.ins C dx fs)/\Cls K C/\cX K C f/\fs.length<1000/\R (upd H a (.ins C dx (fL f y fs)))
theorem Aa(h:tv σ H λy H1=>ta σ H1 λx H2=>Qg K f y x H2 λH3=>D.nx σ H3):S8 K ta tv f D σ H:=h
theorem TJ{l dx:Addr}{fs:List (Str×V)}{y:V}{R:Hp->Prop}(ho:H l=some (.ins C dx fs))(c:Cls K C)(n:cX K C f)(z:fs.length<1000)(k:∀H',Off l H H'->H' l=some (.ins C dx (fL f y fs))->R H'):Qg K f y (.ref l) H R :=
 ⟨l,C,dx,fs,rfl,ho,c,n,z,k _ Off.upd bx⟩
def DN(C:Addr)(sp:Sp)(E:XK)(t:TA):TE:=λσ H Q=>t σ H λvs H1=>∀x dx H2,New H1 H2 x (.ins C dx [])->sp (.ref x::vs) H2 (λv H3=>v=.non/\Q (.ref x) H3) E
theorem Ab(h:t σ H λvs H1=>∀x dx H2,New H1 H2 x (.ins C dx [])->sp (.ref x::vs) H2 (λv H3=>v=.non/\Q (.ref x) H3) E):DN C sp E t σ H Q:=h
theorem Ac(h:ta σ H λx H1=>∃a dx fs,x=.ref a/\H1 a=some (.ins C dx fs)/\fs.lookup m=none/\t σ H1 λvs H2=>sp (x::vs) H2 Q E):vg C m sp [] E ta t σ H Q:=by
 have e:(λ(x:V) (H1:Hp)=>∃a dx fs,x=.ref a/\H1 a=some (.ins C dx fs)/\fs.lookup m=none/\t σ H1 λvs H2=>sp (x::(vs++[])) H2 Q E)=λx H1=>∃a dx fs,x=.ref a/\H1 a=some (.ins C dx fs)/\fs.lookup m=none/\t σ H1 λvs H2=>sp (x::vs) H2 Q E:=by
  simp only[List.append_nil]
 show ta σ H λx H1=>∃a dx fs,x=.ref a/\H1 a=some (.ins C dx fs)/\fs.lookup m=none/\t σ H1 λvs H2=>sp (x::(vs++[])) H2 Q E
 rw[e];exact h
end
section
variable{X:Cx}{CX:CXT}{k m:Nat}{x:Str}{ps:List Str}{sp:Sp}{E:XK}{p pos:Pos}{e:Expr}{es:List Expr}{t:TA}{C:Addr}
theorem FT(D:Mak X.prog X.w X.K X.mg X.base CX k x C ps sp)(hr:Room m X.A)(ha:PA X (e::es) t)(hk:k+1<=m:=by decide)(hx:Passes CX X E:=by exact vG)(hg:Gl X x:=by rfl)
  (hdb:(x==("__debug__" : Str))=false:=by decide) (he:starEach (e::es) X.env=(false,eval e X.env)::starEach es X.env:=by rfl) (hpl:(backTo pos (starEach es X.env)).any (·.1)=false:=by rfl) :
  PE X (.Call (.Name x p) (e::es) [] pos) (DN C sp E t):=by
 obtain⟨f,fd,F,M,g,b⟩:=D.ex;intro pins s σ H Q I h;refine wpAny_Call_Name_kw (kO I hg g ?_ hdb);refine W.callWith_K (h₀:=X.base) I.ok.mod.kin M.kp (thn (ha pos pins s σ H _ I h) λus s1 ⟨vs,H1,I1,r,q⟩=>⟨I1.kIn,?_⟩) he hpl;refine JD M F (hr.mono hk) b .nil hx I1 r λy dy h1 h2 h3=>?_
 rw[mP];exact q y dy _ ⟨Io h1 h2,bx,λa u z=>aQ z h1⟩
end
def qD:V->Int->Bool
 | .int i,lo=>decide (lo<=i)
 | _,_=>false
def inB:V->Int->Int->Bool
 | .int i,lo,hi=>decide (lo<=i) && decide (i<=hi)
 | _,_,_=>false
section
variable{K:W.Frag}{H:Hp}{Q:VK}{E:XK}{x:V}{n:String}{p q:Addr}{a b lo hi:Int}
def jX(K:W.Frag):Sp:=λvs H Q _=>∃x n,vs=[x]/\dN K H x (.type n)/\Q (.bl (isW x)) H
theorem yw(ty:dN K H x (.type n))(k:Q (.bl (isW x)) H):jX K [x] H Q E:=⟨x,n,rfl,ty,k⟩
def g_(K:W.Frag):Sp:=λvs H Q _=>∃x n lo,vs=[x,.int lo]/\dN K H x (.type n)/\Q (.bl (qD x lo)) H
theorem TQ(ty:dN K H x (.type n))(k:Q (.bl (qD x lo)) H):g_ K [x,.int lo] H Q E:=⟨x,n,lo,rfl,ty,k⟩
theorem Qh(k:Q (.bl (decide (lo<=a))) H):g_ K [.int a,.int lo] H Q E:=⟨_,_,lo,rfl,.int _,k⟩
def nM(K:W.Frag):Sp:=λvs H Q _=>∃x n lo hi,vs=[x,.int lo,.int hi]/\dN K H x (.type n)/\Q (.bl (inB x lo hi)) H
theorem La(ty:dN K H x (.type n))(k:Q (.bl (inB x lo hi)) H):nM K [x,.int lo,.int hi] H Q E:=⟨x,n,lo,hi,rfl,ty,k⟩
def rY(K:W.Frag):Sp:=λvs H Q _=>∃x n,vs=[x]/\dN K H x (.type n)/\Q (.bl (inB x 16 240)) H
def oZ:Sp:=λvs H Q _=>∃(q:Addr)(a b:Int),vs=[.ref q]/\H q=some (.tup [.int a,.int b])/\Q (.int (a+b)) H
theorem Wz(h:H q=some (.tup [.int a,.int b]))(k:Q (.int (a+b)) H):oZ [.ref q] H Q E:=⟨q,a,b,rfl,h,k⟩
def au(ws:xD):List (List V):=ws.map λw=>[V.int (w.1:Nat),V.int (w.2:Nat)]
def bO(ws:xD):List Int:=ws.map λw=>((w.2:Nat):Int)
theorem aA(ws:xD):(au ws).length=ws.length:=wS ..
def rZ:Sp:=λvs H Q _=>∃(p:Addr)(ys:List V)(ws:xD),vs=[.ref p]/\H p=some (.lst ys)/\aB H ys (au ws)/\ws.length<=1000/\∀H',Same H H'->Q (.int (fH 0 (bO ws))) H'
def Ad:Sp:=λvs H Q _=>∃(p:Addr)(ys:List V)(ws:xD),vs=[.ref p]/\H p=some (.lst ys)/\aB H ys (au ws)/\ws.length<=1000/\(∀w∈ws,w.2<=1000)/\∀H',Same H H'->Q (.int (bO ws).sum) H'
end
section
variable{K:W.Frag}{g:TG}{tb:TS}{D:Ends}{σ:St}{H H':Hp}{Q:VK}{l p q:Addr}{xs ys:List V}{rows:List (List V)}
theorem Ae{n:Nat}(Pv:Nat->St->Hp->Prop)(h0:Pv 0 σ H)(hs:∀i σ H,i<n->Pv i σ H->g (.int i) σ H λσ2 H2=>tb { D with nx:=Pv (i+1),ct:=Pv (i+1),bk:=D.nx } σ2 H2)(hd:∀σ H,Pv n σ H->D.nx σ H):K_ 0 n g tb D σ H :=
 Hx Pv h0 (λi σ H hi h=>by rw[Int.zero_add];exact hs i σ H hi h) hd
theorem su{te:TE}{n:Nat}{fr:List Nat}{fvs:St}{F:List V->V}(hq:H l=some (.lst xs))(tp:aB H xs rows)(hn:n=2)(h2:∀r∈rows,∃a b,r=[a,b])(hz:xs.length<=1000000)(hf:(fr.map λi=>(σ[i]?).getD none)=fvs)
  (turn:∀(a b:V)(H':Hp)(R:VK),[a,b]∈rows->Same H H'->(∀H2,Same H' H2->R (F [a,b]) H2)->te (some a::some b::fvs) H' R)
  (k:∀p H',New H H' p (.lst (rows.map F))->Q (.ref p) H'):eE (Itl K l) 2 fr (Ht K n (jO (bT 0) (jO (bT 1) Hr))) qb te σ H Q:=by
 subst hn;refine Il (P:=λi y _=>∃r,rows[i]?=some r/\y=F r) (jz (xs:=xs)) hz hf (λH' s=>s.seq (SqL.of hq)) (λi y H1 H2 h _=>h) (λi v tv H' hv s htv=>?_) λp H' zs n hl hP=>k p H' ?_
 ·obtain⟨r,q,e1,rfl,e2⟩:=gA tp hv;obtain⟨a,b,rfl⟩:=h2 r (wE e1);obtain⟨t0,t1,rfl⟩:∃t0 t1,tv=[t0,t1]:=by
   match tv,htv with
   | [t0,t1],_=>exact⟨t0,t1,rfl⟩
  refine⟨[some a,some b],some a::some b::fvs,rfl,rfl,λR2 hR=>?_,λR kk=>turn a b H' R (wE e1) s λH2 s2=>kk _ _ s2 ⟨_,e1,rfl⟩⟩;exact Kz (SqT.of (s _ _ e2)) hR
 ·have e:zs=rows.map F:=by
   apply List.ext_getElem?
   intro i;rw[vE];by_cases hi:i<zs.length
   ·obtain⟨r,e1,e2⟩:=hP i zs[i] (by simp);rw[e1,qS hi,e2]
    rfl
   ·have:¬ i<rows.length:=by rw[<- tp.1];lia
    rw[zzC (by lia),zzC (by lia)]
    rfl
  rw[e] at n;exact n
theorem aB.snoc{r:List V}(h:aB H ys rows)(hq:H q=some (.tup r)):aB H (ys++[.ref q]) (rows++[r]):=by
 refine⟨by rw[yY,yY,h.1];rfl,λj s z=>?_⟩;by_cases hj:j<rows.length
 ·rw[wP hj] at z;obtain⟨x,e1,e2⟩:=h.2 j s z;exact⟨x,by rw[wP (by rw[h.1];exact hj)];exact e1,e2⟩
 ·have hj2:j=rows.length:=by
   have:=(qE.mp z).1;rw[yY,List.length_singleton] at this
   lia
  subst hj2;rw[nK (rS _),Nat.sub_self] at z;cases z;exact⟨q,by rw[<- h.1,nK (rS _),Nat.sub_self];rfl,hq⟩
theorem DP(ws:xD):∀r∈au ws,∀v∈r,gJ v=true:=by
 intro r hr v hv;obtain⟨x,_,rfl⟩:=qA.mp hr;simp only[List.mem_cons,List.not_mem_nil,or_false] at hv;rcases hv with rfl|rfl <;> rfl
end
theorem Af{K:W.Frag}{l:Addr}{σ:St}{H:Hp}{xs:List V}{c:TT}{Q:VK}{fr:List Nat}{fvs:St}{p:V->Bool}(hq:SqL K H l xs)(hz:xs.length<=1000000)(hf:(fr.map λi=>(σ[i]?).getD none)=fvs)
  (turn:∀(v:V)(H':Hp)(R:Bool->Hp->Prop),v∈xs->Same H H'->(∀H2,Same H' H2->R (p v) H2)->c (some v::fvs) H' R)
  (k:∀l H',New H H' l (.lst (xs.filter p))->Q (.ref l) H'):eE (Itl K l) 1 fr (bT 0) c (gF 0) σ H Q:=by
 have:=Ij (σ:=σ) (H:=H) (wi:=λ_ H R=>R (Itl K l) H) (J:=Itl K l) (c:=c) (Q:=Q) (fr:=fr) (fvs:=fvs) (p:=p) hz hf (jz (K:=K) (a:=l) (xs:=xs)) (λR h=>h) (λH' s=>s.seq hq) (λi v H' R hv s kk=>turn v H' R (wE hv) s kk) k;exact this
def isTup:HO->Bool
 | .tup _=>true
 | .frz _ _=>true
 | _=>false
def Tst(H H':Hp):Prop:=∀q u,isTup u=true->H q=some u->H' q=some u
inductive Im where
 | tup (q:Addr) (r:List V)
 | tps (ys:List V) (rs:List (List V))
 | fct (φ:Hp->Prop) (st:∀H H',Tst H H'->φ H->φ H')
def Im.holds(H:Hp):Im->Prop
 | .tup q r=>H q=some (.tup r)
 | .tps ys rs=>aB H ys rs
 | .fct φ _=>φ H
theorem Im.stay{H H':Hp}(t:Tst H H'):∀{f:Im},f.holds H->f.holds H'
 | .tup q r,h=>t q _ rfl h
 | .tps ys rs,h=>⟨h.1,λj r e=>let ⟨q,a,b⟩:=h.2 j r e;⟨q,a,t q _ rfl b⟩⟩
 | .fct φ st,h=>st H H' t h
class SH(H0:outParam Hp)(M:outParam (List Addr))(H:Hp)(L:outParam (List (Addr×HO)))(I:outParam (List Im)):Prop where
 fr:∀b u,b ∉ M->H0 b=some u->H b=some u
 im:∀f∈I,f.holds H
 at':∀c∈L,H c.1=some c.2
 nd:(L.map (·.1)).Nodup
 mu:∀c∈L,isTup c.2=false
 ch:∀c∈L,c.1∈M\/∀b u,H0 b=some u->b≠c.1
inductive Up(l:Addr)(o':HO):List (Addr×HO)->List (Addr×HO)->Prop
 | head {o:HO} {L:List (Addr×HO)}:Up l o' ((l,o)::L) ((l,o')::L)
 | tail {c:Addr×HO} {L L':List (Addr×HO)} (h:Up l o' L L'):Up l o' (c::L) (c::L')
theorem Up.keys{l:Addr}{o':HO}{L L':List (Addr×HO)}(h:Up l o' L L'):L'.map (·.1)=L.map (·.1):=by
 induction h with
 | head=>rfl
 | tail h ih=>rw[nI,nI,ih]
theorem Up.mem{l:Addr}{o':HO}{L L':List (Addr×HO)}(h:Up l o' L L'):l∈L.map (·.1):=by
 induction h with
 | head=>exact zC
 | tail h ih=>exact zD _ ih
theorem Up.each{l:Addr}{o':HO}{L L':List (Addr×HO)}(h:Up l o' L L')(nd:(L.map (·.1)).Nodup):∀c∈L',c=(l,o')\/(c∈L/\c.1≠l):=by
 induction h with
 | @head o L =>
  intro c hc;rcases jS.mp hc with rfl|hc
  ·exact .inl rfl
  ·refine .inr ⟨zD _ hc,λz=>?_⟩;rw[nI] at nd;exact(List.nodup_cons.mp nd).1 (by show l∈_;rw[<- z];exact List.mem_map_of_mem (f:=(·.1)) hc)
 | @tail d L L' h ih =>
  intro c hc;rw[nI] at nd;have nd':=List.nodup_cons.mp nd;rcases jS.mp hc with rfl|hc
  ·exact .inr ⟨zC,λz=>nd'.1 (z▸h.mem)⟩
  ·rcases ih nd'.2 c hc with e|⟨e1,e2⟩
   ·exact .inl e
   ·exact .inr ⟨zD _ e1,e2⟩
theorem Up.src{l:Addr}{o':HO}{L L':List (Addr×HO)}(h:Up l o' L L'):∃o,(l,o)∈L:=by
 induction h with
 | head=>exact⟨_,zC⟩
 | tail h ih=>obtain⟨o,ho⟩:=ih;exact⟨o,zD _ ho⟩
inductive Pk(c:Addr×HO):List (Addr×HO)->List (Addr×HO)->Prop
 | head {L:List (Addr×HO)}:Pk c (c::L) L
 | tail {d:Addr×HO} {L R:List (Addr×HO)} (h:Pk c L R):Pk c (d::L) (d::R)
inductive Sb:List (Addr×HO)->List (Addr×HO)->Prop
 | nil {L:List (Addr×HO)}:Sb [] L
 | cons {c:Addr×HO} {L' L R:List (Addr×HO)} (h:Pk c L R) (t:Sb L' R):Sb (c::L') L
theorem Pk.mem{c:Addr×HO}{L R:List (Addr×HO)}(h:Pk c L R):c∈L/\∀d∈R,d∈L:=by
 induction h with
 | head=>exact⟨zC,λd hd=>zD _ hd⟩
 | tail h ih =>
  refine⟨zD _ ih.1,λd hd=>?_⟩;rcases jS.mp hd with rfl|hd
  ·exact zC
  ·exact zD _ (ih.2 d hd)
theorem Pk.nd{c:Addr×HO}{L R:List (Addr×HO)}(h:Pk c L R)(nd:(L.map (·.1)).Nodup):(R.map (·.1)).Nodup/\∀d∈R,d.1≠c.1:=by
 induction h with
 | head =>
  rw[nI] at nd;have:=List.nodup_cons.mp nd;exact⟨this.2,λd hd z=>this.1 (z▸List.mem_map_of_mem hd)⟩
 | @tail d L R h ih =>
  rw[nI] at nd;have nd':=List.nodup_cons.mp nd;obtain⟨i1,i2⟩:=ih nd'.2;refine⟨by
   rw[nI,List.nodup_cons];refine⟨λz=>?_,i1⟩;obtain⟨x,hx,ex⟩:=qA.mp z;exact nd'.1 (ex▸List.mem_map_of_mem (h.mem.2 x hx)),λx hx=>?_⟩
  rcases jS.mp hx with rfl|hx
  ·exact λz=>nd'.1 (z▸List.mem_map_of_mem h.mem.1)
  ·exact i2 x hx
theorem Sb.mem{L' L:List (Addr×HO)}(h:Sb L' L):∀c∈L',c∈L:=by
 induction h with
 | nil=>intro c hc;cases hc
 | cons h t ih =>
  intro c hc;rcases jS.mp hc with rfl|hc
  ·exact h.mem.1
  ·exact h.mem.2 c (ih c hc)
theorem Sb.nd{L' L:List (Addr×HO)}(h:Sb L' L):(L.map (·.1)).Nodup->(L'.map (·.1)).Nodup:=by
 induction h with
 | nil=>intro _;exact List.nodup_nil
 | cons h t ih =>
  intro nd;obtain⟨n1,n2⟩:=h.nd nd;rw[nI,List.nodup_cons];refine⟨λz=>?_,ih n1⟩;obtain⟨x,hx,ex⟩:=qA.mp z;exact n2 x (t.mem x hx) ex
section
variable{H0 H H':Hp}{M:List Addr}{L L':List (Addr×HO)}{I I':List Im}{p q l a:Addr}{o o' u:HO}{xs ys r:List V}{rs:List (List V)}{K:W.Frag}
theorem SH.nil:SH H M H [] []:=⟨λ_ _ _ h=>h,(λ_ h=>by cases h),(λ_ h=>by cases h),List.nodup_nil,(λ_ h=>by cases h),(λ_ h=>by cases h)⟩
theorem SH.jh(F:SH H0 M H0 L I)(hm:p∈M)(h:H0 p=some o)(ht:isTup o=false)(ne:∀c∈L,c.1≠p):SH H0 M H0 ((p,o)::L) I:=by
 refine⟨F.fr,F.im,?_,?_,?_,?_⟩
 ·intro c hc;rcases jS.mp hc with rfl|hc
  ·exact h
  ·exact F.at' c hc
 ·rw[nI,List.nodup_cons];refine⟨λz=>?_,F.nd⟩;obtain⟨x,hx,ex⟩:=qA.mp z;exact ne x hx ex
 ·intro c hc;rcases jS.mp hc with rfl|hc
  ·exact ht
  ·exact F.mu c hc
 ·intro c hc;rcases jS.mp hc with rfl|hc
  ·exact .inl hm
  ·exact F.ch c hc
theorem SH.DQ(F:SH H0 M H L I)(h:H q=some (.tup r)):SH H0 M H L (.tup q r::I):=⟨F.fr,λf hf=>by
 rcases jS.mp hf with rfl|hf
 ·exact h
 ·exact F.im f hf,F.at',F.nd,F.mu,F.ch⟩
theorem SH.bQ(F:SH H0 M H L I)(h:aB H ys rs):SH H0 M H L (.tps ys rs::I):=⟨F.fr,λf hf=>by
 rcases jS.mp hf with rfl|hf
 ·exact h
 ·exact F.im f hf,F.at',F.nd,F.mu,F.ch⟩
theorem SH.nO{φ:Hp->Prop}{st:∀H H',Tst H H'->φ H->φ H'}(F:SH H0 M H L I)(h:φ H):SH H0 M H L (.fct φ st::I):=⟨F.fr,λf hf=>by
 rcases jS.mp hf with rfl|hf
 ·exact h
 ·exact F.im f hf,F.at',F.nd,F.mu,F.ch⟩
theorem SH.same(F:SH H0 M H L I)(s:Same H H'):SH H0 M H' L I:=⟨λb u n e=>s b u (F.fr b u n e),λf hf=>Im.stay (λq u _ e=>s q u e) (F.im f hf),λc hc=>s _ _ (F.at' c hc),F.nd,F.mu,F.ch⟩
theorem SH.newT(F:SH H0 M H L I)(n:New H H' q (.tup r)):SH H0 M H' L (.tup q r::I):=(F.same n.s).DQ n.e
theorem SH.WD(F:SH H0 M H L I)(n:New H H' p o)(ht:isTup o=false):SH H0 M H' ((p,o)::L) I:=by
 have F':=F.same n.s;refine⟨F'.fr,F'.im,?_,?_,?_,?_⟩
 ·intro c hc;rcases jS.mp hc with rfl|hc
  ·exact n.e
  ·exact F'.at' c hc
 ·rw[nI,List.nodup_cons];refine⟨λz=>?_,F.nd⟩;obtain⟨x,hx,ex⟩:=qA.mp z;exact n.n _ _ (F.at' x hx) ex
 ·intro c hc;rcases jS.mp hc with rfl|hc
  ·exact ht
  ·exact F.mu c hc
 ·intro c hc;rcases jS.mp hc with rfl|hc
  ·by_cases hm:p∈M
   ·exact .inl hm
   ·exact .inr λb u e z=>by
     by_cases hb:b∈M
     ·exact hm (by have z':b=p:=z;rw[<- z'];exact hb)
     ·exact n.n b u (F.fr b u hb e) z
  ·exact F.ch c hc
theorem SH.newL(F:SH H0 M H L I)(n:New H H' p (.lst xs)):SH H0 M H' ((p,.lst xs)::L) I:=F.WD n rfl
theorem SH.ZJ{C dx:Addr}{fs:List (Str×V)}(F:SH H0 M H L I)(n:New H H' p (.ins C dx fs)):SH H0 M H' ((p,.ins C dx fs)::L) I:=F.WD n rfl
theorem SH.newR(F:SH H0 M H L I)(n:New H H' p (.lst ys))(t:aB H' ys rs):SH H0 M H' ((p,.lst ys)::L) (.tps ys rs::I):=(F.newL n).bQ t
theorem SH.kp(F:SH H0 M H L I)(k:Kp l H H')(e:H' l=some o')(u:Up l o' L L')(ht:isTup o'=false:=by rfl):SH H0 M H' L' I:=by
 obtain⟨o,ho⟩:=u.src;have hl:=F.at' _ ho;have hu:=F.mu _ ho;refine⟨λb w nb e0=>k b w (λz=>?_) (F.fr b w nb e0),λf hf=>Im.stay (λq v hv e1=>k q _ (λz=>?_) e1) (F.im f hf),λc hc=>?_,by rw[u.keys];exact F.nd,λc hc=>?_,λc hc=>?_⟩
 ·rcases F.ch _ ho with h|h
  ·exact nb (by rw[z];exact h)
  ·exact h b w e0 z
 ·rw[z,hl] at e1;cases e1;rw[hu] at hv;cases hv
 ·rcases u.each F.nd c hc with rfl|⟨h1,h2⟩
  ·exact e
  ·exact k _ _ h2 (F.at' c h1)
 ·rcases u.each F.nd c hc with rfl|⟨h1,h2⟩
  ·exact ht
  ·exact F.mu c h1
 ·rcases u.each F.nd c hc with rfl|⟨h1,h2⟩
  ·exact F.ch (l,o) ho
  ·exact F.ch c h1
theorem SH.ZK(F:SH H0 M H L I)(f:Off l H H')(e:H' l=some (.lst xs))(u:Up l (.lst xs) L L'):SH H0 M H' L' I:=F.kp f.kp e u rfl
theorem SH.kpL(F:SH H0 M H L I)(f:Kp l H H')(e:H' l=some (.lst xs))(u:Up l (.lst xs) L L'):SH H0 M H' L' I:=F.kp f e u rfl
theorem SH.ZL{C dx:Addr}{fs:List (Str×V)}(F:SH H0 M H L I)(f:Off l H H')(e:H' l=some (.ins C dx fs))(u:Up l (.ins C dx fs) L L'):SH H0 M H' L' I:=F.kp f.kp e u rfl
theorem SH.raw(F:SH H0 M H L I)(m:(a,o)∈L):H a=some o:=F.at' _ m
theorem SH.tup(F:SH H0 M H L I)(m:.tup q r∈I):H q=some (.tup r):=F.im _ m
theorem SH.tps(F:SH H0 M H L I)(m:.tps ys rs∈I):aB H ys rs:=F.im _ m
theorem SH.old(F:SH H0 M H L I)(h:H0 a=some u)(n:a ∉ M):H a=some u:=F.fr a u n h
theorem SH.sq(F:SH H0 M H L I)(h:SqL K H0 a xs)(n:a ∉ M):SqL K H a xs:=by
 rcases h with(h|⟨o,h⟩)|h
 ·exact .inl (.inl (F.fr a _ n h))
 ·exact .inl (.inr ⟨o,F.fr a _ n h⟩)
 ·exact .inr h
theorem SH.sub(F:SH H0 M H L I)(s:Sb L' L)(t:∀f∈I',f∈I):SH H0 M H L' I':=⟨F.fr,λf hf=>F.im f (t f hf),λc hc=>F.at' c (s.mem c hc),s.nd F.nd,λc hc=>F.mu c (s.mem c hc),λc hc=>F.ch c (s.mem c hc)⟩
theorem SH.sm(F:SH H0 [] H L I):Same H0 H:=λb u e=>F.fr b u vS e
theorem SH.kpo(F:SH H0 [p] H L I):Kp p H0 H:=λb u n e=>F.fr b u (λz=>n (rV.mp z)) e
theorem SH.nw(F:SH H0 [] H L I)(m:(q,o)∈L):New H0 H q o:=⟨F.sm,F.at' _ m,λb u e=>by
 rcases F.ch _ m with h|h
 ·exact gS h vS
 ·exact h b u e⟩
theorem SH.fresh(F:SH H0 M H L I)(m:(q,o)∈L)(n:q ∉ M):∀b u,H0 b=some u->b≠q:=λb u e=>by
 rcases F.ch _ m with h|h
 ·exact gS h n
 ·exact h b u e
theorem nm0:a ∉ ([]:List Addr):=vS
theorem nm1(h:a≠p):a ∉ [p]:=λz=>h (rV.mp z)
theorem SH.app(F:SH H0 M H L I)(m:.tps ys rs∈I)(m':.tup q r∈I):SH H0 M H L (.tps (ys++[.ref q]) (rs++[r])::I):=F.bQ ((F.tps m).snoc (F.tup m'))
end
class Go(G:Prop)(G':outParam Prop):Prop where
 go:G'->G
theorem go1{G G':Prop}[h:Go G G'](k:G'):G:=h.go k
class LkL(L:List (Addr×HO))(a:Addr)(o:outParam HO):Prop where
 m:(a,o)∈L
class LkI(I:List Im)(a:Addr)(r:outParam (List V)):Prop where
 m:.tup a r∈I
class LkP(I:List Im)(ys:List V)(rs:outParam (List (List V))):Prop where
 m:.tps ys rs∈I
class LkU(L:List (Addr×HO))(l:Addr)(o:HO)(L':outParam (List (Addr×HO))):Prop where
 u:Up l o L L'
class Old(H0:Hp)(M:List Addr)(a:Addr)(o:outParam HO):Prop where
 e:H0 a=some o
 n:a ∉ M
class TV(K:W.Frag)(H0:Hp)(M:List Addr)(a:Addr)(xs:outParam (List V)):Prop where
 e:SqL K H0 a xs
 n:a ∉ M
class ji(H0:Hp)(ys:List V)(rs:outParam (List (List V))):Prop where
 e:aB H0 ys rs
class Hat(H:Hp)(a:Addr)(o:outParam HO):Prop where
 e:H a=some o
class SqA(K:W.Frag)(H:Hp)(a:Addr)(xs:outParam (List V)):Prop where
 e:SqL K H a xs
class SqB(K:W.Frag)(H:Hp)(a:Addr)(xs:outParam (List V)):Prop where
 e:SqT K H a xs
class TpA(H:Hp)(ys:List V)(rs:outParam (List (List V))):Prop where
 e:aB H ys rs
class AtI(xs:List V)(i:Int)(v:outParam V):Prop where
 e:atI xs i=some v
section
variable{H0 H H':Hp}{M:List Addr}{L L':List (Addr×HO)}{I:List Im}{a p l:Addr}{o o':HO}{c:Addr×HO}{f:Im}{r xs ys:List V}{rs:List (List V)}{K:W.Frag}{v v0 v1 v2:V}
instance abr[h:LkL L a o]:LkL (c::L) a o:=⟨zD _ h.m⟩
instance abt:LkL ((a,o)::L) a o:=⟨zC⟩
instance abu[h:LkI I a r]:LkI (f::I) a r:=⟨zD _ h.m⟩
instance abv:LkI (.tup a r::I) a r:=⟨zC⟩
instance abw[h:LkP I ys rs]:LkP (f::I) ys rs:=⟨zD _ h.m⟩
instance abx:LkP (.tps ys rs::I) ys rs:=⟨zC⟩
instance aby[h:LkU L l o L']:LkU (c::L) l o (c::L'):=⟨.tail h.u⟩
instance abA:LkU ((l,o')::L) l o ((l,o)::L):=⟨.head⟩
instance X6[F:SH H0 M H L I][h:Old H0 M a o]:Hat H a o:=⟨F.fr a o h.n h.e⟩
instance X7[F:SH H0 M H L I][h:LkI I a r]:Hat H a (.tup r):=⟨F.tup h.m⟩
instance X8[F:SH H0 M H L I][h:LkL L a o]:Hat H a o:=⟨F.raw h.m⟩
instance X_[F:SH H0 M H L I][h:TV K H0 M a xs]:SqA K H a xs:=⟨F.sq h.e h.n⟩
instance Yb[h:Hat H a (.lst xs)]:SqA K H a xs:=⟨.of h.e⟩
instance Yc[h:Hat H a (.tup xs)]:SqB K H a xs:=⟨.of h.e⟩
instance Yd{H0:Hp}{L:List (Addr×HO)}{I:List Im}[F:SH H0 [] H L I][h:ji H0 ys rs]:TpA H ys rs:=⟨h.e.same F.sm⟩
instance Ye[F:SH H0 M H L I][h:LkP I ys rs]:TpA H ys rs:=⟨F.tps h.m⟩
instance at0:AtI (v::r) 0 v:=⟨Ri⟩
instance at1:AtI (v0::v::r) 1 v:=⟨Wt⟩
instance at2:AtI (v0::v1::v::r) 2 v:=⟨Wu⟩
instance at3:AtI (v0::v1::v2::v::r) 3 v:=⟨Wv⟩
variable{Z:Addr->Hp->Prop}{R:Hp->Prop}{C dx:Addr}{fs:List (Str×V)}
instance ZM[F:SH H0 M H L I]:Go (∀p H',New H H' p (.tup xs)->Z p H') (∀H' p,SH H0 M H' L (.tup p xs::I)->Z p H'):=⟨λk p H' n=>k H' p (F.newT n)⟩
instance ZP[F:SH H0 M H L I]:Go (∀p H',New H H' p (.lst xs)->Z p H') (∀H' p,SH H0 M H' ((p,.lst xs)::L) I->Z p H'):=⟨λk p H' n=>k H' p (F.newL n)⟩
instance ZQ[F:SH H0 M H L I][u:LkU L l (.lst xs) L']:Go (∀H',Off l H H'->H' l=some (.lst xs)->R H') (∀H',SH H0 M H' L' I->R H'):=⟨λk H' f e=>k H' (F.ZK f e u.u)⟩
instance Yg[F:SH H0 M H L I][u:LkU L l (.ins C dx fs) L']:Go (∀H',Off l H H'->H' l=some (.ins C dx fs)->R H') (∀H',SH H0 M H' L' I->R H'):=⟨λk H' f e=>k H' (F.ZL f e u.u)⟩
instance Yh[F:SH H0 M H L I]:Go (∀H',Same H H'->R H') (∀H',SH H0 M H' L I->R H'):=⟨λk H' s=>k H' (F.same s)⟩
def Sd(A B:Prop):Prop:=A/\B
theorem sd{A B:Prop}(a:A)(b:B):Sd A B:=⟨a,b⟩
class aH(K:W.Frag)(C:Addr)(f:Str):Prop where
 c:Cls K C
 n:cX K C f
class FLk(fs:List (Str×V))(f:Str)(v:outParam V):Prop where
 e:fs.lookup f=some v
class FNo(fs:List (Str×V))(f:Str):Prop where
 e:fs.lookup f=none
theorem SH.nwC{H0:Hp}{L:List (Addr×HO)}{I:List Im}[F:SH H0 [] H L I][h:LkL L p o]:New H0 H p o:=F.nw h.m
theorem aZ[h:Hat H a o]:H a=some o:=h.e
variable{Q:VK}{R':Prop}{σ:St}{i j:Int}{f m:Str}{y:V}{b:Addr}{lo hi:Option Int}
instance Yi{n:Nat}:Go (n<=sizeLine/\∀p H',New H H' p o->Z p H') (Sd (n<=sizeLine) (∀p H',New H H' p o->Z p H')):=⟨id⟩
instance Yj[h:Hat H l (.tup xs)]:Go (rR K [.ref l,.ty "tuple"] H Q) (Q (.bl true) H):=⟨K5 h.e⟩
instance Yk[h:Hat H l (.lst xs)]:Go (rR K [.ref l,.ty "list"] H Q) (Q (.bl true) H):=⟨K6 h.e⟩
instance Yl[h:SqB K H l xs]:Go (Kq K [.ref l] H Q) (Q (.int xs.length) H):=⟨Ku h.e⟩
instance Ym[h:SqA K H l xs]:Go (Kq K [.ref l] H Q) (Q (.int xs.length) H):=⟨Ks h.e⟩
instance ZR[h:SqA K H l xs][e:AtI xs i v]:Go (O6 K (.ref l) (.int i) H Q) (Q v H):=⟨Ko h.e e.e⟩
instance ZS[h:SqB K H l xs][e:AtI xs i v]:Go (O7 K (.ref l) (.int i) H Q) (Q v H):=⟨Ru h.e e.e⟩
instance ZV[h:SqA K H l xs]:Go (tyV K "list" (.ref l) H/\R') R':=⟨RB h.e⟩
instance ZW[h:Hat H l (.lst xs)]:Go (Fl (.ref l) [y] H Q) (Sd (xs.length<sizeLine) (∀H',Off l H H'->H' l=some (.lst (xs++[y]))->Q .non H')):=⟨λs=>RD h.e s.1 s.2⟩
instance ZX[h:Hat H l (.lst xs)][h2:Hat H b (.lst ys)]:Go (FN (.ref l) [.ref b] H Q) (Sd (xs.length+ys.length<=sizeLine) (∀H',Off l H H'->H' l=some (.lst (xs++ys))->Q .non H')):=⟨λs=>Ws h.e h2.e s.1 s.2⟩
instance Z0[h:SqA K H l xs]:Go (Tq K (.ref l) lo hi H Q) (∀p H',New H H' p (.lst (rE xs lo hi))->Q (.ref p) H'):=⟨RG h.e⟩
instance Yn[h:Hat H l (.lst xs)][h2:Hat H b (.lst ys)]:Go (J4 (.ref l) (.ref b) H Q) (Sd (xs.length+ys.length<=sizeLine) (∀p H',New H H' p (.lst (xs++ys))->Q (.ref p) H')):=⟨λs=>K1 h.e h2.e s.1 s.2⟩
instance Yo{n:Nat}[h:Hat H l (.lst [y])]:Go (J5 (.ref l) (.int (n:Int)) H Q) (Sd (n<=1000000) (∀p H',New H H' p (.lst (List.replicate n y))->Q (.ref p) H')):=⟨λs=>K4 h.e s.1 s.2⟩
instance Yp{n i0 i1:Nat}{a b:V}{R:St->Hp->Prop}[h:SqB K H l [a,b]]:Go (Ht K n (jO (bT i0) (jO (bT i1) Hr)) (.ref l) σ H R) (Sd (n=2) (bT i0 a σ H λσ1 H1=>bT i1 b σ1 H1 R)):=⟨λs=>K9 s.1 h.e s.2⟩
instance Z1{f:Int->Int->V}:Go (rI (λ_ j=>0<j) f (.int i) (.int j) H Q) (Sd (0<j) (Q (f i j) H)):=⟨λs=>w_mod s.1 s.2⟩
instance Z2{f:Int->Int->V}:Go (rI SQ f (.int i) (.int j) H Q) (Sd (0<j/\j<1073741824) (Q (f i j) H)):=⟨λs=>w_div s.1.1 s.1.2 s.2⟩
instance Z4{f:Int->Int->V}:Go (rI SX f (.int i) (.int j) H Q) (Sd (0<=j/\j<=1000000/\i.natAbs<2 ^ 64) (Q (f i j) H)):=⟨λs=>w_pow s.1.1 s.1.2.1 s.1.2.2 s.2⟩
instance Z5{f:Int->Int->V}:Go (rI Hy f (.int i) (.int j) H Q) (Sd ((-(2 ^ 64)<i/\i<2 ^ 64)\/(-(2 ^ 64)<j/\j<2 ^ 64)) (Q (f i j) H)):=⟨λs=>s.1.elim (λh=>Kf h.1 h.2 s.2) (λh=>Kg h.1 h.2 s.2)⟩
instance WK[h:Hat H a (.ins C dx fs)][k:aH K C f][e:FLk fs f v]{R:V->Prop}:Go (∃a' C' dx' fs' v',V.ref a=.ref a'/\H a'=some (.ins C' dx' fs')/\Cls K C'/\cX K C' f/\fs'.lookup f=some v'/\R v') (R v):=⟨w_fld h.e k.c k.n e.e⟩
instance U7[h:Hat H l (.ins C dx fs)][e:FNo fs m]:Go (∃a' dx' fs',V.ref l=.ref a'/\H a'=some (.ins C dx' fs')/\fs'.lookup m=none/\R') R':=⟨Tz h.e e.e⟩
instance Yq[h:Hat H l (.ins C dx fs)][k:aH K C f]:Go (Qg K f y (.ref l) H R) (Sd (fs.length<1000) (∀H',Off l H H'->H' l=some (.ins C dx (fL f y fs))->R H')):=⟨λs=>TJ h.e k.c k.n s.1 s.2⟩
end
instance U8{σ:L2.St}{H:Hp}{D:Ends}{s u:TS}:Go (Oz s u D σ H) (s (Ends.mk (u D) (Ends.rt D) (Ends.bk D) (Ends.ct D)) σ H):=⟨J7⟩
instance U9{σ:L2.St}{H:Hp}{t:TE}{D:Ends}{tg:TG}:Go (Jl t tg D σ H) ((t σ H λ(x:V) (H1:Hp) => tg x σ H1 (Ends.nx D))):=⟨J8⟩
instance U_{σ:L2.St}{H:Hp}{t:TE}{D:Ends}:Go (Sx t D σ H) (t σ H (Ends.rt D)):=⟨J9⟩
instance WL{σ:L2.St}{H:Hp}{D:Ends}{s u:TS}{c:TT}:Go (Sy c s u D σ H) ((c σ H λ(b:Bool) (H1:Hp) => if b=true then s D σ H1 else u D σ H1)):=⟨Rm⟩
instance TX{σ:L2.St}{H:Hp}{t:TE}{D:Ends}:Go (Jk t D σ H) ((t σ H λ(x:V) (H1:Hp) => Ends.nx D σ H1)):=⟨Fv⟩
instance TY{σ:L2.St}{H:Hp}{D:Ends}:Go (Ep D σ H) (Ends.nx D σ H):=⟨Fp⟩
instance WM{σ:L2.St}{H:Hp}{nx bk ct:L2.St->Hp->Prop}{rt:VK}:Go (Ends.nx (Ends.mk nx rt bk ct) σ H) (nx σ H):=⟨Rj⟩
instance Yr{H:Hp}{v:V}{nx bk ct:L2.St->Hp->Prop}{rt:VK}:Go (Ends.rt (Ends.mk nx rt bk ct) v H) (rt v H):=⟨Wo⟩
instance T3{σ:L2.St}{H:Hp}{t:TE}{Q:Bool->Hp->Prop}:Go (Jv t σ H Q) ((t σ H λ(x:V) (H':Hp) => ∃(k:Bool),x=V.bl k/\Q k H')):=⟨Fw⟩
instance Ys{σ:L2.St}{H:Hp}{t:TE}{Q:Bool->Hp->Prop}:Go (tB t σ H Q) ((t σ H λ(x:V) (H':Hp) => ∃(k:Bool),x=V.bl k/\Q k H')):=⟨Wf⟩
instance WQ{σ:L2.St}{H:Hp}{ta tb:TE}{Q:VK}{r:R2}:Go (tOp r ta tb σ H Q) ((ta σ H λ(x:V) (H1:Hp) => tb σ H1 λ(y:V) (H2:Hp) => r x y H2 Q)):=⟨Rk⟩
instance WR{σ:L2.St}{H:Hp}{tr:TA}{Q:VK}{r:List V->Hp->VK->Prop}:Go (tCB r tr σ H Q) ((tr σ H λ(vs:List V) (H1:Hp) => r vs H1 Q)):=⟨Rn⟩
instance T4{σ:L2.St}{H:Hp}{t:TE}{tr:TA}{Q:List V->Hp->Prop}:Go (rC t tr σ H Q) ((t σ H λ(x:V) (H1:Hp) => tr σ H1 λ(xs:List V) (H2:Hp) => Q (x::xs) H2)):=⟨Fo⟩
instance Va{σ:L2.St}{H:Hp}{Q:List V->Hp->Prop}:Go (xX σ H Q) (Q [] H):=⟨J6⟩
instance Vb{σ:L2.St}{H:Hp}{Q:VK}{tr:TA}{sp:Sp}{E:XK}:Go (rD sp [] E tr σ H Q) ((tr σ H λ(vs:List V) (H1:Hp) => sp vs H1 Q E)):=⟨w_call⟩
instance Z6{σ:L2.St}{H:Hp}{Q:VK}{v:V}:Go (tC v σ H Q) (Q v H):=⟨w_c⟩
instance Z7{H:Hp}{Q:VK}{v:V}{r:L2.St}:Go (gF 0 (some v::r) H Q) (Q v H):=⟨wv0⟩
instance Z8{H:Hp}{Q:VK}{v:V}{o0:Option V}{r:L2.St}:Go (gF 1 (o0::some v::r) H Q) (Q v H):=⟨wv1⟩
instance Z9{H:Hp}{Q:VK}{v:V}{o0 o1:Option V}{r:L2.St}:Go (gF 2 (o0::o1::some v::r) H Q) (Q v H):=⟨wv2⟩
instance Z_{H:Hp}{Q:VK}{v:V}{o0 o1 o2:Option V}{r:L2.St}:Go (gF 3 (o0::o1::o2::some v::r) H Q) (Q v H):=⟨wv3⟩
instance aac{H:Hp}{Q:VK}{v:V}{o0 o1 o2 o3:Option V}{r:L2.St}:Go (gF 4 (o0::o1::o2::o3::some v::r) H Q) (Q v H):=⟨wv4⟩
instance aad{H:Hp}{Q:VK}{v:V}{o0 o1 o2 o3 o4:Option V}{r:L2.St}:Go (gF 5 (o0::o1::o2::o3::o4::some v::r) H Q) (Q v H):=⟨wv5⟩
instance aae{H:Hp}{Q:VK}{v:V}{o0 o1 o2 o3 o4 o5:Option V}{r:L2.St}:Go (gF 6 (o0::o1::o2::o3::o4::o5::some v::r) H Q) (Q v H):=⟨wv6⟩
instance aaf{H:Hp}{Q:VK}{v:V}{o0 o1 o2 o3 o4 o5 o6:Option V}{r:L2.St}:Go (gF 7 (o0::o1::o2::o3::o4::o5::o6::some v::r) H Q) (Q v H):=⟨wv7⟩
instance aag{H:Hp}{Q:VK}{v:V}{o0 o1 o2 o3 o4 o5 o6 o7:Option V}{r:L2.St}:Go (gF 8 (o0::o1::o2::o3::o4::o5::o6::o7::some v::r) H Q) (Q v H):=⟨wv8⟩
instance aah{H:Hp}{Q:VK}{v:V}{o0 o1 o2 o3 o4 o5 o6 o7 o8:Option V}{r:L2.St}:Go (gF 9 (o0::o1::o2::o3::o4::o5::o6::o7::o8::some v::r) H Q) (Q v H):=⟨wv9⟩
instance aai{H:Hp}{v:V}{o0 o:Option V}{r:L2.St}{R:L2.St->Hp->Prop}:Go (bT 1 v (o0::o::r) H R) (R (o0::some v::r) H):=⟨wn1⟩
instance aaj{H:Hp}{v:V}{o0 o1 o:Option V}{r:L2.St}{R:L2.St->Hp->Prop}:Go (bT 2 v (o0::o1::o::r) H R) (R (o0::o1::some v::r) H):=⟨wn2⟩
instance aak{H:Hp}{v:V}{o0 o1 o2 o:Option V}{r:L2.St}{R:L2.St->Hp->Prop}:Go (bT 3 v (o0::o1::o2::o::r) H R) (R (o0::o1::o2::some v::r) H):=⟨wn3⟩
instance aal{H:Hp}{v:V}{o0 o1 o2 o3 o:Option V}{r:L2.St}{R:L2.St->Hp->Prop}:Go (bT 4 v (o0::o1::o2::o3::o::r) H R) (R (o0::o1::o2::o3::some v::r) H):=⟨wn4⟩
instance aam{H:Hp}{v:V}{o0 o1 o2 o3 o4 o:Option V}{r:L2.St}{R:L2.St->Hp->Prop}:Go (bT 5 v (o0::o1::o2::o3::o4::o::r) H R) (R (o0::o1::o2::o3::o4::some v::r) H):=⟨wn5⟩
instance aan{H:Hp}{v:V}{o0 o1 o2 o3 o4 o5 o:Option V}{r:L2.St}{R:L2.St->Hp->Prop}:Go (bT 6 v (o0::o1::o2::o3::o4::o5::o::r) H R) (R (o0::o1::o2::o3::o4::o5::some v::r) H):=⟨wn6⟩
instance aao{H:Hp}{v:V}{o0 o1 o2 o3 o4 o5 o6 o:Option V}{r:L2.St}{R:L2.St->Hp->Prop}:Go (bT 7 v (o0::o1::o2::o3::o4::o5::o6::o::r) H R) (R (o0::o1::o2::o3::o4::o5::o6::some v::r) H):=⟨wn7⟩
instance aap{H:Hp}{v:V}{o0 o1 o2 o3 o4 o5 o6 o7 o:Option V}{r:L2.St}{R:L2.St->Hp->Prop}:Go (bT 8 v (o0::o1::o2::o3::o4::o5::o6::o7::o::r) H R) (R (o0::o1::o2::o3::o4::o5::o6::o7::some v::r) H):=⟨wn8⟩
instance aaq{H:Hp}{v:V}{o0 o1 o2 o3 o4 o5 o6 o7 o8 o:Option V}{r:L2.St}{R:L2.St->Hp->Prop}:Go (bT 9 v (o0::o1::o2::o3::o4::o5::o6::o7::o8::o::r) H R) (R (o0::o1::o2::o3::o4::o5::o6::o7::o8::some v::r) H):=⟨wn9⟩
instance Yt{H:Hp}{Q:VK}{i j:Int}{f:Int->Int->V}:Go (rI0 f (V.int i) (V.int j) H Q) (Q (f i j) H):=⟨Wm⟩
instance WT{H:Hp}{Q:VK}{i j:Int}:Go (rEq (V.int i) (V.int j) H Q) (Q (V.bl (decide (i=j))) H):=⟨Rq⟩
instance WW{H:Hp}{Q:VK}{i j:Int}:Go (rNe (V.int i) (V.int j) H Q) (Q (V.bl !decide (i=j)) H):=⟨Rr⟩
instance Yu{k:Bool}{R:Bool->Prop}:Go (∃(c:Bool),V.bl k=V.bl c/\R c) (R k):=⟨Wn⟩
instance WX{σ:L2.St}{H:Hp}{c:TT}{R:Bool->Hp->Prop}:Go (Sw c σ H R) ((c σ H λ(b:Bool) (H1:Hp) => R (!b) H1)):=⟨w_not⟩
instance WY{σ:L2.St}{H:Hp}{c d:TT}{R:Bool->Hp->Prop}:Go (Sv c d σ H R) ((c σ H λ(b:Bool) (H1:Hp) => if b=true then d σ H1 R else R false H1)):=⟨w_and⟩
instance Yv{σ:L2.St}{H:Hp}{c d:TT}{R:Bool->Hp->Prop}:Go (tOr c d σ H R) ((c σ H λ(b:Bool) (H1:Hp) => if b=true then R true H1 else d σ H1 R)):=⟨w_or⟩
instance Vc{σ:L2.St}{H:Hp}{Q:VK}{ta:TE}:Go (Jj ta σ H Q) ((ta σ H λ(x:V) (H1:Hp) => ∃(c:Bool),x=V.bl c/\Q (V.bl !c) H1)):=⟨Kh⟩
instance Vd{σ:L2.St}{H:Hp}{Q:VK}{ta tb:TE}:Go (Ji ta tb σ H Q) ((ta σ H λ(x:V) (H1:Hp) => ∃(c:Bool),x=V.bl c/\if c=true then tb σ H1 Q else Q (V.bl false) H1)):=⟨Kl⟩
instance Yw{σ:L2.St}{H:Hp}{Q:VK}{K:W.Frag}{tr:TA}{T:String}{r:V->List V->Hp->VK->Prop}{to:TE}:Go (tBM K T r to tr σ H Q) ((to σ H λ(x:V) (H1:Hp) => tyV K T x H1/\tr σ H1 λ(xs:List V) (H2:Hp) => r x xs H2 Q)):=⟨Wq⟩
instance T5{σ:L2.St}{H:Hp}{Q:VK}{t:TE}{r:V->Option Int->Option Int->Hp->VK->Prop}{tl th:TO}:Go (tSl r t tl th σ H Q) ((t σ H λ(x:V) (H1:Hp) => tl σ H1 λ(l:Option Int) (H2:Hp) => th σ H2 λ(u:Option Int) (H3:Hp) => r x l u H3 Q)):=⟨Fx⟩
instance Ve{σ:L2.St}{H:Hp}{t:TE}{R:Option Int->Hp->Prop}:Go (JF t σ H R) ((t σ H λ(x:V) (H1:Hp) => ∃(i:Int),x=V.int i/\R (some i) H1)):=⟨Km⟩
instance W0{i:Int}{R:Int->Prop}:Go (∃(k:Int),V.int i=V.int k/\R k) (R i):=⟨Rt⟩
instance W2{H:Hp}{Q:VK}{i j:Int}:Go (Kv [V.int i,V.int j] H Q) (Q (V.int (max i j)) H):=⟨Rv⟩
instance T6{σ:L2.St}{H:Hp}{tr:TA}{Q:VK}:Go (J2 tr σ H Q) ((tr σ H λ(xs:List V) (H1:Hp) => List.length xs<=sizeLine/\∀(p:Addr)(H':Hp),New H1 H' p (HO.tup xs)->Q (V.ref p) H')):=⟨Fq⟩
instance T7{σ:L2.St}{H:Hp}{tr:TA}{Q:VK}:Go (J3 tr σ H Q) ((tr σ H λ(xs:List V) (H1:Hp) => List.length xs<=sizeLine/\∀(p:Addr)(H':Hp),New H1 H' p (HO.lst xs)->Q (V.ref p) H')):=⟨Ft⟩
instance Vf{K:W.Frag}{σ:L2.St}{H:Hp}{Q:VK}{ta:TE}{f:Str}:Go (S7 K ta f σ H Q) ((ta σ H λ(x:V) (H1:Hp) => ∃(a:Addr),∃(C:Addr),∃(dx:Addr),∃(fs:List (Str×V)),∃(v:V),x=V.ref a/\H1 a=some (HO.ins C dx fs)/\Cls K C/\cX K C f/\List.lookup f fs=some v/\Q v H1)):=⟨KQ⟩
instance RL{σ:L2.St}{H:Hp}{Q:VK}{ta:TE}{t:TA}{m:Str}{C:Addr}{sp:Sp}{E:XK}:Go (vg C m sp [] E ta t σ H Q) ((ta σ H λ(x:V) (H1:Hp) => ∃(a:Addr),∃(dx:Addr),∃(fs:List (Str×V)),x=V.ref a/\H1 a=some (HO.ins C dx fs)/\List.lookup m fs=none/\t σ H1 λ(vs:List V) (H2:Hp) => sp (x::vs) H2 Q E)):=⟨Ac⟩
instance RM{σ:L2.St}{H:Hp}{Q:VK}{t:TA}{C:Addr}{sp:Sp}{E:XK}:Go (DN C sp E t σ H Q) ((t σ H λ(vs:List V) (H1:Hp) => ∀(x dx:Addr)(H2:Hp),New H1 H2 x (HO.ins C dx [])->sp (V.ref x::vs) H2 (λ(v:V) (H3:Hp) => v=V.non/\Q (V.ref x) H3) E)):=⟨Ab⟩
instance RN{K:W.Frag}{σ:L2.St}{H:Hp}{ta tv:TE}{f:Str}{D:Ends}:Go (S8 K ta tv f D σ H) ((tv σ H λ(y:V) (H1:Hp) => ta σ H1 λ(x:V) (H2:Hp) => Qg K f y x H2 λ(H3:Hp) => Ends.nx D σ H3)):=⟨Aa⟩
instance Vg{H:Hp}{Q:VK}{K:W.Frag}{i:Int}:Go (rR K [V.int i,V.ty "bool"] H Q) (Q (V.bl false) H):=⟨K7⟩
instance Vh{H:Hp}{Q:VK}{K:W.Frag}{b:Bool}:Go (rR K [V.bl b,V.ty "bool"] H Q) (Q (V.bl true) H):=⟨K8⟩
instance Yx{A B:Prop}:Go (if true=true then A else B) (A):=⟨Ww⟩
instance Yy{A B:Prop}:Go (if false=true then A else B) (B):=⟨Wx⟩
instance W3{A B:Prop}:Go (if (!true)=true then A else B) (B):=⟨RJ⟩
instance W4{A B:Prop}:Go (if (!false)=true then A else B) (A):=⟨RK⟩
instance W5{t:TA}{tv:TE}{r:List V->V->Hp->VK->Prop}{σ:L2.St}{H:Hp}{Q:VK}:Go (tCK r t tv σ H Q) ((t σ H λ(xs:List V) (H1:Hp) => tv σ H1 λ(y:V) (H2:Hp) => r xs y H2 Q)):=⟨Rx⟩
instance Vi{to tl th:TE}{v:V}{σ:L2.St}{H:Hp}{Q:L2.St->Hp->Prop}:Go (Tw to tl th v σ H Q) ((to σ H λ(o:V) (H1:Hp) => tl σ H1 λ(a:V) (H2:Hp) => th σ H2 λ(c:V) (H3:Hp) => ∃(l:Addr),∃(b:Addr),∃(xs:List V),∃(ys:List V),∃(i:Int),∃(j:Int),o=V.ref l/\v=V.ref b/\a=V.int i/\c=V.int j/\H3 l=some (HO.lst xs)/\H3 b=some (HO.lst ys)/\l≠b/\0<=i/\i<=j/\j<=(↑(List.length xs):Int)/\List.length xs+List.length ys<=sizeLine/\∀(H':Hp),L2.Off l H3 H'->H' l=some (HO.lst (List.take (Int.toNat i) xs++ys++List.drop (Int.toNat j) xs))->Q σ H')):=⟨KZ⟩
instance T8{g:TG}{tb:TS}{D:Ends}{σ:L2.St}{H:Hp}{tr:TA}:Go (Jq (Jp tr) g tb D σ H) ((tr σ H λ(vs:List V) (H1:Hp) => ∃(j:Int),vs=[V.int j]/\-2 ^ 62<=j/\j<2 ^ 62/\K_ 0 (Int.toNat j) g tb D σ H1)):=⟨FQ⟩
instance Vj{K:W.Frag}{te:TE}{g:TG}{tb:TS}{D:Ends}{σ:L2.St}{H:Hp}:Go (Jq (zF K te) g tb D σ H) ((te σ H λ(x:V) (H1:Hp) => ∃(a:Addr),x=V.ref a/\(∃(xs:List V),SqL K H1 a xs)/\Dy K a g tb D σ H1)):=⟨KD⟩
instance T9{K:W.Frag}{t0 te:TE}{nt:Nat}{fr:List Nat}{g:TG}{c:TT}{σ:L2.St}{H:Hp}{Q:VK}:Go (zP (zF K t0) nt fr g c te σ H Q) ((t0 σ H λ(x:V) (H1:Hp) => ∃(a:Addr),x=V.ref a/\(∃(xs:List V),SqL K H1 a xs)/\eE (Itl K a) nt fr g c te σ H1 Q)):=⟨Fz⟩
section
variable{K:W.Frag}{H:Hp}{Q:VK}{E:XK}{q:Addr}{a b lo:Int}
instance W6:Go (g_ K [.int a,.int lo] H Q E) (Q (.bl (decide (lo<=a))) H):=⟨Qh⟩
instance W7:Go (rY K [.int a] H Q E) (Q (.bl (decide (16<=a) && decide (a<=240))) H):=⟨λk=>⟨_,_,rfl,.int _,k⟩⟩
instance W8[h:Hat H q (.tup [.int a,.int b])]:Go (oZ [.ref q] H Q E) (Q (.int (a+b)) H):=⟨Wz h.e⟩
end
end L2
namespace L2
open PySem PySem.Spec PyProof.Rows
section
variable{g:TG}{tb:TS}{D:Ends}{σ:St}{H:Hp}
variable{K:W.Frag}{a:Addr}{xs:List V}{nt:Nat}{fr:List Nat}{c:TT}{te:TE}{Q:VK}
instance aar[h:SqA K H a xs]:Go (∃a',V.ref a=.ref a'/\(∃xs,SqL K H a' xs)/\eE (Itl K a') nt fr g c te σ H Q) (eE (Itl K a) nt fr g c te σ H Q):=⟨TF h.e⟩
instance aas[h:SqA K H a xs]:Go (∃a',V.ref a=.ref a'/\(∃xs,SqL K H a' xs)/\Dy K a' g tb D σ H) (Dy K a g tb D σ H):=⟨ZG h.e⟩
end
instance W9{H0 H:Hp}{M:List Addr}{L:List (Addr×HO)}{I:List Im}{Z:Addr->Hp->Prop}{ws:xD}[F:SH H0 M H L I]:Go (∀p ys H',New H H' p (.lst ys)->aB H' ys (au ws)->Z p H') (∀H' p ys,ys.length=ws.length->SH H0 M H' ((p,.lst ys)::L) (.tps ys (au ws)::I)->Z p H'):=⟨λk p ys H' n t=>k H' p ys (by rw[t.1,aA]) (F.newR n t)⟩
class Iu(L:List (Addr×HO))(a b:Addr):Prop where
 ne:(L.map (·.1)).Nodup->a≠b
section
variable{L R L':List (Addr×HO)}{a b:Addr}{o:HO}{c:Addr×HO}{H0 H:Hp}{M:List Addr}{I:List Im}
instance aa5[h:Iu L a b]:Iu (c::L) a b:=⟨λnd=>h.ne (by rw[nI] at nd;exact(List.nodup_cons.mp nd).2)⟩
instance aa6{o':HO}[h:LkL L a o]:Iu ((b,o')::L) a b:=⟨λnd z=>by
 rw[nI] at nd;exact(List.nodup_cons.mp nd).1 (by show b∈_;rw[<- z];exact List.mem_map_of_mem (f:=(·.1)) h.m)⟩
instance aa7{o':HO}[h:LkL L b o]:Iu ((a,o')::L) a b:=⟨λnd z=>by
 rw[nI] at nd;exact(List.nodup_cons.mp nd).1 (by show a∈_;rw[z];exact List.mem_map_of_mem (f:=(·.1)) h.m)⟩
theorem SH.neC[F:SH H0 M H L I][h:Iu L a b]:a≠b:=h.ne F.nd
class PkC(c:Addr×HO)(L:List (Addr×HO))(R:outParam (List (Addr×HO))):Prop where
 p:Pk c L R
class SbC(L' L:List (Addr×HO)):Prop where
 s:Sb L' L
instance abB{d:Addr×HO}[h:PkC c L R]:PkC c (d::L) (d::R):=⟨.tail h.p⟩
instance abC:PkC c (c::L) L:=⟨.head⟩
instance abD:SbC [] L:=⟨.nil⟩
instance abE[h:PkC c L R][t:SbC L' R]:SbC (c::L') L:=⟨.cons h.p t.s⟩
end
end L2
namespace L2
open PySem PySem.Spec PyProof.Rows PySem.SeqAt
section
variable{X:Cx}{o lo hi:Expr}{to tl th:TE}{pos p2:Pos}
theorem Qi(ho:PE X o to)(hl:PE X lo tl)(hh:PE X hi th)
  (ha:∀v,assign (.Subscript o (.Slice (some lo) (some hi) none p2) pos) X.env v=(do
   let ov <- holding [v] (eval o X.env)
   let iv <- holding [v,ov] (eval (.Slice (some lo) (some hi) none p2) X.env)
   standAt pos
   holding [v,ov,iv] (setItem ov iv v)
   release [iv,v,ov] []):=by intro _;rfl):PG X (.Subscript o (.Slice (some lo) (some hi) none p2) pos) (Tw to tl th):=by
 intro pins s σ H v u Q I r h;rw[ha];refine zI (mI (thn (ho pins s σ H _ I h) λov s1 ⟨x,H1,I1,r1,q1⟩=>?_));refine zI (mI (wpAny_Slice (wpAny_evalPart_some (thn (hl pins s1 σ H1 _ I1 q1) λa s2 ⟨y,H2,I2,r2,q2⟩=>wpAny_evalPart_some (thn (hh pins s2 σ H2 _ I2 q2) λc s3 ⟨z,H3,I3,r3,q3⟩=>wpAny_evalPart_none ?_)))));obtain⟨l,b,xs,ys,i,j,rfl,rfl,rfl,rfl,e1,e2,ne,h0,h1,h2,hz,q⟩:=q3;cases r1;cases r;have I4:Inv X pins σ H3 { s3 with heap:=s3.heap.push { cls:=.type "slice", data:=.fields #[a,c,.none] } }:=I3.kept (t':=s3.toks) λb ob z=>uS _ z
 refine zI (wpAny_standAt (zI (mI (HJ I4 e1 e2 ne (Heap.IsSliceOf.new ..) r2 r3 h0 h1 h2 hz λs5 I5=>?_))));exact wpAny_release ⟨σ,_,I5,q _ Off.upd bx⟩
end
section
variable{H0 H:Hp}{M:List Addr}{L:List (Addr×HO)}{I:List Im}{l b:Addr}{xs ys:List V}{R:Hp->Prop}{R':Prop}{σ:St}{i j:Int}
instance Vk:Go (V.non=V.non/\R') R':=⟨λk=>⟨rfl,k⟩⟩
instance Yz[h:Hat H l (.lst xs)][h2:Hat H b (.lst ys)][F:SH H0 M H L I][n:Iu L l b]:Go (∃(l' b':Addr)(xs' ys':List V)(i' j':Int),V.ref l=.ref l'/\V.ref b=.ref b'/\V.int i=.int i'/\V.int j=.int j'/\H l'=some (.lst xs')/\H b'=some (.lst ys')/\l'≠b' /\
  0<=i'/\i'<=j'/\j'<=xs'.length/\xs'.length+ys'.length<=sizeLine/\∀H',Off l' H H'->H' l'=some (.lst (xs'.take i'.toNat++ys'++xs'.drop j'.toNat))->R H')
  (Sd (0<=i/\i<=j/\j<=xs.length/\xs.length+ys.length<=1000000) (∀H',Off l H H'->H' l=some (.lst (xs.take i.toNat++ys++xs.drop j.toNat))->R H')) :=
 ⟨λs=>Wr h.e h2.e (n.ne F.nd) s.1.1 s.1.2.1 s.1.2.2.1 (cO s.1.2.2.2) s.2⟩
instance W_{g:TG}{tb:TS}{D:Ends}:Go (∃j:Int,[V.int i]=[.int j]/\-(2 ^ 62)<=j/\j<2 ^ 62/\K_ 0 j.toNat g tb D σ H) (Sd (-(2 ^ 62)<=i/\i<2 ^ 62) (K_ 0 i.toNat g tb D σ H)):=⟨λs=>⟨i,rfl,s.1.1,s.1.2,s.2⟩⟩
end
end L2
namespace L2
open PySem PySem.Spec PyProof.Rows
abbrev Lb(x:Str)(p1 p2 p3:Pos)(j:Nat):Expr:=.Subscript (.Name x p1) (.Constant (.int 1) j p2) p3
structure h_(x:Str)(scope:Scope):Prop where
 kind:scope.kind=.function
 co:scope.isCoroutine=false
 gen:scope.isGenerator=false
 loc:scope.names.lookup x=some .local
 Ld:∀y∈scope.names,y.2≠.cell
 FW:(x==("__debug__" : Str))=false
theorem cH.is{P:Program}{w:World}{H:Hp}{h:Heap}{a:Addr}{o:HO}(x:cH P w H h a o):∃ob,h.get? a=some ob:=by
 cases o with
 | lst xs=>obtain⟨_,_,_,_,e⟩:=x;exact⟨_,e⟩
 | tup xs=>obtain⟨_,_,_,ob,e,_⟩:=x;exact⟨_,e⟩
 | dK kvs=>obtain⟨_,_,_,_,ob,_,_,e,_⟩:=x;exact⟨_,e⟩
 | dT kvs=>obtain⟨_,_,_,_,ob,_,_,e,_⟩:=x;exact⟨_,e⟩
 | set S n=>obtain⟨ob,_,_,_,e,_⟩:=x;exact⟨_,e⟩
 | ins C dx fs=>obtain⟨_,_,_,e,_⟩:=x;exact⟨_,e⟩
 | own y=>exact x
 | xd fs=>obtain⟨_,⟨ob,_,_,e,_⟩,_⟩:=x;exact⟨_,e⟩
 | rng lo hi=>obtain⟨_,_,_,e⟩:=x;exact⟨_,e⟩
 | frz ob u=>exact⟨_,x.1⟩
 | tbl ps=>exact⟨_,x⟩
 | met f y=>exact⟨_,x⟩
 | ext φ=>exact x.2.1
def jY(h:Heap)(L:Addr):List (Addr×Obj):=(List.range h.objs.size).filterMap λb=>if b=L then none else (h.get? b).map λo=>(b,o)
theorem gk{h:Heap}{L b:Addr}{o:Obj}(e:h.get? b=some o)(n:b≠L):(b,o)∈jY h L:=by
 unfold jY;refine List.mem_filterMap.mpr ⟨b,List.mem_range.mpr (uC e),?_⟩;rw[yT n,e]
 rfl
theorem lg{h:Heap}{L:Addr}{p:Addr×Obj}(m:p∈jY h L):h.get? p.1=some p.2/\p.1≠L:=by
 unfold jY at m;obtain⟨b,_,e⟩:=List.mem_filterMap.mp m;split at e
 ·cases e
 ·rename_i n;cases q:h.get? b with
  | none=>rw[q] at e;cases e
  | some o =>
   rw[q] at e;cases e;exact⟨q,n⟩
theorem T_{h:Heap}{a:Addr}{m m':xC}(x:h.Ns a m)(y:h.Ns a m'):m=m':=by
 obtain⟨o,es,ep,e,d,_,f⟩:=x;obtain⟨o',es',ep',e',d',_,f'⟩:=y;rw[e] at e';cases e';rw[d] at d';cases d'
 funext k
 rw[<- f k,<- f' k]
theorem Inv.RP{X:Cx}{pins:List (Addr×Obj)}{σ:St}{H:Hp}{s:Shared}{h':Heap}{t':Nat}{D:Addr}{o:HO}{m:xC}(I:Inv X pins σ H s)(k:∀b u,b≠X.env.locals->s.heap.get? b=some u->h'.get? b=some u)
  (hm:s.heap.Ns X.env.locals m) (hm':h'.Ns X.env.locals m) (hn:s.heap.get? D=none) (new:cH X.prog X.w (upd H D o) h' D o):Inv X pins σ (upd H D o) { s with heap:=h',toks:=t' }:=by
 have hD:H D=none:=by
  cases q:H D with
  | none=>rfl
  | some u =>
   obtain⟨ob,e⟩:=(I.hok D u q).is;rw[hn] at e;cases e
 have nL:∀b u,H b=some u->b≠X.env.locals:=λb u e z=>by rw[z,I.free] at e;cases e
 have nD:∀{b:Addr} {u:HO},H b=some u->upd H D o b=some u:=λ{b u} e=>by rw[bf (λz=>by rw[z,hD] at e;cases e)];exact e
 refine I.step (g':=s.gens) (d':=s.drawn) (ch:=[]) (λ_ z=>nomatch z) (λb u n _ _ e _=>k b u n e) (λb u n _ _ e _=>⟨u.slots,k b u n e⟩) (λb u _ e q=>?_) (λb u _ e=>?_) (λb xs e=>nD e) (λb u v e=>nD e) (λb ps e=>⟨#[],by rw[nD e];simp⟩) (λm2 hm2=>?_) (λb u e=>?_) I.bare
 ·rw[bf (λz=>by rw[z,hn] at e;cases e)];exact q
 ·by_cases n:b=X.env.locals
  ·obtain⟨ob,_,_,e2,_⟩:=hm';exact⟨ob,by rw[n];exact e2⟩
  ·exact⟨u,k b u n e⟩
 ·rw[T_ hm2 hm];exact hm'
 ·by_cases hb:b=D
  ·rw[hb,bx] at e;cases e;rw[hb];exact new
  ·rw[bf hb] at e;refine(I.hok b u e).stay (λc v hc q=>k c v ?_ q) (λc q=>nD q) λc xs q=>nD q
   rcases hc with z|z
   ·rw[z];exact nL b u e
   ·exact nL c _ z
def Le(H:Hp)(f:Addr):Prop:=∃(qual x:Str)(params:Arguments)(p1 p2 p3:Pos)(j:Nat)(scope:Scope)(pm ctv:Value)(c':Addr)(oc:Obj)(vs:xI)(t:Tok),
 H f=some (.frz (W.kla_obj "<lambda>" qual params (Lb x p1 p2 p3 j) scope [] pm c' ctv) (.own f))/\H c'=some (.frz oc (.own c'))/\oc.data=.fields vs/\vs[1]?=some (.str qual t)/\h_ x scope /\
 ∀q:Addr,bindArgs (W.kla_fn "<lambda>" qual params (Lb x p1 p2 p3 j) scope [] pm (.ref c') ctv) ⟨[.ref q],[]⟩=pure [(x,.ref q)]
def iI:Value->V
 | .ref a=>.ref a
 | _=>.non
theorem o9:∀{xs:List V} {us:xF},Vals xs us->(∀v∈xs,∃q,v=.ref q)->xs=us.map iI/\∀u∈us,∃q,u=.ref q
 | _,_,.nil,_=>⟨rfl,λ_ h=>by cases h⟩
 | _,_,.cons r t,h=>by
  obtain⟨e1,e2⟩:=o9 t λv hv=>h v (zD _ hv)
  obtain⟨q,rfl⟩:=h _ zC;cases r;refine⟨by rw[nI,<- e1];rfl,λu hu=>?_⟩;rcases jS.mp hu with rfl|hu
  ·exact⟨q,rfl⟩
  ·exact e2 u hu
theorem o_:∀{us:xF},(∀u∈us,∃q,u=.ref q)->Vals (us.map iI) us
 | [],_=>.nil
 | u::us,h=>by
  obtain⟨q,rfl⟩:=h u zC;exact .cons rfl (o_ λv hv=>h v (zD _ hv))
theorem Inv.grow{X:Cx}{pins:List (Addr×Obj)}{σ:St}{H H':Hp}{s:Shared}{h':Heap}{t':Nat}(I:Inv X pins σ H s)(k:∀b u,H b=none->s.heap.get? b=some u->h'.get? b=some u/\H' b=none)
  (kt:∀b u,H b=some u->(H' b=some u/\∀o,s.heap.get? b=some o->h'.get? b=some o)\/∃ps more,u=.tbl ps/\H' b=some (.tbl (ps++more))/\h'.get? b=some { cls:=.none,data:=.fields (ps++more) })
  (new:∀b u,H b=none->H' b=some u->cH X.prog X.w H' h' b u):Inv X pins σ H' { s with heap:=h',toks:=t' }:=by
 have same:∀{b:Addr} {u:HO},H b=some u->(∀ps,u≠.tbl ps)->H' b=some u/\∀o,s.heap.get? b=some o->h'.get? b=some o:=λ{b u} e n=>by
  rcases kt b u e with z|⟨ps,_,z,_⟩
  ·exact z
  ·exact gS z (n ps)
 obtain⟨m0,⟨oL,esL,epL,eL,rL⟩,_⟩:=id I.loc;have kL:=(k _ _ I.free eL).1;refine I.step (g':=s.gens) (d':=s.drawn) (ch:=[]) (λ_ z=>nomatch z) (λb u n _ _ e q=>(k b u q e).1) (λb u n _ _ e q=>⟨u.slots,(k b u q e).1⟩) (λb u _ e q=>(k b u q e).2) (λb u _ e=>?_) (λb xs e=>(same e (by intro _ z;cases z)).1) (λb u v e=>(same e (by intro _ z;cases z)).1) (λb ps e=>?_) (λm2 hm2=>?_) (λb u e=>?_) I.bare
 ·cases q:H b with
  | none=>exact⟨u,(k b u q e).1⟩
  | some v =>
   rcases kt b v q with z|⟨ps,more,_,_,z⟩
   ·exact⟨u,z.2 u e⟩
   ·exact⟨_,z⟩
 ·rcases kt b _ e with z|⟨ps',more,z,z2,_⟩
  ·exact⟨#[],by rw[z.1];simp⟩
  ·cases z;exact⟨more,z2⟩
 ·obtain⟨o,es,ep,e,r⟩:=hm2;rw[eL] at e;cases e;exact⟨_,es,ep,kL,r⟩
 ·cases q:H b with
  | none=>exact new b u q e
  | some v =>
   rcases kt b v q with z|⟨ps,more,rfl,z2,z3⟩
   ·rw[z.1] at e;cases e;refine(I.hok b _ q).stay (λc o hc e2=>?_) (λc e2=>(same e2 (by intro _ z;cases z)).1) λc xs e2=>(same e2 (by intro _ z;cases z)).1
    rcases hc with rfl|hc
    ·exact z.2 o e2
    ·exact(same hc (by intro _ z;cases z)).2 o e2
   ·rw[z2] at e;cases e;exact z3
def TabOk(pos:Pos)(qual:Str)(ps:xI)(H:Hp):Prop:=ps=#[]\/∃(c':Addr)(oc:Obj)(vs:xI)(t:Tok),ps=#[rawInt pos.line,rawInt pos.col,.ref c']/\H c'=some (.frz oc (.own c'))/\oc.data=.fields vs/\vs[1]?=some (.str qual t)
def Bm(mg:xC)(base:Heap):Prop:=∃bm ob,mg "__builtins__" = some (.ref bm)/\bm≠builtinsNs/\base.get? bm=some ob/\ob.cls=.type "module" /\ ob.dict=some builtinsNs/\ob.data=.plain
def Lf(ts:List Addr)(H:Hp):Prop:=(∀p∈ts,H p=some (.tbl #[]))/\∀b,b ∉ ts->H b=none\/∃o xs,H b=some (.frz o (.lst xs))
theorem Iv{P:Program}{w:World}{K:W.Frag}{mg mb:xC}{CX:CXT}{k:Nat}{fa a:Addr}{fd:FuncData}{x:Str}{sp:Sp}{s₁:Shared}{vs:xF}{ns:List Int}{ts:List Addr}
  (KX:K.In s₁.heap) (hns:s₁.heap.Ns mainGlobals mg) (hb:s₁.heap.Ns builtinsNs mb) (hbb:∀x:Str,x ≠ "__name__" -> mb x=bootBuiltins x) (hlim:s₁.heap.NoLimit) (hg:s₁.gens=#[]) (hB:Bm mg s₁.heap)
  (hts:∀p∈ts,s₁.heap.get? p=some (W.tabObj #[])) (hct:∀p∈ts,isCodeTable s₁.heap p) (hKt:∀p∈ts,K.lookup p=none)
  (ha:s₁.heap.get? a=some { cls:=.type "list", data:=.seq vs.toArray }) (hi:IntsAre vs ns) (hl:ns.length<=sizeLine) (hr:Room k callerA)
  (F:∀base:Heap,K.In base->base.Ns mainGlobals mg->Bm mg base->f9 P w K mg base CX k fa fd [x] sp) (hbind:∀(s:Shared)(u:Value),BindsTo s fd ⟨[u],[]⟩ [(x,u)])
  (hsp:∀H:Hp,Lf ts H->a ∉ ts->SqL K H a (ns.map V.int)->sp [.ref a] H (λv _=>v=.bl true) λ_ _ _=>False)
  (hCX:∀H e s',CX [] H s₁ (λ_ _ _=>False) e s'->False) :
  codeAny (model P w) callerA (.call (.ref fa) ⟨[.ref a],[]⟩) (λr s'=>r=.ok (.ret (.bool true))/\OldK s₁.heap s'.heap/\s'.os=s₁.os/\AllBare s'.gens) s₁:=by
 have rv:=vD hi;have lenV:=hi.length;have nat:a ∉ ts:=λz=>by
  have:=hts a z;rw[ha] at this;cases this
 have core:∀H:Hp,Lf ts H->SqL K H a (ns.map V.int)->HOk P w H s₁.heap->(∀b,b ∉ ts->H b≠none->b=a)->(H a≠none->K.lookup a=none) ->
   codeAny (model P w) callerA (.call (.ref fa) ⟨[.ref a],[]⟩) (λr s'=>r=.ok (.ret (.bool true))/\OldK s₁.heap s'.heap/\s'.os=s₁.os/\AllBare s'.gens) s₁:=by
  intro H hO hS hok hA hK;have kindOf:∀{b:Addr} {o:Obj},s₁.heap.get? b=some o->H b≠none->o=W.tabObj #[]\/o={ cls:=.type "list", data:=.seq vs.toArray }:=λ{b o} e n=>by
   by_cases hb:b∈ts
   ·left
    have:=hts b hb;rw[e] at this;exact nS this
   ·right
    have:=hA b hb n;rw[this,ha] at e;exact(nS e).symm
  have keep:∀{b:Addr} {o:Obj},s₁.heap.get? b=some o->o≠W.tabObj #[]->o≠{ cls:=.type "list", data:=.seq vs.toArray }->(uN s₁.heap H).get? b=some o:=λ{b o} e n1 n2=>zE e (by
   cases q:H b with
   | none=>rfl
   | some u =>
    rcases kindOf e (by rw[q];simp) with z|z
    ·exact gS z n1
    ·exact gS z n2)
  have nsK:∀{b:Addr} {m:xC},s₁.heap.Ns b m->(uN s₁.heap H).Ns b m:=λ{b m} ⟨o,es,ep,e,d,r⟩=>⟨o,es,ep,keep e (λz=>by rw[z] at d;cases d) (λz=>by rw[z] at d;cases d),d,r⟩
  have hKb:K.In (uN s₁.heap H):=λb o e=>zE (KX b o e) (by
   cases q:H b with
   | none=>rfl
   | some u =>
    by_cases hb:b∈ts
    ·rw[hKt b hb] at e;cases e
    ·have z:=hA b hb (by rw[q];simp);rw[z] at e q;rw[hK (by rw[q];simp)] at e;cases e)
  have hBb:Bm mg (uN s₁.heap H):=by
   obtain⟨bm,ob,b1,b2,b3,b4,b5,b6⟩:=hB;exact⟨bm,ob,b1,b2,keep b3 (λz=>by rw[z] at b4;cases b4) (λz=>by rw[z] at b6;cases b6),b4,b5,b6⟩
  have hM:Mod K mg (uN s₁.heap H):=⟨hKb,nsK hns,⟨mb,nsK hb,hbb⟩,let ⟨mc,h1,h2⟩:=hlim;⟨mc,nsK h1,h2⟩⟩;have e0:xY P w K mg (uN s₁.heap H) callerA [] s₁ H:=⟨rfl,hM,λb o e=>Ou e,Nat.le_of_eq (Hq _ _),trivial,λb hb=>absurd (show b∈([]:List Addr) from hb) (by simp),hok,.of_eq hg⟩;refine codeAny_mono ((F _ hKb (nsK hns) hBb).run callerA [] s₁ H ⟨[.ref a],[]⟩ [.ref a] [.ref a] _ _ hr e0 (hbind s₁ (.ref a)) (.cons rfl .nil) (hsp H hO nat hS)) λr s' h=>?_
  rcases r with e|fl
  ·exact(hCX H e s' h).elim
  ·rcases fl with _|_|_|u
   ·exact False.elim h
   ·exact False.elim h
   ·exact False.elim h
   ·obtain⟨v,H',os,bare,un,hok',r',q⟩:=h;obtain rfl:v=.bl true:=q;obtain rfl:u=Value.bool true:=r';refine⟨rfl,?_,os,bare⟩;have each:∀b o,s₁.heap.get? b=some o->s'.heap.get? b=some o\/(b∈ts/\o=W.tabObj #[]/\∃more,s'.heap.get? b=some (W.tabObj (#[]++more))):=λb o e=>by
     cases q:H b with
     | none=>exact .inl (un.keep b o e q (λz=>absurd (show b∈([]:List Addr) from z) (by simp)) (by simp))
     | some u =>
      by_cases hb:b∈ts
      ·right
       have e1:=hts b hb;rw[e] at e1;obtain⟨more,e2⟩:=un.jJ b #[] (hO.1 b hb);exact⟨hb,nS e1,more,hok' b _ e2⟩
      ·left
       rcases hO.2 b hb with z|⟨ob,xs,z⟩
       ·rw[q] at z;cases z
       ·have e1:=(hok b _ z).1;rw[e] at e1;cases e1;exact(hok' b _ (un.jH b _ _ z)).1
    refine⟨λb o e=>?_,λb o e=>?_⟩
    ·rcases each b o e with z|⟨hb,rfl,more,z⟩
     ·exact .inl z
     ·exact .inr (.inl ⟨hct b hb,rfl,#[],more,rfl,z⟩)
    ·rcases each b o e with z|⟨_,_,more,z⟩
     ·exact⟨_,z⟩
     ·exact⟨_,z⟩
 cases hk:K.lookup a with
 | some o =>
  have e:=KX a o hk;rw[ha] at e;cases e;refine core (λb=>if b∈ts then some (.tbl #[]) else none) ⟨λp hp=>if_pos hp,λb hb=>.inl (if_neg hb)⟩ (.inr ⟨_,vs.toArray,_,hk,rfl,rfl,rfl,by rw[List.size_toArray,lenV];exact hl,by simpa using rv⟩) (λb u z=>?_) (λb hb z=>absurd (if_neg hb) z) λz=>absurd (if_neg nat) z
  by_cases hb:b∈ts
  ·have z':=(yB hb).symm.trans z;cases z';exact hts b hb
  ·have z':=(yT hb).symm.trans z;cases z'
 | none =>
  refine core (λb=>if b∈ts then some (.tbl #[]) else if b=a then some (.frz { cls:=.type "list", data:=.seq vs.toArray } (.lst (ns.map V.int))) else none) ⟨λp hp=>yB hp,λb hb=>?_⟩ (.inl (.inr ⟨{ cls:=.type "list", data:=.seq vs.toArray },?_⟩)) (λb u z=>?_) (λb hb z=>?_) λ_=>hk
  ·by_cases h:b=a
   ·exact .inr ⟨_,_,(yT hb).trans (yB h)⟩
   ·exact .inl ((yT hb).trans (yT h))
  ·exact(yT nat).trans (yB rfl)
  ·by_cases hb:b∈ts
   ·have z':=(yB hb).symm.trans z;cases z';exact hts b hb
   ·by_cases h:b=a
    ·have z':=((yT hb).trans (yB h)).symm.trans z;cases z';rw[h];exact⟨ha,by rw[wS];exact hl,vs,_,rv,ha⟩
    ·have z':=((yT hb).trans (yT h)).symm.trans z;cases z'
  ·by_cases h:b=a
   ·exact h
   ·exact gS ((yT hb).trans (yT h)) z
theorem Lg{l:W.OpenLaw}{n k:Nat}{q:Program}{loose:List Str}{XP:(Str->Option Value)->Heap->Prop}{YP:World->Heap->Prop}{d:DefRec}{K:Params->W.Frag}{CX:World->CXT}{sp:World->Sp}{x:Str}{ts:List Addr}
  (hn:l.most=some n) (hn2:n<=sizeLine) (hdf:d.params.defaults=[]) (hr:Room k callerA)
  (hY:∀(w:World)(h:Heap),YP w h->(K w.params).In h/\∀p∈ts,h.get? p=some (W.tabObj #[]))
  (F:∀(w:World)(mg:xC)(fa:Addr)(h:Heap),(K w.params).In h->h.Ns mainGlobals mg->mg d.name=some (.ref fa)->(∀p∈ts,(K w.params).lookup p=none/\∃c,W.codeHdIn (K w.params) c p=true) /\
   ∃fd:FuncData,(∀(s:Shared)(u:Value),BindsTo s fd ⟨[u],[]⟩ [(x,u)]) /\
    ∀base:Heap,(K w.params).In base->base.Ns mainGlobals mg->Bm mg base->f9 l.prog w (K w.params) mg base (CX w) k fa fd [x] (sp w))
  (hsp:∀(w:World)(H:Hp)(a:Addr)(ns:List Int),ns.length<=n->Lf ts H->a ∉ ts->SqL (K w.params) H a (ns.map V.int)->sp w [.ref a] H (λv _=>v=.bl true) λ_ _ _=>False)
  (hCX:∀(w:World)(H:Hp)(s:Shared)(e:Value)(s':Shared),CX w [] H s (λ_ _ _=>False) e s'->False) :
  W.WalkO q loose XP YP l.row.toRowW d [] (λf vs=>PySem.call f vs):=by
 refine Att.zK hn hdf λw s₀ s₁ mg mb fa o pm cd doc a vs ns G Y ho hd hcd hmg hobj hints hlen hg=>?_
 obtain⟨KX,hts⟩:=hY w _ Y;obtain⟨hT,fd,hb,hF⟩:=F w mg fa _ KX G.T.g hmg;refine Iv KX G.T.g G.T.b G.T.builtins G.T.nolimit hg G.T.bmain hts (λp hp=>?_) (λp hp=>(hT p hp).1) hobj hints (oC hlen hn2) hr hF hb (λH hO hn hS=>hsp w H a ns hlen hO hn hS) λH e s'=>hCX w H s₁ e s'
 obtain⟨c,hc⟩:=(hT p hp).2;obtain⟨o,vs,_,_,_,_,_,_,_,e1,e2,e3,e4,_⟩:=W.codeHd_of_K KX hc;exact⟨c,o,vs,e1,e2,e3,e4⟩
end L2
namespace L2
open PySem PySem.Spec PyProof.Rows PySem.SeqAt
section
variable{X:Cx}{e:Expr}{te:TE}
def Lh:V->List V->Hp->VK->Prop:=λx vs H Q=>∃l xs i y,x=.ref l/\vs=[.int i]/\H l=some (.lst xs)/\0<=i/\i<xs.length/\xs.length<=1000000/\xs[i.toNat]?=some y/\∀H',Off l H H'->H' l=some (.lst (xs.eraseIdx i.toNat))->Q y H'
theorem Qj:MtM X "list.pop" Lh:=by
 intro pins s σ H x vs v us Q I rx rv h;obtain⟨l,xs,i,y,e1,e2,hH,h0,h1,hz,hy,q⟩:=h;refine JK pins s σ H x vs v us Q I rx rv ⟨l,xs,i,i.toNat,y,e1,e2,hH,by lia,by lia,?_,hy,q _ Off.upd bx⟩;unfold seqIndex?;simp only[show ¬ i<0 from by lia,if_false,h0,h1,decide_true,Bool.and_self,if_true]
theorem Qk{o e:Expr}{to te:TE}{apos cpos:Pos}(ho:PE X o to)(he:PE X e te)(hbase:attributeBase o "pop" X.env (eval o X.env)=eval o X.env:=by rfl)
  (hfew:((backTo cpos (starEach [e] X.env)).all (λx=>!x.1) && (backToKw cpos (keywordEach [] X.env)).all (λx=>x.1.isSome)
   && decide (([e]:List Expr).length+([]:List Keyword).length+(if ([]:List Keyword).isEmpty then 0 else 1)<30))=true:=by rfl)
  (hline:(apos.endLine==cpos.line)=true:=by rfl) (hs:starEach [e] X.env=(false,eval e X.env)::starEach [] X.env:=by rfl) :
  PE X (.Call (.Attribute o "pop" apos) [e] [] cpos) (tBM X.K "list" Lh to (rC te xX)) :=
 Ez PySem.F.plainAttrs_list PySem.F.slot_list_pop PySem.F.type_list_pop Qj ho (aj he ao hs) hbase hfew hline hs (by rfl)
end
section
variable{H0 H:Hp}{M:List Addr}{L L':List (Addr×HO)}{I:List Im}{l P f:Addr}{xs:List V}{y:V}{Q:VK}{R:Hp->Prop}{i:Int}{pos:Pos}{qual:Str}{ps:xI}
instance aat[h:Hat H l (.lst xs)]:Go (Lh (.ref l) [.int i] H Q) (Sd (0<=i/\i<xs.length/\xs.length<=1000000) (∀y:V,xs[i.toNat]?=some y->∀H',Off l H H'->H' l=some (.lst (xs.eraseIdx i.toNat))->Q y H')):=⟨λs=>by
 obtain⟨⟨h0,h1,h2⟩,k⟩:=s;have hl:i.toNat<xs.length:=by lia
 exact⟨l,xs,i,xs[i.toNat],rfl,rfl,h.e,h0,h1,h2,by simp,k _ (by simp)⟩⟩
theorem TabOk.st:∀H H',Tst H H'->TabOk pos qual ps H->TabOk pos qual ps H':=λH H' t h=>by
 rcases h with h|⟨c',oc,vs,t',e,e1,e2⟩
 ·exact .inl h
 ·exact .inr ⟨c',oc,vs,t',e,t _ _ rfl e1,e2⟩
theorem Le.st:∀H H',Tst H H'->Le H f->Le H' f:=λH H' t h=>by
 obtain⟨a1,a2,a3,a4,a5,a6,a7,a8,a9,a10,a11,a12,a13,a14,e1,e2,r⟩:=h;exact⟨a1,a2,a3,a4,a5,a6,a7,a8,a9,a10,a11,a12,a13,a14,t _ _ rfl e1,t _ _ rfl e2,r⟩
abbrev jC(pos:Pos)(qual:Str)(ps:xI):Im:=.fct (TabOk pos qual ps) TabOk.st
class nQ(I:List Im)(pos:Pos)(qual:Str)(ps:xI):Prop where
 m:jC pos qual ps∈I
instance aa8{g:Im}[h:nQ I pos qual ps]:nQ (g::I) pos qual ps:=⟨zD _ h.m⟩
instance aa9:nQ (jC pos qual ps::I) pos qual ps:=⟨zC⟩
theorem SH.tab[F:SH H0 M H L I][h:nQ I pos qual ps]:TabOk pos qual ps H:=F.im _ h.m
instance aau[F:SH H0 M H L I][u:LkU L P (.tbl ps) L']:Go (∀H',Kp P H H'->H' P=some (.tbl ps)->TabOk pos qual ps H'->R H') (∀H',SH H0 M H' L' (jC pos qual ps::I)->R H'):=⟨λk H' f e t=>k H' ((F.kp f e u.u rfl).nO t)⟩
end
def RQ(c:Nat):Bool:=decide (97<=c) && decide (c<=122)
def Xa(c:Nat):Bool:=decide (48<=c) && decide (c<=57)
structure Ua(cs:List Nat):Prop where
 lo:1<=cs.length
 hi:cs.length<=8
 hd:∀c,cs[0]?=some c->RQ c=true
 all:∀c∈cs,(RQ c || Xa c)=true
structure Rw where
 nm:List Nat
 st:Nat
 sz:Nat
 pn:Nat
structure GoodR(n:Nat)(r:Rw):Prop where
 nm:Ua r.nm
 sz:1<=r.sz
 le:r.st+r.sz<=n
def Apart(r s:Rw):Prop:=r.nm≠s.nm/\(r.st+r.sz<=s.st\/s.st+s.sz<=r.st)
theorem Apart.symm{r s:Rw}(h:Apart r s):Apart s r:=⟨λz=>h.1 z.symm,h.2.elim .inr .inl⟩
def Asc(rs:List Rw):Prop:=rs.Pairwise λr s=>r.st+r.sz<=s.st
theorem Asc.lt{n:Nat}{rs:List Rw}(h:Asc rs)(g:∀r∈rs,GoodR n r):rs.Pairwise λr s=>r.st<s.st:=by
 refine List.Pairwise.imp_of_mem ?_ h;intro a b ha hb hab;have:=(g a ha).sz
 lia
end L2
namespace L2
open PySem PySem.Spec PyProof.Rows
end L2
namespace L2
open PySem PySem.W PySem.Spec PyProof.Rows
section
variable{n:Nat}{rk:Nat->Int}{α β:Type}
def Kr(n:Nat)(rk:Nat->Int):KasT α->(α->Prop)->Prop
 | .ret a,P=>P a
 | .ask i j k,P=>i<n/\j<n/\i≠j/\Kr n rk (k (decide (rk i<rk j))) P
theorem lq{f:α->KasT β}{P:β->Prop}:∀(t:KasT α),Kr n rk t (λa=>Kr n rk (f a) P)->Kr n rk (t.bind f) P
 | .ret _,h=>h
 | .ask i j k,h=>⟨h.1,h.2.1,h.2.2.1,lq (k _) h.2.2.2⟩
theorem Li{cmp:Nat->Nat->(Bool->Shared->Prop)->Shared->Prop}{s:Shared}{P:α->Prop}{Q:α->Shared->Prop}(hc:∀i j C,i<n->j<n->i≠j->C (decide (rk i<rk j)) s->cmp i j C s)(hq:∀a,P a->Q a s):∀(t:KasT α),Kr n rk t P->t.kasWp cmp Q s
 | .ret a,h=>hq a h
 | .ask i j k,h=>hc i j _ h.1 h.2.1 h.2.2.1 (Li hc hq (k _) h.2.2.2)
abbrev Kk(rk:Nat->Int)(p:Array Nat)(k:Nat):Int:=rk (p.getD k 0)
def UpK(rk:Nat->Int)(p:Array Nat)(m:Nat):Prop:=∀i j,i<=j->j<m->Kk rk p i<=Kk rk p j
def nR(rk:Nat->Int)(p:Array Nat)(m:Nat):Prop:=∀i j,i<=j->j<m->Kk rk p j<=Kk rk p i
def Pp(n:Nat)(p:Array Nat):Prop:=p.Perm (List.range n).toArray
theorem Pp.size{p:Array Nat}(h:Pp n p):p.size=n:=by
 have:=h.size_eq;simpa using this
theorem Pp.lt{p:Array Nat}(h:Pp n p){k:Nat}(hk:k<n):p.getD k 0<n:=by
 have hs:=h.size;have e:p.getD k 0=p[k]'(by lia):=by rw[Array.getD_eq_getD_getElem?,Array.getElem?_eq_getElem (by lia)];rfl
 rw[e];have:=(Array.perm_iff_toList_perm.mp h).mem_iff.mp (show p[k]'(by lia)∈p.toList by simp);simpa using this
theorem Pp.ne{p:Array Nat}(h:Pp n p){a b:Nat}(ha:a<n)(hb:b<n)(hab:a≠b):p.getD a 0≠p.getD b 0:=by
 have hs:=h.size;have e:∀k (hk:k<n),p.getD k 0=p.toList[k]'(by simpa[hs] using hk):=λk hk=>by
  rw[Array.getD_eq_getD_getElem?,Array.getElem?_eq_getElem (by lia)]
  rfl
 have nd:p.toList.Nodup:=(Array.perm_iff_toList_perm.mp h).nodup_iff.mpr (by simpa using List.nodup_range);rw[e a ha,e b hb];intro z;exact hab ((List.getElem_inj nd).mp z)
theorem yx{p:Array Nat}{i j:Nat}(hj:j<=p.size)(k:Nat):Kk rk (kas_rev p i j) k=if i<=k/\k<j then Kk rk p (i+j-1-k) else Kk rk p k:=by
 unfold Kk kas_rev;rw[Array.getD_eq_getD_getElem?,getElem?_mirror_all hj,apply_ite (λo:Option Nat=>o.getD 0),apply_ite rk,Array.getD_eq_getD_getElem?,Array.getD_eq_getD_getElem?]
theorem Lj{p:Array Nat}{src d:Nat}(hs:src<p.size)(hd:d<=src)(k:Nat):Kk rk (bubble p src d) k=if k=src-d then Kk rk p src else if src-d<k/\k<=src then Kk rk p (k-1) else Kk rk p k:=by
 have g:∀(q:Array Nat)(j:Nat),q.getD j 0=(q[j]?).getD 0:=λq j=>Array.getD_eq_getD_getElem? ..
 simp only[Kk,g];rw[getElem?_bubble hs d hd]
 repeat' split
 all_goals rfl
theorem Pp.rev{p:Array Nat}(h:Pp n p){i j:Nat}:Pp n (kas_rev p i j):=(mirror_perm _ _ _ _).trans h
theorem Pp.bub{p:Array Nat}(h:Pp n p){i j:Nat}:Pp n (bubble p i j):=(bubble_perm _ _ _).trans h
theorem DR{p:Array Nat}(hp:Pp n p){P:Nat->Prop}:∀(f m:Nat),1<=m->m+f<=n->UpK rk p m->(∀m',m<=m'->m'<=m+f->UpK rk p m'->(m'=m+f\/Kk rk p m'<Kk rk p (m'-1))->P m')->Kr n rk (kas_asc p f m) P
 | 0,m,_,_,u,k=>k m (rS _) (rS _) u (.inl rfl)
 | f+1,m,h1,h2,u,k=>by
  refine⟨hp.lt (by lia),hp.lt (by lia),hp.ne (by lia) (by lia) (by lia),?_⟩;by_cases hc:rk (p.getD m 0)<rk (p.getD (m-1) 0)
  ·rw[uB hc]
   try dsimp only
   rw[yB rfl];exact k m (rS _) (by lia) u (.inr hc)
  ·rw[uA hc]
   try dsimp only
   rw[yT (by decide)];refine DR hp f (m+1) (by lia) (by lia) (λi j hij hj=>?_) λm' a b c d=>k m' (by lia) (by lia) c (by rcases d with d|d;exact .inl (by lia);exact .inr d)
   by_cases e:j=m
   ·subst e;by_cases e2:i=j
    ·subst e2;exact Int.le_refl _
    ·have:=u i (j-1) (by lia) (by lia);show Kk rk p i<=Kk rk p j;have:¬ Kk rk p j<Kk rk p (j-1):=hc
     lia
   ·exact u i j hij (by lia)
def Tie(rk:Nat->Int)(p:Array Nat)(m q:Nat):Prop:=q+1<=m/\∀k,m-(q+1)<=k->k<m->Kk rk p k=Kk rk p (m-1)
theorem FZ{p:Array Nat}{m q:Nat}(hm:m<=p.size)(t:Tie rk p m q)(k:Nat):Kk rk (kas_rev p (m-(q+1)) m) k=Kk rk p k:=by
 rw[yx hm];split
 ·rename_i h;rw[t.2 _ (by lia) (by lia),t.2 k h.1 h.2]
 ·rfl
theorem yC{p p':Array Nat}{m:Nat}(e:∀k,Kk rk p' k=Kk rk p k)(d:nR rk p m):nR rk p' m:=λi j a b=>by rw[e,e];exact d i j a b
theorem lu{p:Array Nat}{m:Nat}(h1:1<=m)(d:nR rk p m)(h:Kk rk p m<=Kk rk p (m-1)):nR rk p (m+1):=λi j hij hj=>by
 by_cases e:j=m
 ·subst e;by_cases e2:i=j
  ·subst e2;exact Int.le_refl _
  ·have:=d i (j-1) (by lia) (by lia)
   lia
 ·exact d i j hij (by lia)
theorem qI{P:Array Nat×Nat×Nat->Prop}:∀(f:Nat)(p:Array Nat)(m q:Nat),Pp n p->1<=m->m+f<=n->nR rk p m->Tie rk p m q->(∀p' m' q',Pp n p'->1<=m'->m'<=n->nR rk p' m'->Tie rk p' m' q'->P (p',m',q'))->Kr n rk (kas_desc f p m q) P
 | 0,p,m,q,hp,h1,h2,d,t,k=>k p m q hp h1 (by lia) d t
 | f+1,p,m,q,hp,h1,h2,d,t,k=>by
  refine⟨hp.lt (by lia),hp.lt (by lia),hp.ne (by lia) (by lia) (by lia),?_⟩;have hs:=hp.size;by_cases hc:rk (p.getD m 0)<rk (p.getD (m-1) 0)
  ·rw[uB hc]
   try dsimp only
   rw[yB rfl];have hc:Kk rk p m<Kk rk p (m-1):=hc;have d2:nR rk p (m+1):=lu h1 d (by lia);by_cases hq:q > 0
   ·rw[yB hq];refine qI f _ (m+1) 0 hp.rev (by lia) (by lia) (yC (FZ (by lia) t) d2) ⟨by lia,λj a b=>?_⟩ k;rw[show j=m+1-1 by lia]
   ·rw[yT hq];refine qI f _ (m+1) 0 hp (by lia) (by lia) d2 ⟨by lia,λj a b=>?_⟩ k;rw[show j=m+1-1 by lia]
  ·rw[uA hc]
   try dsimp only
   rw[yT (by decide)];have hc:¬ Kk rk p m<Kk rk p (m-1):=hc;refine⟨hp.lt (by lia),hp.lt (by lia),hp.ne (by lia) (by lia) (by lia),?_⟩;by_cases hd:rk (p.getD (m-1) 0)<rk (p.getD m 0)
   ·rw[uB hd]
    try dsimp only
    rw[yB rfl];exact k p m q hp h1 (by lia) d t
   ·rw[uA hd]
    try dsimp only
    rw[yT (by decide)];have hd:¬ Kk rk p (m-1)<Kk rk p m:=hd;have e:Kk rk p m=Kk rk p (m-1):=by lia
    refine qI f p (m+1) (q+1) hp (by lia) (by lia) (lu h1 d (by lia)) ⟨by have:=t.1;lia,λj a b=>?_⟩ k;rw[Nat.add_sub_cancel];by_cases ej:j=m
    ·rw[ej]
    ·rw[t.2 j (by lia) (by lia),e]
theorem Ga{p:Array Nat}{m:Nat}{P:Nat×Array Nat->Prop}(hp:Pp n p)(h1:1<=m)(h2:m<=n)(d:nR rk p m)(k:∀m' p',Pp n p'->1<=m'->m'<=n->UpK rk p' m'->P (m',p')):Kr n rk (kas_tail3 m n p) P:=by
 unfold kas_tail3;refine lq _ (DR hp.rev _ m h1 (by lia) (λi j hij hj=>?_) λm' a b u _=>k m' _ hp.rev (by lia) (by lia) u);have hs:=hp.size;rw[yx (by lia),yx (by lia),yB (by lia),yB (by lia)];exact d _ _ (by lia) (by lia)
theorem Gb{p:Array Nat}{m:Nat}{P:Nat×Array Nat->Prop}(hp:Pp n p)(h1:1<=m)(h2:m<n)(d:nR rk p (m+1))(k:∀m' p',Pp n p'->1<=m'->m'<=n->UpK rk p' m'->P (m',p')):Kr n rk (kas_descPart m n p) P:=by
 unfold kas_descPart;refine lq _ (qI _ p (m+1) 0 hp (by lia) (by lia) d ⟨by lia,λj a b=>by rw[show j=m+1-1 by lia]⟩ λp' m' q' hp' a b d' t'=>?_);have hs:=hp'.size;show Kr n rk (if q' > 0 then kas_tail3 m' n (kas_rev p' (m'-(q'+1)) m') else kas_tail3 m' n p') P;split
 ·exact Ga hp'.rev a b (yC (FZ (by lia) t') d') k
 ·exact Ga hp' a b d' k
theorem Ln{p:Array Nat}{P:Nat×Array Nat->Prop}(hp:Pp n p)(hn:1<=n)(k:∀m' p',Pp n p'->1<=m'->m'<=n->UpK rk p' m'->P (m',p')):Kr n rk (kas_count n p) P:=by
 unfold kas_count;refine lq _ (DR hp _ 1 (rS _) (by lia) (λi j a b=>by rw[show i=0 by lia,show j=0 by lia];exact Int.le_refl _) λm a b u st=>?_);have hs:=hp.size;by_cases e:m=n
 ·rw[if_pos (by simpa using e)];exact k m p hp a (by lia) u
 ·rw[if_neg (by simpa using e)];have st:Kk rk p m<Kk rk p (m-1):=by
   rcases st with st|st
   ·lia
   ·exact st
  by_cases h1:m > 1
  ·rw[yB h1];refine⟨hp.lt (by lia),hp.lt (by lia),hp.ne (by lia) (by lia) (by lia),?_⟩;by_cases hc:rk (p.getD 0 0)<rk (p.getD (m-1) 0)
   ·rw[uB hc]
    try dsimp only
    rw[yB rfl];exact k m p hp a (by lia) u
   ·rw[uA hc]
    try dsimp only
    rw[yT (by decide)];have hc:¬ Kk rk p 0<Kk rk p (m-1):=hc;have al:∀j,j<m->Kk rk p j=Kk rk p (m-1):=λj hj=>by
     have:=u 0 j (by lia) hj;have:=u j (m-1) (by lia) (by lia)
     lia
    have er:∀j,Kk rk (kas_rev p 0 m) j=Kk rk p j:=λj=>by
     rw[yx (by lia)];split
     ·rw[al _ (by lia),al j (by lia)]
     ·rfl
    refine Gb hp.rev a (by lia) (yC er (lu a (λi j a b=>by rw[al i (by lia),al j b];exact Int.le_refl _) (by lia))) k
  ·rw[yT h1];have e1:m=1:=by lia
   subst e1;exact Gb hp a (by lia) (lu a (λi j a b=>by rw[show i=0 by lia,show j=0 by lia];exact Int.le_refl _) (by lia)) k
theorem sE{p:Array Nat}{k:Nat}{P:Nat->Prop}(hp:Pp n p)(hk:k<n)(u:UpK rk p k):∀(f l r:Nat),l<=r->r<=k->r-l<=f->(∀i,i<l->Kk rk p i<=Kk rk p k)->(∀i,r<=i->i<k->Kk rk p k<Kk rk p i)->(∀l',l'<=k->(∀i,i<l'->Kk rk p i<=Kk rk p k)->(∀i,l'<=i->i<k->Kk rk p k<Kk rk p i)->P l')->Kr n rk (kas_place p k f l r) P
 | 0,l,r,h1,h2,h3,a,b,kk=>kk l (by lia) a λi h h'=>b i (by lia) h'
 | f+1,l,r,h1,h2,h3,a,b,kk=>by
  unfold kas_place;by_cases hl:l ≥ r
  ·rw[yB hl];exact kk l (by lia) a λi h h'=>b i (by lia) h'
  ·rw[yT hl];refine⟨hp.lt (by lia),hp.lt (by lia),hp.ne (by lia) (by lia) (by lia),?_⟩;by_cases hc:rk (p.getD k 0)<rk (p.getD ((l+r) / 2) 0)
   ·rw[uB hc]
    try dsimp only
    rw[yB rfl];have hc:Kk rk p k<Kk rk p ((l+r) / 2):=hc;refine sE hp hk u f l ((l+r) / 2) (by lia) (by lia) (by lia) a (λi h h'=>?_) kk;have:=u ((l+r) / 2) i h h'
    lia
   ·rw[uA hc]
    try dsimp only
    rw[yT (by decide)];have hc:¬ Kk rk p k<Kk rk p ((l+r) / 2):=hc;refine sE hp hk u f ((l+r) / 2+1) r (by lia) (by lia) (by lia) (λi h=>?_) b kk;have:=u i ((l+r) / 2) (by lia) (by lia)
    lia
theorem Lp{P:Array Nat->Prop}:∀(f:Nat)(p:Array Nat)(k:Nat),Pp n p->k+f=n->UpK rk p k->(∀p',Pp n p'->UpK rk p' n->P p')->Kr n rk (kas_bin f p k) P
 | 0,p,k,hp,e,u,kk=>kk p hp (by rw[<- e];exact u)
 | f+1,p,k,hp,e,u,kk=>by
  unfold kas_bin;have hs:=hp.size;refine lq _ (sE hp (by lia) u k 0 k (Nat.zero_le _) (rS _) (by lia) (λi h=>gS h (Nat.not_lt_zero _)) (λi h h'=>gS h' (by lia)) λl hl a b=>?_);refine Lp f _ (k+1) hp.bub (by lia) (λi j hij hj=>?_) kk;rw[Lj (by lia) (by lia),Lj (by lia) (by lia),show k-(k-l)=l by lia];by_cases e1:j=l
  ·rw[yB e1];by_cases e2:i=l
   ·rw[yB e2];exact Int.le_refl _
   ·rw[yT e2,yT (by lia)];exact a i (by lia)
  ·rw[yT e1];by_cases e2:i=l
   ·rw[yB e2,yB (by lia)];have:=b (j-1) (by lia) (by lia)
    lia
   ·rw[yT e2];by_cases e3:l<j/\j<=k
    ·rw[yB e3];by_cases e4:l<i/\i<=k
     ·rw[yB e4];exact u _ _ (by lia) (by lia)
     ·rw[yT e4];exact u _ _ (by lia) (by lia)
    ·rw[yT e3,yT (by lia)];exact u _ _ hij (by lia)
theorem Ge{P:Array Nat->Prop}(hn:1<=n)(k:∀p,Pp n p->UpK rk p n->P p):Kr n rk (kas_sort n) P:=by
 unfold kas_sort;refine lq _ (Ln (Array.Perm.refl _) hn λm p hp a b u=>?_);show Kr n rk (if m<n then kas_bin (n-max m 1) p (max m 1) else .ret p) P;split
 ·rw[show max m 1=m by lia];exact Lp _ p m hp (by lia) u k
 ·exact k p hp (by rw[show n=m by lia];exact u)
end
end L2
namespace L2
open PySem PySem.W PySem.Calls PySem.Spec PyProof.Rows
section
variable{prog:Program}{w:World}{A:Around}{E:xB}{s:Shared}{h₀:Heap}{L:Addr}{m:xC}{news:List (Addr×Obj)}{vs:xF}
theorem Ql:(vs.toArray.zip vs.toArray).map (·.2)=vs.toArray:=by
 apply Array.toList_inj.mp
 rw[Array.toList_map,Array.toList_zip];exact List.map_snd_zip (rS _)
theorem Lq{a:Addr}{n:Nat}{P:PySem.Fin->Shared->Prop}(F:Fr h₀ L s.heap m)(N:News h₀ L s.heap news)(ho:s.heap.get? a=some (seqObj "list" vs.toArray n))(haL:a≠L)(ha0:h₀.get? a=none)(hna:∀p∈news,p.1≠a)(h2:vs.length<2)
  (k:∀h' c,Fr h₀ L h' m->News h₀ L h' ((a,seqObj "list" vs.toArray c)::news)->P (.done (.ret .none)) { s with heap:=h' }):wpAny (model prog w) A (Builtin.«list.sort» ⟨[.ref a],[]⟩) P E s:=by
 have s1:=Heap.SameBut.update s.heap a (Obj.mapSeq λ_=>(#[]:xI));obtain⟨e1,ho1⟩:∃e1,(s.heap.update a (Obj.mapSeq λ_=>(#[]:xI))).get? a=some (seqObj "list" #[] e1):=⟨_,get?_update_seq ho λ_=>#[]⟩;rw[list_sort_plain];refine zI (listItems_at ho rfl (zI (listUpdate_at ho rfl ?_ (by rw[nX,sizeLine_eq];lia) (Nat.zero_le _))));refine zI (seqEpoch_at ho1 rfl (zI (wpAny_newTuple ?_ (by show vs.length<=_;rw[sizeLine_eq];lia))));refine zI (wpAny_newList (mI ?_) (Nat.zero_le _))
 generalize eh:((s.heap.update a (Obj.mapSeq λ_=>(#[]:xI))).push (seqObj "tuple" vs.toArray 0)).push (seqObj "list" #[] 0)=hp
 have up:∀b o,(s.heap.update a (Obj.mapSeq λ_=>(#[]:xI))).get? b=some o->hp.get? b=some o:=λb o e=>by rw[<- eh];exact uS _ (uS _ e)
 have F3:Fr h₀ L hp m:=by rw[<- eh];exact((kas_fr F s1 haL ha0).push _).push _
 have N3:News h₀ L hp news:=(kas_news N s1 hna).grown up;have ho3:hp.get? a=some (seqObj "list" #[] e1):=up _ _ ho1;show wpAny (model prog w) A _ P E { s with heap:=hp }
 dsimp only;have hn2:vs.toArray.size<2:=by rw[nX];lia
 rw[yB hn2,yB hn2];refine zI (oB (zI ?_));rw[StateT.run_pure];refine oB ?_;dsimp only;show wpAny (model prog w) A (seqEpoch a >>= λe=>Builtin.List.listUpdate (.ref a) (λ_=>(vs.toArray.zip vs.toArray).map (·.2)) >>= λ_=>_) P E { s with heap:=hp }
 rw[Ql];have s2:=Heap.SameBut.update hp a (Obj.mapSeq λ_=>vs.toArray);obtain⟨c2,hc2⟩:∃c2,(hp.update a (Obj.mapSeq λ_=>vs.toArray)).get? a=some (seqObj "list" vs.toArray c2):=⟨_,get?_update_seq ho3 λ_=>vs.toArray⟩;refine zI (seqEpoch_at ho3 rfl (zI (listUpdate_at ho3 rfl ?_ (Nat.zero_le _) (by show vs.length<=_;rw[sizeLine_eq];lia))));show wpAny (model prog w) A (if (e1 != e1)=true then _ else _) P E _;simp only[bne_self_eq_false,Bool.false_eq_true,if_false];refine oB (k _ c2 (kas_fr F3 s2 haL ha0) λp hp'=>?_);rcases jS.mp hp' with rfl|hp'
 ·exact⟨hc2,haL,ha0⟩
 ·exact kas_news N3 s2 hna p hp'
inductive F2{α β:Type}(R:α->β->Prop):List α->List β->Prop
 | nil:F2 R [] []
 | cons {a b l m}:R a b->F2 R l m->F2 R (a::l) (b::m)
theorem F2.length_eq{α β:Type}{R:α->β->Prop}:∀{l:List α} {m:List β},F2 R l m->l.length=m.length
 | _,_,.nil=>rfl
 | _,_,.cons _ h=>gN (· + 1) h.length_eq
theorem DW{l:Addr}{Q:xB}(F:Fr h₀ L s.heap m)(N:News h₀ L s.heap news)(hl:s.heap.IsList l vs.toArray)(h2:vs.length<2)
  (k:∀D c h',Fr h₀ L h' m->News h₀ L h' ((D,seqObj "list" vs.toArray c)::news)->(∀q∈news,q.1<D)->Q (.ref D) { s with heap:=h' }):wpAny (model prog w) A (call (.builtin "sorted") [.ref l]) Q E s:=by
 refine Calls.call_function_entry kind_sorted plain_sorted entry_sorted (args_sorted1 _) ?_;unfold Builtin.«sorted»;refine zI (m:=checkCount "sorted" 1 1 _) (oB (zI (collect_list hl ?_ (by rw[sizeLine_eq];lia))));refine zI (wpAny_newList ?_ (by rw[sizeLine_eq];lia))
 generalize eh:((s.heap.push (seqObj "list" #[] 0)).update s.heap.objs.size (Obj.mapSeq (·++vs.toArray)))=hp
 have hsz:hp.objs.size=s.heap.objs.size+1:=by rw[<- eh,Heap.size_update,size_push']
 have keep:∀b o,s.heap.get? b=some o->(hp.push (seqObj "list" vs.toArray 0)).get? b=some o:=λb o q=>by
  have hlt:b<s.heap.objs.size:=uC q;rw[zzG _ _ _ (by rw[hsz];exact gE (nV hlt)),<- eh,zzF _ _ _ _ (gE hlt),zzG _ _ _ (gE hlt)];exact q
 have hoL:(hp.push (seqObj "list" vs.toArray 0)).get? hp.objs.size=some (seqObj "list" vs.toArray 0):=oS _ rfl;have up1:∀{b:Addr},b<s.heap.objs.size->b<hp.objs.size:=λh=>by rw[hsz];exact nV h
 have hL:L<hp.objs.size:=up1 F.ns.lt;show wpAny _ _ _ _ _ { s with heap:=hp.push (seqObj "list" vs.toArray 0) }
 refine zI (mI (wpAny_call_entry slot_list_sort ⟨_,hoL,rfl⟩ entry_list_sort ?body (args_list_sort _)))
 case body =>
  refine Lq (s:={ s with heap:=hp.push (seqObj "list" vs.toArray 0) }) (F.kept keep) (N.grown keep) hoL (Nat.ne_of_gt hL) (Heap.get?_none_of_le (oC F.above (zzE hL))) (λp hp'=>gE (up1 (uC (N p hp').1))) h2 λh' c F' N'=>?_
  exact⟨_,rfl,oB ⟨_,rfl,k _ c h' F' N' λq hq=>up1 (uC (N q hq).1)⟩⟩
end
theorem Lr{α β:Type}{R:α->β->Prop}:∀{l:List α} {m:List β},l.length=m.length->(∀(i:Nat) a b,l[i]?=some a->m[i]?=some b->R a b)->F2 R l m
 | [],[],_,_=>.nil
 | [],_::_,h,_=>nomatch h
 | _::_,[],h,_=>nomatch h
 | a::l,b::m,h,f=>.cons (f 0 a b rfl rfl) (Lr (Nat.succ.inj h) λi x y e1 e2=>f (i+1) x y (by simpa using e1) (by simpa using e2))
end L2
namespace L2
open PySem PySem.Spec PyProof.Rows PySem.SeqAt
end L2
namespace L2
open PySem PySem.W PySem.Spec PyProof.Rows
section
variable{CX:CXT}{P:Program}{w:World}{K:W.Frag}{mg:xC}{base:Heap}{k:Nat}{x:Str}{ps:List Str}{sp:Sp}{ds:xF}
structure Xb(P:Program)(w:World)(K:W.Frag)(mg:xC)(base:Heap)(CX:CXT)(k:Nat)(x:Str)(ps:List Str)(sp:Sp)(ds:xF):Prop where
 ex:∃(f:Addr)(fd:FuncData),f9 P w K mg base CX k f fd ps sp/\mg x=some (.ref f)/\W.keepIn K (.ref f)=true/\Binds K fd ps []/\Binds K fd ps ds
theorem Xb.all(D:Xb P w K mg base CX k x ps sp ds):Def P w K mg base CX k x ps sp :=
 let ⟨f,fd,F,a,b,c,_⟩:=D.ex
 ⟨f,fd,F,a,b,c⟩
end
end L2
namespace L2
open PySem PySem.Spec PyProof.Rows PySem.SeqAt
section
variable{H:Hp}{Q:VK}{p:Addr}{r:List V}{v v0 v1 v2 v3:V}
instance at4:AtI (v0::v1::v2::v3::v::r) 4 v:=⟨gO (j:=4) rfl⟩
instance YB:Go (Tr (.ref p) .non H Q) (Q (.bl false) H):=⟨λk=>⟨rfl,k⟩⟩
instance YC:Go (Tr .non .non H Q) (Q (.bl true) H):=⟨λk=>⟨rfl,k⟩⟩
end
end L2
namespace L2
open PySem PySem.W PySem.Calls PySem.Spec PyProof.Rows
end L2
namespace L2
open PySem PySem.Spec PyProof.Rows PySem.SeqAt
section
variable{X:Cx}{k m:Nat}{nm:Str}{ps:List Str}{sp:Sp}{pos apos:Pos}{e o:Expr}{es:List Expr}{t:TA}{ta:TE}{C:Addr}{pins:List (Addr×Obj)}{EX:St->XK}
theorem Gf{pl:Sem Bool}(he:PE (X.tr pins EX) o ta)(c:Cls X.K C)(D:Met X.prog X.w X.K X.mg X.base (CX1 X.prog X.w) k C nm ps sp)(hr:Room m X.A)(ha:PA (X.tr pins EX) (e::es) t)(hk:k<=m:=by decide)
  (h1:starEach (e::es) X.env=(false,eval e X.env)::starEach es X.env:=by rfl) (h2:(backTo pos (starEach es X.env)).any (·.1)=false:=by rfl)
  (h3:eval (.Call (.Attribute o nm apos) (e::es) [] pos) X.env=(do
   let v <- eval o X.env
   standAt apos.atName
   let (g,ahead) <- holding [v] (getMethod v nm pl)
   callWith pos g ahead (backTo pos (starEach (e::es) X.env)) (backToKw pos (keywordEach [] X.env))):=by rfl) :
  PE (X.tr pins EX) (.Call (.Attribute o nm apos) (e::es) [] pos) (Dz C nm EX sp ta t):=by
 obtain⟨f,fd,F,mt,b⟩:=D.ex;exact KH (pl:=pl) he c mt F hr b ha hk h1 h2 h3
end
theorem RT{CX:CXT}{P:Program}{w:World}{K:W.Frag}{mg:xC}{base:Heap}{N:List Str}{qual:Str}{scope:Scope}{f:Addr}{cd:Value}{A:Around}{outer:List Env}{s:Shared}{H:Hp}{E:XK}:(iV CX P w K mg base N qual scope f cd A outer s H E).s₀=s:=rfl
def tEX(th:THd)(D:Ends):St->XK:=λσ cv dx H=>∃C,cv=.ref C/\∀a,H a=none->th D C a dx σ (upd H a (qC a C dx))
class ExA(H:Hp)(a:Addr)(C:outParam Addr)(fs:outParam (List (Str×V))):Prop where
 e:mG H a C fs
class ExM(K:W.Frag)(C d:Addr)(b:outParam Bool):Prop where
 e:W.exmOne K (.ref C) (.ref d)=some b
def Gg(n:Nat)(C:Addr)(H0:Hp)(E:XK)(f g:Str)(vs:List V)(H1:Hp):Prop:=∃v y,vs=[v,y]/\∀z H',n<=z->H1 z=none->Same H1 H'->ExcAt H' z C (fL g y [(f,v)])->∃a dx,V.ref z=.ref a/\n<=a/\H0 a=none/\H' a=some (jL a C dx)/\E (.ref C) dx (del H' a)
section
variable{K:W.Frag}{H H0:Hp}{Q:VK}{σ:St}{D:Ends}{th rest:THd}{tbE:(St->XK)->TS}{t:TA}{ta:TE}{sp:Sp}{EX:St->XK}{E:XK}{C d a:Addr}{dx:xL}{fs:List (Str×V)}{f g m:Str}{v y:V}{n:Nat}{ts:Addr->TS}
instance YD:Go (Wi (λ_ EX=>tbE EX) th D σ H) (tbE (tEX th D) D σ H):=⟨λh _=>h⟩
instance Vl:Go (Dz C m EX sp ta t σ H Q) (ta σ H λx H1=>∃a dx fs,x=.ref a/\H1 a=some (.ins C dx fs)/\fs.lookup m=none/\t σ H1 λvs H2=>sp (x::vs) H2 Q (EX σ)):=⟨id⟩
instance Ub:Go (J_ C H0 n E (Ro n C f g t) D σ H) (t σ H λvs H1=>Gg n C H0 E f g vs H1):=⟨λh=>h⟩
instance YF:Go (Rp C ta f σ H Q) (ta σ H λx H1=>∃a fs v,x=.ref a/\mG H1 a C fs/\fs.lookup f=some v/\Q v H1):=⟨id⟩
instance YG[h:ExA H a C fs][e:FLk fs f v]{R:V->Prop}:Go (∃a' fs' v',V.ref a=.ref a'/\mG H a' C fs'/\fs'.lookup f=some v'/\R v') (R v):=⟨λk=>⟨a,fs,v,rfl,h.e,e.e,k⟩⟩
instance abF{r:List (Str×V)}:FLk ((f,v)::r) f v:=⟨by simp[List.lookup]⟩
class NeS(f g:Str):Prop where
 e:f≠g
instance abG{r:List (Str×V)}[n:NeS f g]:FLk ((g,y)::(f,v)::r) f v:=⟨by
 rw[List.lookup_cons,show (f==g)=false from beq_eq_false_iff_ne.mpr n.e];simp[List.lookup]⟩
instance YH{i:Nat}:Go (Ends.rt (Ends.forget D i) v H) (Ends.rt D v H):=⟨λh=>h⟩
instance YJ{o0 o1 o2 o3 o:Option V}{r:St}[e:ExM K C d true]:Go (hAs K d 4 ts rest D C a dx (o0::o1::o2::o3::o::r) H) (ts a (D.forget 4) (o0::o1::o2::o3::some (.ref a)::r) H):=⟨λh=>Ih e.e h⟩
end
end L2
namespace L2
open PySem PySem.W PySem.Spec PyProof.Rows
end L2
namespace L2
open PySem PySem.Spec PyProof.Rows
end L2
namespace L2
open PySem PySem.W PySem.Calls PySem.Spec PyProof.Rows
def jj(news:List (Addr×Obj))(v:Value)(w:Nat×Nat):Prop:=∃(a:Addr)(o:Obj)(xs:xI)(n:Nat)(t u:Tok),v=.ref a/\(a,o)∈news/\o.cls=.type "tuple" /\ o.data=.seq xs n/\xs.toList=[.int (w.1:Nat) t,.int (w.2:Nat) u]
theorem qJ{news:List (Addr×Obj)}{h:Heap}(hh:∀p∈news,h.get? p.1=some p.2):∀{vs:xF} {ks:xD},F2 (jj news) vs ks->∃fs:List Value,KatTups h vs fs/\fs.length=vs.length/\∀v∈fs,∃z t,v=.int z t
 | [],[],_=>⟨[],trivial,rfl,λv hv=>nomatch hv⟩
 | v::vs,c::ks,.cons hv ht=>by
  obtain⟨a,o,xs,n,t,u,rfl,hm,hc,hd,hx⟩:=hv;obtain⟨fs,k,hl,hs⟩:=qJ hh ht;have e0:xs[0]?=some (.int (c.1:Nat) t):=by
   rw[<- Array.getElem?_toList,hx]
   rfl
  refine⟨.int (c.1:Nat) t::fs,KatTups.cons (hh _ hm) hc hd e0 k,by simp[hl],λv hv=>?_⟩;rcases jS.mp hv with rfl|hv
  ·exact⟨_,t,rfl⟩
  ·exact hs v hv
theorem nU{news:List (Addr×Obj)}:∀{vs:xF} {ks:xD},F2 (jj news) vs ks->∀{i:Nat},i<vs.length->jj news (vs.getD i .none) (ks.getD i (0,0))
 | _::_,_::_,.cons hv _,0,_=>hv
 | _::vs,_::ks,.cons _ ht,i+1,h=>by
  have:=nU ht (i:=i) (by simpa using h);simpa using this
def rkP(w:Nat×Nat):Int:=(w.1:Int)*1000000+(w.2:Int)
theorem DX{a b:Nat×Nat}(ha:a.2<1000000)(hb:b.2<1000000):rkP a<rkP b ↔ a.1<b.1\/(a.1=b.1/\a.2<b.2):=by
 unfold rkP
 constructor
 ·intro h;by_cases h1:a.1<b.1
  ·exact .inl h1
  ·right
   lia
 ·rintro (h|⟨h,h2⟩) <;> lia
theorem yD{a b:Nat×Nat}(ha:a.2<1000000)(hb:b.2<1000000)(h:rkP a=rkP b):a=b:=by
 unfold rkP at h;have h1:a.1=b.1:=by lia
 exact Prod.ext h1 (by lia)
theorem getD_mem{α:Type}{l:List α}{i:Nat}{d:α}(h:i<l.length):l.getD i d∈l:=by
 rw[nB,qS h];exact List.getElem_mem h
theorem getD_get{α:Type}{l:List α}{i:Nat}{d:α}(h:i<l.length):l.getD i d=l[i]:=by
 rw[nB,qS h]
 rfl
theorem fQ{α:Type}{l:List α}{d:α}:(List.range l.length).map (λi=>l.getD i d)=l:=by
 apply List.ext_getElem?
 intro i;rw[vE];by_cases hi:i<l.length
 ·rw[List.getElem?_range hi,Option.map_some,nB,qS hi]
  rfl
 ·rw[List.getElem?_eq_none (show l.length<=i by lia),List.getElem?_eq_none (by simp;lia)]
  rfl
section
variable{prog:Program}{w:World}{A:Around}{E:xB}{s:Shared}{h₀:Heap}{L:Addr}{m:xC}{news:List (Addr×Obj)}{vs:xF}
theorem yE{l:Addr}{ks:xD}{Q:xB}(F:Fr h₀ L s.heap m)(N:News h₀ L s.heap news)(hl:s.heap.IsList l vs.toArray)(h64:vs.length<64)(tp:F2 (jj news) vs ks)(nd:ks.Nodup)(sm:∀w∈ks,w.2<1000000)
  (k:∀D (p:List Nat) c h',Fr h₀ L h' m->News h₀ L h' ((D,seqObj "list" (p.map (λi=>vs.getD i Value.none)).toArray c)::news)->(∀q∈news,q.1<D)->p.Perm (List.range vs.length)->(p.Pairwise λi j=>rkP (ks.getD i (0,0))<rkP (ks.getD j (0,0)))->Q (.ref D) { s with heap:=h' }) :
  wpAny (model prog w) A (call (.builtin "sorted") [.ref l]) Q E s:=by
 have hlen:ks.length=vs.length:=tp.length_eq.symm;by_cases h2:vs.length<2
 ·refine DW F N hl h2 λD c h' F' N' lt=>k D (List.range vs.length) c h' F' (by rw[fQ];exact N') lt (List.Perm.refl _) ?_
  rw[List.pairwise_iff_getElem];intro i j hi hj hij;rw[List.length_range] at hi hj
  lia
 have h2:2<=vs.length:=by lia
 refine kat_sorted F N hl h2 h64 λD e1 h' F' N' lt=>?_
 have hh:∀p∈news,h'.get? p.1=some p.2:=λp hp=>(N' p (zD _ hp)).1
 obtain⟨fs,kt,fl,Ls⟩:=qJ hh tp;refine kat_kind (s:={ s with heap:=h' }) (T:=.type "int") kt (by lia) (λv hv=>?_) rfl ?_
 ·obtain⟨z,t,rfl⟩:=Ls v hv;exact Looks.of_pure rfl
 ·refine Li (n:=vs.length) (rk:=λi=>rkP (ks.getD i (0,0))) (P:=λp=>Pp vs.length p/\UpK (λi=>rkP (ks.getD i (0,0))) p vs.length) (λi j C hi hj hij hC=>?_) (λp hp=>?_) _ (Ge (by lia) λp a b=>⟨a,b⟩)
  ·unfold kas_ask;obtain⟨a,o,xs,n,t,u,ev,hm,hc,hd,hx⟩:=nU tp hi;obtain⟨a',o',xs',n',t',u',ev',hm',hc',hd',hx'⟩:=nU tp hj;have mi:ks.getD i (0,0)∈ks:=getD_mem (by lia);have mj:ks.getD j (0,0)∈ks:=getD_mem (by lia);have ne:ks.getD i (0,0)≠ks.getD j (0,0):=λz=>by
    rw[getD_get (show i<ks.length by lia),getD_get (show j<ks.length by lia)] at z;exact hij ((List.getElem_inj nd).mp z)
   have hr:=DX (sm _ mi) (sm _ mj);rw[ev,ev'];refine kat_lt (s:={ s with heap:=h' }) (hh _ hm) hd (hh _ hm') hd' ?_
   rw[hx,hx'];refine kat_cons (wpAny_eqBool_int ?_);by_cases e1:(ks.getD i (0,0)).1=(ks.getD j (0,0)).1
   ·have e2:(ks.getD i (0,0)).2≠(ks.getD j (0,0)).2:=λz=>ne (Prod.ext e1 z)
    rw[show ((((ks.getD i (0,0)).1:Nat):Int)==(((ks.getD j (0,0)).1:Nat):Int))=true by rw[e1];simp];refine kat_yes (kat_cons (wpAny_eqBool_int ?_));rw[show ((((ks.getD i (0,0)).2:Nat):Int)==(((ks.getD j (0,0)).2:Nat):Int))=false by rw[beq_eq_false_iff_ne];lia];refine kat_no (kat_one _ _ (lt_int ?_));show C _ _;rw[show decide ((((ks.getD i (0,0)).2:Nat):Int)<(((ks.getD j (0,0)).2:Nat):Int))=decide (rkP (ks.getD i (0,0))<rkP (ks.getD j (0,0))) from decide_eq_decide.mpr (by rw[hr];lia)];exact hC
   ·rw[show ((((ks.getD i (0,0)).1:Nat):Int)==(((ks.getD j (0,0)).1:Nat):Int))=false by rw[beq_eq_false_iff_ne];lia];refine kat_no (oneLt_int ?_);rw[show decide ((((ks.getD i (0,0)).1:Nat):Int)<(((ks.getD j (0,0)).1:Nat):Int))=decide (rkP (ks.getD i (0,0))<rkP (ks.getD j (0,0))) from decide_eq_decide.mpr (by rw[hr];lia)];exact hC
  ·refine KasFin.intro (s:={ s with heap:=h' }) F' N' (UpdF.head λq hq=>gE (lt q hq)) λh2 c F2 N2=>?_
   have pp:p.toList.Perm (List.range vs.length):=by simpa using Array.perm_iff_toList_perm.mp hp.1
   refine k D p.toList c h2 F2 N2 lt pp ?_;have hs:=hp.1.size;have g:∀q (hq:q<p.toList.length),p.toList[q]=p.getD q 0:=λq hq=>by
    rw[Array.getD_eq_getD_getElem?,Array.getElem?_eq_getElem (by simpa using hq)]
    rfl
   rw[List.pairwise_iff_getElem];intro i j hi hj hij;have hi':i<vs.length:=by simpa[hs] using hi
   have hj':j<vs.length:=by simpa[hs] using hj
   have u:rkP (ks.getD (p.getD i 0) (0,0))<=rkP (ks.getD (p.getD j 0) (0,0)):=hp.2 i j (by lia) hj';have li:=hp.1.lt hi';have lj:=hp.1.lt hj';have ndp:p.toList.Nodup:=pp.nodup_iff.mpr List.nodup_range;rw[g i hi,g j hj];have ne:ks.getD (p.getD i 0) (0,0)≠ks.getD (p.getD j 0) (0,0):=λz=>by
    rw[getD_get (show p.getD i 0<ks.length by lia),getD_get (show p.getD j 0<ks.length by lia)] at z;have z:=(List.getElem_inj nd).mp z;rw[<- g i hi,<- g j hj] at z;have:=(List.getElem_inj ndp).mp z
    lia
   have ne2:rkP (ks.getD (p.getD i 0) (0,0))≠rkP (ks.getD (p.getD j 0) (0,0)):=λz=>ne (yD (sm _ (getD_mem (by lia))) (sm _ (getD_mem (by lia))) z)
   lia
end
def Lw(ws:xD):Prop:=ws.Pairwise λa b=>rkP a<rkP b
end L2
namespace L2
open PySem PySem.Spec PyProof.Rows PySem.SeqAt
class TyA(K:W.Frag)(H:Hp)(v:V)(n:outParam String):Prop where
 e:dN K H v (.type n)
class DY(K:W.Frag)(H0:Hp)(M:List Addr)(v:V)(n:outParam String):Prop where
 e:dN K H0 v (.type n)
 n:∀a,v=.ref a->a ∉ M
theorem dN.kept{K:W.Frag}{H H':Hp}{v:V}{t:Value}(h:dN K H v t)(k:∀a u,v=.ref a->H a=some u->H' a=some u):dN K H' v t:=by
 cases h with
 | non=>exact .non
 | bl b=>exact .bl b
 | int i=>exact .int i
 | str x=>exact .str x
 | flt x=>exact .flt x
 | lst e=>exact .lst (k _ _ rfl e)
 | frz e=>exact .frz (k _ _ rfl e)
 | tup e=>exact .tup (k _ _ rfl e)
 | dK e=>exact .dK (k _ _ rfl e)
 | dT e=>exact .dT (k _ _ rfl e)
 | ins e a b c d f=>exact .ins (k _ _ rfl e) a b c d f
section
variable{K:W.Frag}{H0 H:Hp}{M:List Addr}{L:List (Addr×HO)}{I:List Im}{v:V}{n:String}{a:Addr}{i lo:Int}{Q:VK}{E:XK}
instance ty_int:TyA K H (.int i) "int":=⟨.int i⟩
instance (priority:=low) aav [F:SH H0 M H L I] [h:DY K H0 M v n]:TyA K H v n:=⟨h.e.kept λa u e hu=>F.fr a u (h.n a e) hu⟩
instance (priority:=low) aaw [t:TyA K H v n]:Go (rR K [v,.ty "int"] H Q) (Q (.bl (yg v)) H):=⟨λk=>w_is t.e (JN t.e) k⟩
instance (priority:=low) Vm [t:TyA K H v n]:Go (jX K [v] H Q E) (Q (.bl (isW v)) H):=⟨yw t.e⟩
instance (priority:=low) Xc [t:TyA K H v n]:Go (g_ K [v,.int lo] H Q E) (Q (.bl (qD v lo)) H):=⟨TQ t.e⟩
end
def Uc(x y:V)(b:Bool):Prop:=(x=y/\idV x=true/\b=true)\/∃s t,x=.str s/\y=.str t/\b=(s==t)
theorem Uc.at{A:Around}{s:Shared}{x y:V}{u v:Value}{b:Bool}(h:Uc x y b)(ru:RelV x u)(rv:RelV y v):EqAt A s u v b:=by
 rcases h with⟨rfl,hi,rfl⟩|⟨p,q,rfl,rfl,rfl⟩
 ·exact vM hi ru rv
 ·obtain⟨t,rfl⟩:=ru;obtain⟨t',rfl⟩:=rv;exact EqAt.str_str (A:=A) (s:=s) p t q t'
section
variable{X:Cx}
theorem Ud{A:Around}{s:Shared}{xs ys:List V}{us vs:xF}{e:Nat->Bool}(ru:Vals xs us)(rv:Vals ys vs)(h:∀j a b,xs[j]?=some a->ys[j]?=some b->Uc a b (e j))(j:Nat)(h1:j<us.toArray.size)(h2:j<vs.toArray.size):EqAt A s us.toArray[j] vs.toArray[j] (e j):=by
 have l1:j<us.length:=by simpa using h1
 have l2:j<vs.length:=by simpa using h2
 have l3:j<xs.length:=by rw[ru.length];exact l1
 have l4:j<ys.length:=by rw[rv.length];exact l2
 obtain⟨u,eu,qu⟩:=ru.get (show xs[j]?=some xs[j] by simp);obtain⟨v,ev,qv⟩:=rv.get (show ys[j]?=some ys[j] by simp);have z1:us.toArray[j]=u:=by
  have:us[j]?=some us[j]:=by simp[l1]
  rw[this] at eu;simpa using eu
 have z2:vs.toArray[j]=v:=by
  have:vs[j]?=some vs[j]:=by simp[l2]
  rw[this] at ev;simpa using ev
 rw[z1,z2];exact(h j _ _ (by simp) (by simp)).at qu qv
def aax(K:W.Frag):R2:=λx y H Q=>∃p q xs,x=.ref p/\y=.ref q/\SqL K H p xs/\SqL K H q xs/\xs.all idV=true/\Q (.bl true) H
theorem Ue{k:Nat}(hr:Room k X.A):OpR X (compareOp .Eq) (aax X.K):=by
 intro pins s σ H x y v u Q I rx ry h;obtain⟨p,q,xs,rfl,rfl,hp,hq,hf,qq⟩:=h;cases rx;cases ry;obtain⟨us,ru,pu,_⟩:=I.list hp;obtain⟨vs,rv,pw,_⟩:=I.list hq;have hsz:us.toArray.size=vs.toArray.size:=by simp[<- ru.length,<- rv.length]
 have b:=RcAt.lists (A:=X.A) (s:=s) (e:=λ_=>true) pu.isList pw.isList hsz (by have:=hr.un;lia) (λj h1 h2=>Ud ru rv (e:=λ_=>true) (λj a b ha hb=>by
  rw[ha] at hb;cases hb;exact .inl ⟨rfl,List.all_eq_true.mp hf _ (wE ha),rfl⟩) j h1 h2)
 rw[show ((List.range us.toArray.size).all λ_=>true)=true by simp] at b;exact b X.prog X.w X.xe _ ⟨.bl _,H,I,rfl,qq⟩
end
end L2
namespace L2
open PySem PySem.W PySem.Spec PyProof.Rows PySem.SeqAt
section
variable{X:Cx}
def Xd(K:W.Frag):R2:=λx y H Q=>∃p q xs,x=.ref p/\y=.ref q/\SqL K H p xs/\SqL K H q []/\Q (.bl (!decide (xs=[]))) H
def Xe(K:W.Frag):R2:=λx y H Q=>∃p q xs,x=.ref p/\y=.ref q/\SqL K H p xs/\SqL K H q []/\Q (.bl (decide (xs=[]))) H
theorem Ug{k:Nat}(hr:Room k X.A):OpR X (compareOp .NotEq) (Xd X.K):=by
 intro pins s σ H x y v u Q I rx ry h;obtain⟨p,q,xs,rfl,rfl,hp,hq,qq⟩:=h;cases xs with
 | nil=>exact Tt hr pins s σ H _ _ v u Q I rx ry ⟨p,q,[],rfl,rfl,hp,hq,rfl,qq⟩
 | cons a t =>
  cases rx;cases ry;obtain⟨us,ru,pu,_⟩:=I.list hp;obtain⟨vs,rv,pw,_⟩:=I.list hq;have h1:=ru.length;have h2:=rv.length;have b:=RcNeAt.lists_lengths (A:=X.A) (s:=s) pu.isList pw.isList (by simp[<- h1,<- h2]) (by have:=hr.un;lia);exact b X.prog X.w X.xe _ ⟨.bl _,H,I,rfl,qq⟩
theorem jZ{k:Nat}(hr:Room k X.A):OpR X (compareOp .Eq) (Xe X.K):=by
 intro pins s σ H x y v u Q I rx ry h;obtain⟨p,q,xs,rfl,rfl,hp,hq,qq⟩:=h;cases xs with
 | nil=>exact Ue hr pins s σ H _ _ v u Q I rx ry ⟨p,q,[],rfl,rfl,hp,hq,rfl,qq⟩
 | cons a t =>
  cases rx;cases ry;obtain⟨us,ru,pu,_⟩:=I.list hp;obtain⟨vs,rv,pw,_⟩:=I.list hq;have h1:=ru.length;have h2:=rv.length;have b:=RcAt.lists_lengths (A:=X.A) (s:=s) pu.isList pw.isList (by simp[<- h1,<- h2]) (by have:=hr.un;lia);exact b X.prog X.w X.xe _ ⟨.bl _,H,I,rfl,qq⟩
end
section
variable{K:W.Frag}{H:Hp}{Q:VK}{p q:Addr}{xs:List V}
instance YK[h:SqA K H p xs][h2:Hat H q (.lst [])]:Go (Xd K (.ref p) (.ref q) H Q) (Q (.bl (!decide (xs=[]))) H):=⟨λk=>⟨p,q,xs,rfl,rfl,h.e,SqL.of h2.e,k⟩⟩
instance YL[h:SqA K H p xs][h2:Hat H q (.lst [])]:Go (Xe K (.ref p) (.ref q) H Q) (Q (.bl (decide (xs=[]))) H):=⟨λk=>⟨p,q,xs,rfl,rfl,h.e,SqL.of h2.e,k⟩⟩
end
theorem SH.over{H0 H H':Hp}{M M2:List Addr}{A R L2:List (Addr×HO)}{I I2:List Im}(F:SH H0 M H (A++R) I)(G:SH H M2 H' L2 I2)(e:A.map (·.1)=M2):SH H0 M H' (L2++R) (I2++I):=by
 have nd:=F.nd;rw[List.map_append,e] at nd;obtain⟨nd1,nd2,nd3⟩:=List.nodup_append.mp nd;have inA:∀{b},b∈M2->∃c∈A,c.1=b:=λh=>by rw[<- e] at h;exact qA.mp h
 have st:Tst H H':=λq u tu hq=>by
  refine G.fr q u (λhm=>?_) hq;obtain⟨c,hc,rfl⟩:=inA hm;have h1:=F.at' c (mN _ hc);have h2:=F.mu c (mN _ hc);rw[hq] at h1;cases h1;rw[h2] at tu;cases tu
 have rn:∀{c},c∈R->c.1 ∉ M2:=λhc hm=>nd3 _ hm _ (qA.mpr ⟨_,hc,rfl⟩) rfl
 refine⟨λb u nb e0=>?_,λf hf=>?_,λc hc=>?_,?_,λc hc=>?_,λc hc=>?_⟩
 ·refine G.fr b u (λhm=>?_) (F.fr b u nb e0);obtain⟨c,hc,rfl⟩:=inA hm;rcases F.ch c (mN _ hc) with h|h
  ·exact nb h
  ·exact h _ u e0 rfl
 ·rcases wT.mp hf with hf|hf
  ·exact G.im f hf
  ·exact Im.stay st (F.im f hf)
 ·rcases wT.mp hc with hc|hc
  ·exact G.at' c hc
  ·exact G.fr _ _ (rn hc) (F.at' c (rX _ hc))
 ·rw[List.map_append];refine List.nodup_append.mpr ⟨G.nd,nd2,λa ha b hb=>?_⟩;obtain⟨c,hc,rfl⟩:=qA.mp ha;obtain⟨d,hd,rfl⟩:=qA.mp hb;rcases G.ch c hc with h|h
  ·exact λz=>rn hd (z▸h)
  ·exact λz=>h d.1 _ (F.at' d (rX _ hd)) z.symm
 ·rcases wT.mp hc with hc|hc
  ·exact G.mu c hc
  ·exact F.mu c (rX _ hc)
 ·rcases wT.mp hc with hc|hc
  ·rcases G.ch c hc with h|h
   ·obtain⟨d,hd,ed⟩:=inA h;rw[<- ed];exact F.ch d (mN _ hd)
   ·by_cases hm:c.1∈M
    ·exact .inl hm
    ·exact .inr λb u e0 z=>h b u (F.fr b u (by rw[z];exact hm) e0) z
  ·exact F.ch c (rX _ hc)
inductive Ea(H:Hp):V->Prop
 | flt {v:V} (h:v=.non\/(∃b,v=.bl b)\/(∃i,v=.int i)\/∃z,v=.str z):Ea H v
 | lst {q:Addr} {xs:List V} (e:H q=some (.lst xs)):Ea H (.ref q)
 | tup {q:Addr} {xs:List V} (e:H q=some (.tup xs)):Ea H (.ref q)
theorem Ea.ty{H:Hp}{v:V}(h:Ea H v)(K:W.Frag):∃n,dN K H v (.type n):=by
 cases h with
 | flt h =>
  rcases h with rfl|⟨b,rfl⟩|⟨i,rfl⟩|⟨z,rfl⟩
  ·exact⟨_,.non⟩
  ·exact⟨_,.bl b⟩
  ·exact⟨_,.int i⟩
  ·exact⟨_,.str z⟩
 | lst e=>exact⟨_,.lst e⟩
 | tup e=>exact⟨_,.tup e⟩
theorem Ea.id{H:Hp}{v:V}(h:Ea H v):idV v=true:=by
 cases h with
 | flt h=>rcases h with rfl|⟨b,rfl⟩|⟨i,rfl⟩|⟨z,rfl⟩ <;> rfl
 | lst e=>rfl
 | tup e=>rfl
end L2
namespace L2
open PySem PySem.W PySem.Calls PySem.Spec PyProof.Rows
abbrev swBody(x:Str)(p1 p2 p3 p4 p5 p6 p7:Pos)(j j2 j3:Nat):Expr:=.Tuple [.Subscript (.Name x p1) (.Constant (.int 1) j p2) p3,.Subscript (.Name x p4) (.Constant (.int 0) j2 p5) p6] j3 p7
theorem Uh{prog:Program}{w:World}{A:Around}{s:Shared}{f q c':Addr}{x qual:Str}{params:Arguments}{scope:Scope}{pm ctv u u0:Value}{p1 p2 p3 p4 p5 p6 p7:Pos}{j j2 j3:Nat}{its:xF}{Q:xB}{E:xB}
  (hroom:A.depth<recursionLimit) (ho:s.heap.get? f=some (W.kla_obj "<lambda>" qual params (swBody x p1 p2 p3 p4 p5 p6 p7 j j2 j3) scope [] pm c' ctv)) (hcd:s.heap.CodeRec (.ref c') qual) (hlim:s.heap.NoLimit) (S:h_ x scope)
  (hbind:bindArgs (W.kla_fn "<lambda>" qual params (swBody x p1 p2 p3 p4 p5 p6 p7 j j2 j3) scope [] pm (.ref c') ctv) ⟨[.ref q],[]⟩=pure [(x,.ref q)])
  (ht:IsTup s.heap q its.toArray) (hi:its[1]?=some u) (hi0:its[0]?=some u0) (h:∀h' tk a,(∀b o,s.heap.get? b=some o->h'.get? b=some o)->s.heap.get? a=none->h'.get? a=some (seqObj "tuple" #[u,u0] 0)->Q (.ref a) { s with heap:=h',toks:=tk }):wpAny (model prog w) A (call (.ref f) [.ref q]) Q E s:=by
 refine wpAny_call ?_;refine W.kla_callFunE hroom ho rfl S.co S.gen rfl hcd ?_;rw[hbind];refine oB ?_;refine wpAny_newFunctionEnv S.Ld (λy hy=>?_) (λh1 hns hsb=>?_) S.kind
 ·rw[rV.mp hy];exact S.loc
 ·have hk1:∀b o,s.heap.get? b=some o->h1.get? b=some o:=λb o e=>hsb.extBut b o (gE (uC e)) (uS _ e)
  have ht1:IsTup h1 q its.toArray:=by
   obtain⟨o,e,r⟩:=ht;exact⟨o,hk1 _ _ e,r⟩
  have hlen:1<its.length:=(qE.mp hi).1;have hsz:s.heap.objs.size<=h1.objs.size:=by
   rw[hsb.1];rw[size_push']
   lia
  refine⟨hlim.keeps hk1,W.kla_codeExpr ?_⟩;refine Tuple_ (spliced_more ?_);refine Subscript_ (wpAny_Name (wpAny_loadName_local S.kind S.loc hns (v:=.ref q) (by simp) ?_) S.FW);refine wpAny_Constant_int ?_;refine subscriptTail_builtinR (x:=u) (IsTup.typeIs ht1) slot_tuple_getitem.lookup (getItem_tuple (j:=1) ht1 (by decide) (by decide) ?_ (by simpa using hi) ⟨rfl,?_⟩) ?_
  ·rw[nX];unfold seqIndex?;simp
   lia
  ·refine spliced_more ?_;refine Subscript_ (wpAny_Name (wpAny_loadName_local S.kind S.loc hns (v:=.ref q) (by simp) ?_) S.FW);refine wpAny_Constant_int ?_;refine subscriptTail_builtinR (x:=u0) (IsTup.typeIs ht1) slot_tuple_getitem.lookup (getItem_tuple (j:=0) ht1 (by decide) (by decide) ?_ (by simpa using hi0) ⟨rfl,?_⟩) ?_
   ·have l0:(0:Int)<(its.length:Int):=by lia
    rw[nX];unfold seqIndex?;simp;intro z;rw[z] at hlen;simp at hlen
   ·refine spliced_none (wpAny_newTuple ?_ (by show 2<=sizeLine;decide));exact h _ _ _ (λb o e=>uS _ (hk1 b o e)) (Heap.get?_none_of_le hsz) (oS _ rfl)
   ·rfl
  ·rfl
def jD(H:Hp)(f:Addr):Prop:=∃(qual x:Str)(params:Arguments)(p1 p2 p3 p4 p5 p6 p7:Pos)(j j2 j3:Nat)(scope:Scope)(pm ctv:Value)(c':Addr)(oc:Obj)(vs:xI)(t:Tok),
 H f=some (.frz (W.kla_obj "<lambda>" qual params (swBody x p1 p2 p3 p4 p5 p6 p7 j j2 j3) scope [] pm c' ctv) (.own f))/\H c'=some (.frz oc (.own c'))/\oc.data=.fields vs/\vs[1]?=some (.str qual t)/\h_ x scope /\
 ∀q:Addr,bindArgs (W.kla_fn "<lambda>" qual params (swBody x p1 p2 p3 p4 p5 p6 p7 j j2 j3) scope [] pm (.ref c') ctv) ⟨[.ref q],[]⟩=pure [(x,.ref q)]
section
variable{prog:Program}{w:World}{A:Around}{s:Shared}{h₀:Heap}{L l D kS:Addr}{m:xC}{news:List (Addr×Obj)}{f:Value}
def nW(prog:Program)(w:World)(A:Around)(news:List (Addr×Obj))(f:Value)(v:Value)(k:Nat×Nat)(s:Shared):Prop :=
 ∀(h:Heap)(tk:Nat),(∀p∈news,h.get? p.1=some p.2)->wpAny (model prog w) A (call f [v]) (λu s'=>∃(a:Addr)(h':Heap)(tk':Nat)(t1 t2:Tok),u=.ref a/\s'={ s with heap:=h',toks:=tk' }/\(∀b o,h.get? b=some o->h'.get? b=some o)/\h.get? a=none/\h'.get? a=some (seqObj "tuple" #[.int (k.1:Nat) t1,.int (k.2:Nat) t2] 0)) (λ_ _=>False) { s with heap:=h,toks:=tk }
theorem Gh{α β:Type}{R:α->β->Prop}{b:β}{a:α}:∀{l:List α} {m:List β},F2 R l m->R a b->F2 R (l++[a]) (m++[b])
 | _,_,.nil,h=>.cons h .nil
 | _,_,.cons r t,h=>.cons r (Gh t h)
theorem Gi{α β:Type}{R R':α->β->Prop}(g:∀a b,R a b->R' a b):∀{l:List α} {m:List β},F2 R l m->F2 R' l m
 | _,_,.nil=>.nil
 | _,_,.cons r t=>.cons (g _ _ r) (Gi g t)
theorem qK{KS:xD}{e1:Nat}{Fin:List Value->Nat->Shared->Prop}(nD:D≠kS)(nN:∀p∈news,p.1≠kS)
  (fin:∀(own:List (Addr×Obj)) (us:xF) (ks:xD) (e:Nat) (h:Heap) (tk:Nat),Fr h₀ L h m->News h₀ L h ((kS,seqObj "list" us.toArray e)::(D,seqObj "list" #[] e1)::(own++news))->(∀p∈own,p.1≠kS)->(∀p∈own,p.1≠D)->F2 (jj own) us ks->ks=KS->Fin us e { s with heap:=h,toks:=tk }) :
  ∀(r:xF) (kr:xD) (own:List (Addr×Obj)) (us:xF) (kd:xD) (e:Nat) (h:Heap) (tk:Nat),F2 (λv k=>nW prog w A news f v k s) r kr->kd++kr=KS->Fr h₀ L h m->News h₀ L h ((kS,seqObj "list" us.toArray e)::(D,seqObj "list" #[] e1)::(own++news))->(∀p∈own,p.1≠kS)->(∀p∈own,p.1≠D)->F2 (jj own) us kd ->
   KatKeys prog w A h₀ L m kS f Fin r us e { s with heap:=h,toks:=tk }
 | [],kr,own,us,kd,e,h,tk,t,ek,F,N,n1,n2,g=>by
  cases t;exact KatKeys.nil (fin own us kd e h tk F N n1 n2 g (by simpa using ek))
 | v::r,kr,own,us,kd,e,h,tk,t,ek,F,N,n1,n2,g=>by
  rcases t with _|⟨tv,tr⟩;rename_i k kr;have hh:∀p∈news,h.get? p.1=some p.2:=λp hp=>(N p (zD _ (zD _ (rX _ hp)))).1
  refine KatKeys.cons (mM (tv h tk hh) (λu s' hu=>?_) λ_ _ x=>x);obtain⟨a,h',tk',t1,t2,rfl,rfl,kp,ha,ho⟩:=hu;have F':Fr h₀ L h' m:=⟨F.ns.keeps kp,λb o e=>kp b o (F.keep b o e),F.above⟩;have old:∀{b:Addr} {o:Obj},h.get? b=some o->a≠b:=λ{b o} e z=>by rw[<- z,ha] at e;cases e
  have naS:a≠kS:=old (N _ zC).1;have naD:a≠D:=old (N _ (zD _ zC)).1;have naL:a≠L:=by
   obtain⟨o,_,_,e,_⟩:=F.ns;exact old e
  have na0:h₀.get? a=none:=by
   cases z:h₀.get? a with
   | none=>rfl
   | some o =>
    have:=F.keep a o z;rw[ha] at this;cases this
  have N':News h₀ L h' ((kS,seqObj "list" us.toArray e)::(D,seqObj "list" #[] e1)::(((a,seqObj "tuple" #[.int (k.1:Nat) t1,.int (k.2:Nat) t2] 0)::own)++news)):=λp hp=>by
   rcases jS.mp hp with rfl|hp
   ·exact⟨kp _ _ (N _ zC).1,(N _ zC).2⟩
   ·rcases jS.mp hp with rfl|hp
    ·exact⟨kp _ _ (N _ (zD _ zC)).1,(N _ (zD _ zC)).2⟩
    ·rcases jS.mp hp with rfl|hp
     ·exact⟨ho,naL,na0⟩
     ·have:=N p (zD _ (zD _ hp));exact⟨kp _ _ this.1,this.2⟩
  have n1':∀p∈(a,seqObj "tuple" #[.int (k.1:Nat) t1,.int (k.2:Nat) t2] 0)::own,p.1≠kS:=λp hp=>by
   rcases jS.mp hp with rfl|hp
   ·exact naS
   ·exact n1 p hp
  have n2':∀p∈(a,seqObj "tuple" #[.int (k.1:Nat) t1,.int (k.2:Nat) t2] 0)::own,p.1≠D:=λp hp=>by
   rcases jS.mp hp with rfl|hp
   ·exact naD
   ·exact n2 p hp
  refine KatBack.intro (s:={ s with heap:=h',toks:=tk' }) F' N' (UpdF.head λp hp=>?_) λh2 c F2 N2=>?_
  ·rcases jS.mp hp with rfl|hp
   ·exact nD
   ·rcases wT.mp hp with hp|hp
    ·exact n1' p hp
    ·exact nN p hp
  ·refine qK nD nN fin r kr _ (us++[.ref a]) (kd++[k]) c h2 tk' tr (by rw[jI];exact ek) F2 N2 n1' n2' (Gh (Gi (λv k ⟨a,o,xs,n,t,u,g1,g2,g3⟩=>⟨a,o,xs,n,t,u,g1,zD _ g2,g3⟩) g) ?_);exact⟨a,_,_,0,t1,t2,rfl,zC,rfl,rfl,rfl⟩
end
def RV(P:Addr)(pos:Pos)(qual:Str):TE:=λ_ H Q=>∃ps,H P=some (.tbl ps)/\TabOk pos qual ps H/\∀f ps' H',Kp P H H'->H' P=some (.tbl ps')->TabOk pos qual ps' H'->jD H' f->Q (.ref f) H'
theorem Qm{X:Cx}{c P:Addr}{qual x:Str}{params:Arguments}{scope:Scope}{p1 p2 p3 p4 p5 p6 p7 pos:Pos}{j j2 j3:Nat}(B:Bm X.mg X.base)(hc:X.env.code=.ref c)(hK:W.codeHdIn X.K c P=true)(hq:X.env.qual++("<lambda>" : Str)=qual)(S:h_ x scope)
  (hdef:defaultsOf params X.env=([],[]):=by rfl) (hcl:closureFor scope X.env=pure []:=by rfl)
  (hb:∀(pm ctv:Value)(c' q:Addr),bindArgs (W.kla_fn "<lambda>" qual params (swBody x p1 p2 p3 p4 p5 p6 p7 j j2 j3) scope [] pm (.ref c') ctv) ⟨[.ref q],[]⟩=pure [(x,.ref q)]:=by intros;rfl) :
  PE X (.Lambda params (swBody x p1 p2 p3 p4 p5 p6 p7 j j2 j3) scope pos) (RV P pos qual):=by
 intro pins s σ H Q I h;obtain⟨ps,eP,tk,q⟩:=h;have hP:s.heap.get? P=some (W.tabObj ps):=I.hok P _ eP;obtain⟨bm,ob,b1,b2,b3,b4,b5,b6⟩:=B;have hg:s.heap.Ns mainGlobals X.mg:=I.ok.mod.glob.keeps I.bk;have nob:∀{b:Addr} {o:Obj},X.base.get? b=some o->b≠P:=λ{b o} e z=>by
  have:=(I.bs b o e).2;rw[z,eP] at this;cases this
 have nG:mainGlobals≠P:=by
  obtain⟨o,_,_,e,_⟩:=I.ok.mod.glob;exact nob e
 have nbG:bm≠mainGlobals:=λz=>by
  obtain⟨o,es,ep,e,hd,_⟩:=I.ok.mod.glob;rw[z,e] at b3;cases b3;rw[hd] at b6;cases b6
 have BA:s.heap.BuiltinsAt X.mg P:=⟨bm,ob,b1,b2,nbG,nob b3,I.bk _ _ b3,b4,b5,b6⟩;have CH:=W.codeHd_of_K I.kIn hK;refine W.kla_eval hdef ?_;rw[hq];have nP:∀{b:Addr},H b=none->b≠P:=λ{b} e z=>by rw[z,eP] at e;cases e
 rcases tk with rfl|⟨c',oc,vs,t,rfl,e1,e2,e3⟩
 ·refine W.kla_makeFunction hcl I.ok.glob hg hc CH hP trivial rfl nG BA λc' ctv h' tk' hx hge hlt hrec hP'=>?_
  obtain⟨c2,oc,vs,t,z,hoc,hd,hv⟩:=hrec;cases z;have fc:H c'=none:=I.hok.fresh hge;have hsz:s.heap.objs.size<=h'.objs.size:=oC hge (zzE hlt);have ff:H h'.objs.size=none:=I.hok.fresh hsz;have ncf:c'≠h'.objs.size:=gE hlt;have ncP:c'≠P:=nP fc;have nfP:h'.objs.size≠P:=nP ff
  generalize hf:h'.objs.size=f at *
  generalize hob:W.kla_obj "<lambda>" qual params (swBody x p1 p2 p3 p4 p5 p6 p7 j j2 j3) scope [] ((X.mg "__name__").getD .none) c' ctv=fo
  let H':Hp:=upd (upd (upd H P (.tbl (#[]++#[rawInt pos.line,rawInt pos.col,.ref c']))) c' (.frz oc (.own c'))) f (.frz fo (.own f))
  have hP2:H' P=some (.tbl #[rawInt pos.line,rawInt pos.col,.ref c']):=by
   show upd _ _ _ _=_;rw[bf (Ne.symm nfP),bf (Ne.symm ncP),bx];simp
  have hc2:H' c'=some (.frz oc (.own c')):=by
   show upd _ _ _ _=_;rw[bf ncf,bx]
  have hf2:H' f=some (.frz fo (.own f)):=bx;have old:∀{b:Addr},b≠P->b≠c'->b≠f->H' b=H b:=λ{b} n1 n2 n3=>by
   show upd _ _ _ _=_;rw[bf n3,bf n2,bf n1]
  have push:∀{b:Addr} {o:Obj},h'.get? b=some o->(h'.push fo).get? b=some o:=λe=>uS _ e
  have I':Inv X pins σ H' { s with heap:=h'.push fo,toks:=tk' }:=by
   refine I.grow (λb u n e=>?_) (λb u e=>?_) λb u n e=>?_
   ·have lt:=uC e;have n2:b≠c':=gE (qV lt hge);have n3:b≠f:=gE (qV lt hsz);exact⟨push (hx b u (nP n) e),by rw[old (nP n) n2 n3];exact n⟩
   ·by_cases hbP:b=P
    ·right
     rw[hbP,eP] at e;cases e;exact⟨#[],#[rawInt pos.line,rawInt pos.col,.ref c'],rfl,by rw[hbP,hP2];simp,by rw[hbP];exact push hP'⟩
    ·left
     have n2:b≠c':=λz=>by rw[z,fc] at e;cases e
     have n3:b≠f:=λz=>by rw[z,ff] at e;cases e
     exact⟨by rw[old hbP n2 n3];exact e,λo e4=>push (hx b o hbP e4)⟩
   ·by_cases hbf:b=f
    ·rw[hbf,hf2] at e;cases e;have e5:(h'.push fo).get? f=some fo:=by
      rw[<- hf];exact oS _ (by rw[<- hob];rfl)
     rw[hbf];exact⟨e5,_,e5⟩
    ·by_cases hbc:b=c'
     ·rw[hbc,hc2] at e;cases e;rw[hbc];exact⟨push hoc,_,push hoc⟩
     ·have hbP:b≠P:=nP n;rw[old hbP hbc hbf,n] at e;cases e
  refine⟨.ref f,H',I',rfl,q f _ H' (λb u n e=>?_) hP2 (.inr ⟨c',oc,vs,t,rfl,hc2,hd,hv⟩) ⟨qual,x,params,p1,p2,p3,p4,p5,p6,p7,j,j2,j3,scope,_,ctv,c',oc,vs,t,by rw[hf2,<- hob],hc2,hd,hv,S,hb _ _ _⟩⟩;have n2:b≠c':=λz=>by rw[z,fc] at e;cases e
  have n3:b≠f:=λz=>by rw[z,ff] at e;cases e
  rw[old n n2 n3];exact e
 ·have hcode:codeAmong pos (#[rawInt pos.line,rawInt pos.col,Value.ref c']).toList=some (.ref c'):=by
   show (if ((pos.line:Int)==(pos.line:Int) && (pos.col:Int)==(pos.col:Int))=true then some (Value.ref c') else _)=_;simp
  refine W.kla_makeFunctionHit hcl I.ok.glob hg hc CH hP trivial hcode BA λctv h' tk' hx hsz=>?_
  have ff:H h'.objs.size=none:=I.hok.fresh hsz
  generalize hob:({ cls:=Value.type "function", data:=Data.func (W.kla_fn "<lambda>" qual params (swBody x p1 p2 p3 p4 p5 p6 p7 j j2 j3) scope [] ((X.mg "__name__").getD .none) (.ref c') ctv) }:Obj)=fo
  have e5:(h'.push fo).get? h'.objs.size=some fo:=oS _ (by rw[<- hob];rfl);have k2:∀{b:Addr} {u:HO},H b=some u->upd H h'.objs.size (.frz fo (.own h'.objs.size)) b=some u:=λ{b u} e=>by
   rw[bf (λz=>by rw[z,ff] at e;cases e)];exact e
  refine⟨.ref h'.objs.size,upd H h'.objs.size (.frz fo (.own h'.objs.size)),I.laid (t':=tk') (λb u e=>uS _ (hx b u e)) hsz ⟨e5,_,e5⟩,rfl,q _ _ _ (λb u n e=>k2 e) (k2 eP) (.inr ⟨c',oc,vs,t,rfl,k2 e1,e2,e3⟩) ⟨qual,x,params,p1,p2,p3,p4,p5,p6,p7,j,j2,j3,scope,_,ctv,c',oc,vs,t,by rw[bx,<- hob],k2 e1,e2,e3,S,hb _ _ _⟩⟩
section
variable{prog:Program}{w:World}{A:Around}{E:xB}{s:Shared}{h₀:Heap}{L l a D kS:Addr}{m:xC}{news:List (Addr×Obj)}{vs us:xF}{f:Value}
theorem Lx(h:us.length=vs.length):(us.toArray.zip vs.toArray).map (·.2)=vs.toArray:=by
 apply Array.toList_inj.mp
 rw[Array.toList_map,Array.toList_zip];exact List.map_snd_zip (by simp[h])
theorem Qn{e e1:Nat}{P:PySem.Fin->Shared->Prop}(hl:us.length=vs.length)(h2:vs.length<2)(h:KatFin h₀ L m kS a us e e1 vs (λs'=>P (.done (.ret .none)) s') s) :
  wpAny (model prog w) A (ksk_end a false vs.toArray e1 (.ref kS) us.toArray) P E s:=by
 have hn:vs.toArray.size<2:=by rw[nX];lia
 unfold ksk_end;dsimp only;simp only[Bool.false_eq_true,if_false];rw[yB hn,yB hn];refine zI (oB (zI ?_));rw[StateT.run_pure];refine oB ?_;dsimp only;exact kat_tail (b:=false) (out:=vs) (Lx hl) (by lia) (by lia) rfl h
theorem Ly{e1:Nat}{P:PySem.Fin->Shared->Prop}(hk:s.heap.get? kS=some (seqObj "list" #[] 0))(h2:vs.length<2)
  (h:KatKeys prog w A h₀ L m kS f (λus e s'=>KatFin h₀ L m kS a us e e1 vs (λs4=>P (.done (.ret .none)) s4) s') vs [] 0 s):wpAny (model prog w) A (ksk_rest a f false vs.toArray e1 (.ref kS)) P E s:=by
 unfold ksk_rest;refine zI (wpAny_rule ?_);rw[List.forIn_toArray];refine wpAny_bind (wpAny_mono (kat_fold (n:=vs.length) (by lia) (λx ks e s' C hz hx=>?_) vs [] 0 s (by simp) hk h) (λ_ s' hd=>?_) λ_ _ x=>x)
 ·refine zI (wpAny_attempt (mM hx (λk s'' hk=>?_) λ_ _ hF=>hF.elim));obtain⟨news',g,F',N',U,c⟩:=hk;obtain⟨pre,post,e0,hg,x1,x2⟩:=U.split;subst e0;have nk:=N' (kS,seqObj "list" ks.toArray e) (rX _ zC);have sb:=Heap.SameBut.update s''.heap kS (Obj.mapSeq (·.push k));have ea:ks.toArray.push k=(ks++[k]).toArray:=by simp
  obtain⟨c2,hc2⟩:∃c2,(s''.heap.update kS (Obj.mapSeq (·.push k))).get? kS=some (seqObj "list" (ks++[k]).toArray c2):=⟨_,by rw[<- ea];exact get?_update_seq nk.1 (·.push k)⟩;have z1:ks.toArray.size<=sizeLine:=by rw[nX,sizeLine_eq];lia
  have z2:(ks.toArray.push k).size<=sizeLine:=by rw[Array.size_push,nX,sizeLine_eq];lia
  dsimp only;refine zI (listUpdate_at nk.1 rfl ?_ z1 (Nat.le_succ_of_le z2));exact oB ⟨rfl,k,c2,hc2,c _ c2 (kas_fr F' sb nk.2.1 nk.2.2) (by rw[hg];exact news_set N' x1 x2 sb hc2)⟩
 ·obtain⟨ks,e,hk',hl,fin⟩:=hd;exact zI (listItems_at hk' rfl (Qn hl h2 fin))
theorem Lz{n:Nat}{P:PySem.Fin->Shared->Prop}(F:Fr h₀ L s.heap m)(N:News h₀ L s.heap news)(ho:s.heap.get? a=some (seqObj "list" vs.toArray n))(haL:a≠L)(ha0:h₀.get? a=none)(hna:∀p∈news,p.1≠a)(h2:vs.length<2)
  (h:∀kS e1 h',Fr h₀ L h' m->News h₀ L h' ((kS,seqObj "list" #[] 0)::(a,seqObj "list" #[] e1)::news)->a<kS->(∀q∈news,q.1<kS)->KatKeys prog w A h₀ L m kS f (λus e s'=>KatFin h₀ L m kS a us e e1 vs (λs4=>P (.done (.ret .none)) s4) s') vs [] 0 { s with heap:=h' }) :
  wpAny (model prog w) A (ksk_tree a f false) P E s:=by
 have s1:=Heap.SameBut.update s.heap a (Obj.mapSeq λ_=>(#[]:xI));obtain⟨e1,ho1⟩:∃e1,(s.heap.update a (Obj.mapSeq λ_=>(#[]:xI))).get? a=some (seqObj "list" #[] e1):=⟨_,get?_update_seq ho λ_=>#[]⟩;have F1:=kas_fr F s1 haL ha0;have N1:=kas_news N s1 hna;unfold ksk_tree;refine zI (listItems_at ho rfl (zI (listUpdate_at ho rfl ?_ (by rw[nX,sizeLine_eq];lia) (Nat.zero_le _))))
 generalize hg:s.heap.update a (Obj.mapSeq λ_=>(#[]:xI))=g at *
 refine zI (seqEpoch_at ho1 rfl (zI (wpAny_newTuple (zI (wpAny_newList (mI ?_) (Nat.zero_le _))) (by show vs.length<=_;rw[sizeLine_eq];lia))))
 generalize hp:g.push (seqObj "tuple" vs.toArray 0)=g2
 have sz2:g2.objs.size=g.objs.size+1:=by rw[<- hp,size_push']
 have up:∀b o,g.get? b=some o->(g2.push (seqObj "list" #[] 0)).get? b=some o:=λb o e=>uS _ (by rw[<- hp];exact uS _ e)
 have la:a<g2.objs.size:=by rw[sz2];exact nV (uC ho1)
 have lN:∀q∈news,q.1<g2.objs.size:=λq hq=>by rw[sz2];exact nV (uC (N1 q hq).1)
 have lL:L<g2.objs.size:=by rw[sz2];exact nV F1.ns.lt
 have F3:Fr h₀ L (g2.push (seqObj "list" #[] 0)) m:=by rw[<- hp];exact(F1.push _).push _
 have hk:(g2.push (seqObj "list" #[] 0)).get? g2.objs.size=some (seqObj "list" #[] 0):=oS _ rfl;show wpAny (model prog w) A _ P E { s with heap:=g2.push (seqObj "list" #[] 0) }
 refine Ly (s:={ s with heap:=g2.push (seqObj "list" #[] 0) }) (kS:=g2.objs.size) hk h2 (h _ e1 _ F3 (λp hp'=>?_) la lN)
 rcases jS.mp hp' with rfl|hp'
 ·exact⟨hk,Nat.ne_of_gt lL,Heap.get?_none_of_le (oC F.above (zzE lL))⟩
 ·rcases jS.mp hp' with rfl|hp'
  ·exact⟨up _ _ ho1,haL,ha0⟩
  ·exact⟨up _ _ (N1 p hp').1,(N1 p hp').2⟩
theorem Ag{q:Addr}{Q:xB}(F:Fr h₀ L s.heap m)(N:News h₀ L s.heap news)(hl:s.heap.IsList l vs.toArray)(h2:vs.length<2)
  (h:∀D kS e1 h',Fr h₀ L h' m->News h₀ L h' ((kS,seqObj "list" #[] 0)::(D,seqObj "list" #[] e1)::news)->D<kS->(∀q∈news,q.1<D)->KatKeys prog w A.in1.in1 h₀ L m kS (.ref q) (λus e s'=>KatFin h₀ L m kS D us e e1 vs (λs4=>Q (.ref D) s4) s') vs [] 0 { s with heap:=h' }) :
  wpAny (model prog w) A (call (.builtin "sorted") [.ref l] [(Str.ofString "key", .ref q)]) Q E s:=by
 refine call_function_entry_kw kind_sorted plain_sorted entry_sorted (ksk_s1 _ _) ?_;unfold Builtin.«sorted»;refine zI (m:=checkCount "sorted" 1 1 _) (oB (zI (collect_list hl ?_ (by rw[sizeLine_eq];lia))));refine zI (wpAny_newList ?_ (by rw[sizeLine_eq];lia))
 generalize eh:((s.heap.push (seqObj "list" #[] 0)).update s.heap.objs.size (Obj.mapSeq (·++vs.toArray)))=hp
 have hsz:hp.objs.size=s.heap.objs.size+1:=by rw[<- eh,Heap.size_update,size_push']
 have keep:∀b o,s.heap.get? b=some o->(hp.push (seqObj "list" vs.toArray 0)).get? b=some o:=λb o q=>by
  have hlt:b<s.heap.objs.size:=uC q;rw[zzG _ _ _ (by rw[hsz];exact gE (nV hlt)),<- eh,zzF _ _ _ _ (gE hlt),zzG _ _ _ (gE hlt)];exact q
 have hoL:(hp.push (seqObj "list" vs.toArray 0)).get? hp.objs.size=some (seqObj "list" vs.toArray 0):=oS _ rfl;have up1:∀{b:Addr},b<s.heap.objs.size->b<hp.objs.size:=λh=>by rw[hsz];exact nV h
 have hL:L<hp.objs.size:=up1 F.ns.lt;show wpAny _ _ _ _ _ { s with heap:=hp.push (seqObj "list" vs.toArray 0) }
 refine zI (mI (wpAny_call_entry_kw slot_list_sort ⟨_,hoL,rfl⟩ entry_list_sort ?body (ksk_l1 _ _)))
 case body =>
  show wpAny (model prog w) A.in1.in1 (Builtin.«list.sort» ⟨[.ref hp.objs.size],[(Str.ofString "key", .ref q)]⟩) _ _ _;rw[ksk_t1];refine Lz (s:={ s with heap:=hp.push (seqObj "list" vs.toArray 0) }) (F.kept keep) (N.grown keep) hoL (Nat.ne_of_gt hL) (Heap.get?_none_of_le (oC F.above (zzE hL))) (λp hp'=>gE (up1 (uC (N p hp').1))) h2 λkS e1 h' F' N' l0 l1=>?_
  exact kat_keys_mono (h _ kS e1 h' F' N' l0 λq hq=>up1 (uC (N q hq).1)) λus e s' hl' hd=>hd.mono λs4 hq=>⟨_,rfl,oB ⟨_,rfl,hq⟩⟩
theorem Iw{own:List (Addr×Obj)}{ks:xD}{C:Bool->Shared->Prop}{i j:Nat}(hh:∀p∈own,s.heap.get? p.1=some p.2)(tp:F2 (jj own) us ks)(nd:ks.Nodup)(sm:∀w∈ks,w.2<1000000)(hi:i<us.length)(hj:j<us.length)(hij:i≠j)(hC:C (decide (rkP (ks.getD i (0,0))<rkP (ks.getD j (0,0)))) s) :
  kas_ask prog w A (tuples' true) us i j C s:=by
 have hlen:ks.length=us.length:=tp.length_eq.symm;unfold kas_ask;obtain⟨a,o,xs,n,t,u,ev,hm,hc,hd,hx⟩:=nU tp hi;obtain⟨a',o',xs',n',t',u',ev',hm',hc',hd',hx'⟩:=nU tp hj;have mi:ks.getD i (0,0)∈ks:=getD_mem (by lia);have mj:ks.getD j (0,0)∈ks:=getD_mem (by lia);have ne:ks.getD i (0,0)≠ks.getD j (0,0):=λz=>by
  rw[getD_get (show i<ks.length by lia),getD_get (show j<ks.length by lia)] at z;exact hij ((List.getElem_inj nd).mp z)
 have hr:=DX (sm _ mi) (sm _ mj);rw[ev,ev'];refine kat_lt (hh _ hm) hd (hh _ hm') hd' ?_;rw[hx,hx'];refine kat_cons (wpAny_eqBool_int ?_);by_cases e1:(ks.getD i (0,0)).1=(ks.getD j (0,0)).1
 ·have e2:(ks.getD i (0,0)).2≠(ks.getD j (0,0)).2:=λz=>ne (Prod.ext e1 z)
  rw[show ((((ks.getD i (0,0)).1:Nat):Int)==(((ks.getD j (0,0)).1:Nat):Int))=true by rw[e1];simp];refine kat_yes (kat_cons (wpAny_eqBool_int ?_));rw[show ((((ks.getD i (0,0)).2:Nat):Int)==(((ks.getD j (0,0)).2:Nat):Int))=false by rw[beq_eq_false_iff_ne];lia];refine kat_no (kat_one _ _ (lt_int ?_));show C _ _;rw[show decide ((((ks.getD i (0,0)).2:Nat):Int)<(((ks.getD j (0,0)).2:Nat):Int))=decide (rkP (ks.getD i (0,0))<rkP (ks.getD j (0,0))) from decide_eq_decide.mpr (by rw[hr];lia)];exact hC
 ·rw[show ((((ks.getD i (0,0)).1:Nat):Int)==(((ks.getD j (0,0)).1:Nat):Int))=false by rw[beq_eq_false_iff_ne];lia];refine kat_no (oneLt_int ?_);rw[show decide ((((ks.getD i (0,0)).1:Nat):Int)<(((ks.getD j (0,0)).1:Nat):Int))=decide (rkP (ks.getD i (0,0))<rkP (ks.getD j (0,0))) from decide_eq_decide.mpr (by rw[hr];lia)];exact hC
theorem Qo{ks:xD}{n:Nat}{p:Array Nat}(hlen:ks.length=n)(nd:ks.Nodup)(sm:∀w∈ks,w.2<1000000)(hp:Pp n p)(up:UpK (λi=>rkP (ks.getD i (0,0))) p n):p.toList.Perm (List.range n)/\p.toList.Pairwise λi j=>rkP (ks.getD i (0,0))<rkP (ks.getD j (0,0)):=by
 have pp:p.toList.Perm (List.range n):=by simpa using Array.perm_iff_toList_perm.mp hp
 refine⟨pp,?_⟩;have hs:=hp.size;have g:∀q (hq:q<p.toList.length),p.toList[q]=p.getD q 0:=λq hq=>by
  rw[Array.getD_eq_getD_getElem?,Array.getElem?_eq_getElem (by simpa using hq)]
  rfl
 rw[List.pairwise_iff_getElem];intro i j hi hj hij;have hi':i<n:=by simpa[hs] using hi
 have hj':j<n:=by simpa[hs] using hj
 have u:rkP (ks.getD (p.getD i 0) (0,0))<=rkP (ks.getD (p.getD j 0) (0,0)):=up i j (by lia) hj';have li:=hp.lt hi';have lj:=hp.lt hj';have ndp:p.toList.Nodup:=pp.nodup_iff.mpr List.nodup_range;rw[g i hi,g j hj];have ne:ks.getD (p.getD i 0) (0,0)≠ks.getD (p.getD j 0) (0,0):=λz=>by
  rw[getD_get (show p.getD i 0<ks.length by lia),getD_get (show p.getD j 0<ks.length by lia)] at z;have z:=(List.getElem_inj nd).mp z;rw[<- g i hi,<- g j hj] at z;have:=(List.getElem_inj ndp).mp z
  lia
 have ne2:rkP (ks.getD (p.getD i 0) (0,0))≠rkP (ks.getD (p.getD j 0) (0,0)):=λz=>ne (yD (sm _ (getD_mem (by lia))) (sm _ (getD_mem (by lia))) z)
 lia
theorem yF{q:Addr}{ks:xD}{Q:xB}(F:Fr h₀ L s.heap m)(N:News h₀ L s.heap news)(hl:s.heap.IsList l vs.toArray)(h64:vs.length<64)(tt:F2 (λv k=>nW prog w A.in1.in1 news (.ref q) v k s) vs ks)(nd:ks.Nodup)(sm:∀w∈ks,w.2<1000000)
  (k:∀D (p:List Nat) c h' tk,Fr h₀ L h' m->News h₀ L h' ((D,seqObj "list" (p.map (λi=>vs.getD i Value.none)).toArray c)::news)->(∀q∈news,q.1<D)->p.Perm (List.range vs.length)->(p.Pairwise λi j=>rkP (ks.getD i (0,0))<rkP (ks.getD j (0,0)))->Q (.ref D) { s with heap:=h',toks:=tk }) :
  wpAny (model prog w) A (call (.builtin "sorted") [.ref l] [(Str.ofString "key", .ref q)]) Q E s:=by
 have hlen:ks.length=vs.length:=tt.length_eq.symm;by_cases h2:vs.length<2
 ·refine Ag F N hl h2 λD kS e1 h' F' N' l0 l1=>?_
  have nN:∀p∈news,p.1≠kS:=λp hp=>gE (Nat.lt_trans (l1 p hp) l0)
  refine qK (KS:=ks) (s:=s) (gE l0) nN (λown us kd e h tk F2 N2 n1 n2 g ek=>?_) vs ks [] [] [] 0 h' s.toks tt rfl F' N' (λ_ hp=>nomatch hp) (λ_ hp=>nomatch hp) .nil;refine KatFin.intro (s:={ s with heap:=h,toks:=tk }) F2 N2 (UpdF.head λp hp=>?_) λh3 c F3 N3=>?_
  ·rcases jS.mp hp with rfl|hp
   ·exact gE l0
   ·exact(wT.mp hp).elim (n1 p) (nN p)
  ·refine KasFin.intro (s:={ s with heap:=h3,toks:=tk }) F3 N3 (UpdF.tail (Nat.ne_of_gt l0) (UpdF.head λp hp=>(wT.mp hp).elim (n2 p) λz=>gE (l1 p z))) λh4 c4 F4 N4=>?_
   refine k D (List.range vs.length) c4 h4 tk F4 (λp hp=>?_) l1 (List.Perm.refl _) ?_
   ·rw[fQ] at hp;rcases jS.mp hp with rfl|hp
    ·exact N4 _ (zD _ zC)
    ·exact N4 p (zD _ (zD _ (rX _ hp)))
   ·rw[List.pairwise_iff_getElem];intro i j hi hj hij;rw[List.length_range] at hi hj
    lia
 ·have h2:2<=vs.length:=by lia
  refine kat_sortedK (b:=false) (f:=.ref q) F N hl h2 h64 (ksk_s1 _ _) (λx=>ksk_l1 _ _) (λx=>ksk_t1 q x) λD kS e1 h' F' N' l0 l1=>?_
  have nN:∀p∈news,p.1≠kS:=λp hp=>gE (Nat.lt_trans (l1 p hp) l0)
  refine qK (KS:=ks) (s:=s) (gE l0) nN (λown us kd e h tk F2 N2 n1 n2 g ek=>?_) vs ks [] [] [] 0 h' s.toks tt rfl F' N' (λ_ hp=>nomatch hp) (λ_ hp=>nomatch hp) .nil;subst ek;have ul:us.length=vs.length:=by rw[g.length_eq,hlen]
  have hh:∀p∈own,h.get? p.1=some p.2:=λp hp=>(N2 p (zD _ (zD _ (mN _ hp)))).1
  obtain⟨fs,kt,fl,Ls⟩:=qJ hh g;refine kat_kind (s:={ s with heap:=h,toks:=tk }) (T:=.type "int") kt (by lia) (λv hv=>?_) rfl ?_
  ·obtain⟨z,t,rfl⟩:=Ls v hv;exact Looks.of_pure rfl
  ·refine Li (n:=vs.length) (rk:=λi=>rkP (kd.getD i (0,0))) (P:=λp=>Pp vs.length p/\UpK (λi=>rkP (kd.getD i (0,0))) p vs.length) (λi j C hi hj hij hC=>?_) (λp hp=>?_) _ (Ge (by lia) λp a b=>⟨a,b⟩)
   ·exact Iw (us:=us) (s:={ s with heap:=h,toks:=tk }) hh g nd sm (by rw[ul];exact hi) (by rw[ul];exact hj) hij hC
   ·obtain⟨pp,pw⟩:=Qo hlen nd sm hp.1 hp.2;refine KatFin.intro (s:={ s with heap:=h,toks:=tk }) F2 N2 (UpdF.head λp hp=>?_) λh3 c F3 N3=>?_
    ·rcases jS.mp hp with rfl|hp
     ·exact gE l0
     ·exact(wT.mp hp).elim (n1 p) (nN p)
    ·refine KasFin.intro (s:={ s with heap:=h3,toks:=tk }) F3 N3 (UpdF.tail (Nat.ne_of_gt l0) (UpdF.head λp hp=>(wT.mp hp).elim (n2 p) λz=>gE (l1 p z))) λh4 c4 F4 N4=>?_
     refine k D p.toList c4 h4 tk F4 (λp hp=>?_) l1 pp pw;rcases jS.mp hp with rfl|hp
     ·exact N4 _ (zD _ zC)
     ·exact N4 p (zD _ (zD _ (rX _ hp)))
end
def swP(w:Nat×Nat):Nat×Nat:=(w.2,w.1)
theorem Qp{a b:Nat×Nat}(h:swP a=swP b):a=b:=by
 unfold swP at h;exact Prod.ext (gN Prod.snd h) (gN Prod.fst h)
def nY(ws:xD):Prop:=ws.Pairwise λa b=>rkP (swP a)<rkP (swP b)
theorem Iz{α β:Type}{g:α->β}(hg:∀a b,g a=g b->a=b){l:List α}(h:l.Nodup):(l.map g).Nodup:=List.pairwise_map.mpr (h.imp λn e=>n (hg _ _ e))
section
variable{H0 H:Hp}{M:List Addr}{L L':List (Addr×HO)}{I:List Im}{Q:VK}{f P:Addr}{pos:Pos}{qual:Str}{ps:xI}{σ:St}{R:Hp->Prop}
theorem jD.st:∀H H',Tst H H'->jD H f->jD H' f:=λH H' t h=>by
 obtain⟨a1,a2,a3,a4,a5,a6,a7,a8,a9,a10,a11,a12,a13,a14,a15,a16,a17,a18,a19,a20,e1,e2,r⟩:=h;exact⟨a1,a2,a3,a4,a5,a6,a7,a8,a9,a10,a11,a12,a13,a14,a15,a16,a17,a18,a19,a20,t _ _ rfl e1,t _ _ rfl e2,r⟩
abbrev Ui(f:Addr):Im:=.fct (λH=>jD H f) jD.st
class Xf(I:List Im)(f:Addr):Prop where
 m:Ui f∈I
instance aa_:Xf (Ui f::I) f:=⟨zC⟩
instance YM[F:SH H0 M H L I][e:LkL L P (.tbl ps)][t:nQ I pos qual ps]:Go (RV P pos qual σ H Q) (∀(f:Addr)(ps':xI)(H':Hp),Kp P H H'->H' P=some (.tbl ps')->TabOk pos qual ps' H'->jD H' f->Q (.ref f) H'):=⟨λk=>⟨ps,F.raw e.m,F.im _ t.m,k⟩⟩
instance YQ[F:SH H0 M H L I][u:LkU L P (.tbl ps) L']:Go (∀H',Kp P H H'->H' P=some (.tbl ps)->TabOk pos qual ps H'->jD H' f->R H') (∀H',SH H0 M H' L' (Ui f::jC pos qual ps::I)->R H'):=⟨λk H' f e t g=>k H' (((F.kp f e u.u rfl).nO t).nO g)⟩
end
section
variable{P:Program}{w:World}{K:W.Frag}{mg:xC}{base:Heap}{CX:CXT}{k:Nat}{x:Str}{st:Stmt}{c:Addr}{N ps:List Str}{sp:Sp}
def Gj(K:W.Frag)(mg:xC)(x:Str)(st:Stmt)(c:Addr):Prop:=∃(f:Addr)(fd:FuncData),Fun K x x st f fd/\fd.code=.ref c/\mg x=some (.ref f)
theorem Qq(h:Gj K mg x st c)(S:aN N ps (aF st))(len:∀vs H Q E,sp vs H Q E->vs.length=ps.length)
  (hb:∀(kV doc pm:Value)(an:xL)(cdv ct:Value)(us:xF),us.length=ps.length->bindArgs (W.fnOf x x (dw st) (cj st) (aF st) .none kV doc pm an cdv ct) ⟨us,[]⟩=pure (ps.zip us))
  (hbody:∀(f:Addr)(A:Around)(outer:List Env)(s:Shared)(H:Hp)(vs:List V)(Q:VK)(E:XK),Room k (A.deeper (envOfC x (aF st) s.heap.objs.size f (.ref c)))->sp vs H Q E ->
   ∃t,PSs (iV CX P w K mg base N x (aF st) f (.ref c) A outer s H E).nox (cj st) t/\t { nx:=λ_ H'=>Q .non H',rt:=Q } (start N vs) H):Def P w K mg base CX (k+1) x ps sp:=by
 obtain⟨f,fd,F,hc,m⟩:=h;refine⟨f,fd,?_,m,F.kp,F.binds hb⟩;obtain⟨oc,od,kV,doc,pm,an,cdv,ct,osl,rfl,lk,hcd⟩:=F.ex;obtain rfl:cdv=.ref c:=hc;refine vA lk hcd S len λA outer s H vs Q E hr hsp=>?_
 obtain⟨t,h,q⟩:=hbody f A outer s H vs Q E hr hsp;exact⟨t,h.nox,q⟩
end
end L2
namespace L2
open PySem PySem.W PySem.Spec PyProof.Rows
end L2
namespace L2
open PySem PySem.Spec PyProof.Rows PySem.SeqAt
abbrev flD(v:V):PyData:=pyD (jB v)
inductive ThD(H:Hp):V->PyData->Prop
 | flat {v:V} (h:gJ v=true) (z:Shm 500 1 (flD v)):ThD H v (flD v)
 | lst {p:Addr} {vs:List V} (e:H p=some (.lst vs)) (h:∀v∈vs,gJ v=true) (z:Shm 500 1 (.list (vs.map flD))):ThD H (.ref p) (.list (vs.map flD))
 | tup {p:Addr} {vs:List V} (e:H p=some (.tup vs)) (h:∀v∈vs,gJ v=true) (z:Shm 500 1 (.tuple (vs.map flD))):ThD H (.ref p) (.tuple (vs.map flD))
 | dct {p:Addr} (e:H p=some (.dK [])):ThD H (.ref p) (.dict [])
section
variable{H:Hp}{v:V}{d:PyData}{K:W.Frag}
theorem ThD.ty(h:ThD H v d):∃n,dN K H v (.type n):=by
 cases h with
 | flat h z =>
  cases v with
  | non=>exact⟨_,.non⟩
  | bl b=>exact⟨_,.bl b⟩
  | int i=>exact⟨_,.int i⟩
  | str x=>exact⟨_,.str x⟩
  | _=>simp[gJ] at h
 | lst e h z=>exact⟨_,.lst e⟩
 | tup e h z=>exact⟨_,.tup e⟩
 | dct e=>exact⟨_,.dK e⟩
end
section
variable{H:Hp}{x:Str}{Q:VK}
instance (priority:=high) Vn:Go (rEq (.str x) (.str x) H Q) (Q (.bl true) H):=⟨λk=>⟨rfl,by simpa using k⟩⟩
end
end L2
set_option maxHeartbeats 400000
namespace L2
open PySem PySem.Spec PyProof.Rows PySem.SeqAt
end L2
set_option maxHeartbeats 1000000
namespace L2
open PySem PySem.Spec PyProof.Rows PySem.SeqAt
mutual
def TrH(H:Hp):Dt->V->Prop
 | .non,v=>v=.non
 | .bl b,v=>v=.bl b
 | .int i,v=>v=.int i
 | .str x,v=>v=.str x
 | .lst ds,v=>∃p xs,v=.ref p/\H p=some (.lst xs)/\fU H ds xs
 | .tup ds,v=>∃p xs,v=.ref p/\H p=some (.tup xs)/\fU H ds xs
def fU(H:Hp):List Dt->List V->Prop
 | [],xs=>xs=[]
 | d::ds,xs=>∃x r,xs=x::r/\TrH H d x/\fU H ds r
end
theorem fU.len{H:Hp}:∀{ds:List Dt} {xs:List V},fU H ds xs->xs.length=ds.length
 | [],xs,h=>by simp only[fU] at h;rw[h];rfl
 | d::ds,xs,h=>by
  simp only[fU] at h;obtain⟨x,r,rfl,h1,h2⟩:=h;rw[zzD,zzD,h2.len]
theorem fU.at{H:Hp}:∀{ds:List Dt} {xs:List V},fU H ds xs->∀{i:Nat} {v:V},xs[i]?=some v->∃d,ds[i]?=some d/\TrH H d v
 | [],xs,h,i,v,e=>by simp only[fU] at h;rw[h] at e;cases e
 | d::ds,xs,h,i,v,e=>by
  simp only[fU] at h;obtain⟨x,r,rfl,h1,h2⟩:=h;cases i with
  | zero=>cases e;exact⟨d,rfl,h1⟩
  | succ i=>exact h2.at (i:=i) e
theorem fU.of{H:Hp}:∀{ds:List Dt} {xs:List V},xs.length=ds.length->(∀(i:Nat)(v:V),xs[i]?=some v->∃d,ds[i]?=some d/\TrH H d v)->fU H ds xs
 | [],xs,hl,_=>by simp only[fU];exact List.eq_nil_of_length_eq_zero hl
 | d::ds,[],hl,_=>by cases hl
 | d::ds,x::r,hl,h=>by
  simp only[fU];refine⟨x,r,rfl,?_,fU.of (by simpa using hl) λi v e=>h (i+1) v e⟩;obtain⟨d',e,t⟩:=h 0 x rfl;cases e;exact t
mutual
def Uj:Dt->Prop
 | .lst ds=>ds.length<=1000/\LC ds
 | .tup ds=>ds.length<=1000/\LC ds
 | _=>True
def LC:List Dt->Prop
 | []=>True
 | d::ds=>Uj d/\LC ds
end
def hides(B:List Addr)(H:Hp):Hp:=λa=>if a∈B then none else H a
def Al(H:Hp)(B:List Addr):Prop:=∀b∈B,∃xs,H b=some (.lst xs)
theorem vV{H:Hp}:hides [] H=H:=by funext a;simp[hides]
def Cp(H H':Hp)(d:Dt)(v v':V):Prop:=Same H H'/\∀B,Al H B->TrH (hides B H) d v->TrH (hides B H') d v'
theorem Cp.tr{H H':Hp}{d:Dt}{v v':V}(c:Cp H H' d v v')(t:TrH H d v):TrH H' d v':=by
 have h:=c.2 [] (by simp[Al]);rw[vV,vV] at h;exact h t
section
variable{H:Hp}{ds:List Dt}{xs:List V}
theorem fU.take(h:fU H ds xs)(n:Nat):fU H (ds.take n) (xs.take n):=fU.of (by rw[nE,nE,h.len]) λi v e=>by
 rw[List.getElem?_take] at e ⊢;by_cases hi:i<n
 ·rw[yB hi] at e ⊢;exact h.at e
 ·rw[yT hi] at e;cases e
theorem fU.drop(h:fU H ds xs)(n:Nat):fU H (ds.drop n) (xs.drop n):=fU.of (by rw[zzH,zzH,h.len]) λi v e=>by
 rw[List.getElem?_drop] at e ⊢;exact h.at e
theorem fU.one{d:Dt}{v:V}(h:TrH H d v):fU H [d] [v]:=by
 simp only[fU];exact⟨v,[],rfl,h,rfl⟩
theorem TrH.flat{v:V}(h:gJ v=true):TrH H (jB v) v:=by
 cases v <;> simp[gJ] at h <;> simp[jB,TrH]
theorem TrH.lst{p:Addr}(h:H p=some (.lst xs))(t:fU H ds xs):TrH H (.lst ds) (.ref p):=by
 simp only[TrH];exact⟨p,xs,rfl,h,t⟩
theorem TrH.tup{p:Addr}(h:H p=some (.tup xs))(t:fU H ds xs):TrH H (.tup ds) (.ref p):=by
 simp only[TrH];exact⟨p,xs,rfl,h,t⟩
end
def Sm(n:Nat)(ds:List Dt):Prop:=∀d∈ds,fM d<=n/\Uj d
theorem Sm.take{n:Nat}{ds:List Dt}(h:Sm n ds)(k:Nat):Sm n (ds.take k):=λd hd=>h d (oP hd)
theorem Sm.drop{n:Nat}{ds:List Dt}(h:Sm n ds)(k:Nat):Sm n (ds.drop k):=λd hd=>h d (oQ hd)
theorem Sm.one{n:Nat}{d:Dt}(h:fM d<=n)(w:Uj d):Sm n [d]:=λe he=>by rw[rV.mp he];exact⟨h,w⟩
end L2
set_option maxHeartbeats 4000000
namespace L2
open PySem PySem.Spec PyProof.Rows PySem.SeqAt
def tEi(t u:TE):TE:=λσ H Q=>t σ H Q\/u σ H Q
theorem sG{X:Cx}{e:Expr}{t u:TE}(h1:PE X e t)(h2:PE X e u):PE X e (tEi t u):=λpins s σ H Q I h=>h.elim (h1 pins s σ H Q I) (h2 pins s σ H Q I)
theorem Eb{t u:TE}{σ:St}{H:Hp}{Q:VK}(h:t σ H Q):tEi t u σ H Q:=.inl h
theorem fY{t u:TE}{σ:St}{H:Hp}{Q:VK}(h:u σ H Q):tEi t u σ H Q:=.inr h
end L2
namespace L2
open PySem PySem.W PySem.Spec PyProof.Rows
end L2
namespace L2
open PySem PySem.Spec PyProof.Rows PySem.SeqAt
end L2
namespace L2
open PySem PySem.Spec PyProof.Rows
end L2
set_option maxHeartbeats 1000000
namespace L2
open PySem PyProof.Rows
namespace TS
def gal:Bool->Keyed->Array Keyed->Nat->Nat->Nat->StateT SortSt Sem (Option Nat):=sortPriv% PySem.Builtin.gallop
structure Ord(prog:Program)(w:World)(A:Around)(κ:SortKind)(s:Shared)(M:Keyed->Prop)(lt:Keyed->Keyed->Bool):Prop where
 ir:∀x,M x->lt x x=false
 nt:∀x y z,M x->M y->M z->lt x z=true->lt x y=true\/lt y z=true
 as:∀x y,M x->M y->lt x y=true->lt y x=false
 as_:∀x y,M x->M y->wpAny (model prog w) A (keyLt' κ x.1 y.1) (λb s'=>s'=s/\b=lt x y) (λ_ _=>False) s
section
variable{prog:Program}{w:World}{A:Around}{E:xB}{s:Shared}{κ:SortKind}{M:Keyed->Prop}{lt:Keyed->Keyed->Bool}
theorem Ah(O:Ord prog w A κ s M lt){st:SortSt}{x y:Keyed}{Q:Option Bool->SortSt->Prop}(hk:kindOf st=κ)(hx:M x)(hy:M y)(h:Q (some (lt x y)) st):wpS (model prog w) A E s (lt' x y) Q st:=by
 rw[lt'_eq];refine zS (wpS_get ?_);rw[hk];refine zS (wpS_lift (wpAny_attempt (mM (O.as_ x y hx hy) (λb s' hb=>?_) λ_ _ hF=>hF.elim)));obtain⟨rfl,rfl⟩:=hb;exact⟨rfl,yA h⟩
theorem aW{st:SortSt}{arr:xE}{i:Nat}{x:Keyed}{Q:Keyed->SortSt->Prop}(e:arr[i]?=some x)(h:Q x st):wpS (model prog w) A E s (elem' arr i) Q st:=by
 rw[elem'_eq,e];exact yA h
def bey(left:Bool)(lt:Keyed->Keyed->Bool)(key x:Keyed):Bool:=if left=true then lt x key else !(lt key x)
theorem sH(O:Ord prog w A κ s M lt){st:SortSt}{left:Bool}{key x:Keyed}{arr:xE}{i:Nat}{Q:Option Bool->SortSt->Prop}(hk:kindOf st=κ)(e:arr[i]?=some x)(hx:M x)(hy:M key)(h:Q (some (bey left lt key x)) st) :
  wpS (model prog w) A E s (do let x <- elem' arr i;if left=true then lt' x key else do let r <- lt' key x;pure (Option.map (λx=>!x) r)) Q st:=by
 refine zS (aW e ?_);unfold bey at h;cases left with
 | true=>exact Ah O hk hx hy h
 | false=>exact zS (Ah O hk hy hx (yA h))
theorem Uk(O:Ord prog w A κ s M lt){st:SortSt}{left:Bool}{key:Keyed}{arr:xE}{base n hint:Nat}{X:Nat->Keyed}{Q:Option Nat->SortSt->Prop}(hk:kindOf st=κ)(hX:∀i,i<n->arr[base+i]?=some (X i)/\M (X i))(hy:M key)
  (Xg:∀i j,i<=j->j<n->TS.bey left lt key (X j)=true->TS.bey left lt key (X i)=true) (hn:hint<n)
  (h:∀k,k<=n->(∀i,i<k->TS.bey left lt key (X i)=true)->(∀i,k<=i->i<n->TS.bey left lt key (X i)=false)->Q (some k) st):wpS (model prog w) A E s (gal left key arr base n hint) Q st:=by
 obtain⟨bey,hbe⟩:∃b:Nat->Bool,∀i,b i=TS.bey left lt key (X i):=⟨_,λ_=>rfl⟩;have mono:∀i j,i<=j->j<n->bey j=true->bey i=true:=λi j a b c=>by rw[hbe] at c ⊢;exact Xg i j a b c
 have down:∀i j,j<=i->i<n->bey j=false->bey i=false:=λi j a b c=>by
  cases e:bey i with
  | false=>rfl
  | true=>rw[mono j i a b e] at c;cases c
 replace h:∀k,k<=n->(∀i,i<k->bey i=true)->(∀i,k<=i->i<n->bey i=false)->Q (some k) st:=λk a b c=>h k a (λi hi=>by rw[<- hbe];exact b i hi) (λi h1 h2=>by rw[<- hbe];exact c i h1 h2)
 unfold gal;refine zS (sH (x:=X hint) O hk (hX _ hn).1 (hX _ hn).2 hy ?_);dsimp only;rw[<- hbe];cases hb:bey hint with
 | true =>
  rw[yB rfl];refine zS (wpS_mono (wpS_forRange (I:=λx c st'=>st=st'/\∃la o,c=(none,la,o)/\la<o/\x+1<=o/\hint+la<n/\bey (hint+la)=true)
   (Q:=λc st'=>st=st'/\∃la o,c=(none,la,o)/\la<o/\hint+la<n/\bey (hint+la)=true/\(o ≥ n-hint\/(hint+o<n/\bey (hint+o)=false))) ?_ ?_ ⟨rfl,0,1,rfl,by lia,by lia,by lia,hb⟩) ?_)
  ·rintro x c st' _ hx ⟨rfl,la,o,rfl,h1,h2,h3,h4⟩;dsimp only;by_cases hg:o ≥ n-hint
   ·rw[yB hg];exact yA ⟨rfl,la,o,rfl,h1,h3,h4,.inl hg⟩
   ·rw[yT hg];refine zS (sH (x:=X (hint+o)) O hk (hX _ (by lia)).1 (hX _ (by lia)).2 hy ?_);dsimp only;rw[<- hbe];cases hb2:bey (hint+o) with
    | true =>
     rw[if_neg (by simp)];exact yA ⟨rfl,_,_,rfl,by lia,by lia,by lia,hb2⟩
    | false =>
     rw[if_pos (by simp)];exact yA ⟨rfl,la,o,rfl,h1,h3,h4,.inr ⟨by lia,hb2⟩⟩
  ·rintro c st' ⟨rfl,la,o,rfl,h1,h2,h3,h4⟩;exact⟨rfl,la,o,rfl,h1,h3,h4,.inl (by lia)⟩
  rintro c st' ⟨rfl,la,o,rfl,h1,h3,h4,h5⟩;dsimp only;have f1:∀i,i<hint+la+1->bey i=true:=λi hi=>mono i (hint+la) (by lia) h3 h4
  have f2:∀i,hint+min o (n-hint)<=i->i<n->bey i=false:=λi hi h7=>by
   rcases h5 with h5|⟨h5,h6⟩
   ·lia
   ·exact down i (hint+o) (by lia) h7 h6
  refine zS (wpS_mono (wpS_forRange (I:=λx c st'=>st=st'/\∃lo hi,c=(none,lo,hi)/\lo<=hi/\hi<=n/\hi-lo<=n-x/\(∀i,i<lo->bey i=true)/\∀i,hi<=i->i<n->bey i=false)
   (Q:=λc st'=>st=st'/\∃lo hi,c=(none,lo,hi)/\hi<=n/\(∀i,i<hi->bey i=true)/\∀i,hi<=i->i<n->bey i=false) ?_ ?_ ?_) ?_)
  ·rintro x c st' _ hx ⟨rfl,lo,hi,rfl,h1,h2,h3,h4,h5⟩;dsimp only;by_cases hg:lo ≥ hi
   ·rw[yB hg];exact yA ⟨rfl,lo,hi,rfl,h2,λi hi'=>h4 i (by lia),h5⟩
   ·rw[yT hg];refine zS (sH (x:=X (lo+(hi-lo) / 2)) O hk (hX _ (by lia)).1 (hX _ (by lia)).2 hy ?_);show wpS _ _ _ _ _ _ _;dsimp only;rw[<- hbe];cases hb2:bey (lo+(hi-lo) / 2) with
    | true =>
     rw[yB rfl];refine yA ⟨rfl,_,_,rfl,by lia,h2,by lia,λi hi'=>?_,h5⟩;exact mono i (lo+(hi-lo) / 2) (by lia) (by lia) hb2
    | false =>
     rw[if_neg (by simp)];refine yA ⟨rfl,_,_,rfl,by lia,by lia,by lia,h4,λi h6 h7=>?_⟩;exact down i (lo+(hi-lo) / 2) h6 h7 hb2
  ·rintro c st' ⟨rfl,lo,hi,rfl,h1,h2,h3,h4,h5⟩;have h3:hi-lo<=n-n:=by rw[show max 0 n=n by lia] at h3;exact h3
   exact⟨rfl,lo,hi,rfl,h2,λi hi'=>h4 i (by lia),h5⟩
  ·exact⟨rfl,_,_,rfl,by lia,by lia,by lia,f1,f2⟩
  ·rintro c st' ⟨rfl,lo,hi,rfl,h2,h4,h5⟩;exact yA (h hi h2 h4 h5)
 | false =>
  rw[if_neg (by simp)];refine zS (wpS_mono (wpS_forRange (I:=λx c st'=>st=st'/\∃la o,c=(none,la,o)/\la<o/\x+1<=o/\la<=hint/\bey (hint-la)=false)
   (Q:=λc st'=>st=st'/\∃la o,c=(none,la,o)/\la<o/\la<=hint/\bey (hint-la)=false/\(o ≥ hint+1\/(o<=hint/\bey (hint-o)=true))) ?_ ?_ ⟨rfl,0,1,rfl,by lia,by lia,by lia,hb⟩) ?_)
  ·rintro x c st' _ hx ⟨rfl,la,o,rfl,h1,h2,h3,h4⟩;dsimp only;by_cases hg:o ≥ hint+1
   ·rw[yB hg];exact yA ⟨rfl,la,o,rfl,h1,h3,h4,.inl hg⟩
   ·rw[yT hg];refine zS (sH (x:=X (hint-o)) O hk (hX _ (by lia)).1 (hX _ (by lia)).2 hy ?_);dsimp only;rw[<- hbe];cases hb2:bey (hint-o) with
    | false =>
     rw[if_neg (by simp)];exact yA ⟨rfl,_,_,rfl,by lia,by lia,by lia,hb2⟩
    | true =>
     rw[if_pos (by simp)];exact yA ⟨rfl,la,o,rfl,h1,h3,h4,.inr ⟨by lia,hb2⟩⟩
  ·rintro c st' ⟨rfl,la,o,rfl,h1,h2,h3,h4⟩;exact⟨rfl,la,o,rfl,h1,h3,h4,.inl (by lia)⟩
  rintro c st' ⟨rfl,la,o,rfl,h1,h3,h4,h5⟩;dsimp only;have f1:∀i,i<hint+1-min o (hint+1)->bey i=true:=λi hi=>by
   rcases h5 with h5|⟨h5,h6⟩
   ·lia
   ·exact mono i (hint-o) (by lia) (by lia) h6
  have f2:∀i,hint-la<=i->i<n->bey i=false:=λi hi h7=>down i (hint-la) (by lia) h7 h4
  refine zS (wpS_mono (wpS_forRange (I:=λx c st'=>st=st'/\∃lo hi,c=(none,lo,hi)/\lo<=hi/\hi<=n/\hi-lo<=n-x/\(∀i,i<lo->bey i=true)/\∀i,hi<=i->i<n->bey i=false)
   (Q:=λc st'=>st=st'/\∃lo hi,c=(none,lo,hi)/\hi<=n/\(∀i,i<hi->bey i=true)/\∀i,hi<=i->i<n->bey i=false) ?_ ?_ ?_) ?_)
  ·rintro x c st' _ hx ⟨rfl,lo,hi,rfl,h1,h2,h3,h4,h5⟩;dsimp only;by_cases hg:lo ≥ hi
   ·rw[yB hg];exact yA ⟨rfl,lo,hi,rfl,h2,λi hi'=>h4 i (by lia),h5⟩
   ·rw[yT hg];refine zS (sH (x:=X (lo+(hi-lo) / 2)) O hk (hX _ (by lia)).1 (hX _ (by lia)).2 hy ?_);show wpS _ _ _ _ _ _ _;dsimp only;rw[<- hbe];cases hb2:bey (lo+(hi-lo) / 2) with
    | true =>
     rw[yB rfl];refine yA ⟨rfl,_,_,rfl,by lia,h2,by lia,λi hi'=>?_,h5⟩;exact mono i (lo+(hi-lo) / 2) (by lia) (by lia) hb2
    | false =>
     rw[if_neg (by simp)];refine yA ⟨rfl,_,_,rfl,by lia,by lia,by lia,h4,λi h6 h7=>?_⟩;exact down i (lo+(hi-lo) / 2) h6 h7 hb2
  ·rintro c st' ⟨rfl,lo,hi,rfl,h1,h2,h3,h4,h5⟩;have h3:hi-lo<=n-n:=by rw[show max 0 n=n by lia] at h3;exact h3
   exact⟨rfl,lo,hi,rfl,h2,λi hi'=>h4 i (by lia),h5⟩
  ·exact⟨rfl,_,_,rfl,by lia,by lia,by lia,f1,f2⟩
  ·rintro c st' ⟨rfl,lo,hi,rfl,h2,h4,h5⟩;exact yA (h hi h2 h4 h5)
end
end TS
end L2
namespace L2
open PySem PyProof.Rows
namespace TS
section
variable{lt:Keyed->Keyed->Bool}
def le(lt:Keyed->Keyed->Bool)(x y:Keyed):Prop:=lt y x=false
structure Or(M:Keyed->Prop)(lt:Keyed->Keyed->Bool):Prop where
 ir:∀x,M x->lt x x=false
 nt:∀x y z,M x->M y->M z->lt x z=true->lt x y=true\/lt y z=true
 as:∀x y,M x->M y->lt x y=true->lt y x=false
variable{M:Keyed->Prop}
theorem Or.tr(O:Or M lt){x y z:Keyed}(hx:M x)(hy:M y)(hz:M z)(h1:le lt x y)(h2:le lt y z):le lt x z:=by
 unfold le at *;cases e:lt z x with
 | false=>rfl
 | true =>
  rcases O.nt z y x hz hy hx e with h|h
  ·rw[h2] at h;cases h
  ·rw[h1] at h;cases h
theorem Or.of(O:Or M lt){x y:Keyed}(hx:M x)(hy:M y)(h:lt x y=true):le lt x y:=O.as x y hx hy h
theorem Or.rf(O:Or M lt){x:Keyed}(hx:M x):le lt x x:=O.ir x hx
abbrev Up(lt:Keyed->Keyed->Bool)(l:List Keyed):Prop:=l.Pairwise (le lt)
structure MI(lt:Keyed->Keyed->Bool)(la lb out:List Keyed)(i j:Nat):Prop where
 il:i<=la.length
 jl:j<=lb.length
 pm:out.Perm (la.take i++lb.take j)
 so:Up lt out
 ab:∀x∈out,∀y,y∈la.drop i\/y∈lb.drop j->le lt x y
variable{la lb out:List Keyed}{i j k:Nat}
theorem MI.sw(m:MI lt la lb out i j):MI lt lb la out j i:=⟨m.jl,m.il,m.pm.trans List.perm_append_comm,m.so,λx hx y hy=>m.ab x hx y hy.symm⟩
theorem dI{l:List Keyed}(h:Up lt l)(i:Nat):Up lt (l.drop i):=h.sublist (List.drop_sublist i l)
theorem dJ{l:List Keyed}(h:Up lt l)(i:Nat):Up lt (l.take i):=h.sublist (List.take_sublist i l)
theorem sI{l:List Keyed}(h:Up lt l)(i:Nat):∀x∈l.take i,∀y∈l.drop i,le lt x y:=by
 rw[<- qB i l] at h;exact(zzA.mp h).2.2
theorem MI.A(m:MI lt la lb out i j)(sa:Up lt la)(hk:i+k<=la.length)(h:∀x∈(la.drop i).take k,∀y∈lb.drop j,le lt x y):MI lt la lb (out++(la.drop i).take k) (i+k) j:=by
 refine⟨hk,m.jl,?_,?_,?_⟩
 ·rw[List.take_add];refine(m.pm.append_right _).trans ?_;rw[jI,jI];exact List.Perm.append_left _ List.perm_append_comm
 ·refine zzA.mpr ⟨m.so,dJ (dI sa i) k,λx hx y hy=>m.ab x hx y (.inl (oP hy))⟩
 ·intro x hx y hy;have e:la.drop (i+k)=(la.drop i).drop k:=by rw[List.drop_drop]
  rcases wT.mp hx with hx|hx
  ·rcases hy with hy|hy
   ·rw[e] at hy;exact m.ab x hx y (.inl (oQ hy))
   ·exact m.ab x hx y (.inr hy)
  ·rcases hy with hy|hy
   ·rw[e] at hy;exact sI (dI sa i) k x hx y hy
   ·exact h x hx y hy
theorem MI.B(m:MI lt la lb out i j)(sb:Up lt lb)(hk:j+k<=lb.length)(h:∀y∈(lb.drop j).take k,∀x∈la.drop i,le lt y x):MI lt la lb (out++(lb.drop j).take k) i (j+k):=(m.sw.A sb hk h).sw
theorem take_one{l:List Keyed}{x:Keyed}(h:l[i]?=some x):(l.drop i).take 1=[x]/\i+1<=l.length/\l.drop i=x::l.drop (i+1):=by
 obtain⟨h1,h2⟩:=qE.mp h;have e:l.drop i=x::l.drop (i+1):=by rw[List.drop_eq_getElem_cons h1,h2]
 exact⟨by rw[e];rfl,h1,e⟩
theorem MI.a1(m:MI lt la lb out i j)(sa:Up lt la){x:Keyed}(hx:la[i]?=some x)(h:∀y∈lb.drop j,le lt x y):MI lt la lb (out++[x]) (i+1) j:=by
 obtain⟨e,hl,_⟩:=take_one hx;have:=m.A (k:=1) sa hl (λz hz y hy=>by rw[e] at hz;rw[rV.mp hz];exact h y hy);rw[e] at this;exact this
theorem MI.b1(m:MI lt la lb out i j)(sb:Up lt lb){y:Keyed}(hy:lb[j]?=some y)(h:∀x∈la.drop i,le lt y x):MI lt la lb (out++[y]) i (j+1):=(m.sw.a1 sb hy h).sw
theorem iJ(O:Or M lt){l:List Keyed}(hM:∀x∈l,M x)(h:Up lt l){x:Keyed}(hx:l[i]?=some x):∀y∈l.drop i,le lt x y:=λy hy=>by
 obtain⟨_,_,e⟩:=take_one hx;have hs:=dI h i;rw[e] at hy hs;rcases jS.mp hy with rfl|hy
 ·exact O.rf (hM _ (wE hx))
 ·exact(List.pairwise_cons.mp hs).1 y hy
theorem MI.fin(m:MI lt la lb out i j){P Q:List Keyed}(hp:P.Perm (la.drop i)/\Q.Perm (lb.drop j)\/P.Perm (lb.drop j)/\Q.Perm (la.drop i))(uP:Up lt P)(uQ:Up lt Q)(h:∀x∈P,∀y∈Q,le lt x y):(out++P++Q).Perm (la++lb)/\Up lt (out++P++Q):=by
 have hm:∀y,y∈P++Q->y∈la.drop i\/y∈lb.drop j:=λy hy=>by
  rcases wT.mp hy with hy|hy
  ·rcases hp with⟨h1,_⟩|⟨h1,_⟩
   ·exact .inl (h1.mem_iff.mp hy)
   ·exact .inr (h1.mem_iff.mp hy)
  ·rcases hp with⟨_,h1⟩|⟨_,h1⟩
   ·exact .inr (h1.mem_iff.mp hy)
   ·exact .inl (h1.mem_iff.mp hy)
 constructor
 ·rw[jI];have h1:(P++Q).Perm (la.drop i++lb.drop j):=by
   rcases hp with⟨h1,h2⟩|⟨h1,h2⟩
   ·exact h1.append h2
   ·exact(h1.append h2).trans List.perm_append_comm
  refine(m.pm.append h1).trans ?_;refine List.Perm.trans (l₂:=(la.take i++la.drop i)++(lb.take j++lb.drop j)) ?_ (by rw[qB,qB]);rw[jI,jI];refine List.Perm.append_left _ ?_;rw[<- jI,<- jI];exact List.Perm.append_right _ List.perm_append_comm
 ·rw[jI];exact zzA.mpr ⟨m.so,zzA.mpr ⟨uP,uQ,h⟩,λx hx y hy=>m.ab x hx y (hm y hy)⟩
theorem jk{α:Type}(a:Array α)(i j:Nat):(a.extract i j).toList=(a.toList.drop i).take (j-i):=by
 simp[List.extract_eq_take_drop]
theorem qL{α:Type}(a:Array α)(i:Nat):(a.extract i).toList=a.toList.drop i:=by
 rw[jk];exact List.take_of_length_le (by simp)
theorem aO{α:Type}{a:Array α}{i:Nat}{x:α}(h:a.toList[i]?=some x):a[i]?=some x:=by simpa using h
end
end TS
end L2
namespace L2
open PySem PyProof.Rows
namespace TS
def mlo:Array Keyed->Array Keyed->StateT SortSt Sem (Array Keyed):=sortPriv% PySem.Builtin.mergeLo
section
variable{prog:Program}{w:World}{A:Around}{E:xB}{s:Shared}{κ:SortKind}{M:Keyed->Prop}{lt:Keyed->Keyed->Bool}
theorem Ord.or(O:Ord prog w A κ s M lt):Or M lt:=⟨O.ir,O.nt,O.as⟩
theorem seg_at{arr:xE}{base n:Nat}{seg:List Keyed}(hs:seg=(arr.toList.drop base).take n)(hl:base+n<=arr.size):seg.length=n/\∀i (h:i<seg.length),arr[base+i]?=some seg[i]:=by
 have l1:seg.length=n:=by rw[hs,nE,zzH,mS];lia
 refine⟨l1,λi h=>aO ?_⟩;have e:seg[i]?=arr.toList[base+i]?:=by rw[hs,List.getElem?_take,yB (by lia),List.getElem?_drop]
 rw[<- e,qS h]
theorem Xh{l:List Keyed}(O:Or M lt)(hM:∀x∈l,M x)(u:Up lt l){i j:Nat}(hij:i<=j)(hj:j<l.length):le lt (l[i]'(by lia)) l[j]:=by
 rcases Nat.lt_or_eq_of_le hij with h|rfl
 ·exact List.pairwise_iff_getElem.mp u i j (by lia) hj h
 ·exact O.rf (hM _ (List.getElem_mem hj))
theorem d8(O:Ord prog w A κ s M lt){st:SortSt}{left:Bool}{key:Keyed}{arr:xE}{base n hint:Nat}{seg:List Keyed}{Q:Option Nat->SortSt->Prop}(hk:kindOf st=κ)(hs:seg=(arr.toList.drop base).take n)(hl:base+n<=arr.size)(Ml:∀x∈seg,M x)(u:Up lt seg)(My:M key)(hh:hint<n)
  (h:∀k,k<=n->(∀x∈seg.take k,bey left lt key x=true)->(∀x∈seg.drop k,bey left lt key x=false)->Q (some k) st):wpS (model prog w) A E s (gal left key arr base n hint) Q st:=by
 obtain⟨l1,hat⟩:=seg_at hs hl;have gd:∀i (hi:i<n),seg.getD i (Value.none,Value.none)=seg[i]'(by lia):=λi hi=>by rw[nB,qS (by lia)];rfl
 refine Uk (X:=λi=>seg.getD i (Value.none,Value.none)) O hk (λi hi=>?_) My (λi j hij hj hb=>?_) hh λk hk1 f1 f2=>h k hk1 (λx hx=>?_) λx hx=>?_
 ·rw[gd i hi];exact⟨hat i (by lia),Ml _ (List.getElem_mem _)⟩
 ·have hle:=Xh O.or Ml u hij (by lia:j<seg.length);rw[<- gd i (by lia),<- gd j hj] at hle;have Mi:M (seg.getD i (Value.none,Value.none)):=by rw[gd i (by lia)];exact Ml _ (List.getElem_mem _)
  have Mj:M (seg.getD j (Value.none,Value.none)):=by rw[gd j hj];exact Ml _ (List.getElem_mem _)
  unfold bey at hb ⊢;cases left with
  | true =>
   rw[yB rfl] at hb ⊢;rcases O.nt _ _ _ Mj Mi My hb with z|z
   ·rw[show lt _ _=false from hle] at z;cases z
   ·exact z
  | false =>
   rw[if_neg (by simp)] at hb ⊢;have:le lt (seg.getD j (Value.none,Value.none)) key:=by unfold le;simpa using hb
   have:=O.or.tr Mi Mj My hle this;unfold le at this;rw[this]
   rfl
 ·obtain⟨i,hi,rfl⟩:=List.mem_iff_getElem.mp hx;rw[nE] at hi;rw[List.getElem_take,<- gd i (by lia)];exact f1 i (by lia)
 ·obtain⟨i,hi,rfl⟩:=List.mem_iff_getElem.mp hx;rw[zzH] at hi;rw[List.getElem_drop,<- gd (k+i) (by lia)];exact f2 (k+i) (by lia) (by lia)
structure SG(st st':SortSt):Prop where
 k:kindOf st'=kindOf st
 a:arrOf st'=arrOf st
 p:pendingOf st'=pendingOf st
 f:failedOf st'=failedOf st
theorem SG.rf{st:SortSt}:SG st st:=⟨rfl,rfl,rfl,rfl⟩
theorem SG.set{st st':SortSt}(h:SG st st')(g:Nat):SG st (SortSt.mk' (kindOf st') (arrOf st') (pendingOf st') g (failedOf st')):=⟨h.k,h.a,h.p,h.f⟩
structure Pre(M:Keyed->Prop)(lt:Keyed->Keyed->Bool)(la lb:List Keyed):Prop where
 Ma:∀x∈la,M x
 Mb:∀x∈lb,M x
 ua:Up lt la
 ub:Up lt lb
 na:la≠[]
 nb:lb≠[]
 lo:∀y,lb[0]?=some y->∀x∈la,le lt y x
 hi:∀y∈lb,∀x,la[la.length-1]?=some x->le lt y x
abbrev Good(lt:Keyed->Keyed->Bool)(la lb:List Keyed)(r:xE):Prop:=r.toList.Perm (la++lb)/\Up lt r.toList
variable{a b out:xE}{i j:Nat}
theorem cZ(P:Pre M lt a.toList b.toList)(m:MI lt a.toList b.toList out.toList i j)(h:j=b.size\/i=a.size):Good lt a.toList b.toList (out++a.extract i++b.extract j):=by
 have e:(out++a.extract i++b.extract j).toList=out.toList++a.toList.drop i++b.toList.drop j:=by rw[mT,mT,qL,qL]
 unfold Good;rw[e];refine m.fin (.inl ⟨List.Perm.refl _,List.Perm.refl _⟩) (dI P.ua i) (dI P.ub j) λx hx y hy=>?_
 rcases h with rfl|rfl
 ·rw[List.drop_of_length_le (by simp)] at hy;cases hy
 ·rw[List.drop_of_length_le (by simp)] at hx;cases hx
theorem dg(P:Pre M lt a.toList b.toList)(m:MI lt a.toList b.toList out.toList i j)(h:i+1=a.size):Good lt a.toList b.toList (out++b.extract j++a.extract i):=by
 have e:(out++b.extract j++a.extract i).toList=out.toList++b.toList.drop j++a.toList.drop i:=by rw[mT,mT,qL,qL]
 unfold Good;rw[e];refine m.fin (.inr ⟨List.Perm.refl _,List.Perm.refl _⟩) (dI P.ub j) (dI P.ua i) λy hy x hx=>?_
 refine P.hi y (oQ hy) x ?_;rw[List.drop_eq_getElem_cons (by simp;lia),List.drop_of_length_le (by simp;lia),List.mem_singleton] at hx;rw[hx,show a.toList.length-1=i by simp;lia];simp
theorem dM{l:xE}{i:Nat}(h:i<l.size):∃x,l.toList[i]?=some x:=⟨l.toList[i]'(by simpa using h),List.getElem?_eq_getElem (by simpa using h)⟩
def MB(lt:Keyed->Keyed->Bool)(a b out:xE)(i j n:Nat):Prop:=MI lt a.toList b.toList out.toList i j/\i+1<a.size/\j<b.size/\n<=i+j
theorem cN(o:xE)(x:Keyed):(o.push x).toList=o.toList++[x]:=by simp
theorem app_list(o:xE)(l:xE)(i k:Nat):(o++l.extract i (i+k)).toList=o.toList++(l.toList.drop i).take k:=by rw[mT,jk,show i+k-i=k by lia]
theorem Ul(O:Ord prog w A κ s M lt){st:SortSt}{Q:Array Keyed->SortSt->Prop}(hk:kindOf st=κ)(P:Pre M lt a.toList b.toList)(h:∀r st',SG st st'->Good lt a.toList b.toList r->Q r st'):wpS (model prog w) A E s (mlo a b) Q st:=by
 have sa:0<a.size:=by have:=List.length_pos_iff.mpr P.na;simpa using this
 have sb:0<b.size:=by have:=List.length_pos_iff.mpr P.nb;simpa using this
 obtain⟨b0,hb0⟩:=dM sb;have m0:MI lt a.toList b.toList (#[b0]:xE).toList 0 1:=by
  have:MI lt a.toList b.toList [] 0 0:=⟨by lia,by lia,by simp,List.Pairwise.nil,λx hx=>by cases hx⟩;exact this.b1 P.ub hb0 (λx hx=>P.lo b0 hb0 x (oQ hx))
 unfold mlo;refine zS (wpS_lift (wpAny_rule ⟨rfl,?_⟩));refine zS (aW (aO hb0) ?_);dsimp only;by_cases h1:(1==b.size)=true
 ·rw[yB h1];exact yA (h _ _ SG.rf (cZ P m0 (.inl (gX h1))))
 rw[yT h1];have h1:1<b.size:=by have:¬ 1=b.size:=λe=>h1 (by rw[<- e];rfl);lia
 by_cases h2:(0+1==a.size)=true
 ·rw[yB h2];exact yA (h _ _ SG.rf (dg P m0 (gX h2)))
 rw[yT h2];have h2:0+1<a.size:=by have:¬ 0+1=a.size:=λe=>h2 (by rw[<- e];rfl);lia
 refine zS (wpS_get ?_);refine zS (wpS_mono (wpS_forRange (I:=λx c st'=>SG st st'/\∃out i j g,c=(none,out,i,j,g)/\MB lt a b out i j (x+1))
  (Q:=λc st'=>SG st st'/\∃r t,c=(some r,t)/\Good lt a.toList b.toList r) ?_ ?_ ⟨SG.rf,_,_,_,_,rfl,m0,h2,h1,by lia⟩) ?_)
 ·rintro x c st1 _ hx ⟨g1,out,i,j,g,rfl,mb⟩;dsimp only;refine zS (wpS_mono (wpS_forRange (I:=λy c st'=>st1=st'/\∃out i j u v,c=(none,out,i,j,u,v)/\MB lt a b out i j (x+1+y))
   (Q:=λc st'=>st1=st'/\∃r out i j u v,c=(r,out,i,j,u,v)/\((∃z,r=some z/\Good lt a.toList b.toList z)\/(r=none/\MB lt a b out i j (x+2)))) ?_ ?_ ⟨rfl,_,_,_,_,_,rfl,mb⟩) ?_)
  ·clear mb;rintro y c st2 _ hy ⟨rfl,out,i,j,u,v,rfl,m,q1,q2,q3⟩;dsimp only;obtain⟨xa,ea⟩:=dM (l:=a) (show i<a.size by lia);obtain⟨xb,eb⟩:=dM q2;have Mxa:=P.Ma _ (wE ea);have Mxb:=P.Mb _ (wE eb);have kk:kindOf st1=κ:=g1.k.trans hk;refine zS (aW (aO eb) ?_);refine zS (aW (aO ea) ?_);refine zS (Ah O kk Mxb Mxa ?_);dsimp only;cases hl:lt xb xa with
   | true =>
    rw[yB rfl];refine zS (aW (aO eb) ?_);have m2:MI lt a.toList b.toList (out.push xb).toList i (j+1):=by
     rw[cN];exact m.b1 P.ub eb λz hz=>O.or.tr Mxb Mxa (P.Ma _ (oQ hz)) (O.or.of Mxb Mxa hl) (iJ O.or P.Ma P.ua ea z hz)
    by_cases c1:(j+1==b.size)=true
    ·rw[yB c1];exact yA ⟨rfl,_,_,_,_,_,_,rfl,.inl ⟨_,rfl,cZ P m2 (.inl (gX c1))⟩⟩
    rw[yT c1];have c1:j+1<b.size:=by have:¬ j+1=b.size:=λe=>c1 (by rw[<- e];simp);lia
    by_cases c2:v+1 ≥ g
    ·rw[yB c2];exact yA ⟨rfl,_,_,_,_,_,_,rfl,.inr ⟨rfl,m2,q1,c1,by lia⟩⟩
    ·rw[yT c2];exact yA ⟨rfl,_,_,_,_,_,rfl,m2,q1,c1,by lia⟩
   | false =>
    rw[if_neg (by simp)];refine zS (aW (aO ea) ?_);have m2:MI lt a.toList b.toList (out.push xa).toList (i+1) j:=by
     rw[cN];exact m.a1 P.ua ea λz hz=>O.or.tr Mxa Mxb (P.Mb _ (oQ hz)) hl (iJ O.or P.Mb P.ub eb z hz)
    by_cases c1:(i+1+1==a.size)=true
    ·rw[yB c1];exact yA ⟨rfl,_,_,_,_,_,_,rfl,.inl ⟨_,rfl,dg P m2 (gX c1)⟩⟩
    rw[yT c1];have c1:i+1+1<a.size:=by have:¬ i+1+1=a.size:=λe=>c1 (by rw[<- e];simp);lia
    by_cases c2:u+1 ≥ g
    ·rw[yB c2];exact yA ⟨rfl,_,_,_,_,_,_,rfl,.inr ⟨rfl,m2,c1,q2,by lia⟩⟩
    ·rw[yT c2];exact yA ⟨rfl,_,_,_,_,_,rfl,m2,c1,q2,by lia⟩
  ·rintro c st2 ⟨rfl,out,i,j,u,v,rfl,m,q1,q2,q3⟩;exact gS q3 (by lia)
  clear mb;rintro c st2 ⟨rfl,r,out,i,j,u,v,rfl,hr⟩;dsimp only;rcases hr with⟨z,rfl,gz⟩|⟨rfl,mb⟩
  ·exact yA ⟨g1,_,_,rfl,gz⟩
  dsimp only;refine zS (wpS_lift (wpAny_rule ⟨rfl,?_⟩));refine zS (wpS_mono (wpS_forRange (I:=λy c st'=>SG st st'/\∃out i j g u v,c=(none,out,i,j,g,u,v)/\MB lt a b out i j (x+2+y))
   (Q:=λc st'=>SG st st'/\∃r out i j g u v,c=(r,out,i,j,g,u,v)/\((∃z,r=some z/\Good lt a.toList b.toList z)\/(r=none/\MB lt a b out i j (x+2)))) ?_ ?_ ⟨g1,_,_,_,_,_,_,rfl,mb⟩) ?_)
  ·clear mb;rintro y c st2 _ hy ⟨g2,out,i,j,g,u,v,rfl,m,q1,q2,q3⟩;dsimp only;obtain⟨xb,eb⟩:=dM q2;have Mxb:=P.Mb _ (wE eb);have hbz:=iJ O.or P.Mb P.ub eb;by_cases cg:g > 1
   ·rw[yB cg];refine zS (wpS_modify ?_);have g3:=g2.set (g-1);have kk:kindOf (SortSt.mk' (kindOf st2) (arrOf st2) (pendingOf st2) (g-1) (failedOf st2))=κ:=g3.k.trans hk;refine zS (aW (aO eb) ?_);refine wpS_bind (d8 O kk (seg:=a.toList.drop i) (List.take_of_length_le (by simp)).symm (by lia) (λz hz=>P.Ma _ (List.mem_of_mem_drop hz)) (dI P.ua _) Mxb (by lia) λk1 hk1 d1 d2=>?_);dsimp only;have d1':∀z∈(a.toList.drop i).take k1,le lt z xb:=λz hz=>by
     have h6:=d1 z hz;unfold bey at h6;rw[if_neg (by simp)] at h6;unfold le;simpa using h6
    have d2':∀z∈a.toList.drop (i+k1),le lt xb z:=λz hz=>by
     have h6:=d2 z (by rw[List.drop_drop];exact hz);unfold bey at h6;rw[if_neg (by simp)] at h6;exact O.or.of Mxb (P.Ma _ (List.mem_of_mem_drop hz)) (by simpa using h6)
    by_cases c0:k1 > 0
    ·rw[yB c0];have m3:MI lt a.toList b.toList (out++a.extract i (i+k1)).toList (i+k1) j:=by
      rw[app_list];refine m.A P.ua (by simp;lia) λz hz x hx=>?_
      exact O.or.tr (P.Ma _ (oQ (oP hz))) Mxb (P.Mb _ (oQ hx)) (d1' z hz) (hbz x hx)
     by_cases c6:(i+k1+1==a.size)=true
     ·rw[yB c6];exact yA ⟨g3,_,_,_,_,_,_,_,rfl,.inl ⟨_,rfl,dg P m3 (gX c6)⟩⟩
     rw[yT c6];by_cases c7:(i+k1==a.size)=true
     ·rw[yB c7];exact yA ⟨g3,_,_,_,_,_,_,_,rfl,.inl ⟨_,rfl,cZ P m3 (.inr (gX c7))⟩⟩
     rw[yT c7];have q4:i+k1+1<a.size:=by
      have z1:¬ i+k1+1=a.size:=λe=>c6 (by rw[<- e];simp)
      have z2:¬ i+k1=a.size:=λe=>c7 (by rw[<- e];simp)
      lia
     have f3:=d2';refine zS (aW (aO eb) ?_);have m4:MI lt a.toList b.toList ((out++a.extract i (i+k1)).push xb).toList (i+k1) (j+1):=by
      rw[cN];exact m3.b1 P.ub eb f3
     by_cases c1:(j+1==b.size)=true
     ·rw[yB c1];exact yA ⟨g3,_,_,_,_,_,_,_,rfl,.inl ⟨_,rfl,cZ P m4 (.inl (gX c1))⟩⟩
     rw[yT c1];have c1:j+1<b.size:=by have:¬ j+1=b.size:=λe=>c1 (by rw[<- e];simp);lia
     obtain⟨xa,ea⟩:=dM (l:=a) (show i+k1<a.size by lia);have Mxa:=P.Ma _ (wE ea);refine zS (aW (aO ea) ?_);refine wpS_bind (d8 O kk (seg:=b.toList.drop (j+1)) (List.take_of_length_le (by simp)).symm (by lia) (λz hz=>P.Mb _ (List.mem_of_mem_drop hz)) (dI P.ub _) Mxa (by lia) λk2 hk2 e1 e2=>?_);dsimp only;by_cases c2:k2 > 0
     ·rw[yB c2];have m6:MI lt a.toList b.toList (((out++a.extract i (i+k1)).push xb)++b.extract (j+1) (j+1+k2)).toList (i+k1) (j+1+k2):=by
       rw[app_list];refine m4.B P.ub (by simp;lia) λz hz x hx=>?_
       have h6:=e1 z hz;unfold bey at h6;rw[yB rfl] at h6;have Mz:=P.Mb _ (oQ (oP hz));exact O.or.tr Mz Mxa (P.Ma _ (oQ hx)) (O.or.of Mz Mxa h6) (iJ O.or P.Ma P.ua ea x hx)
      by_cases c5:(j+1+k2==b.size)=true
      ·rw[yB c5];exact yA ⟨g3,_,_,_,_,_,_,_,rfl,.inl ⟨_,rfl,cZ P m6 (.inl (gX c5))⟩⟩
      rw[yT c5];have q5:j+1+k2<b.size:=by have:¬ j+1+k2=b.size:=λe=>c5 (by rw[<- e];simp);lia
      have m4:=m6;have f4:∀z∈b.toList.drop (j+1+k2),le lt xa z:=λz hz=>by
       have h6:=e2 z (by rw[List.drop_drop];exact hz);unfold bey at h6;rw[yB rfl] at h6;exact h6
      refine zS (aW (aO ea) ?_);have m5:MI lt a.toList b.toList ((((out++a.extract i (i+k1)).push xb)++b.extract (j+1) (j+1+k2)).push xa).toList ((i+k1)+1) (j+1+k2):=by
       rw[cN];exact m4.a1 P.ua ea f4
      by_cases c3:((i+k1)+1+1==a.size)=true
      ·rw[yB c3];exact yA ⟨g3,_,_,_,_,_,_,_,rfl,.inl ⟨_,rfl,dg P m5 (gX c3)⟩⟩
      rw[yT c3];have c3:(i+k1)+1+1<a.size:=by have:¬ (i+k1)+1+1=a.size:=λe=>c3 (by rw[<- e];simp);lia
      by_cases c4:(decide (k1<7) && decide (k2<7))=true
      ·rw[yB c4];exact yA ⟨g3,_,_,_,_,_,_,_,rfl,.inr ⟨rfl,m5,c3,q5,by lia⟩⟩
      ·rw[yT c4];exact yA ⟨g3,_,_,_,_,_,_,rfl,m5,c3,q5,by lia⟩
     ·rw[yT c2];have q5:j+1<b.size:=c1;have f4:∀z∈b.toList.drop (j+1),le lt xa z:=λz hz=>by
       have h6:=e2 z (by rw[show k2=0 by lia];exact hz);unfold bey at h6;rw[yB rfl] at h6;exact h6
      refine zS (aW (aO ea) ?_);have m5:MI lt a.toList b.toList (((out++a.extract i (i+k1)).push xb).push xa).toList ((i+k1)+1) (j+1):=by
       rw[cN];exact m4.a1 P.ua ea f4
      by_cases c3:((i+k1)+1+1==a.size)=true
      ·rw[yB c3];exact yA ⟨g3,_,_,_,_,_,_,_,rfl,.inl ⟨_,rfl,dg P m5 (gX c3)⟩⟩
      rw[yT c3];have c3:(i+k1)+1+1<a.size:=by have:¬ (i+k1)+1+1=a.size:=λe=>c3 (by rw[<- e];simp);lia
      by_cases c4:(decide (k1<7) && decide (k2<7))=true
      ·rw[yB c4];exact yA ⟨g3,_,_,_,_,_,_,_,rfl,.inr ⟨rfl,m5,c3,q5,by lia⟩⟩
      ·rw[yT c4];exact yA ⟨g3,_,_,_,_,_,_,rfl,m5,c3,q5,by lia⟩
    ·rw[yT c0];have m3:=m;have q4:=q1;have f3:∀z∈a.toList.drop i,le lt xb z:=λz hz=>d2' z (by rw[show k1=0 by lia];exact hz)
     refine zS (aW (aO eb) ?_);have m4:MI lt a.toList b.toList (out.push xb).toList (i) (j+1):=by
      rw[cN];exact m3.b1 P.ub eb f3
     by_cases c1:(j+1==b.size)=true
     ·rw[yB c1];exact yA ⟨g3,_,_,_,_,_,_,_,rfl,.inl ⟨_,rfl,cZ P m4 (.inl (gX c1))⟩⟩
     rw[yT c1];have c1:j+1<b.size:=by have:¬ j+1=b.size:=λe=>c1 (by rw[<- e];simp);lia
     obtain⟨xa,ea⟩:=dM (l:=a) (show i<a.size by lia);have Mxa:=P.Ma _ (wE ea);refine zS (aW (aO ea) ?_);refine wpS_bind (d8 O kk (seg:=b.toList.drop (j+1)) (List.take_of_length_le (by simp)).symm (by lia) (λz hz=>P.Mb _ (List.mem_of_mem_drop hz)) (dI P.ub _) Mxa (by lia) λk2 hk2 e1 e2=>?_);dsimp only;by_cases c2:k2 > 0
     ·rw[yB c2];have m6:MI lt a.toList b.toList ((out.push xb)++b.extract (j+1) (j+1+k2)).toList (i) (j+1+k2):=by
       rw[app_list];refine m4.B P.ub (by simp;lia) λz hz x hx=>?_
       have h6:=e1 z hz;unfold bey at h6;rw[yB rfl] at h6;have Mz:=P.Mb _ (oQ (oP hz));exact O.or.tr Mz Mxa (P.Ma _ (oQ hx)) (O.or.of Mz Mxa h6) (iJ O.or P.Ma P.ua ea x hx)
      by_cases c5:(j+1+k2==b.size)=true
      ·rw[yB c5];exact yA ⟨g3,_,_,_,_,_,_,_,rfl,.inl ⟨_,rfl,cZ P m6 (.inl (gX c5))⟩⟩
      rw[yT c5];have q5:j+1+k2<b.size:=by have:¬ j+1+k2=b.size:=λe=>c5 (by rw[<- e];simp);lia
      have m4:=m6;have f4:∀z∈b.toList.drop (j+1+k2),le lt xa z:=λz hz=>by
       have h6:=e2 z (by rw[List.drop_drop];exact hz);unfold bey at h6;rw[yB rfl] at h6;exact h6
      refine zS (aW (aO ea) ?_);have m5:MI lt a.toList b.toList (((out.push xb)++b.extract (j+1) (j+1+k2)).push xa).toList ((i)+1) (j+1+k2):=by
       rw[cN];exact m4.a1 P.ua ea f4
      by_cases c3:((i)+1+1==a.size)=true
      ·rw[yB c3];exact yA ⟨g3,_,_,_,_,_,_,_,rfl,.inl ⟨_,rfl,dg P m5 (gX c3)⟩⟩
      rw[yT c3];have c3:(i)+1+1<a.size:=by have:¬ (i)+1+1=a.size:=λe=>c3 (by rw[<- e];simp);lia
      by_cases c4:(decide (k1<7) && decide (k2<7))=true
      ·rw[yB c4];exact yA ⟨g3,_,_,_,_,_,_,_,rfl,.inr ⟨rfl,m5,c3,q5,by lia⟩⟩
      ·rw[yT c4];exact yA ⟨g3,_,_,_,_,_,_,rfl,m5,c3,q5,by lia⟩
     ·rw[yT c2];have q5:j+1<b.size:=c1;have f4:∀z∈b.toList.drop (j+1),le lt xa z:=λz hz=>by
       have h6:=e2 z (by rw[show k2=0 by lia];exact hz);unfold bey at h6;rw[yB rfl] at h6;exact h6
      refine zS (aW (aO ea) ?_);have m5:MI lt a.toList b.toList ((out.push xb).push xa).toList ((i)+1) (j+1):=by
       rw[cN];exact m4.a1 P.ua ea f4
      by_cases c3:((i)+1+1==a.size)=true
      ·rw[yB c3];exact yA ⟨g3,_,_,_,_,_,_,_,rfl,.inl ⟨_,rfl,dg P m5 (gX c3)⟩⟩
      rw[yT c3];have c3:(i)+1+1<a.size:=by have:¬ (i)+1+1=a.size:=λe=>c3 (by rw[<- e];simp);lia
      by_cases c4:(decide (k1<7) && decide (k2<7))=true
      ·rw[yB c4];exact yA ⟨g3,_,_,_,_,_,_,_,rfl,.inr ⟨rfl,m5,c3,q5,by lia⟩⟩
      ·rw[yT c4];exact yA ⟨g3,_,_,_,_,_,_,rfl,m5,c3,q5,by lia⟩
   ·rw[yT cg];refine zS (wpS_modify ?_);have g3:=g2.set g;have kk:kindOf (SortSt.mk' (kindOf st2) (arrOf st2) (pendingOf st2) g (failedOf st2))=κ:=g3.k.trans hk;refine zS (aW (aO eb) ?_);refine wpS_bind (d8 O kk (seg:=a.toList.drop i) (List.take_of_length_le (by simp)).symm (by lia) (λz hz=>P.Ma _ (List.mem_of_mem_drop hz)) (dI P.ua _) Mxb (by lia) λk1 hk1 d1 d2=>?_);dsimp only;have d1':∀z∈(a.toList.drop i).take k1,le lt z xb:=λz hz=>by
     have h6:=d1 z hz;unfold bey at h6;rw[if_neg (by simp)] at h6;unfold le;simpa using h6
    have d2':∀z∈a.toList.drop (i+k1),le lt xb z:=λz hz=>by
     have h6:=d2 z (by rw[List.drop_drop];exact hz);unfold bey at h6;rw[if_neg (by simp)] at h6;exact O.or.of Mxb (P.Ma _ (List.mem_of_mem_drop hz)) (by simpa using h6)
    by_cases c0:k1 > 0
    ·rw[yB c0];have m3:MI lt a.toList b.toList (out++a.extract i (i+k1)).toList (i+k1) j:=by
      rw[app_list];refine m.A P.ua (by simp;lia) λz hz x hx=>?_
      exact O.or.tr (P.Ma _ (oQ (oP hz))) Mxb (P.Mb _ (oQ hx)) (d1' z hz) (hbz x hx)
     by_cases c6:(i+k1+1==a.size)=true
     ·rw[yB c6];exact yA ⟨g3,_,_,_,_,_,_,_,rfl,.inl ⟨_,rfl,dg P m3 (gX c6)⟩⟩
     rw[yT c6];by_cases c7:(i+k1==a.size)=true
     ·rw[yB c7];exact yA ⟨g3,_,_,_,_,_,_,_,rfl,.inl ⟨_,rfl,cZ P m3 (.inr (gX c7))⟩⟩
     rw[yT c7];have q4:i+k1+1<a.size:=by
      have z1:¬ i+k1+1=a.size:=λe=>c6 (by rw[<- e];simp)
      have z2:¬ i+k1=a.size:=λe=>c7 (by rw[<- e];simp)
      lia
     have f3:=d2';refine zS (aW (aO eb) ?_);have m4:MI lt a.toList b.toList ((out++a.extract i (i+k1)).push xb).toList (i+k1) (j+1):=by
      rw[cN];exact m3.b1 P.ub eb f3
     by_cases c1:(j+1==b.size)=true
     ·rw[yB c1];exact yA ⟨g3,_,_,_,_,_,_,_,rfl,.inl ⟨_,rfl,cZ P m4 (.inl (gX c1))⟩⟩
     rw[yT c1];have c1:j+1<b.size:=by have:¬ j+1=b.size:=λe=>c1 (by rw[<- e];simp);lia
     obtain⟨xa,ea⟩:=dM (l:=a) (show i+k1<a.size by lia);have Mxa:=P.Ma _ (wE ea);refine zS (aW (aO ea) ?_);refine wpS_bind (d8 O kk (seg:=b.toList.drop (j+1)) (List.take_of_length_le (by simp)).symm (by lia) (λz hz=>P.Mb _ (List.mem_of_mem_drop hz)) (dI P.ub _) Mxa (by lia) λk2 hk2 e1 e2=>?_);dsimp only;by_cases c2:k2 > 0
     ·rw[yB c2];have m6:MI lt a.toList b.toList (((out++a.extract i (i+k1)).push xb)++b.extract (j+1) (j+1+k2)).toList (i+k1) (j+1+k2):=by
       rw[app_list];refine m4.B P.ub (by simp;lia) λz hz x hx=>?_
       have h6:=e1 z hz;unfold bey at h6;rw[yB rfl] at h6;have Mz:=P.Mb _ (oQ (oP hz));exact O.or.tr Mz Mxa (P.Ma _ (oQ hx)) (O.or.of Mz Mxa h6) (iJ O.or P.Ma P.ua ea x hx)
      by_cases c5:(j+1+k2==b.size)=true
      ·rw[yB c5];exact yA ⟨g3,_,_,_,_,_,_,_,rfl,.inl ⟨_,rfl,cZ P m6 (.inl (gX c5))⟩⟩
      rw[yT c5];have q5:j+1+k2<b.size:=by have:¬ j+1+k2=b.size:=λe=>c5 (by rw[<- e];simp);lia
      have m4:=m6;have f4:∀z∈b.toList.drop (j+1+k2),le lt xa z:=λz hz=>by
       have h6:=e2 z (by rw[List.drop_drop];exact hz);unfold bey at h6;rw[yB rfl] at h6;exact h6
      refine zS (aW (aO ea) ?_);have m5:MI lt a.toList b.toList ((((out++a.extract i (i+k1)).push xb)++b.extract (j+1) (j+1+k2)).push xa).toList ((i+k1)+1) (j+1+k2):=by
       rw[cN];exact m4.a1 P.ua ea f4
      by_cases c3:((i+k1)+1+1==a.size)=true
      ·rw[yB c3];exact yA ⟨g3,_,_,_,_,_,_,_,rfl,.inl ⟨_,rfl,dg P m5 (gX c3)⟩⟩
      rw[yT c3];have c3:(i+k1)+1+1<a.size:=by have:¬ (i+k1)+1+1=a.size:=λe=>c3 (by rw[<- e];simp);lia
      by_cases c4:(decide (k1<7) && decide (k2<7))=true
      ·rw[yB c4];exact yA ⟨g3,_,_,_,_,_,_,_,rfl,.inr ⟨rfl,m5,c3,q5,by lia⟩⟩
      ·rw[yT c4];exact yA ⟨g3,_,_,_,_,_,_,rfl,m5,c3,q5,by lia⟩
     ·rw[yT c2];have q5:j+1<b.size:=c1;have f4:∀z∈b.toList.drop (j+1),le lt xa z:=λz hz=>by
       have h6:=e2 z (by rw[show k2=0 by lia];exact hz);unfold bey at h6;rw[yB rfl] at h6;exact h6
      refine zS (aW (aO ea) ?_);have m5:MI lt a.toList b.toList (((out++a.extract i (i+k1)).push xb).push xa).toList ((i+k1)+1) (j+1):=by
       rw[cN];exact m4.a1 P.ua ea f4
      by_cases c3:((i+k1)+1+1==a.size)=true
      ·rw[yB c3];exact yA ⟨g3,_,_,_,_,_,_,_,rfl,.inl ⟨_,rfl,dg P m5 (gX c3)⟩⟩
      rw[yT c3];have c3:(i+k1)+1+1<a.size:=by have:¬ (i+k1)+1+1=a.size:=λe=>c3 (by rw[<- e];simp);lia
      by_cases c4:(decide (k1<7) && decide (k2<7))=true
      ·rw[yB c4];exact yA ⟨g3,_,_,_,_,_,_,_,rfl,.inr ⟨rfl,m5,c3,q5,by lia⟩⟩
      ·rw[yT c4];exact yA ⟨g3,_,_,_,_,_,_,rfl,m5,c3,q5,by lia⟩
    ·rw[yT c0];have m3:=m;have q4:=q1;have f3:∀z∈a.toList.drop i,le lt xb z:=λz hz=>d2' z (by rw[show k1=0 by lia];exact hz)
     refine zS (aW (aO eb) ?_);have m4:MI lt a.toList b.toList (out.push xb).toList (i) (j+1):=by
      rw[cN];exact m3.b1 P.ub eb f3
     by_cases c1:(j+1==b.size)=true
     ·rw[yB c1];exact yA ⟨g3,_,_,_,_,_,_,_,rfl,.inl ⟨_,rfl,cZ P m4 (.inl (gX c1))⟩⟩
     rw[yT c1];have c1:j+1<b.size:=by have:¬ j+1=b.size:=λe=>c1 (by rw[<- e];simp);lia
     obtain⟨xa,ea⟩:=dM (l:=a) (show i<a.size by lia);have Mxa:=P.Ma _ (wE ea);refine zS (aW (aO ea) ?_);refine wpS_bind (d8 O kk (seg:=b.toList.drop (j+1)) (List.take_of_length_le (by simp)).symm (by lia) (λz hz=>P.Mb _ (List.mem_of_mem_drop hz)) (dI P.ub _) Mxa (by lia) λk2 hk2 e1 e2=>?_);dsimp only;by_cases c2:k2 > 0
     ·rw[yB c2];have m6:MI lt a.toList b.toList ((out.push xb)++b.extract (j+1) (j+1+k2)).toList (i) (j+1+k2):=by
       rw[app_list];refine m4.B P.ub (by simp;lia) λz hz x hx=>?_
       have h6:=e1 z hz;unfold bey at h6;rw[yB rfl] at h6;have Mz:=P.Mb _ (oQ (oP hz));exact O.or.tr Mz Mxa (P.Ma _ (oQ hx)) (O.or.of Mz Mxa h6) (iJ O.or P.Ma P.ua ea x hx)
      by_cases c5:(j+1+k2==b.size)=true
      ·rw[yB c5];exact yA ⟨g3,_,_,_,_,_,_,_,rfl,.inl ⟨_,rfl,cZ P m6 (.inl (gX c5))⟩⟩
      rw[yT c5];have q5:j+1+k2<b.size:=by have:¬ j+1+k2=b.size:=λe=>c5 (by rw[<- e];simp);lia
      have m4:=m6;have f4:∀z∈b.toList.drop (j+1+k2),le lt xa z:=λz hz=>by
       have h6:=e2 z (by rw[List.drop_drop];exact hz);unfold bey at h6;rw[yB rfl] at h6;exact h6
      refine zS (aW (aO ea) ?_);have m5:MI lt a.toList b.toList (((out.push xb)++b.extract (j+1) (j+1+k2)).push xa).toList ((i)+1) (j+1+k2):=by
       rw[cN];exact m4.a1 P.ua ea f4
      by_cases c3:((i)+1+1==a.size)=true
      ·rw[yB c3];exact yA ⟨g3,_,_,_,_,_,_,_,rfl,.inl ⟨_,rfl,dg P m5 (gX c3)⟩⟩
      rw[yT c3];have c3:(i)+1+1<a.size:=by have:¬ (i)+1+1=a.size:=λe=>c3 (by rw[<- e];simp);lia
      by_cases c4:(decide (k1<7) && decide (k2<7))=true
      ·rw[yB c4];exact yA ⟨g3,_,_,_,_,_,_,_,rfl,.inr ⟨rfl,m5,c3,q5,by lia⟩⟩
      ·rw[yT c4];exact yA ⟨g3,_,_,_,_,_,_,rfl,m5,c3,q5,by lia⟩
     ·rw[yT c2];have q5:j+1<b.size:=c1;have f4:∀z∈b.toList.drop (j+1),le lt xa z:=λz hz=>by
       have h6:=e2 z (by rw[show k2=0 by lia];exact hz);unfold bey at h6;rw[yB rfl] at h6;exact h6
      refine zS (aW (aO ea) ?_);have m5:MI lt a.toList b.toList ((out.push xb).push xa).toList ((i)+1) (j+1):=by
       rw[cN];exact m4.a1 P.ua ea f4
      by_cases c3:((i)+1+1==a.size)=true
      ·rw[yB c3];exact yA ⟨g3,_,_,_,_,_,_,_,rfl,.inl ⟨_,rfl,dg P m5 (gX c3)⟩⟩
      rw[yT c3];have c3:(i)+1+1<a.size:=by have:¬ (i)+1+1=a.size:=λe=>c3 (by rw[<- e];simp);lia
      by_cases c4:(decide (k1<7) && decide (k2<7))=true
      ·rw[yB c4];exact yA ⟨g3,_,_,_,_,_,_,_,rfl,.inr ⟨rfl,m5,c3,q5,by lia⟩⟩
      ·rw[yT c4];exact yA ⟨g3,_,_,_,_,_,_,rfl,m5,c3,q5,by lia⟩
  ·rintro c st2 ⟨g2,out,i,j,g,u,v,rfl,m,q1,q2,q3⟩;exact gS q3 (by lia)
  clear mb;rintro c st2 ⟨g2,r,out,i,j,g,u,v,rfl,hr⟩;dsimp only;rcases hr with⟨z,rfl,gz⟩|⟨rfl,mb⟩
  ·exact yA ⟨g2,_,_,rfl,gz⟩
  dsimp only;refine zS (wpS_modify (yA ⟨g2.set _,_,_,_,_,rfl,mb⟩))
 ·rintro c st' ⟨g1,out,i,j,g,rfl,m,q1,q2,q3⟩;exact gS q3 (by lia)
 ·rintro c st' ⟨g1,r,t,rfl,gd⟩;exact yA (h _ _ g1 gd)
end
end TS
end L2
namespace L2
open PySem PyProof.Rows
namespace TS
def mhi:Array Keyed->Array Keyed->StateT SortSt Sem (Array Keyed):=sortPriv% PySem.Builtin.mergeHi
section
variable{lt:Keyed->Keyed->Bool}{M:Keyed->Prop}{la lb rv:List Keyed}{i j t:Nat}
structure MH(lt:Keyed->Keyed->Bool)(la lb rv:List Keyed)(i j:Nat):Prop where
 il:i<=la.length
 jl:j<=lb.length
 pm:rv.Perm (la.drop i++lb.drop j)
 so:Up lt rv
 ab:∀x,x∈la.take i\/x∈lb.take j->∀y∈rv,le lt x y
theorem MH.sw(m:MH lt la lb rv i j):MH lt lb la rv j i:=⟨m.jl,m.il,m.pm.trans List.perm_append_comm,m.so,λx hx y hy=>m.ab x hx.symm y hy⟩
theorem LK{l:List Keyed}(h1:t<=i)(h2:i<=l.length):(l.take i).drop t++l.drop i=l.drop t:=by
 have:l.drop t=(l.take i++l.drop i).drop t:=by rw[qB]
 rw[this,List.drop_append_of_le_length (by rw[nE];lia)]
theorem gB{l:List Keyed}(h1:t<=i):l.take t=(l.take i).take t:=by rw[List.take_take,Nat.min_eq_left h1]
theorem MH.A(m:MH lt la lb rv i j)(ua:Up lt la)(h1:t<=i)(h:∀y∈lb.take j,∀x∈(la.take i).drop t,le lt y x):MH lt la lb ((la.take i).drop t++rv) t j:=by
 refine⟨oC h1 m.il,m.jl,?_,?_,?_⟩
 ·rw[<- LK h1 m.il,jI];exact List.Perm.append_left _ m.pm
 ·exact zzA.mpr ⟨dI (dJ ua i) t,m.so,λx hx y hy=>m.ab x (.inl (oQ hx)) y hy⟩
 ·intro x hx y hy;rcases wT.mp hy with hy|hy
  ·rcases hx with hx|hx
   ·rw[gB h1] at hx;exact sI (dJ ua i) t x hx y hy
   ·exact h x hx y hy
  ·rcases hx with hx|hx
   ·rw[gB h1] at hx;exact m.ab x (.inl (oP hx)) y hy
   ·exact m.ab x (.inr hx) y hy
theorem MH.B(m:MH lt la lb rv i j)(ub:Up lt lb)(h1:t<=j)(h:∀x∈la.take i,∀y∈(lb.take j).drop t,le lt x y):MH lt la lb ((lb.take j).drop t++rv) i t:=(m.sw.A ub h1 h).sw
theorem Ai{l:List Keyed}{x:Keyed}(h0:1<=i)(h:l[i-1]?=some x):(l.take i).drop (i-1)=[x]:=by
 obtain⟨h1,h2⟩:=qE.mp h;rw[List.drop_eq_getElem_cons (by rw[nE];lia),List.drop_of_length_le (by rw[nE];lia),List.getElem_take,h2]
theorem MH.a1(m:MH lt la lb rv i j)(ua:Up lt la){x:Keyed}(h0:1<=i)(hx:la[i-1]?=some x)(h:∀y∈lb.take j,le lt y x):MH lt la lb (x::rv) (i-1) j:=by
 have e:=Ai h0 hx;have:=m.A (t:=i-1) ua (by lia) (λy hy z hz=>by rw[e] at hz;rw[rV.mp hz];exact h y hy);rw[e] at this;exact this
theorem MH.b1(m:MH lt la lb rv i j)(ub:Up lt lb){y:Keyed}(h0:1<=j)(hy:lb[j-1]?=some y)(h:∀x∈la.take i,le lt x y):MH lt la lb (y::rv) i (j-1):=(m.sw.a1 ub h0 hy h).sw
theorem iK(O:Or M lt){l:List Keyed}(hM:∀x∈l,M x)(h:Up lt l){x:Keyed}(h0:1<=i)(hx:l[i-1]?=some x):∀y∈l.take i,le lt y x:=λy hy=>by
 have e:=Ai h0 hx;have hl:i-1<l.length:=(qE.mp hx).1;have hc:=sI (dJ h i) (i-1);rw[<- qB (i-1) (l.take i),e] at hy;rcases wT.mp hy with hy|hy
 ·exact hc y hy x (by rw[e];exact zC)
 ·rw[rV.mp hy];exact O.rf (hM _ (wE hx))
theorem MH.fin(m:MH lt la lb rv i j){P Q:List Keyed}(hp:P.Perm (la.take i)/\Q.Perm (lb.take j)\/P.Perm (lb.take j)/\Q.Perm (la.take i))(uP:Up lt P)(uQ:Up lt Q)(h:∀x∈P,∀y∈Q,le lt x y):(P++Q++rv).Perm (la++lb)/\Up lt (P++Q++rv):=by
 have hm:∀y,y∈P++Q->y∈la.take i\/y∈lb.take j:=λy hy=>by
  rcases wT.mp hy with hy|hy
  ·rcases hp with⟨h1,_⟩|⟨h1,_⟩
   ·exact .inl (h1.mem_iff.mp hy)
   ·exact .inr (h1.mem_iff.mp hy)
  ·rcases hp with⟨_,h1⟩|⟨_,h1⟩
   ·exact .inr (h1.mem_iff.mp hy)
   ·exact .inl (h1.mem_iff.mp hy)
 constructor
 ·have h1:(P++Q).Perm (la.take i++lb.take j):=by
   rcases hp with⟨h1,h2⟩|⟨h1,h2⟩
   ·exact h1.append h2
   ·exact(h1.append h2).trans List.perm_append_comm
  refine(h1.append m.pm).trans ?_;refine List.Perm.trans (l₂:=(la.take i++la.drop i)++(lb.take j++lb.drop j)) ?_ (by rw[qB,qB]);rw[jI,jI];refine List.Perm.append_left _ ?_;rw[<- jI,<- jI];exact List.Perm.append_right _ List.perm_append_comm
 ·exact zzA.mpr ⟨zzA.mpr ⟨uP,uQ,h⟩,m.so,λx hx y hy=>m.ab x (hm x hx) y hy⟩
end
section
variable{prog:Program}{w:World}{A:Around}{E:xB}{s:Shared}{κ:SortKind}{M:Keyed->Prop}{lt:Keyed->Keyed->Bool}{a b out:xE}{i j:Nat}
theorem nZ{α:Type}(a:Array α)(i:Nat):(a.extract 0 i).toList=a.toList.take i:=by rw[jk];rfl
theorem bU(P:Pre M lt a.toList b.toList)(m:MH lt a.toList b.toList out.toList.reverse i j)(h:i=0\/j=0):Good lt a.toList b.toList (a.extract 0 i++b.extract 0 j++out.reverse):=by
 have e:(a.extract 0 i++b.extract 0 j++out.reverse).toList=a.toList.take i++b.toList.take j++out.toList.reverse:=by rw[mT,mT,nZ,nZ,Array.toList_reverse]
 unfold Good;rw[e];refine m.fin (.inl ⟨List.Perm.refl _,List.Perm.refl _⟩) (dJ P.ua i) (dJ P.ub j) λx hx y hy=>?_
 rcases h with rfl|rfl
 ·cases hx
 ·cases hy
theorem dH(P:Pre M lt a.toList b.toList)(m:MH lt a.toList b.toList out.toList.reverse i j)(h:j=1):Good lt a.toList b.toList (b.extract 0 j++a.extract 0 i++out.reverse):=by
 have e:(b.extract 0 j++a.extract 0 i++out.reverse).toList=b.toList.take j++a.toList.take i++out.toList.reverse:=by rw[mT,mT,nZ,nZ,Array.toList_reverse]
 unfold Good;rw[e];refine m.fin (.inr ⟨List.Perm.refl _,List.Perm.refl _⟩) (dJ P.ub j) (dJ P.ua i) λy hy x hx=>?_
 subst h;refine P.lo y ?_ x (oP hx);cases hb:b.toList with
 | nil=>exact gS hb P.nb
 | cons z r =>
  rw[hb] at hy;rw[show (z::r).take 1=[z] from rfl,rV] at hy;rw[hy]
  rfl
def HB(lt:Keyed->Keyed->Bool)(a b out:xE)(i j n:Nat):Prop:=MH lt a.toList b.toList out.toList.reverse i j/\1<=i/\2<=j/\i+j+n<=a.size+b.size
theorem dB(o:xE)(x:Keyed):(o.push x).toList.reverse=x::o.toList.reverse:=by simp
theorem lC(o:xE)(l:xE)(i k:Nat):(o++(l.extract k i).reverse).toList.reverse=(l.toList.take i).drop k++o.toList.reverse:=by
 rw[mT,List.reverse_append,Array.toList_reverse,List.reverse_reverse,jk,List.drop_take]
theorem Um(O:Ord prog w A κ s M lt){st:SortSt}{Q:Array Keyed->SortSt->Prop}(hk:kindOf st=κ)(P:Pre M lt a.toList b.toList)(h:∀r st',SG st st'->Good lt a.toList b.toList r->Q r st'):wpS (model prog w) A E s (mhi a b) Q st:=by
 have sa:0<a.size:=by have:=List.length_pos_iff.mpr P.na;simpa using this
 have sb:0<b.size:=by have:=List.length_pos_iff.mpr P.nb;simpa using this
 obtain⟨a0,ha0⟩:=dM (l:=a) (show a.size-1<a.size by lia);have m0:MH lt a.toList b.toList (#[a0]:xE).toList.reverse (a.size-1) b.size:=by
  have:MH lt a.toList b.toList [] a.size b.size:=⟨by simp,by simp,by rw[List.drop_of_length_le (by simp),List.drop_of_length_le (by simp)];exact List.Perm.refl _,List.Pairwise.nil,λx hx y hy=>by cases hy⟩;exact this.a1 P.ua sa ha0 (λx hx=>P.hi x (oP hx) a0 (by rw[mS];exact ha0))
 unfold mhi;refine zS (wpS_lift (wpAny_rule ⟨rfl,?_⟩));refine zS (aW (aO ha0) ?_);dsimp only;by_cases h1:(a.size-1==0)=true
 ·rw[yB h1];exact yA (h _ _ SG.rf (bU P m0 (.inl (gX h1))))
 rw[yT h1];have h1:1<=a.size-1:=by have:¬ a.size-1=0:=λe=>h1 (by rw[e];rfl);lia
 by_cases h2:(b.size==1)=true
 ·rw[yB h2];exact yA (h _ _ SG.rf (dH P m0 (gX h2)))
 rw[yT h2];have h2:2<=b.size:=by have:¬ b.size=1:=λe=>h2 (by rw[e];rfl);lia
 refine zS (wpS_get ?_);refine zS (wpS_mono (wpS_forRange (I:=λx c st'=>SG st st'/\∃i j out g,c=(none,i,j,out,g)/\HB lt a b out i j (x+1))
  (Q:=λc st'=>SG st st'/\∃r t,c=(some r,t)/\Good lt a.toList b.toList r) ?_ ?_ ⟨SG.rf,_,_,_,_,rfl,m0,h1,h2,by lia⟩) ?_)
 ·rintro x c st1 _ hx ⟨g1,i,j,out,g,rfl,mb⟩;dsimp only;refine zS (wpS_mono (wpS_forRange (I:=λy c st'=>st1=st'/\∃i j out u v,c=(none,i,j,out,u,v)/\HB lt a b out i j (x+1+y))
   (Q:=λc st'=>st1=st'/\∃r i j out u v,c=(r,i,j,out,u,v)/\((∃z,r=some z/\Good lt a.toList b.toList z)\/(r=none/\HB lt a b out i j (x+2)))) ?_ ?_ ⟨rfl,_,_,_,_,_,rfl,mb⟩) ?_)
  ·clear mb;rintro y c st2 _ hy ⟨rfl,i,j,out,u,v,rfl,m,q1,q2,q3⟩;dsimp only;have il:i<=a.size:=by have:=m.il;simpa using this
   have jl:j<=b.size:=by have:=m.jl;simpa using this
   obtain⟨xa,ea⟩:=dM (l:=a) (show i-1<a.size by lia);obtain⟨xb,eb⟩:=dM (l:=b) (show j-1<b.size by lia);have Mxa:=P.Ma _ (wE ea);have Mxb:=P.Mb _ (wE eb);have kk:kindOf st1=κ:=g1.k.trans hk;refine zS (aW (aO eb) ?_);refine zS (aW (aO ea) ?_);refine zS (Ah O kk Mxb Mxa ?_);dsimp only;cases hl:lt xb xa with
   | true =>
    rw[yB rfl];refine zS (aW (aO ea) ?_);have m2:MH lt a.toList b.toList (out.push xa).toList.reverse (i-1) j:=by
     rw[dB];exact m.a1 P.ua q1 ea λz hz=>O.or.tr (P.Mb _ (oP hz)) Mxb Mxa (iK O.or P.Mb P.ub (by lia) eb z hz) (O.or.of Mxb Mxa hl)
    by_cases c1:(i-1==0)=true
    ·rw[yB c1];exact yA ⟨rfl,_,_,_,_,_,_,rfl,.inl ⟨_,rfl,bU P m2 (.inl (gX c1))⟩⟩
    rw[yT c1];have c1:1<=i-1:=by have:¬ i-1=0:=λe=>c1 (by rw[e];rfl);lia
    by_cases c2:u+1 ≥ g
    ·rw[yB c2];exact yA ⟨rfl,_,_,_,_,_,_,rfl,.inr ⟨rfl,m2,c1,q2,by lia⟩⟩
    ·rw[yT c2];exact yA ⟨rfl,_,_,_,_,_,rfl,m2,c1,q2,by lia⟩
   | false =>
    rw[if_neg (by simp)];refine zS (aW (aO eb) ?_);have m2:MH lt a.toList b.toList (out.push xb).toList.reverse i (j-1):=by
     rw[dB];exact m.b1 P.ub (by lia) eb λz hz=>O.or.tr (P.Ma _ (oP hz)) Mxa Mxb (iK O.or P.Ma P.ua q1 ea z hz) hl
    by_cases c1:(j-1==1)=true
    ·rw[yB c1];exact yA ⟨rfl,_,_,_,_,_,_,rfl,.inl ⟨_,rfl,dH P m2 (gX c1)⟩⟩
    rw[yT c1];have c1:2<=j-1:=by have:¬ j-1=1:=λe=>c1 (by rw[e];rfl);lia
    by_cases c2:v+1 ≥ g
    ·rw[yB c2];exact yA ⟨rfl,_,_,_,_,_,_,rfl,.inr ⟨rfl,m2,q1,c1,by lia⟩⟩
    ·rw[yT c2];exact yA ⟨rfl,_,_,_,_,_,rfl,m2,q1,c1,by lia⟩
  ·rintro c st2 ⟨rfl,i,j,out,u,v,rfl,m,q1,q2,q3⟩;exact gS q3 (by lia)
  clear mb;rintro c st2 ⟨rfl,r,i,j,out,u,v,rfl,hr⟩;dsimp only;rcases hr with⟨z,rfl,gz⟩|⟨rfl,mb⟩
  ·exact yA ⟨g1,_,_,rfl,gz⟩
  dsimp only;refine zS (wpS_lift (wpAny_rule ⟨rfl,?_⟩));refine zS (wpS_mono (wpS_forRange (I:=λy c st'=>SG st st'/\∃i j out g u v,c=(none,i,j,out,g,u,v)/\HB lt a b out i j (x+2+y))
   (Q:=λc st'=>SG st st'/\∃r i j out g u v,c=(r,i,j,out,g,u,v)/\((∃z,r=some z/\Good lt a.toList b.toList z)\/(r=none/\HB lt a b out i j (x+2)))) ?_ ?_ ⟨g1,_,_,_,_,_,_,rfl,mb⟩) ?_)
  ·clear mb;rintro y c st2 _ hy ⟨g2,i,j,out,g,u,v,rfl,m,q1,q2,q3⟩;dsimp only;have il:i<=a.size:=by have:=m.il;simpa using this
   have jl:j<=b.size:=by have:=m.jl;simpa using this
   obtain⟨xb,eb⟩:=dM (l:=b) (show j-1<b.size by lia);have Mxb:=P.Mb _ (wE eb);have hbz:=iK O.or P.Mb P.ub (by lia) eb;by_cases cg:g > 1
   ·rw[yB cg];refine zS (wpS_modify ?_);have g3:=g2.set (g-1);have kk:kindOf (SortSt.mk' (kindOf st2) (arrOf st2) (pendingOf st2) (g-1) (failedOf st2))=κ:=g3.k.trans hk;refine zS (aW (aO eb) ?_);refine zS (d8 O kk (seg:=a.toList.take i) rfl (by lia) (λz hz=>P.Ma _ (oP hz)) (dJ P.ua _) Mxb (by lia) λk1 hk1 d1 d2=>?_);dsimp only;have d1':∀z∈a.toList.take k1,le lt z xb:=λz hz=>by
     have h6:=d1 z (by rw[<- gB hk1];exact hz);unfold bey at h6;rw[if_neg (by simp)] at h6;unfold le;simpa using h6
    have d2':∀z∈(a.toList.take i).drop k1,le lt xb z:=λz hz=>by
     have h6:=d2 z hz;unfold bey at h6;rw[if_neg (by simp)] at h6;exact O.or.of Mxb (P.Ma _ (List.mem_of_mem_take (List.mem_of_mem_drop hz))) (by simpa using h6)
    by_cases c0:i-k1 > 0
    ·rw[yB c0];have m3:MH lt a.toList b.toList (out++(a.extract k1 i).reverse).toList.reverse k1 j:=by
      rw[lC];refine m.A P.ua hk1 λx hx z hz=>?_
      exact O.or.tr (P.Mb _ (oP hx)) Mxb (P.Ma _ (oP (oQ hz))) (hbz x hx) (d2' z hz)
     by_cases c6:(k1==0)=true
     ·rw[yB c6];exact yA ⟨g3,_,_,_,_,_,_,_,rfl,.inl ⟨_,rfl,bU P m3 (.inl (gX c6))⟩⟩
     rw[yT c6];have q4:1<=k1:=by
      have z1:¬ k1=0:=λe=>c6 (by rw[e];rfl)
      lia
     have f3:=d1';refine zS (aW (aO eb) ?_);have m4:MH lt a.toList b.toList ((out++(a.extract k1 i).reverse).push xb).toList.reverse (k1) (j-1):=by
      rw[dB];exact m3.b1 P.ub (by lia) eb f3
     by_cases c1:(j-1==1)=true
     ·rw[yB c1];exact yA ⟨g3,_,_,_,_,_,_,_,rfl,.inl ⟨_,rfl,dH P m4 (gX c1)⟩⟩
     rw[yT c1];have c1:2<=j-1:=by have:¬ j-1=1:=λe=>c1 (by rw[e];rfl);lia
     obtain⟨xa,ea⟩:=dM (l:=a) (show k1-1<a.size by lia);have Mxa:=P.Ma _ (wE ea);refine zS (aW (aO ea) ?_);refine zS (d8 O kk (seg:=b.toList.take (j-1)) rfl (by lia) (λz hz=>P.Mb _ (oP hz)) (dJ P.ub _) Mxa (by lia) λk2 hk2 e1 e2=>?_);dsimp only;have e1':∀z∈b.toList.take k2,le lt z xa:=λz hz=>by
      have h6:=e1 z (by rw[<- gB hk2];exact hz);unfold bey at h6;rw[yB rfl] at h6;exact O.or.of (P.Mb _ (oP hz)) Mxa h6
     by_cases c2:j-1-k2 > 0
     ·rw[yB c2];have m6:MH lt a.toList b.toList (((out++(a.extract k1 i).reverse).push xb)++(b.extract k2 (j-1)).reverse).toList.reverse (k1) k2:=by
       rw[lC];refine m4.B P.ub hk2 λx hx z hz=>?_
       have h6:=e2 z hz;unfold bey at h6;rw[yB rfl] at h6;have Mz:=P.Mb _ (oP (oQ hz));exact O.or.tr (P.Ma _ (oP hx)) Mxa Mz (iK O.or P.Ma P.ua (by lia) ea x hx) h6
      by_cases c5:(k2==1)=true
      ·rw[yB c5];exact yA ⟨g3,_,_,_,_,_,_,_,rfl,.inl ⟨_,rfl,dH P m6 (gX c5)⟩⟩
      rw[yT c5];by_cases c8:(k2==0)=true
      ·rw[yB c8];exact yA ⟨g3,_,_,_,_,_,_,_,rfl,.inl ⟨_,rfl,bU P m6 (.inr (gX c8))⟩⟩
      rw[yT c8];have q5:2<=k2:=by
       have z1:¬ k2=1:=λe=>c5 (by rw[e];rfl)
       have z2:¬ k2=0:=λe=>c8 (by rw[e];rfl)
       lia
      have m4:=m6;have f4:∀z∈b.toList.take k2,le lt z xa:=e1';refine zS (aW (aO ea) ?_);have m5:MH lt a.toList b.toList ((((out++(a.extract k1 i).reverse).push xb)++(b.extract k2 (j-1)).reverse).push xa).toList.reverse ((k1)-1) k2:=by
       rw[dB];exact m4.a1 P.ua (by lia) ea f4
      by_cases c3:((k1)-1==0)=true
      ·rw[yB c3];exact yA ⟨g3,_,_,_,_,_,_,_,rfl,.inl ⟨_,rfl,bU P m5 (.inl (gX c3))⟩⟩
      rw[yT c3];have c3:1<=(k1)-1:=by have:¬ (k1)-1=0:=λe=>c3 (by rw[e];rfl);lia
      by_cases c4:(decide (i-k1<7) && decide (j-1-k2<7))=true
      ·rw[yB c4];exact yA ⟨g3,_,_,_,_,_,_,_,rfl,.inr ⟨rfl,m5,c3,q5,by lia⟩⟩
      ·rw[yT c4];exact yA ⟨g3,_,_,_,_,_,_,rfl,m5,c3,q5,by lia⟩
     ·rw[yT c2];have q5:2<=j-1:=c1;have f4:∀z∈b.toList.take (j-1),le lt z xa:=λz hz=>e1' z (by rw[show k2=j-1 by lia];exact hz)
      refine zS (aW (aO ea) ?_);have m5:MH lt a.toList b.toList (((out++(a.extract k1 i).reverse).push xb).push xa).toList.reverse ((k1)-1) (j-1):=by
       rw[dB];exact m4.a1 P.ua (by lia) ea f4
      by_cases c3:((k1)-1==0)=true
      ·rw[yB c3];exact yA ⟨g3,_,_,_,_,_,_,_,rfl,.inl ⟨_,rfl,bU P m5 (.inl (gX c3))⟩⟩
      rw[yT c3];have c3:1<=(k1)-1:=by have:¬ (k1)-1=0:=λe=>c3 (by rw[e];rfl);lia
      by_cases c4:(decide (i-k1<7) && decide (j-1-k2<7))=true
      ·rw[yB c4];exact yA ⟨g3,_,_,_,_,_,_,_,rfl,.inr ⟨rfl,m5,c3,q5,by lia⟩⟩
      ·rw[yT c4];exact yA ⟨g3,_,_,_,_,_,_,rfl,m5,c3,q5,by lia⟩
    ·rw[yT c0];have m3:=m;have q4:=q1;have f3:∀z∈a.toList.take i,le lt z xb:=λz hz=>d1' z (by rw[show k1=i by lia];exact hz)
     refine zS (aW (aO eb) ?_);have m4:MH lt a.toList b.toList (out.push xb).toList.reverse (i) (j-1):=by
      rw[dB];exact m3.b1 P.ub (by lia) eb f3
     by_cases c1:(j-1==1)=true
     ·rw[yB c1];exact yA ⟨g3,_,_,_,_,_,_,_,rfl,.inl ⟨_,rfl,dH P m4 (gX c1)⟩⟩
     rw[yT c1];have c1:2<=j-1:=by have:¬ j-1=1:=λe=>c1 (by rw[e];rfl);lia
     obtain⟨xa,ea⟩:=dM (l:=a) (show i-1<a.size by lia);have Mxa:=P.Ma _ (wE ea);refine zS (aW (aO ea) ?_);refine zS (d8 O kk (seg:=b.toList.take (j-1)) rfl (by lia) (λz hz=>P.Mb _ (oP hz)) (dJ P.ub _) Mxa (by lia) λk2 hk2 e1 e2=>?_);dsimp only;have e1':∀z∈b.toList.take k2,le lt z xa:=λz hz=>by
      have h6:=e1 z (by rw[<- gB hk2];exact hz);unfold bey at h6;rw[yB rfl] at h6;exact O.or.of (P.Mb _ (oP hz)) Mxa h6
     by_cases c2:j-1-k2 > 0
     ·rw[yB c2];have m6:MH lt a.toList b.toList ((out.push xb)++(b.extract k2 (j-1)).reverse).toList.reverse (i) k2:=by
       rw[lC];refine m4.B P.ub hk2 λx hx z hz=>?_
       have h6:=e2 z hz;unfold bey at h6;rw[yB rfl] at h6;have Mz:=P.Mb _ (oP (oQ hz));exact O.or.tr (P.Ma _ (oP hx)) Mxa Mz (iK O.or P.Ma P.ua (by lia) ea x hx) h6
      by_cases c5:(k2==1)=true
      ·rw[yB c5];exact yA ⟨g3,_,_,_,_,_,_,_,rfl,.inl ⟨_,rfl,dH P m6 (gX c5)⟩⟩
      rw[yT c5];by_cases c8:(k2==0)=true
      ·rw[yB c8];exact yA ⟨g3,_,_,_,_,_,_,_,rfl,.inl ⟨_,rfl,bU P m6 (.inr (gX c8))⟩⟩
      rw[yT c8];have q5:2<=k2:=by
       have z1:¬ k2=1:=λe=>c5 (by rw[e];rfl)
       have z2:¬ k2=0:=λe=>c8 (by rw[e];rfl)
       lia
      have m4:=m6;have f4:∀z∈b.toList.take k2,le lt z xa:=e1';refine zS (aW (aO ea) ?_);have m5:MH lt a.toList b.toList (((out.push xb)++(b.extract k2 (j-1)).reverse).push xa).toList.reverse ((i)-1) k2:=by
       rw[dB];exact m4.a1 P.ua (by lia) ea f4
      by_cases c3:((i)-1==0)=true
      ·rw[yB c3];exact yA ⟨g3,_,_,_,_,_,_,_,rfl,.inl ⟨_,rfl,bU P m5 (.inl (gX c3))⟩⟩
      rw[yT c3];have c3:1<=(i)-1:=by have:¬ (i)-1=0:=λe=>c3 (by rw[e];rfl);lia
      by_cases c4:(decide (i-k1<7) && decide (j-1-k2<7))=true
      ·rw[yB c4];exact yA ⟨g3,_,_,_,_,_,_,_,rfl,.inr ⟨rfl,m5,c3,q5,by lia⟩⟩
      ·rw[yT c4];exact yA ⟨g3,_,_,_,_,_,_,rfl,m5,c3,q5,by lia⟩
     ·rw[yT c2];have q5:2<=j-1:=c1;have f4:∀z∈b.toList.take (j-1),le lt z xa:=λz hz=>e1' z (by rw[show k2=j-1 by lia];exact hz)
      refine zS (aW (aO ea) ?_);have m5:MH lt a.toList b.toList ((out.push xb).push xa).toList.reverse ((i)-1) (j-1):=by
       rw[dB];exact m4.a1 P.ua (by lia) ea f4
      by_cases c3:((i)-1==0)=true
      ·rw[yB c3];exact yA ⟨g3,_,_,_,_,_,_,_,rfl,.inl ⟨_,rfl,bU P m5 (.inl (gX c3))⟩⟩
      rw[yT c3];have c3:1<=(i)-1:=by have:¬ (i)-1=0:=λe=>c3 (by rw[e];rfl);lia
      by_cases c4:(decide (i-k1<7) && decide (j-1-k2<7))=true
      ·rw[yB c4];exact yA ⟨g3,_,_,_,_,_,_,_,rfl,.inr ⟨rfl,m5,c3,q5,by lia⟩⟩
      ·rw[yT c4];exact yA ⟨g3,_,_,_,_,_,_,rfl,m5,c3,q5,by lia⟩
   ·rw[yT cg];refine zS (wpS_modify ?_);have g3:=g2.set g;have kk:kindOf (SortSt.mk' (kindOf st2) (arrOf st2) (pendingOf st2) g (failedOf st2))=κ:=g3.k.trans hk;refine zS (aW (aO eb) ?_);refine zS (d8 O kk (seg:=a.toList.take i) rfl (by lia) (λz hz=>P.Ma _ (oP hz)) (dJ P.ua _) Mxb (by lia) λk1 hk1 d1 d2=>?_);dsimp only;have d1':∀z∈a.toList.take k1,le lt z xb:=λz hz=>by
     have h6:=d1 z (by rw[<- gB hk1];exact hz);unfold bey at h6;rw[if_neg (by simp)] at h6;unfold le;simpa using h6
    have d2':∀z∈(a.toList.take i).drop k1,le lt xb z:=λz hz=>by
     have h6:=d2 z hz;unfold bey at h6;rw[if_neg (by simp)] at h6;exact O.or.of Mxb (P.Ma _ (List.mem_of_mem_take (List.mem_of_mem_drop hz))) (by simpa using h6)
    by_cases c0:i-k1 > 0
    ·rw[yB c0];have m3:MH lt a.toList b.toList (out++(a.extract k1 i).reverse).toList.reverse k1 j:=by
      rw[lC];refine m.A P.ua hk1 λx hx z hz=>?_
      exact O.or.tr (P.Mb _ (oP hx)) Mxb (P.Ma _ (oP (oQ hz))) (hbz x hx) (d2' z hz)
     by_cases c6:(k1==0)=true
     ·rw[yB c6];exact yA ⟨g3,_,_,_,_,_,_,_,rfl,.inl ⟨_,rfl,bU P m3 (.inl (gX c6))⟩⟩
     rw[yT c6];have q4:1<=k1:=by
      have z1:¬ k1=0:=λe=>c6 (by rw[e];rfl)
      lia
     have f3:=d1';refine zS (aW (aO eb) ?_);have m4:MH lt a.toList b.toList ((out++(a.extract k1 i).reverse).push xb).toList.reverse (k1) (j-1):=by
      rw[dB];exact m3.b1 P.ub (by lia) eb f3
     by_cases c1:(j-1==1)=true
     ·rw[yB c1];exact yA ⟨g3,_,_,_,_,_,_,_,rfl,.inl ⟨_,rfl,dH P m4 (gX c1)⟩⟩
     rw[yT c1];have c1:2<=j-1:=by have:¬ j-1=1:=λe=>c1 (by rw[e];rfl);lia
     obtain⟨xa,ea⟩:=dM (l:=a) (show k1-1<a.size by lia);have Mxa:=P.Ma _ (wE ea);refine zS (aW (aO ea) ?_);refine zS (d8 O kk (seg:=b.toList.take (j-1)) rfl (by lia) (λz hz=>P.Mb _ (oP hz)) (dJ P.ub _) Mxa (by lia) λk2 hk2 e1 e2=>?_);dsimp only;have e1':∀z∈b.toList.take k2,le lt z xa:=λz hz=>by
      have h6:=e1 z (by rw[<- gB hk2];exact hz);unfold bey at h6;rw[yB rfl] at h6;exact O.or.of (P.Mb _ (oP hz)) Mxa h6
     by_cases c2:j-1-k2 > 0
     ·rw[yB c2];have m6:MH lt a.toList b.toList (((out++(a.extract k1 i).reverse).push xb)++(b.extract k2 (j-1)).reverse).toList.reverse (k1) k2:=by
       rw[lC];refine m4.B P.ub hk2 λx hx z hz=>?_
       have h6:=e2 z hz;unfold bey at h6;rw[yB rfl] at h6;have Mz:=P.Mb _ (oP (oQ hz));exact O.or.tr (P.Ma _ (oP hx)) Mxa Mz (iK O.or P.Ma P.ua (by lia) ea x hx) h6
      by_cases c5:(k2==1)=true
      ·rw[yB c5];exact yA ⟨g3,_,_,_,_,_,_,_,rfl,.inl ⟨_,rfl,dH P m6 (gX c5)⟩⟩
      rw[yT c5];by_cases c8:(k2==0)=true
      ·rw[yB c8];exact yA ⟨g3,_,_,_,_,_,_,_,rfl,.inl ⟨_,rfl,bU P m6 (.inr (gX c8))⟩⟩
      rw[yT c8];have q5:2<=k2:=by
       have z1:¬ k2=1:=λe=>c5 (by rw[e];rfl)
       have z2:¬ k2=0:=λe=>c8 (by rw[e];rfl)
       lia
      have m4:=m6;have f4:∀z∈b.toList.take k2,le lt z xa:=e1';refine zS (aW (aO ea) ?_);have m5:MH lt a.toList b.toList ((((out++(a.extract k1 i).reverse).push xb)++(b.extract k2 (j-1)).reverse).push xa).toList.reverse ((k1)-1) k2:=by
       rw[dB];exact m4.a1 P.ua (by lia) ea f4
      by_cases c3:((k1)-1==0)=true
      ·rw[yB c3];exact yA ⟨g3,_,_,_,_,_,_,_,rfl,.inl ⟨_,rfl,bU P m5 (.inl (gX c3))⟩⟩
      rw[yT c3];have c3:1<=(k1)-1:=by have:¬ (k1)-1=0:=λe=>c3 (by rw[e];rfl);lia
      by_cases c4:(decide (i-k1<7) && decide (j-1-k2<7))=true
      ·rw[yB c4];exact yA ⟨g3,_,_,_,_,_,_,_,rfl,.inr ⟨rfl,m5,c3,q5,by lia⟩⟩
      ·rw[yT c4];exact yA ⟨g3,_,_,_,_,_,_,rfl,m5,c3,q5,by lia⟩
     ·rw[yT c2];have q5:2<=j-1:=c1;have f4:∀z∈b.toList.take (j-1),le lt z xa:=λz hz=>e1' z (by rw[show k2=j-1 by lia];exact hz)
      refine zS (aW (aO ea) ?_);have m5:MH lt a.toList b.toList (((out++(a.extract k1 i).reverse).push xb).push xa).toList.reverse ((k1)-1) (j-1):=by
       rw[dB];exact m4.a1 P.ua (by lia) ea f4
      by_cases c3:((k1)-1==0)=true
      ·rw[yB c3];exact yA ⟨g3,_,_,_,_,_,_,_,rfl,.inl ⟨_,rfl,bU P m5 (.inl (gX c3))⟩⟩
      rw[yT c3];have c3:1<=(k1)-1:=by have:¬ (k1)-1=0:=λe=>c3 (by rw[e];rfl);lia
      by_cases c4:(decide (i-k1<7) && decide (j-1-k2<7))=true
      ·rw[yB c4];exact yA ⟨g3,_,_,_,_,_,_,_,rfl,.inr ⟨rfl,m5,c3,q5,by lia⟩⟩
      ·rw[yT c4];exact yA ⟨g3,_,_,_,_,_,_,rfl,m5,c3,q5,by lia⟩
    ·rw[yT c0];have m3:=m;have q4:=q1;have f3:∀z∈a.toList.take i,le lt z xb:=λz hz=>d1' z (by rw[show k1=i by lia];exact hz)
     refine zS (aW (aO eb) ?_);have m4:MH lt a.toList b.toList (out.push xb).toList.reverse (i) (j-1):=by
      rw[dB];exact m3.b1 P.ub (by lia) eb f3
     by_cases c1:(j-1==1)=true
     ·rw[yB c1];exact yA ⟨g3,_,_,_,_,_,_,_,rfl,.inl ⟨_,rfl,dH P m4 (gX c1)⟩⟩
     rw[yT c1];have c1:2<=j-1:=by have:¬ j-1=1:=λe=>c1 (by rw[e];rfl);lia
     obtain⟨xa,ea⟩:=dM (l:=a) (show i-1<a.size by lia);have Mxa:=P.Ma _ (wE ea);refine zS (aW (aO ea) ?_);refine zS (d8 O kk (seg:=b.toList.take (j-1)) rfl (by lia) (λz hz=>P.Mb _ (oP hz)) (dJ P.ub _) Mxa (by lia) λk2 hk2 e1 e2=>?_);dsimp only;have e1':∀z∈b.toList.take k2,le lt z xa:=λz hz=>by
      have h6:=e1 z (by rw[<- gB hk2];exact hz);unfold bey at h6;rw[yB rfl] at h6;exact O.or.of (P.Mb _ (oP hz)) Mxa h6
     by_cases c2:j-1-k2 > 0
     ·rw[yB c2];have m6:MH lt a.toList b.toList ((out.push xb)++(b.extract k2 (j-1)).reverse).toList.reverse (i) k2:=by
       rw[lC];refine m4.B P.ub hk2 λx hx z hz=>?_
       have h6:=e2 z hz;unfold bey at h6;rw[yB rfl] at h6;have Mz:=P.Mb _ (oP (oQ hz));exact O.or.tr (P.Ma _ (oP hx)) Mxa Mz (iK O.or P.Ma P.ua (by lia) ea x hx) h6
      by_cases c5:(k2==1)=true
      ·rw[yB c5];exact yA ⟨g3,_,_,_,_,_,_,_,rfl,.inl ⟨_,rfl,dH P m6 (gX c5)⟩⟩
      rw[yT c5];by_cases c8:(k2==0)=true
      ·rw[yB c8];exact yA ⟨g3,_,_,_,_,_,_,_,rfl,.inl ⟨_,rfl,bU P m6 (.inr (gX c8))⟩⟩
      rw[yT c8];have q5:2<=k2:=by
       have z1:¬ k2=1:=λe=>c5 (by rw[e];rfl)
       have z2:¬ k2=0:=λe=>c8 (by rw[e];rfl)
       lia
      have m4:=m6;have f4:∀z∈b.toList.take k2,le lt z xa:=e1';refine zS (aW (aO ea) ?_);have m5:MH lt a.toList b.toList (((out.push xb)++(b.extract k2 (j-1)).reverse).push xa).toList.reverse ((i)-1) k2:=by
       rw[dB];exact m4.a1 P.ua (by lia) ea f4
      by_cases c3:((i)-1==0)=true
      ·rw[yB c3];exact yA ⟨g3,_,_,_,_,_,_,_,rfl,.inl ⟨_,rfl,bU P m5 (.inl (gX c3))⟩⟩
      rw[yT c3];have c3:1<=(i)-1:=by have:¬ (i)-1=0:=λe=>c3 (by rw[e];rfl);lia
      by_cases c4:(decide (i-k1<7) && decide (j-1-k2<7))=true
      ·rw[yB c4];exact yA ⟨g3,_,_,_,_,_,_,_,rfl,.inr ⟨rfl,m5,c3,q5,by lia⟩⟩
      ·rw[yT c4];exact yA ⟨g3,_,_,_,_,_,_,rfl,m5,c3,q5,by lia⟩
     ·rw[yT c2];have q5:2<=j-1:=c1;have f4:∀z∈b.toList.take (j-1),le lt z xa:=λz hz=>e1' z (by rw[show k2=j-1 by lia];exact hz)
      refine zS (aW (aO ea) ?_);have m5:MH lt a.toList b.toList ((out.push xb).push xa).toList.reverse ((i)-1) (j-1):=by
       rw[dB];exact m4.a1 P.ua (by lia) ea f4
      by_cases c3:((i)-1==0)=true
      ·rw[yB c3];exact yA ⟨g3,_,_,_,_,_,_,_,rfl,.inl ⟨_,rfl,bU P m5 (.inl (gX c3))⟩⟩
      rw[yT c3];have c3:1<=(i)-1:=by have:¬ (i)-1=0:=λe=>c3 (by rw[e];rfl);lia
      by_cases c4:(decide (i-k1<7) && decide (j-1-k2<7))=true
      ·rw[yB c4];exact yA ⟨g3,_,_,_,_,_,_,_,rfl,.inr ⟨rfl,m5,c3,q5,by lia⟩⟩
      ·rw[yT c4];exact yA ⟨g3,_,_,_,_,_,_,rfl,m5,c3,q5,by lia⟩
  ·rintro c st2 ⟨g2,i,j,out,g,u,v,rfl,m,q1,q2,q3⟩;exact gS q3 (by lia)
  clear mb;rintro c st2 ⟨g2,r,i,j,out,g,u,v,rfl,hr⟩;dsimp only;rcases hr with⟨z,rfl,gz⟩|⟨rfl,mb⟩
  ·exact yA ⟨g2,_,_,rfl,gz⟩
  dsimp only;refine zS (wpS_modify (yA ⟨g2.set _,_,_,_,_,rfl,mb⟩))
 ·rintro c st' ⟨g1,i,j,out,g,rfl,m,q1,q2,q3⟩;exact gS q3 (by lia)
 ·rintro c st' ⟨g1,r,t,rfl,gd⟩;exact yA (h _ _ g1 gd)
end
end TS
end L2
namespace L2
open PySem PyProof.Rows
namespace TS
theorem LQ{T D:List Keyed}{x:Keyed}:(T++x::D).take (T.length+1)=T++[x]:=by
 rw[List.take_append,mE (by lia),show T.length+1-T.length=1 by lia]
 rfl
theorem LR{T D:List Keyed}{x:Keyed}{n:Nat}:(T++x::D).drop (T.length+1+n)=D.drop n:=by
 rw[List.drop_append,List.drop_of_length_le (by lia),show T.length+1+n-T.length=n+1 by lia,List.drop_succ_cons,List.nil_append]
theorem Aj{base:Nat}{f:Array Keyed->Keyed×Nat->Array Keyed}(hf:∀a p j,f a (p,j)=a.setIfInBounds (base+j) p):∀(m:List Keyed)(n:Nat)(arr:xE),base+n+m.length<=arr.size->((m.zipIdx n).foldl f arr).toList=arr.toList.take (base+n)++m++arr.toList.drop (base+n+m.length)
 | [],n,arr,h=>by simp
 | x::r,n,arr,h=>by
  rw[zzD] at h;rw[List.zipIdx_cons,List.foldl_cons,hf,Aj hf r (n+1) _ (by simp;lia)];have e:(arr.setIfInBounds (base+n) x).toList=arr.toList.take (base+n)++x::arr.toList.drop (base+n+1):=by
   rw[Array.toList_setIfInBounds,List.set_eq_take_append_cons_drop,if_pos (by simp;lia)]
  obtain⟨T,hT⟩:∃T,T=arr.toList.take (base+n):=⟨_,rfl⟩;have lt:T.length=base+n:=by rw[hT,nE,mS];lia
  rw[e,zzD,<- hT,show base+(n+1)=T.length+1 by lia,LQ,LR,List.drop_drop,show base+n+1+r.length=base+n+(r.length+1) by lia];simp
def mat:Nat->StateT SortSt Sem Bool:=sortPriv% PySem.Builtin.mergeAt
section
variable{prog:Program}{w:World}{A:Around}{E:xB}{s:Shared}{κ:SortKind}{M:Keyed->Prop}{lt:Keyed->Keyed->Bool}
theorem L_{σ:Type}{Mo:Model}{x:σ}{Q:PUnit->σ->Prop}{st:σ}(h:Q ⟨⟩ x):wpS Mo A E s (set x:StateT σ Sem PUnit) Q st:=by
 unfold wpS;rw[StateT.run_set];exact oB ⟨rfl,h⟩
abbrev seg(l:List Keyed)(i n:Nat):List Keyed:=(l.drop i).take n
variable{l:List Keyed}{sa na nb k:Nat}
theorem n6(h:sa+na<=l.length):(seg l sa na).length=na:=by rw[nE,zzH];lia
theorem Ak:seg l sa na++seg l (sa+na) nb=seg l sa (na+nb):=by
 unfold seg;rw[List.take_add,List.drop_drop]
theorem Gk:l.take sa++seg l sa na++l.drop (sa+na)=l:=by
 unfold seg;rw[jI,show l.drop (sa+na)=(l.drop sa).drop na by rw[List.drop_drop],qB,qB]
theorem Gm{x:Keyed}(h:x∈seg l sa na):x∈l:=oQ (oP h)
theorem Am:(seg l sa na).drop k=seg l (sa+k) (na-k):=by
 unfold seg;rw[List.drop_take,List.drop_drop]
theorem Ao(h:k<=na):(seg l sa na).take k=seg l sa k:=by
 unfold seg;rw[List.take_take,Nat.min_eq_left h]
theorem yG{i:Nat}(h:i<na):(seg l sa na)[i]?=l[sa+i]?:=by
 unfold seg;rw[List.getElem?_take,yB h,List.getElem?_drop]
theorem Uo(O:Ord prog w A κ s M lt){st:SortSt}{i sa na sb nb p q:Nat}{Q:Bool->SortSt->Prop}(hk:kindOf st=κ)(hf:failedOf st=none)(e1:(pendingOf st)[i]?=some (sa,na,p))(e2:(pendingOf st)[i+1]?=some (sb,nb,q))(hsb:sb=sa+na)(hz:sb+nb<=(arrOf st).size)(n1:1<=na)(n2:1<=nb)
  (hM:∀x∈(arrOf st).toList,M x) (u1:Up lt (seg (arrOf st).toList sa na)) (u2:Up lt (seg (arrOf st).toList sb nb))
  (h:∀st' res,kindOf st'=κ->failedOf st'=none->pendingOf st'=((pendingOf st).setIfInBounds i (sa,na+nb,p)).eraseIdxIfInBounds (i+1)->res.Perm (seg (arrOf st).toList sa na++seg (arrOf st).toList sb nb)->Up lt res->(arrOf st').toList=(arrOf st).toList.take sa++res++(arrOf st).toList.drop (sb+nb)->Q true st'):wpS (model prog w) A E s (mat i) Q st:=by
 unfold mat;refine zS (wpS_get ?_);rw[e1,e2];dsimp only;subst hsb;obtain⟨l,hl⟩:∃l,l=(arrOf st).toList:=⟨_,rfl⟩;rw[<- hl] at hM u1 u2 h;have zl:sa+na+nb<=l.length:=by rw[hl,mS];exact hz
 obtain⟨st2,hst2⟩:∃st2:SortSt,st2=setPending st (((pendingOf st).setIfInBounds i (sa,na+nb,p)).eraseIdxIfInBounds (i+1)):=⟨_,rfl⟩;have k2:kindOf st2=κ:=by rw[hst2];exact hk
 have f2:failedOf st2=none:=by rw[hst2];exact hf
 have a2:arrOf st2=arrOf st:=by rw[hst2]
 have p2:pendingOf st2=((pendingOf st).setIfInBounds i (sa,na+nb,p)).eraseIdxIfInBounds (i+1):=by rw[hst2]
 refine zS (L_ ?_);show wpS _ _ _ _ _ _ (setPending st (((pendingOf st).setIfInBounds i (sa,na+nb,p)).eraseIdxIfInBounds (i+1)));rw[<- hst2];have lA:=n6 (l:=l) (sa:=sa) (na:=na) (by lia);have lB:=n6 (l:=l) (sa:=sa+na) (na:=nb) (by lia);obtain⟨SA,hA⟩:∃SA,SA=seg l sa na:=⟨_,rfl⟩;obtain⟨SB,hB⟩:∃SB,SB=seg l (sa+na) nb:=⟨_,rfl⟩;have MA:∀x∈SA,M x:=λx hx=>hM x (Gm (by rw[<- hA];exact hx))
 have MB:∀x∈SB,M x:=λx hx=>hM x (Gm (by rw[<- hB];exact hx))
 have whole:l=l.take sa++(SA++SB)++l.drop (sa+na+nb):=by
  rw[hA,hB,Ak,show sa+na+nb=sa+(na+nb) by lia];exact Gk.symm
 rw[<- hA] at u1 lA;rw[<- hB] at u2 lB;rw[<- hA,<- hB] at h;obtain⟨y0,ey⟩:∃y,SB[0]?=some y:=⟨SB[0]'(by lia),by simp⟩;obtain⟨x9,ex⟩:∃x,SA[na-1]?=some x:=⟨SA[na-1]'(by lia),by simp⟩;have gy:(arrOf st)[sa+na]?=some y0:=aO (by rw[<- hl,<- ey,hB,yG (by lia)];rfl);have gx:(arrOf st)[sa+na-1]?=some x9:=aO (by rw[<- hl,<- ex,hA,yG (by lia)];congr 1;lia);have My:=MB _ (wE ey);have Mx:=MA _ (wE ex);have hy:=iJ O.or MB u2 ey;rw[List.drop_zero] at hy;have hx:=iK (i:=na) O.or MA u1 n1 ex;rw[mE (by lia)] at hx;have plain:(∀x∈SA,∀y∈SB,le lt x y)->Q true st2:=λhc=>h st2 (SA++SB) k2 f2 p2 (List.Perm.refl _) (zzA.mpr ⟨u1,u2,hc⟩) (by rw[a2,<- hl];exact whole)
 have hz1:sa+na<=(arrOf st).size:=by lia
 refine zS (aW gy ?_);refine zS (d8 O k2 (arr:=arrOf st) (seg:=SA) (by rw[hA,hl]) hz1 MA u1 My (by lia) λk hk1 d1 d2=>?_);dsimp only;have d1':∀z∈SA.take k,le lt z y0:=λz hz=>by
  have h6:=d1 z hz;unfold bey at h6;rw[if_neg (by simp)] at h6;unfold le;simpa using h6
 have d2':∀z∈SA.drop k,le lt y0 z:=λz hz=>by
  have h6:=d2 z hz;unfold bey at h6;rw[if_neg (by simp)] at h6;exact O.or.of My (MA _ (List.mem_of_mem_drop hz)) (by simpa using h6)
 by_cases c1:(na-k==0)=true
 ·rw[yB c1];have c1:na-k=0:=gX c1;refine yA (plain λx hx1 y hy1=>O.or.tr (MA x hx1) My (MB y hy1) (d1' x (by rw[mE (by lia)];exact hx1)) (hy y hy1))
 rw[yT c1];have c1:k<na:=by have:¬ na-k=0:=λe=>c1 (by rw[e];rfl);lia
 rw[show sa+k+(na-k)-1=sa+na-1 by lia];refine zS (aW gx ?_);refine zS (d8 O k2 (arr:=arrOf st) (seg:=SB) (by rw[hB,hl]) hz MB u2 Mx (by lia) λm hm1 d3 d4=>?_);dsimp only;have d3':∀z∈SB.take m,le lt z x9:=λz hz=>by
  have h6:=d3 z hz;unfold bey at h6;rw[yB rfl] at h6;exact O.or.of (MB _ (oP hz)) Mx h6
 have d4':∀z∈SB.drop m,le lt x9 z:=λz hz=>by
  have h6:=d4 z hz;unfold bey at h6;rw[yB rfl] at h6;exact h6
 by_cases c2:(m==0)=true
 ·rw[yB c2];have c2:m=0:=gX c2;refine yA (plain λx hx1 y hy1=>O.or.tr (MA x hx1) Mx (MB y hy1) (hx x hx1) (d4' y (by rw[c2];exact hy1)))
 rw[yT c2];have c2:1<=m:=by have:¬ m=0:=λe=>c2 (by rw[e];rfl);lia
 obtain⟨X,hX⟩:∃X,X=(arrOf st).extract (sa+k) (sa+na):=⟨_,rfl⟩;obtain⟨Y,hY⟩:∃Y,Y=(arrOf st).extract (sa+na) (sa+na+m):=⟨_,rfl⟩;have tX:X.toList=SA.drop k:=by rw[hX,jk,<- hl,hA,Am,show sa+na-(sa+k)=na-k by lia]
 have tY:Y.toList=SB.take m:=by rw[hY,jk,<- hl,hB,Ao hm1,show sa+na+m-(sa+na)=m by lia]
 have lX:(SA.drop k).length=na-k:=by rw[zzH,lA]
 have P:Pre M lt X.toList Y.toList:=by
  rw[tX,tY];refine⟨λz hz=>MA z (oQ hz),λz hz=>MB z (oP hz),dI u1 k,dJ u2 m,λe=>?_,λe=>?_,λy hy1 x hx1=>?_,λy hy1 x hx1=>?_⟩
  ·rw[e] at lX;simp at lX
   lia
  ·have:=gN List.length e;rw[nE,lB] at this;simp at this
   lia
  ·rw[List.getElem?_take,yB (by lia),ey] at hy1;cases hy1;exact d2' x hx1
  ·rw[lX,List.getElem?_drop,show k+(na-k-1)=na-1 by lia,ex] at hx1;cases hx1;exact d3' y hy1
 have after:∀(r:xE)(st3:SortSt),SG st2 st3->Good lt X.toList Y.toList r->Q true (setArr st3 (r.toList.zipIdx.foldl (λa x=>match x with|(p,j)=>a.setIfInBounds (sa+k+j) p) (arrOf st3))):=λr st3 g gd=>by
  rw[tX,tY] at gd;have lr:r.toList.length=na-k+m:=by
   rw[gd.1.length_eq,yY,lX,nE,lB,Nat.min_eq_left hm1]
  refine h _ (SA.take k++r.toList++SB.drop m) (g.k.trans k2) (g.f.trans f2) (g.p.trans p2) ?_ ?_ ?_
  ·refine List.Perm.trans (l₂:=SA.take k++(SA.drop k++SB.take m)++SB.drop m) ((gd.1.append_left _).append_right _) ?_;rw[<- jI,qB,jI,qB]
  ·refine zzA.mpr ⟨zzA.mpr ⟨dJ u1 k,gd.2,λx hx1 y hy1=>?_⟩,dI u2 m,λx hx1 y hy1=>?_⟩
   ·rcases wT.mp (gd.1.mem_iff.mp hy1) with hy1|hy1
    ·exact sI u1 k x hx1 y hy1
    ·exact O.or.tr (MA x (oP hx1)) My (MB y (oP hy1)) (d1' x hx1) (hy y (oP hy1))
   ·have My1:=MB y (oQ hy1);rcases wT.mp hx1 with hx1|hx1
    ·exact O.or.tr (MA x (oP hx1)) My My1 (d1' x hx1) (hy y (oQ hy1))
    ·rcases wT.mp (gd.1.mem_iff.mp hx1) with hx1|hx1
     ·exact O.or.tr (MA x (oQ hx1)) Mx My1 (hx x (oQ hx1)) (d4' y hy1)
     ·exact sI u2 m x hx1 y hy1
  ·have e:=Aj (base:=sa+k) (f:=λa (x:Keyed×Nat)=>match x with|(p,j)=>a.setIfInBounds (sa+k+j) p) (λ_ _ _=>rfl) r.toList 0 (arrOf st3) (by rw[g.a,a2,lr];lia)
   refine e.trans ?_;rw[g.a,a2,<- hl,lr,Nat.add_zero,show sa+k+(na-k+m)=sa+na+m by lia];have e1:l.take (sa+k)=l.take sa++SA.take k:=by rw[List.take_add,hA,Ao hk1]
   have e2:l.drop (sa+na+m)=SB.drop m++l.drop (sa+na+nb):=by
    rw[hB,Am,show l.drop (sa+na+nb)=(l.drop (sa+na+m)).drop (nb-m) by rw[List.drop_drop,show sa+na+m+(nb-m)=sa+na+nb by lia]];exact(qB _ _).symm
   rw[e1,e2];simp only[List.append_assoc]
 by_cases c3:na-k<=m
 ·rw[yB c3];refine zS (Ul O k2 (a:=(arrOf st).extract (sa+k) (sa+na)) (b:=(arrOf st).extract (sa+na) (sa+na+m)) (by rw[<- hX,<- hY];exact P) λr st3 g gd=>?_);refine zS (wpS_modify (zS (wpS_get (yA ?_))));have hq:=after r st3 g (by rw[hX,hY];exact gd);have e:(failedOf st3).isNone=true:=by rw[g.f,f2];rfl
  show Q (failedOf st3).isNone _;rw[e];exact hq
 ·rw[yT c3];refine zS (Um O k2 (a:=(arrOf st).extract (sa+k) (sa+na)) (b:=(arrOf st).extract (sa+na) (sa+na+m)) (by rw[<- hX,<- hY];exact P) λr st3 g gd=>?_);refine zS (wpS_modify (zS (wpS_get (yA ?_))));have hq:=after r st3 g (by rw[hX,hY];exact gd);have e:(failedOf st3).isNone=true:=by rw[g.f,f2];rfl
  show Q (failedOf st3).isNone _;rw[e];exact hq
end
end TS
end L2
namespace L2
open PySem PyProof.Rows
namespace TS
def cnt:Nat->Nat->StateT SortSt Sem (Option Nat):=sortPriv% PySem.Builtin.countRun
def bns:Nat->Nat->Nat->StateT SortSt Sem Bool:=sortPriv% PySem.Builtin.binarySort
def X(a:xE)(i:Nat):Keyed:=(a[i]?).getD (Value.none,Value.none)
theorem Uq{a:xE}{i:Nat}(h:i<a.size):a[i]?=some (X a i):=by
 unfold X;rw[getElem?_pos a i h]
 rfl
theorem Mf{a b:xE}{i j:Nat}(h:a[i]?=b[j]?):X a i=X b j:=by unfold X;rw[h]
theorem mq{a:xE}{i j:Nat}(hj:j<=a.size)(k:Nat):X (mirror a i j ((j-i) / 2)) k=if i<=k/\k<j then X a (i+j-1-k) else X a k:=by
 have e:=getElem?_mirror_all (i:=i) hj k;by_cases h1:i<=k/\k<j
 ·rw[yB h1] at e ⊢;exact Mf e
 ·rw[yT h1] at e ⊢;exact Mf e
theorem RW{a:xE}{src d:Nat}(hs:src<a.size)(hd:d<=src)(k:Nat):X (bubble a src d) k=if k=src-d then X a src else if src-d<k/\k<=src then X a (k-1) else X a k:=by
 have e:=getElem?_bubble hs d hd k;by_cases h1:k=src-d
 ·rw[yB h1] at e ⊢;exact Mf e
 ·rw[yT h1] at e ⊢;by_cases h2:src-d<k/\k<=src
  ·rw[yB h2] at e ⊢;exact Mf e
  ·rw[yT h2] at e ⊢;exact Mf e
section
variable{prog:Program}{w:World}{A:Around}{E:xB}{s:Shared}{κ:SortKind}{M:Keyed->Prop}{lt:Keyed->Keyed->Bool}
structure SK(a₀:xE)(κ:SortKind)(p:Array (Nat×Nat×Nat))(f0:Nat->Option Keyed)(lo:Nat)(st:SortSt):Prop where
 perm:(arrOf st).Perm a₀
 kind:kindOf st=κ
 fail:failedOf st=none
 pend:pendingOf st=p
 fr:∀k,k<lo->(arrOf st)[k]?=f0 k
variable{a₀:xE}{p:Array (Nat×Nat×Nat)}{f0:Nat->Option Keyed}{lo:Nat}
theorem SK.size{st:SortSt}(h:SK a₀ κ p f0 lo st):(arrOf st).size=a₀.size:=h.perm.size_eq
theorem SK.m{st:SortSt}(h:SK a₀ κ p f0 lo st)(hM:∀x∈a₀.toList,M x){i:Nat}(hi:i<a₀.size):M (X (arrOf st) i):=by
 have hi':i<(arrOf st).size:=by rw[h.size];exact hi
 have e:=Uq hi';refine hM _ ((Array.perm_iff_toList_perm.mp h.perm).mem_iff.mp ?_);rw[Array.mem_toList_iff];exact Array.mem_of_getElem? e
theorem SK.set{st:SortSt}(h:SK a₀ κ p f0 lo st){xs:xE}(hp:xs.Perm (arrOf st))(hf:∀k,k<lo->xs[k]?=(arrOf st)[k]?):SK a₀ κ p f0 lo (setArr st xs):=⟨hp.trans h.perm,h.kind,h.fail,h.pend,λk hk=>(hf k hk).trans (h.fr k hk)⟩
theorem iu(O:Ord prog w A κ s M lt)(hM:∀x∈a₀.toList,M x){st:SortSt}{i j:Nat}{Q:Option Bool->SortSt->Prop}(hB:SK a₀ κ p f0 lo st)(hi:i<a₀.size)(hj:j<a₀.size)(h:Q (some (lt (X (arrOf st) i) (X (arrOf st) j))) st):wpS (model prog w) A E s (ltAt' i j) Q st:=by
 rw[ltAt'_eq];refine zS (wpS_get ?_);refine zS (aW (Uq (by rw[hB.size];exact hi)) ?_);refine zS (aW (Uq (by rw[hB.size];exact hj)) ?_);exact Ah O hB.kind (hB.m hM hi) (hB.m hM hj) h
def UpI(lt:Keyed->Keyed->Bool)(a:xE)(lo hi:Nat):Prop:=∀i j,lo<=i->i<=j->j<hi->le lt (X a i) (X a j)
def DnI(lt:Keyed->Keyed->Bool)(a:xE)(lo hi:Nat):Prop:=∀i j,lo<=i->i<=j->j<hi->le lt (X a j) (X a i)
def EqI(lt:Keyed->Keyed->Bool)(a:xE)(lo hi:Nat):Prop:=∀i j,lo<=i->i<hi->lo<=j->j<hi->le lt (X a i) (X a j)
theorem Ur(O:Ord prog w A κ s M lt)(hM:∀x∈a₀.toList,M x){st:SortSt}{n ok:Nat}{Q:Bool->SortSt->Prop}(hn:lo+n<=a₀.size)(hok:ok<=n)(hB:SK a₀ κ p f0 lo st)(hs:UpI lt (arrOf st) lo (lo+ok))
  (h:∀st',SK a₀ κ p f0 lo st'->UpI lt (arrOf st') lo (lo+n)->Q true st'):wpS (model prog w) A E s (bns lo n ok) Q st:=by
 unfold bns;refine zS (wpS_mono (wpS_forRange (I:=λk c st'=>c=(none,())/\SK a₀ κ p f0 lo st'/\UpI lt (arrOf st') lo (lo+min k n))
  (Q:=λc st'=>c=(none,())/\SK a₀ κ p f0 lo st'/\UpI lt (arrOf st') lo (lo+n)) ?step ?fin ?init) ?post)
 case post =>
  rintro c st' ⟨rfl,hB',hs'⟩;exact yA (h st' hB' hs')
 case init =>
  refine⟨rfl,hB,λi j h0 hij hj=>?_⟩;by_cases h1:ok=0
  ·have:i=j:=by lia
   subst this;exact O.or.rf (hB.m hM (by lia))
  ·exact hs i j h0 hij (by lia)
 case fin =>
  rintro c st' ⟨hc,hB',hs'⟩;refine⟨hc,hB',?_⟩
  rwa [show min (max (max ok 1) n) n=n by lia] at hs'
 case step =>
  rintro k c st' hak hkn ⟨rfl,hB',hs'⟩;rw[show min k n=k by lia] at hs';have hk:lo+k<a₀.size:=by lia
  refine zS (wpS_mono (wpS_forRange (I:=λx c st''=>st'=st''/\∃l r,c=(none,l,r)/\l<=r/\r<=k/\r-l<=k-x /\
    (∀i,i<l->le lt (X (arrOf st') (lo+i)) (X (arrOf st') (lo+k)))/\(∀i,r<=i->i<k->le lt (X (arrOf st') (lo+k)) (X (arrOf st') (lo+i))))
   (Q:=λc st''=>st'=st''/\∃l r,c=(none,l,r)/\l<=k /\
    (∀i,i<l->le lt (X (arrOf st') (lo+i)) (X (arrOf st') (lo+k)))/\(∀i,l<=i->i<k->le lt (X (arrOf st') (lo+k)) (X (arrOf st') (lo+i)))) ?istep ?ifin ?iinit) ?ipost)
  case iinit=>exact⟨rfl,0,k,rfl,by lia,by lia,by lia,λi hi=>by lia,λi h1 h2=>by lia⟩
  case ifin =>
   rintro c st'' ⟨rfl,l,r,rfl,hlr,hrk,hm,hlo,hhi⟩;have:l=r:=by lia
   subst this;exact⟨rfl,l,l,rfl,hrk,hlo,hhi⟩
  case istep =>
   rintro x c st'' _ hxk ⟨rfl,l,r,rfl,hlr,hrk,hm,hlo,hhi⟩;dsimp only;by_cases hge:l ≥ r
   ·rw[yB hge];have:l=r:=by lia
    subst this;exact yA ⟨rfl,l,l,rfl,hrk,hlo,hhi⟩
   ·rw[yT hge];have hmid:lo+(l+r) / 2<a₀.size:=by lia
    refine zS (iu O hM hB' hk hmid ?_);dsimp only;cases hless:lt (X (arrOf st') (lo+k)) (X (arrOf st') (lo+(l+r) / 2)) with
    | true =>
     rw[yB rfl];refine yA ⟨rfl,l,(l+r) / 2,rfl,by lia,by lia,by lia,hlo,λi h1 h2=>?_⟩;exact O.or.tr (hB'.m hM hk) (hB'.m hM hmid) (hB'.m hM (by lia)) (O.or.of (hB'.m hM hk) (hB'.m hM hmid) hless) (hs' _ _ (by lia) (by lia) (by lia))
    | false =>
     rw[if_neg (by simp)];refine yA ⟨rfl,(l+r) / 2+1,r,rfl,by lia,by lia,by lia,λi h1=>?_,hhi⟩;exact O.or.tr (hB'.m hM (by lia)) (hB'.m hM hmid) (hB'.m hM hk) (hs' _ _ (by lia) (by lia) (by lia)) hless
  case ipost =>
   rintro c st'' ⟨rfl,l,r,rfl,hlk,hlo,hhi⟩;dsimp only;have hks:lo+k<(arrOf st').size:=by rw[hB'.size];exact hk
   refine zS (wpS_modify (yA ⟨rfl,hB'.set (bubble_perm _ _ _) (λz hz=>?_),?_⟩))
   ·show (bubble (arrOf st') (lo+k) (lo+k-(lo+l)))[z]?=(arrOf st')[z]?;rw[getElem?_bubble hks _ (by lia),yT (by lia),yT (by lia)]
   rw[show min (k+1) n=k+1 by lia];intro i j h0 hij hj;show le lt (X (bubble (arrOf st') (lo+k) (lo+k-(lo+l))) i) (X (bubble (arrOf st') (lo+k) (lo+k-(lo+l))) j);rw[RW hks (by lia),RW hks (by lia),show lo+k-(lo+k-(lo+l))=lo+l by lia];have hlo':∀z,lo<=z->z<lo+l->le lt (X (arrOf st') z) (X (arrOf st') (lo+k)):=λz z1 z2=>by have:=hlo (z-lo) (by lia);rwa [show lo+(z-lo)=z by lia] at this
   have hhi':∀z,lo+l<=z->z<lo+k->le lt (X (arrOf st') (lo+k)) (X (arrOf st') z):=λz z1 z2=>by have:=hhi (z-lo) (by lia) (by lia);rwa [show lo+(z-lo)=z by lia] at this
   repeat' split
   all_goals first
    | (exfalso;lia)
    | exact O.or.rf (hB'.m hM (by lia))
    | exact hlo' _ (by lia) (by lia)
    | exact hhi' _ (by lia) (by lia)
    | exact hs' _ _ (by lia) (by lia) (by lia)
theorem n8(O:Or M lt){a:xE}{hi:Nat}(hm:∀z,lo<=z->z<=hi->M (X a z))(h0:lo<hi)(u:UpI lt a lo hi)(h:le lt (X a (hi-1)) (X a hi)):UpI lt a lo (hi+1):=λi j a1 a2 a3=>by
 by_cases hj:j<hi
 ·exact u i j a1 a2 hj
 ·have:j=hi:=by lia
  subst this;by_cases hi':i=j
  ·subst hi';exact O.rf (hm _ a1 (by lia))
  ·exact O.tr (hm _ a1 (by lia)) (hm _ (by lia) (by lia)) (hm _ (by lia) (by lia)) (u i (j-1) a1 (by lia) (by lia)) h
theorem iM(O:Or M lt){a:xE}{hi:Nat}(hm:∀z,lo<=z->z<=hi->M (X a z))(h0:lo<hi)(u:DnI lt a lo hi)(h:le lt (X a hi) (X a (hi-1))):DnI lt a lo (hi+1):=λi j a1 a2 a3=>by
 by_cases hj:j<hi
 ·exact u i j a1 a2 hj
 ·have:j=hi:=by lia
  subst this;by_cases hi':i=j
  ·subst hi';exact O.rf (hm _ a1 (by lia))
  ·exact O.tr (hm _ (by lia) (by lia)) (hm _ (by lia) (by lia)) (hm _ a1 (by lia)) h (u i (j-1) a1 (by lia) (by lia))
theorem sJ{a:xE}{hi q:Nat}(hz:hi<=a.size)(h0:lo<=q)(hq:q<=hi)(u:DnI lt a lo hi)(e:EqI lt a q hi):DnI lt (mirror a q hi ((hi-q) / 2)) lo hi:=λi j a1 a2 a3=>by
 rw[mq hz,mq hz]
 repeat' split
 all_goals first
  | (exfalso;lia)
  | exact e _ _ (by lia) (by lia) (by lia) (by lia)
  | exact u _ _ (by lia) (by lia) (by lia)
theorem yH{a:xE}{hi:Nat}(hz:hi<=a.size)(u:DnI lt a lo hi):UpI lt (mirror a lo hi ((hi-lo) / 2)) lo hi:=λi j a1 a2 a3=>by
 rw[mq hz,mq hz,yB (by lia),yB (by lia)];exact u _ _ (by lia) (by lia) (by lia)
theorem SK.mir{st:SortSt}(h:SK a₀ κ p f0 lo st){i j:Nat}(hi:lo<=i)(hj:j<=a₀.size):SK a₀ κ p f0 lo (setArr st (mirror (arrOf st) i j ((j-i) / 2))):=h.set (mirror_perm _ _ _ _) λk hk=>by rw[getElem?_mirror_all (by rw[h.size];exact hj),yT (by lia)]
theorem Us(O:Ord prog w A κ s M lt)(hM:∀x∈a₀.toList,M x){st:SortSt}{nrem:Nat}{Q:Option Nat->SortSt->Prop}(hn:lo+nrem<=a₀.size)(h1:1<=nrem)(hB:SK a₀ κ p f0 lo st)
  (h:∀n st',1<=n->n<=nrem->SK a₀ κ p f0 lo st'->UpI lt (arrOf st') lo (lo+n)->Q (some n) st'):wpS (model prog w) A E s (cnt lo nrem) Q st:=by
 unfold cnt;refine zS (wpS_mono (wpS_forRange (I:=λx c st'=>st=st'/\c=(none,x)/\UpI lt (arrOf st) lo (lo+x))
  (Q:=λc st'=>st=st'/\∃n,c=(none,n)/\1<=n/\n<=nrem/\UpI lt (arrOf st) lo (lo+n)/\(n=nrem\/lt (X (arrOf st) (lo+n)) (X (arrOf st) (lo+n-1))=true)) ?_ ?_ ⟨rfl,rfl,λi j h0 hij hj=>by rw[show i=j by lia];exact O.or.rf (hB.m hM (by lia))⟩) ?_)
 ·rintro x c st' a1 a2 ⟨rfl,rfl,u⟩;dsimp only;refine zS (iu O hM hB (by lia) (by lia) ?_);dsimp only;cases hl:lt (X (arrOf st) (lo+x)) (X (arrOf st) (lo+x-1)) with
  | true =>
   rw[yB rfl];exact yA ⟨rfl,x,rfl,by lia,by lia,u,.inr hl⟩
  | false =>
   rw[if_neg (by simp)];have hm:∀z,lo<=z->z<=lo+x->M (X (arrOf st) z):=λz _ _=>hB.m hM (by lia)
   exact yA ⟨rfl,rfl,n8 (hi:=lo+x) O.or hm (by lia) u hl⟩
 ·rintro c st' ⟨rfl,rfl,u⟩;rw[show max 1 nrem=nrem by lia] at u ⊢;exact⟨rfl,nrem,rfl,h1,rS _,u,.inl rfl⟩
 rintro c st' ⟨rfl,n,rfl,n1,n2,up,hb⟩;dsimp only;by_cases c0:(n==nrem)=true
 ·rw[yB c0];exact yA (h n st n1 n2 hB up)
 rw[yT c0];have c0:n+1<=nrem:=by have:¬ n=nrem:=λe=>c0 (by rw[e];simp);lia
 have hb:lt (X (arrOf st) (lo+n)) (X (arrOf st) (lo+n-1))=true:=hb.elim (λe=>gS e (by lia)) id;have mm:∀z,lo<=z->z<=lo+n->M (X (arrOf st) z):=λz _ _=>hB.m hM (by lia)
 have hle:=O.or.of (mm _ (by lia) (by lia)) (mm _ (by lia) (by lia)) hb;by_cases c2:n > 1
 ·rw[yB c2];refine zS (iu O hM hB (by lia) (by lia) ?_);dsimp only;cases hr:lt (X (arrOf st) lo) (X (arrOf st) (lo+n-1)) with
  | true =>
   rw[yB rfl];exact yA (h n st n1 n2 hB up)
  | false =>
   rw[if_neg (by simp)];have eqA:EqI lt (arrOf st) lo (lo+n):=λi j a1 a2 a3 a4=>O.or.tr (mm _ a1 (by lia)) (mm _ (by lia) (by lia)) (mm _ a3 (by lia)) (up i (lo+n-1) a1 (by lia) (by lia)) (O.or.tr (mm _ (by lia) (by lia)) (mm _ (by lia) (by lia)) (mm _ a3 (by lia)) hr (up lo j (by lia) a3 a4))
   have dA:DnI lt (arrOf st) lo (lo+n):=λi j a1 a2 a3=>eqA j i (by lia) a3 a1 (by lia)
   refine zS (wpS_modify ?_);have z1:lo+n<=(arrOf st).size:=by rw[hB.size];lia
   have b1:=hB.mir (i:=lo) (j:=lo+n) (rS _) (by lia);have d1:DnI lt (mirror (arrOf st) lo (lo+n) ((lo+n-lo) / 2)) lo (lo+(n+1)):=by
    rw[show lo+(n+1)=lo+n+1 by lia];refine iM O.or (λz _ _=>b1.m hM (by lia)) (by lia) (sJ z1 (rS _) (by lia) dA eqA) ?_;rw[mq z1,mq z1,yT (by lia),yB (by lia)];exact O.or.tr (mm _ (by lia) (by lia)) (mm _ (by lia) (by lia)) (mm _ (by lia) (by lia)) hle (eqA _ _ (by lia) (by lia) (by lia) (by lia))
   show wpS _ _ _ _ _ _ (setArr st (mirror (arrOf st) lo (lo+n) ((lo+n-lo) / 2)));obtain⟨s1,e1⟩:∃s1,s1=setArr st (mirror (arrOf st) lo (lo+n) ((lo+n-lo) / 2)):=⟨_,rfl⟩;have d1:DnI lt (arrOf s1) lo (lo+(n+1)):=by rw[e1];exact d1
   rw[<- e1] at b1 ⊢;refine zS (wpS_lift (wpAny_rule ⟨rfl,?_⟩));refine zS (wpS_mono (wpS_forRange (I:=λx c st'=>∃q,c=(none,x,q)/\SK a₀ κ p f0 lo st'/\DnI lt (arrOf st') lo (lo+x)/\q+1<=x/\EqI lt (arrOf st') (lo+x-(q+1)) (lo+x))
    (Q:=λc st'=>∃m q,c=(none,m,q)/\n+1<=m/\m<=nrem/\SK a₀ κ p f0 lo st'/\DnI lt (arrOf st') lo (lo+m)/\q+1<=m/\EqI lt (arrOf st') (lo+m-(q+1)) (lo+m)) ?_ ?_ ⟨0,rfl,b1,d1,by lia,λi j a1 a2 a3 a4=>by rw[show i=j by lia];exact O.or.rf (SK.m b1 hM (by lia))⟩) ?_)
   ·rintro x c st' a1 a2 ⟨q,rfl,b1,dn,hq,eq⟩;dsimp only;refine zS (iu O hM b1 (by lia) (by lia) ?_);dsimp only;have mm:∀z,lo<=z->z<=lo+x->M (X (arrOf st') z):=λz _ _=>b1.m hM (by lia)
    cases hl:lt (X (arrOf st') (lo+x)) (X (arrOf st') (lo+x-1)) with
    | true =>
     rw[yB rfl];have hle:=O.or.of (mm _ (by lia) (by lia)) (mm _ (by lia) (by lia)) hl;have one:∀(a:xE),(∀z,lo<=z->z<=lo+x->M (X a z))->EqI lt a (lo+(x+1)-(0+1)) (lo+(x+1)):=λa ha i j a1 a2 a3 a4=>by
      rw[show i=j by lia];exact O.or.rf (ha _ (by lia) (by lia))
     by_cases c1:q > 0
     ·rw[yB c1];refine zS (wpS_modify (yA ?_));have b2:=b1.mir (i:=lo+x-(q+1)) (j:=lo+x) (by lia) (by lia);have z1:lo+x<=(arrOf st').size:=by rw[b1.size];lia
      have mm2:∀z,lo<=z->z<=lo+x->M (X (mirror (arrOf st') (lo+x-(q+1)) (lo+x) ((lo+x-(lo+x-(q+1))) / 2)) z):=λz _ _=>b2.m hM (by lia)
      have d2:=sJ z1 (by lia) (by lia) dn eq;refine⟨0,rfl,b2,?_,by lia,one _ mm2⟩;show DnI lt (mirror (arrOf st') (lo+x-(q+1)) (lo+x) ((lo+x-(lo+x-(q+1))) / 2)) lo (lo+x+1);refine iM O.or mm2 (by lia) d2 ?_;rw[mq z1,mq z1,yT (by lia),yB (by lia)];exact O.or.tr (mm _ (by lia) (by lia)) (mm _ (by lia) (by lia)) (mm _ (by lia) (by lia)) hle (eq _ _ (by lia) (by lia) (by lia) (by lia))
     ·rw[yT c1];refine yA ⟨0,rfl,b1,?_,by lia,one _ mm⟩;rw[show lo+(x+1)=lo+x+1 by lia];exact iM O.or mm (by lia) dn hle
    | false =>
     rw[if_neg (by simp)];refine zS (iu O hM b1 (by lia) (by lia) ?_);dsimp only;cases hl2:lt (X (arrOf st') (lo+x-1)) (X (arrOf st') (lo+x)) with
     | true =>
      rw[yB rfl];exact yA ⟨x,q,rfl,a1,by lia,b1,dn,hq,eq⟩
     | false =>
      rw[if_neg (by simp)];refine yA ⟨q+1,rfl,b1,?_,by lia,λi j a3 a4 a5 a6=>?_⟩
      ·rw[show lo+(x+1)=lo+x+1 by lia];exact iM O.or mm (by lia) dn hl2
      ·have r1:∀z,lo+x-(q+1)<=z->z<lo+x->le lt (X (arrOf st') z) (X (arrOf st') (lo+x)):=λz z1 z2=>O.or.tr (mm _ (by lia) (by lia)) (mm _ (by lia) (by lia)) (mm _ (by lia) (by lia)) (eq z (lo+x-1) (by lia) (by lia) (by lia) (by lia)) hl
       have r2:∀z,lo+x-(q+1)<=z->z<lo+x->le lt (X (arrOf st') (lo+x)) (X (arrOf st') z):=λz z1 z2=>O.or.tr (mm _ (by lia) (by lia)) (mm _ (by lia) (by lia)) (mm _ (by lia) (by lia)) hl2 (eq (lo+x-1) z (by lia) (by lia) (by lia) (by lia))
       by_cases w1:i=lo+x
       ·by_cases w2:j=lo+x
        ·rw[w1,w2];exact O.or.rf (mm _ (by lia) (by lia))
        ·rw[w1];exact r2 j (by lia) (by lia)
       ·by_cases w2:j=lo+x
        ·rw[w2];exact r1 i (by lia) (by lia)
        ·exact eq i j (by lia) (by lia) (by lia) (by lia)
   ·rintro c st' ⟨q,rfl,b1,dn,hq,eq⟩;rw[show max (n+1) nrem=nrem by lia] at dn hq eq ⊢;exact⟨nrem,q,rfl,by lia,by lia,b1,dn,hq,eq⟩
   rintro c st3 ⟨m,q,rfl,w1,w2,b3,d3,hq,eq⟩;dsimp only;by_cases c1:q > 0
   ·rw[yB c1];refine zS (wpS_modify ?_);have b4:=b3.mir (i:=lo+m-(q+1)) (j:=lo+m) (by lia) (by lia);have d4:=sJ (show lo+m<=(arrOf st3).size by rw[b3.size];lia) (by lia) (by lia) d3 eq;show wpS _ _ _ _ _ _ (setArr st3 (mirror (arrOf st3) (lo+m-(q+1)) (lo+m) ((lo+m-(lo+m-(q+1))) / 2)));obtain⟨s4,e4⟩:∃s4,s4=setArr st3 (mirror (arrOf st3) (lo+m-(q+1)) (lo+m) ((lo+m-(lo+m-(q+1))) / 2)):=⟨_,rfl⟩;have d4:DnI lt (arrOf s4) lo (lo+m):=by rw[e4];exact d4
    rw[<- e4] at b4 ⊢;refine zS (wpS_modify ?_);have b5:=b4.mir (i:=lo) (j:=lo+m) (rS _) (by lia);have u5:UpI lt (arrOf (setArr s4 (mirror (arrOf s4) lo (lo+m) ((lo+m-lo) / 2)))) lo (lo+m):=yH (by rw[b4.size];lia) d4;show wpS _ _ _ _ _ _ (setArr s4 (mirror (arrOf s4) lo (lo+m) ((lo+m-lo) / 2)));obtain⟨s5,e5⟩:∃s5,s5=setArr s4 (mirror (arrOf s4) lo (lo+m) ((lo+m-lo) / 2)):=⟨_,rfl⟩;rw[<- e5] at b5 u5 ⊢;refine zS (wpS_mono (wpS_forRange (I:=λx c st'=>s5=st'/\c=(none,x)/\UpI lt (arrOf s5) lo (lo+x))
     (Q:=λc st'=>s5=st'/\∃n,c=(none,n)/\1<=n/\n<=nrem/\UpI lt (arrOf s5) lo (lo+n)) ?_ ?_ ⟨rfl,rfl,u5⟩) ?_)
    ·rintro x c st' a1 a2 ⟨rfl,rfl,u⟩;dsimp only;refine zS (iu O hM b5 (by lia) (by lia) ?_);dsimp only;cases hl:lt (X (arrOf s5) (lo+x)) (X (arrOf s5) (lo+x-1)) with
     | true =>
      rw[yB rfl];exact yA ⟨rfl,x,rfl,by lia,by lia,u⟩
     | false =>
      rw[if_neg (by simp)];have hm:∀z,lo<=z->z<=lo+x->M (X (arrOf s5) z):=λz _ _=>b5.m hM (by lia)
      exact yA ⟨rfl,rfl,n8 (hi:=lo+x) O.or hm (by lia) u hl⟩
    ·rintro c st' ⟨rfl,rfl,u⟩;exact⟨rfl,_,rfl,by lia,by lia,u⟩
    rintro c st' ⟨rfl,n5,rfl,k1,k2,u⟩;exact yA (h n5 _ k1 k2 b5 u)
   ·rw[yT c1];refine zS (wpS_modify ?_);have b5:=b3.mir (i:=lo) (j:=lo+m) (rS _) (by lia);have u5:UpI lt (arrOf (setArr st3 (mirror (arrOf st3) lo (lo+m) ((lo+m-lo) / 2)))) lo (lo+m):=yH (by rw[b3.size];lia) d3;show wpS _ _ _ _ _ _ (setArr st3 (mirror (arrOf st3) lo (lo+m) ((lo+m-lo) / 2)));obtain⟨s5,e5⟩:∃s5,s5=setArr st3 (mirror (arrOf st3) lo (lo+m) ((lo+m-lo) / 2)):=⟨_,rfl⟩;rw[<- e5] at b5 u5 ⊢;refine zS (wpS_mono (wpS_forRange (I:=λx c st'=>s5=st'/\c=(none,x)/\UpI lt (arrOf s5) lo (lo+x))
     (Q:=λc st'=>s5=st'/\∃n,c=(none,n)/\1<=n/\n<=nrem/\UpI lt (arrOf s5) lo (lo+n)) ?_ ?_ ⟨rfl,rfl,u5⟩) ?_)
    ·rintro x c st' a1 a2 ⟨rfl,rfl,u⟩;dsimp only;refine zS (iu O hM b5 (by lia) (by lia) ?_);dsimp only;cases hl:lt (X (arrOf s5) (lo+x)) (X (arrOf s5) (lo+x-1)) with
     | true =>
      rw[yB rfl];exact yA ⟨rfl,x,rfl,by lia,by lia,u⟩
     | false =>
      rw[if_neg (by simp)];have hm:∀z,lo<=z->z<=lo+x->M (X (arrOf s5) z):=λz _ _=>b5.m hM (by lia)
      exact yA ⟨rfl,rfl,n8 (hi:=lo+x) O.or hm (by lia) u hl⟩
    ·rintro c st' ⟨rfl,rfl,u⟩;exact⟨rfl,_,rfl,by lia,by lia,u⟩
    rintro c st' ⟨rfl,n5,rfl,k1,k2,u⟩;exact yA (h n5 _ k1 k2 b5 u)
 ·rw[yT c2];have d1:DnI lt (arrOf st) lo (lo+(n+1)):=by
   rw[show lo+(n+1)=lo+n+1 by lia];refine iM O.or mm (by lia) (λi j a1 a2 a3=>?_) hle;rw[show i=j by lia];exact O.or.rf (mm _ (by lia) (by lia))
  refine zS (wpS_lift (wpAny_rule ⟨rfl,?_⟩));refine zS (wpS_mono (wpS_forRange (I:=λx c st'=>∃q,c=(none,x,q)/\SK a₀ κ p f0 lo st'/\DnI lt (arrOf st') lo (lo+x)/\q+1<=x/\EqI lt (arrOf st') (lo+x-(q+1)) (lo+x))
   (Q:=λc st'=>∃m q,c=(none,m,q)/\n+1<=m/\m<=nrem/\SK a₀ κ p f0 lo st'/\DnI lt (arrOf st') lo (lo+m)/\q+1<=m/\EqI lt (arrOf st') (lo+m-(q+1)) (lo+m)) ?_ ?_ ⟨0,rfl,hB,d1,by lia,λi j a1 a2 a3 a4=>by rw[show i=j by lia];exact O.or.rf (SK.m hB hM (by lia))⟩) ?_)
  ·rintro x c st' a1 a2 ⟨q,rfl,b1,dn,hq,eq⟩;dsimp only;refine zS (iu O hM b1 (by lia) (by lia) ?_);dsimp only;have mm:∀z,lo<=z->z<=lo+x->M (X (arrOf st') z):=λz _ _=>b1.m hM (by lia)
   cases hl:lt (X (arrOf st') (lo+x)) (X (arrOf st') (lo+x-1)) with
   | true =>
    rw[yB rfl];have hle:=O.or.of (mm _ (by lia) (by lia)) (mm _ (by lia) (by lia)) hl;have one:∀(a:xE),(∀z,lo<=z->z<=lo+x->M (X a z))->EqI lt a (lo+(x+1)-(0+1)) (lo+(x+1)):=λa ha i j a1 a2 a3 a4=>by
     rw[show i=j by lia];exact O.or.rf (ha _ (by lia) (by lia))
    by_cases c1:q > 0
    ·rw[yB c1];refine zS (wpS_modify (yA ?_));have b2:=b1.mir (i:=lo+x-(q+1)) (j:=lo+x) (by lia) (by lia);have z1:lo+x<=(arrOf st').size:=by rw[b1.size];lia
     have mm2:∀z,lo<=z->z<=lo+x->M (X (mirror (arrOf st') (lo+x-(q+1)) (lo+x) ((lo+x-(lo+x-(q+1))) / 2)) z):=λz _ _=>b2.m hM (by lia)
     have d2:=sJ z1 (by lia) (by lia) dn eq;refine⟨0,rfl,b2,?_,by lia,one _ mm2⟩;show DnI lt (mirror (arrOf st') (lo+x-(q+1)) (lo+x) ((lo+x-(lo+x-(q+1))) / 2)) lo (lo+x+1);refine iM O.or mm2 (by lia) d2 ?_;rw[mq z1,mq z1,yT (by lia),yB (by lia)];exact O.or.tr (mm _ (by lia) (by lia)) (mm _ (by lia) (by lia)) (mm _ (by lia) (by lia)) hle (eq _ _ (by lia) (by lia) (by lia) (by lia))
    ·rw[yT c1];refine yA ⟨0,rfl,b1,?_,by lia,one _ mm⟩;rw[show lo+(x+1)=lo+x+1 by lia];exact iM O.or mm (by lia) dn hle
   | false =>
    rw[if_neg (by simp)];refine zS (iu O hM b1 (by lia) (by lia) ?_);dsimp only;cases hl2:lt (X (arrOf st') (lo+x-1)) (X (arrOf st') (lo+x)) with
    | true =>
     rw[yB rfl];exact yA ⟨x,q,rfl,a1,by lia,b1,dn,hq,eq⟩
    | false =>
     rw[if_neg (by simp)];refine yA ⟨q+1,rfl,b1,?_,by lia,λi j a3 a4 a5 a6=>?_⟩
     ·rw[show lo+(x+1)=lo+x+1 by lia];exact iM O.or mm (by lia) dn hl2
     ·have r1:∀z,lo+x-(q+1)<=z->z<lo+x->le lt (X (arrOf st') z) (X (arrOf st') (lo+x)):=λz z1 z2=>O.or.tr (mm _ (by lia) (by lia)) (mm _ (by lia) (by lia)) (mm _ (by lia) (by lia)) (eq z (lo+x-1) (by lia) (by lia) (by lia) (by lia)) hl
      have r2:∀z,lo+x-(q+1)<=z->z<lo+x->le lt (X (arrOf st') (lo+x)) (X (arrOf st') z):=λz z1 z2=>O.or.tr (mm _ (by lia) (by lia)) (mm _ (by lia) (by lia)) (mm _ (by lia) (by lia)) hl2 (eq (lo+x-1) z (by lia) (by lia) (by lia) (by lia))
      by_cases w1:i=lo+x
      ·by_cases w2:j=lo+x
       ·rw[w1,w2];exact O.or.rf (mm _ (by lia) (by lia))
       ·rw[w1];exact r2 j (by lia) (by lia)
      ·by_cases w2:j=lo+x
       ·rw[w2];exact r1 i (by lia) (by lia)
       ·exact eq i j (by lia) (by lia) (by lia) (by lia)
  ·rintro c st' ⟨q,rfl,b1,dn,hq,eq⟩;rw[show max (n+1) nrem=nrem by lia] at dn hq eq ⊢;exact⟨nrem,q,rfl,by lia,by lia,b1,dn,hq,eq⟩
  rintro c st3 ⟨m,q,rfl,w1,w2,b3,d3,hq,eq⟩;dsimp only;by_cases c1:q > 0
  ·rw[yB c1];refine zS (wpS_modify ?_);have b4:=b3.mir (i:=lo+m-(q+1)) (j:=lo+m) (by lia) (by lia);have d4:=sJ (show lo+m<=(arrOf st3).size by rw[b3.size];lia) (by lia) (by lia) d3 eq;show wpS _ _ _ _ _ _ (setArr st3 (mirror (arrOf st3) (lo+m-(q+1)) (lo+m) ((lo+m-(lo+m-(q+1))) / 2)));obtain⟨s4,e4⟩:∃s4,s4=setArr st3 (mirror (arrOf st3) (lo+m-(q+1)) (lo+m) ((lo+m-(lo+m-(q+1))) / 2)):=⟨_,rfl⟩;have d4:DnI lt (arrOf s4) lo (lo+m):=by rw[e4];exact d4
   rw[<- e4] at b4 ⊢;refine zS (wpS_modify ?_);have b5:=b4.mir (i:=lo) (j:=lo+m) (rS _) (by lia);have u5:UpI lt (arrOf (setArr s4 (mirror (arrOf s4) lo (lo+m) ((lo+m-lo) / 2)))) lo (lo+m):=yH (by rw[b4.size];lia) d4;show wpS _ _ _ _ _ _ (setArr s4 (mirror (arrOf s4) lo (lo+m) ((lo+m-lo) / 2)));obtain⟨s5,e5⟩:∃s5,s5=setArr s4 (mirror (arrOf s4) lo (lo+m) ((lo+m-lo) / 2)):=⟨_,rfl⟩;rw[<- e5] at b5 u5 ⊢;refine zS (wpS_mono (wpS_forRange (I:=λx c st'=>s5=st'/\c=(none,x)/\UpI lt (arrOf s5) lo (lo+x))
    (Q:=λc st'=>s5=st'/\∃n,c=(none,n)/\1<=n/\n<=nrem/\UpI lt (arrOf s5) lo (lo+n)) ?_ ?_ ⟨rfl,rfl,u5⟩) ?_)
   ·rintro x c st' a1 a2 ⟨rfl,rfl,u⟩;dsimp only;refine zS (iu O hM b5 (by lia) (by lia) ?_);dsimp only;cases hl:lt (X (arrOf s5) (lo+x)) (X (arrOf s5) (lo+x-1)) with
    | true =>
     rw[yB rfl];exact yA ⟨rfl,x,rfl,by lia,by lia,u⟩
    | false =>
     rw[if_neg (by simp)];have hm:∀z,lo<=z->z<=lo+x->M (X (arrOf s5) z):=λz _ _=>b5.m hM (by lia)
     exact yA ⟨rfl,rfl,n8 (hi:=lo+x) O.or hm (by lia) u hl⟩
   ·rintro c st' ⟨rfl,rfl,u⟩;exact⟨rfl,_,rfl,by lia,by lia,u⟩
   rintro c st' ⟨rfl,n5,rfl,k1,k2,u⟩;exact yA (h n5 _ k1 k2 b5 u)
  ·rw[yT c1];refine zS (wpS_modify ?_);have b5:=b3.mir (i:=lo) (j:=lo+m) (rS _) (by lia);have u5:UpI lt (arrOf (setArr st3 (mirror (arrOf st3) lo (lo+m) ((lo+m-lo) / 2)))) lo (lo+m):=yH (by rw[b3.size];lia) d3;show wpS _ _ _ _ _ _ (setArr st3 (mirror (arrOf st3) lo (lo+m) ((lo+m-lo) / 2)));obtain⟨s5,e5⟩:∃s5,s5=setArr st3 (mirror (arrOf st3) lo (lo+m) ((lo+m-lo) / 2)):=⟨_,rfl⟩;rw[<- e5] at b5 u5 ⊢;refine zS (wpS_mono (wpS_forRange (I:=λx c st'=>s5=st'/\c=(none,x)/\UpI lt (arrOf s5) lo (lo+x))
    (Q:=λc st'=>s5=st'/\∃n,c=(none,n)/\1<=n/\n<=nrem/\UpI lt (arrOf s5) lo (lo+n)) ?_ ?_ ⟨rfl,rfl,u5⟩) ?_)
   ·rintro x c st' a1 a2 ⟨rfl,rfl,u⟩;dsimp only;refine zS (iu O hM b5 (by lia) (by lia) ?_);dsimp only;cases hl:lt (X (arrOf s5) (lo+x)) (X (arrOf s5) (lo+x-1)) with
    | true =>
     rw[yB rfl];exact yA ⟨rfl,x,rfl,by lia,by lia,u⟩
    | false =>
     rw[if_neg (by simp)];have hm:∀z,lo<=z->z<=lo+x->M (X (arrOf s5) z):=λz _ _=>b5.m hM (by lia)
     exact yA ⟨rfl,rfl,n8 (hi:=lo+x) O.or hm (by lia) u hl⟩
   ·rintro c st' ⟨rfl,rfl,u⟩;exact⟨rfl,_,rfl,by lia,by lia,u⟩
   rintro c st' ⟨rfl,n5,rfl,k1,k2,u⟩;exact yA (h n5 _ k1 k2 b5 u)
end
end TS
end L2
namespace L2
open PySem PyProof.Rows
namespace TS
abbrev R3:=Nat×Nat×Nat
def gR(lt:Keyed->Keyed->Bool)(l:List Keyed):List R3->Nat->Nat->Prop
 | [],s,e=>s=e
 | x::r,s,e=>x.1=s/\1<=x.2.1/\Up lt (seg l s x.2.1)/\gR lt l r (s+x.2.1) e
section
variable{lt:Keyed->Keyed->Bool}{l l':List Keyed}
theorem gR.le:∀{r:List R3} {s e:Nat},gR lt l r s e->s+r.length<=e
 | [],s,e,h=>by have h:s=e:=h;simp;lia
 | x::r,s,e,h=>by
  obtain⟨_,h1,_,h2⟩:=h;have:=h2.le;rw[zzD]
  lia
theorem gR.cg:∀{r:List R3} {s e:Nat},(∀i n,s<=i->i+n<=e->seg l' i n=seg l i n)->gR lt l r s e->gR lt l' r s e
 | [],_,_,_,h=>h
 | x::r,s,e,hc,h=>by
  obtain⟨h1,h2,h3,h4⟩:=h;have hl:=h4.le;refine⟨h1,h2,?_,gR.cg (λi n a b=>hc i n (by lia) b) h4⟩;rw[hc s x.2.1 (rS _) (by lia)];exact h3
theorem gR.app:∀{r r2:List R3} {s e:Nat},gR lt l (r++r2) s e ↔ ∃m,gR lt l r s m/\gR lt l r2 m e
 | [],r2,s,e=>⟨λh=>⟨s,rfl,h⟩,λ⟨m,h1,h2⟩=>by have h1:s=m:=h1;subst h1;exact h2⟩
 | x::r,r2,s,e=>by
  constructor
  ·rintro ⟨h1,h2,h3,h4⟩;obtain⟨m,h5,h6⟩:=gR.app.mp h4;exact⟨m,⟨h1,h2,h3,h5⟩,h6⟩
  ·rintro ⟨m,⟨h1,h2,h3,h4⟩,h5⟩;exact⟨h1,h2,h3,gR.app.mpr ⟨m,h4,h5⟩⟩
theorem Mg{e i n:Nat}(h:l'.take e=l.take e)(hi:i+n<=e):seg l' i n=seg l i n:=by
 have k:∀m:List Keyed,seg m i n=((m.take e).drop i).take n:=λm=>by
  rw[List.drop_take,List.take_take,Nat.min_eq_left (by lia)]
 rw[k,k,h]
theorem Ec{s i n:Nat}(h:l'.drop s=l.drop s)(hi:s<=i):seg l' i n=seg l i n:=by
 have k:∀m:List Keyed,seg m i n=((m.drop s).drop (i-s)).take n:=λm=>by
  rw[List.drop_drop,show s+(i-s)=i by lia]
 rw[k,k,h]
theorem Mh{α:Type}{x y v:α}:∀(pre post:List α),((pre++x::y::post).set pre.length v).eraseIdx (pre.length+1)=pre++v::post
 | [],post=>rfl
 | z::pre,post=>by
  show z::(((pre++x::y::post).set pre.length v).eraseIdx (pre.length+1))=_;rw[Mh pre post]
  rfl
theorem two_of{α:Type}{p:Array α}{i:Nat}(h:i+1<p.size):∃pre x y post,p.toList=pre++x::y::post/\pre.length=i/\p[i]?=some x/\p[i+1]?=some y:=by
 refine⟨p.toList.take i,p.toList[i]'(by simp;lia),p.toList[i+1]'(by simp;lia),p.toList.drop (i+2),?_,by rw[List.length_take,Array.length_toList];lia,by simp[show i<p.size by lia],by simp[h]⟩;rw[<- List.drop_eq_getElem_cons,<- List.drop_eq_getElem_cons,qB]
theorem Ut{a:xE}{lo n:Nat}(hz:lo+n<=a.size)(h:UpI lt a lo (lo+n)):Up lt (seg a.toList lo n):=by
 refine List.pairwise_iff_getElem.mpr λi j hi hj hij=>?_
 have ln:=n6 (l:=a.toList) (sa:=lo) (na:=n) (by simpa using hz);have g:∀i (hi:i<(seg a.toList lo n).length),(seg a.toList lo n)[i]=X a (lo+i):=λi hi=>by
  have e:=yG (l:=a.toList) (sa:=lo) (na:=n) (i:=i) (by lia);rw[qS hi] at e;unfold X;rw[<- Array.getElem?_toList,<- e]
  rfl
 rw[g i hi,g j hj];exact h _ _ (by lia) (by lia) (by lia)
end
section
variable{prog:Program}{w:World}{A:Around}{E:xB}{s:Shared}{κ:SortKind}{M:Keyed->Prop}{lt:Keyed->Keyed->Bool}{a₀:xE}
structure SI(lt:Keyed->Keyed->Bool)(a₀:xE)(κ:SortKind)(e:Nat)(st:SortSt):Prop where
 perm:(arrOf st).Perm a₀
 kind:kindOf st=κ
 fail:failedOf st=none
 runs:gR lt (arrOf st).toList (pendingOf st).toList 0 e
theorem SI.size{e:Nat}{st:SortSt}(h:SI lt a₀ κ e st):(arrOf st).size=a₀.size:=h.perm.size_eq
theorem Ed(O:Ord prog w A κ s M lt)(hM:∀x∈a₀.toList,M x){st:SortSt}{i e:Nat}{Q:Bool->SortSt->Prop}(hS:SI lt a₀ κ e st)(he:e<=a₀.size)(hi:i+1<(pendingOf st).size)
  (h:∀st',SI lt a₀ κ e st'->(pendingOf st').size+1=(pendingOf st).size->(arrOf st').toList.drop e=(arrOf st).toList.drop e->Q true st'):wpS (model prog w) A E s (mat i) Q st:=by
 obtain⟨pre,x,y,post,ep,lp,g1,g2⟩:=two_of hi;have hr:=hS.runs;rw[ep] at hr;obtain⟨m,r1,⟨x1,x2,x3,⟨y1,y2,y3,r4⟩⟩⟩:=gR.app.mp hr;obtain⟨sx,nx,px⟩:=x;obtain⟨sy,ny,py⟩:=y;dsimp only at x1 x2 x3 y1 y2 y3 r4;subst x1;have l4:=r4.le;have l1:=r1.le;have ms:∀z∈(arrOf st).toList,M z:=λz hz=>hM z ((Array.perm_iff_toList_perm.mp hS.perm).mem_iff.mp hz)
 refine Uo O hS.kind hS.fail g1 g2 y1 (by rw[hS.size];lia) x2 y2 ms x3 (by rw[y1];exact y3) λst' res k1 k2 k3 pr up ea=>?_
 rw[y1] at pr ea;have lr:res.length=nx+ny:=by
  rw[pr.length_eq,yY,n6 (by rw[mS,hS.size];lia),n6 (by rw[mS,hS.size];lia)]
 have lt0:((arrOf st).toList.take sx).length=sx:=by rw[nE,mS,hS.size];lia
 have tk:(arrOf st').toList.take sx=(arrOf st).toList.take sx:=by
  rw[ea,jI,List.take_append_of_le_length (by lia),mE (by lia)]
 have dp:(arrOf st').toList.drop (sx+nx+ny)=(arrOf st).toList.drop (sx+nx+ny):=by
  have e1:((arrOf st).toList.take sx++res).length=sx+nx+ny:=by rw[yY];lia
  rw[ea,<- e1,List.drop_left,e1]
 have sg:seg (arrOf st').toList sx (nx+ny)=res:=by
  unfold seg;rw[ea,jI];have:=List.drop_left (l₁:=(arrOf st).toList.take sx) (l₂:=res++(arrOf st).toList.drop (sx+nx+ny));rw[lt0] at this;rw[this,<- lr,List.take_left]
 have pp:(pendingOf st').toList=pre++(sx,nx+ny,px)::post:=by
  rw[k3,Array.toList_eraseIdxIfInBounds,Array.toList_setIfInBounds,ep,<- lp,Mh]
 refine h st' ⟨?_,k1,k2,?_⟩ ?_ ?_
 ·refine Array.Perm.trans ?_ hS.perm;rw[Array.perm_iff_toList_perm,ea];have w:(arrOf st).toList=(arrOf st).toList.take sx++(seg (arrOf st).toList sx nx++seg (arrOf st).toList (sx+nx) ny)++(arrOf st).toList.drop (sx+nx+ny):=by
   rw[Ak,show sx+nx+ny=sx+(nx+ny) by lia];exact Gk.symm
  exact((pr.append_left _).append_right _).trans (by rw[<- w])
 ·rw[pp];refine gR.app.mpr ⟨sx,r1.cg λi n a b=>Mg tk b,rfl,by show 1<=nx+ny;lia,by rw[sg];exact up,?_⟩;show gR lt _ post (sx+(nx+ny)) e;rw[show sx+(nx+ny)=sx+nx+ny by lia];exact r4.cg λi n a b=>Ec dp a
 ·rw[<- mS,pp,<- mS,ep];simp
  lia
 ·have:=gN (List.drop (e-(sx+nx+ny))) dp;rw[List.drop_drop,List.drop_drop,show sx+nx+ny+(e-(sx+nx+ny))=e by lia] at this;exact this
end
end TS
end L2
namespace L2
open PySem PyProof.Rows
namespace TS
section
variable{lt:Keyed->Keyed->Bool}{l:List Keyed}{a₀:xE}{κ:SortKind}
theorem gR.alike:∀{r r2:List R3} {s e:Nat},r2.map (λx=>(x.1,x.2.1))=r.map (λx=>(x.1,x.2.1))->gR lt l r s e->gR lt l r2 s e
 | [],[],_,_,_,h=>h
 | [],_::_,_,_,e,_=>by cases e
 | _::_,[],_,_,e,_=>by cases e
 | x::r,y::r2,s,e,he,h=>by
  obtain⟨h1,h2,h3,h4⟩:=h;rw[nI,nI] at he;have e1:=List.cons.inj he;have e2:=Prod.mk.inj e1.1;refine⟨e2.1.trans h1,by rw[e2.2];exact h2,by rw[e2.2];exact h3,?_⟩;rw[e2.2];exact gR.alike e1.2 h4
theorem SI.pw{e:Nat}{st:SortSt}(h:SI lt a₀ κ e st)(i:Nat)(f:R3->R3)(hf:∀x,((f x).1,(f x).2.1)=(x.1,x.2.1)):SI lt a₀ κ e (setPending st ((pendingOf st).modify i f)):=by
 refine⟨h.perm,h.kind,h.fail,gR.alike ?_ h.runs⟩;show ((pendingOf st).modify i f).toList.map _=_;rw[Array.toList_modify]
 apply List.ext_getElem?
 intro j;rw[vE,vE,List.getElem?_modify];cases (pendingOf st).toList[j]? with
 | none=>rfl
 | some x =>
  show some _=some _
  congr 1
  dsimp only;by_cases hj:i=j
  ·rw[yB hj];exact hf x
  ·rw[yT hj]
theorem SI.push{lo n:Nat}{st:SortSt}(h:SI lt a₀ κ lo st)(u:Up lt (seg (arrOf st).toList lo n))(hn:1<=n):SI lt a₀ κ (lo+n) (setPending st ((pendingOf st).push (lo,n,0))):=by
 refine⟨h.perm,h.kind,h.fail,?_⟩;show gR lt (arrOf st).toList ((pendingOf st).push (lo,n,0)).toList 0 (lo+n);rw[Array.toList_push];exact gR.app.mpr ⟨lo,h.runs,rfl,hn,u,rfl⟩
end
section
variable{prog:Program}{w:World}{A:Around}{E:xB}{s:Shared}{κ:SortKind}{M:Keyed->Prop}{lt:Keyed->Keyed->Bool}{a₀:xE}
theorem qM{σ α:Type}{Mo:Model}{c:Prop}[Decidable c]{m1 m2:StateT σ Sem α}{Q:α->σ->Prop}{st:σ}(h1:c->wpS Mo A E s m1 Q st)(h2:¬ c->wpS Mo A E s m2 Q st):wpS Mo A E s (if c then m1 else m2) Q st:=by
 by_cases h:c
 ·rw[yB h];exact h1 h
 ·rw[yT h];exact h2 h
theorem Xi{n:Nat}{c:Prop}[Decidable c](hn:¬ n<=1):(if c then n-2-1 else n-2)+1<n:=by split <;> lia
theorem Qs(O:Ord prog w A κ s M lt)(hM:∀x∈a₀.toList,M x){st:SortSt}{Q:Unit->SortSt->Prop}(h1:1<=a₀.size)(hS:SI lt a₀ κ 0 st)
  (h:∀st',(arrOf st').Perm a₀->failedOf st'=none->Up lt (arrOf st').toList->Q () st'):wpS (model prog w) A E s sortRuns' Q st:=by
 unfold sortRuns';refine zS (wpS_get ?_);have sz:=hS.size;refine zS (wpS_mono (wpS_forRange (I:=λx c st'=>∃lo,c=(none,lo)/\x<=lo/\lo<=a₀.size/\SI lt a₀ κ lo st') (Q:=λc st'=>c=(none,a₀.size)/\SI lt a₀ κ a₀.size st') ?_ ?_ ⟨0,rfl,rS _,by lia,hS⟩) ?_)
 ·rintro x c st' _ hx ⟨lo,rfl,h2,h3,hS'⟩;dsimp only;simp only[sz];by_cases c0:lo ≥ a₀.size
  ·rw[yB c0];have:lo=a₀.size:=by lia
   subst this;exact yA ⟨rfl,hS'⟩
  rw[yT c0];have K0:SK a₀ κ (pendingOf st') (λk=>(arrOf st')[k]?) lo st':=⟨hS'.perm,hS'.kind,hS'.fail,rfl,λ_ _=>rfl⟩;have back:∀(st3:SortSt)(n:Nat),lo+n<=a₀.size->SK a₀ κ (pendingOf st') (λk=>(arrOf st')[k]?) lo st3->UpI lt (arrOf st3) lo (lo+n)->SI lt a₀ κ lo st3/\Up lt (seg (arrOf st3).toList lo n):=λst3 n hz K3 u=>by
   have tk:(arrOf st3).toList.take lo=(arrOf st').toList.take lo:=by
    apply List.ext_getElem?
    intro j;rw[List.getElem?_take,List.getElem?_take];by_cases hj:j<lo
    ·rw[yB hj,yB hj,Array.getElem?_toList,Array.getElem?_toList];exact K3.fr j hj
    ·rw[yT hj,yT hj]
   refine⟨⟨K3.perm,K3.kind,K3.fail,?_⟩,Ut (by rw[K3.size];exact hz) u⟩;rw[K3.pend];exact hS'.runs.cg λi n a b=>Mg tk b
  refine zS (Us O hM (nrem:=a₀.size-lo) (by lia) (by lia) K0 λn st2 n1 n2 K2 u2=>?_);dsimp only;refine qM (λc1=>?_) λc1=>?_
  ·refine zS (wpS_lift (wpAny_rule ⟨rfl,?_⟩));refine zS (Ur O hM (by lia) (by lia) K2 u2 λst3 K3 u3'=>?_);rw[if_neg (by simp)];obtain⟨S3,u3⟩:=back st3 _ (by lia) K3 u3'
   generalize hfo:min (a₀.size-lo) _=fo at u3 ⊢
   have f1:1<=fo:=by lia
   have f2:lo+fo<=a₀.size:=by lia
   refine zS (wpS_get ?_);cases hb:(pendingOf st3).back? with
   | none =>
    dsimp only;exact zS (wpS_modify (yA ⟨lo+fo,rfl,by lia,by lia,S3.push u3 (by lia)⟩))
   | some v =>
    obtain⟨s1,n1,q1⟩:=v;dsimp only;refine zS (wpS_mono (wpS_forRange (I:=λ_ c st4=>c=(none,())/\SI lt a₀ κ lo st4/\Up lt (seg (arrOf st4).toList lo fo)) (Q:=λc st4=>c=(none,())/\SI lt a₀ κ lo st4/\Up lt (seg (arrOf st4).toList lo fo)) ?_ (λ_ _ hh=>hh) ⟨rfl,S3,u3⟩) ?_)
    ·rintro y c st4 _ _ ⟨rfl,S4,u4⟩;refine zS (wpS_get ?_);by_cases g:(pendingOf st4).size > 1
     ·rw[yB g];obtain⟨v,hv⟩:∃v,(pendingOf st4)[(pendingOf st4).size-2]?=some v:=⟨_,getElem?_pos _ _ (by lia)⟩;obtain⟨v1,v2,v3⟩:=v;rw[hv];dsimp only;refine qM (λ_=>yA ⟨rfl,S4,u4⟩) λ_=>?_
      refine zS (Ed (i:=(pendingOf st4).size-2) O hM S4 (by lia) (by lia) λst5 S5 _ dp=>?_);rw[if_neg (by simp)];exact yA ⟨rfl,S5,by rw[Ec dp (rS _)];exact u4⟩
     ·rw[yT g];exact yA ⟨rfl,S4,u4⟩
    ·rintro c st4 ⟨rfl,S4,u4⟩;dsimp only;refine zS (wpS_modify (zS (wpS_modify (yA ⟨lo+fo,rfl,by lia,by lia,?_⟩))));exact SI.push (SI.pw S4 ((pendingOf st4).size-1) (λx=>(x.1,x.2.1,_)) λx=>rfl) u4 (by lia)
  ·obtain⟨S3,u3⟩:=back st2 n (by lia) K2 u2;obtain⟨st3,e3⟩:∃st3,st3=st2:=⟨_,rfl⟩;rw[<- e3] at S3 u3 ⊢;refine zS (wpS_get ?_);cases hb:(pendingOf st3).back? with
   | none =>
    dsimp only;exact zS (wpS_modify (yA ⟨lo+n,rfl,by lia,by lia,S3.push u3 (by lia)⟩))
   | some v =>
    obtain⟨s1,n1,q1⟩:=v;dsimp only;refine zS (wpS_mono (wpS_forRange (I:=λ_ c st4=>c=(none,())/\SI lt a₀ κ lo st4/\Up lt (seg (arrOf st4).toList lo n)) (Q:=λc st4=>c=(none,())/\SI lt a₀ κ lo st4/\Up lt (seg (arrOf st4).toList lo n)) ?_ (λ_ _ hh=>hh) ⟨rfl,S3,u3⟩) ?_)
    ·rintro y c st4 _ _ ⟨rfl,S4,u4⟩;refine zS (wpS_get ?_);by_cases g:(pendingOf st4).size > 1
     ·rw[yB g];obtain⟨v,hv⟩:∃v,(pendingOf st4)[(pendingOf st4).size-2]?=some v:=⟨_,getElem?_pos _ _ (by lia)⟩;obtain⟨v1,v2,v3⟩:=v;rw[hv];dsimp only;refine qM (λ_=>yA ⟨rfl,S4,u4⟩) λ_=>?_
      refine zS (Ed (i:=(pendingOf st4).size-2) O hM S4 (by lia) (by lia) λst5 S5 _ dp=>?_);rw[if_neg (by simp)];exact yA ⟨rfl,S5,by rw[Ec dp (rS _)];exact u4⟩
     ·rw[yT g];exact yA ⟨rfl,S4,u4⟩
    ·rintro c st4 ⟨rfl,S4,u4⟩;dsimp only;refine zS (wpS_modify (zS (wpS_modify (yA ⟨lo+n,rfl,by lia,by lia,?_⟩))));exact SI.push (SI.pw S4 ((pendingOf st4).size-1) (λx=>(x.1,x.2.1,_)) λx=>rfl) u4 (by lia)
 ·rintro c st' ⟨lo,rfl,h2,h3,hS'⟩;have:lo=a₀.size:=by
   rw[show max 0 (arrOf st).size=a₀.size by rw[sz];lia] at h2
   lia
  subst this;exact⟨rfl,hS'⟩
 ·rintro c st' ⟨rfl,hS'⟩;dsimp only;have fin:∀st5,SI lt a₀ κ a₀.size st5->(pendingOf st5).size<=1->Q () st5:=λst5 S5 hp=>by
   refine h st5 S5.perm S5.fail ?_;have r:=S5.runs;rw[<- mS] at hp;cases e:(pendingOf st5).toList with
   | nil =>
    rw[e] at r;have r:0=a₀.size:=r
    lia
   | cons z t =>
    rw[e] at hp r;cases t with
    | cons _ _=>simp at hp
    | nil =>
     obtain⟨_,_,u,r2⟩:=r;have r2:0+z.2.1=a₀.size:=r2;have e2:seg (arrOf st5).toList 0 z.2.1=(arrOf st5).toList:=mE (by rw[List.drop_zero,mS,S5.size];lia);rw[e2] at u;exact u
  refine zS (wpS_mono (wpS_forRange (I:=λx c st4=>c=(none,())/\SI lt a₀ κ a₀.size st4/\(pendingOf st4).size+x<=a₀.size) (Q:=λc st4=>c=(none,())/\SI lt a₀ κ a₀.size st4/\(pendingOf st4).size<=1) ?_ ?_ ⟨rfl,hS',?_⟩) ?_)
  ·rintro x c st4 _ hx ⟨rfl,S4,hp⟩;refine zS (wpS_get ?_);refine qM (λc1=>yA ⟨rfl,S4,c1⟩) λc1=>?_
   have c1:¬ (pendingOf st4).size<=1:=c1;refine zS (Ed O hM S4 (rS _) ?hi λst5 S5 hz _=>?_)
   rotate_left
   ·rw[if_neg (by simp)];exact yA ⟨rfl,S5,by lia⟩
   exact Xi c1
  ·rintro c st4 ⟨rfl,S4,hp⟩;refine⟨rfl,S4,?_⟩;rw[show max 0 (arrOf st).size=a₀.size by rw[sz];lia] at hp
   lia
  ·have:=hS'.runs.le;rw[mS] at this
   lia
  ·rintro c st4 ⟨rfl,S4,hp⟩;exact yA (fin st4 S4 hp)
end
end TS
end L2
set_option maxHeartbeats 4000000
namespace L2
open PySem PySem.W PySem.Calls PySem.Spec PyProof.Rows
namespace TS
theorem perm_back{α β:Type}{f:α->β}{l' m:List β}(h:l'.Perm m):∀l:List α,m=l.map f->∃p:List α,p.Perm l/\l'=p.map f:=by
 induction h with
 | nil =>
  intro l e;cases l with
  | nil=>exact⟨[],List.Perm.refl _,rfl⟩
  | cons _ _=>cases e
 | cons x _ ih =>
  intro l e;cases l with
  | nil=>cases e
  | cons a t =>
   have e:=List.cons.inj e;obtain⟨p,h1,h2⟩:=ih t e.2;exact⟨a::p,h1.cons a,by rw[nI,<- h2,e.1]⟩
 | swap x y t =>
  intro l e;cases l with
  | nil=>cases e
  | cons a r =>
   cases r with
   | nil=>cases (List.cons.inj e).2
   | cons b r =>
    have e1:=List.cons.inj e;have e2:=List.cons.inj e1.2;exact⟨b::a::r,List.Perm.swap _ _ _,by rw[nI,nI,e1.1,e2.1,e2.2]⟩
 | trans _ _ ih1 ih2 =>
  intro l e;obtain⟨p,h3,e2⟩:=ih2 l e;obtain⟨q,h4,e3⟩:=ih1 p e2;exact⟨q,h4.trans h3,e3⟩
section
variable{prog:Program}{w:World}{A:Around}{E:xB}{s:Shared}{κ:SortKind}{us vs:xF}{r:Nat->Int}
theorem Uu(hl:us.length=vs.length){i:Nat}(hi:i<us.length):(us.zip vs)[i]?=some (us.getD i Value.none,vs.getD i Value.none):=by
 rw[List.getElem?_zip_eq_some,getD_get hi,getD_get (show i<vs.length by lia)];exact⟨qS hi,qS (by lia)⟩
theorem Aq{Q:SortSt->Shared->Prop}(hl:us.length=vs.length)(h1:1<=vs.length)(ask:∀i j (C:Bool->Shared->Prop),i<us.length->j<us.length->C (decide (r i<r j)) s->kas_ask prog w A κ us i j C s)
  (hw:∀i j,i<us.length->j<us.length->us.getD i Value.none=us.getD j Value.none->r i=r j)
  (h:∀(st':SortSt)(p:List Nat),p.Perm (List.range vs.length)->(p.Pairwise λi j=>r i<=r j)->(arrOf st').map (·.2)=(p.map λi=>vs.getD i Value.none).toArray->failedOf st'=none->Q st' s) :
  wpAny (model prog w) A (sortRuns'.run (SortSt.mk' κ (us.toArray.zip vs.toArray) #[] 7 none)) (λr s'=>Q r.2 s') E s:=by
 classical
 let f:Nat->Keyed:=λi=>(us.getD i Value.none,vs.getD i Value.none)
 have ez:(us.toArray.zip vs.toArray).toList=(List.range vs.length).map f:=by
  rw[Array.toList_zip]
  apply List.ext_getElem?
  intro j;by_cases hj:j<us.length
  ·rw[show us.toArray.toList=us from rfl,show vs.toArray.toList=vs from rfl,Uu hl hj,vE,List.getElem?_range (by lia)]
   rfl
  ·rw[List.getElem?_eq_none (by simp;lia),List.getElem?_eq_none (by simp;lia)]
 have sz:(us.toArray.zip vs.toArray).size=vs.length:=by rw[<- Array.length_toList,ez];simp
 let R:Keyed->Int:=λx=>if hx:∃i,i<vs.length/\f i=x then r hx.choose else 0
 have hR:∀i,i<vs.length->R (f i)=r i:=λi hi=>by
  have hx:∃j,j<vs.length/\f j=f i:=⟨i,hi,rfl⟩;show (if hx:∃j,j<vs.length/\f j=f i then r hx.choose else 0)=r i;rw[dif_pos hx];have:=hx.choose_spec;exact hw _ _ (by lia) (by lia) (gN Prod.fst this.2)
 let M:Keyed->Prop:=λx=>∃i,i<vs.length/\f i=x
 have O:Ord prog w A κ s M (λx y=>decide (R x<R y)):=by
  refine⟨λx _=>by simp,λx y z _ _ _ hh=>?_,λx y _ _ hh=>?_,λx y hx hy=>?_⟩
  ·have:=of_decide_eq_true hh;by_cases c:R x<R y
   ·exact .inl (uB c)
   ·exact .inr (uB (by lia))
  ·have:=of_decide_eq_true hh;exact uA (by lia)
  ·obtain⟨i,hi,rfl⟩:=hx;obtain⟨j,hj,rfl⟩:=hy;rw[hR i hi,hR j hj];exact ask i j _ (by lia) (by lia) ⟨rfl,rfl⟩
 have key:=Qs (E:=E) O (a₀:=us.toArray.zip vs.toArray) (λx hx=>by
  rw[ez] at hx;obtain⟨i,hi,rfl⟩:=qA.mp hx;exact⟨i,by simpa using hi,rfl⟩) (st:=SortSt.mk' κ (us.toArray.zip vs.toArray) #[] 7 none) (Q:=λ_ st'=>Q st' s) (by lia) ⟨Array.Perm.refl _,rfl,rfl,rfl⟩ λst' pm hf up=>?_
 ·exact mM key (λrr s' hh=>by obtain⟨rfl,hq⟩:=hh;exact hq) λ_ _ e=>e
 ·obtain⟨p,hp,ep⟩:=perm_back (f:=f) (Array.perm_iff_toList_perm.mp pm) (List.range vs.length) ez;refine h st' p hp ?_ ?_ hf
  ·rw[ep] at up;refine(List.pairwise_map.mp up).imp_of_mem λ{i j} hi hj hh=>?_
   have li:i<vs.length:=by simpa using hp.mem_iff.mp hi
   have lj:j<vs.length:=by simpa using hp.mem_iff.mp hj
   have hh:decide (R (f j)<R (f i))=false:=hh;rw[hR i li,hR j lj] at hh;have:=of_decide_eq_false hh
   lia
  ·apply Array.toList_inj.mp
   rw[Array.toList_map,ep,List.map_map]
   rfl
end
end TS
end L2
namespace L2
open PySem PySem.W PySem.Calls PySem.Spec PyProof.Rows
section
variable{prog:Program}{w:World}{A:Around}{E:xB}{s:Shared}{h₀:Heap}{L l a D kS:Addr}{m:xC}{news:List (Addr×Obj)}{vs us:xF}{f:Value}{own:List (Addr×Obj)}{ks:xD}
theorem vW{C:Bool->Shared->Prop}{i j:Nat}(hh:∀p∈own,s.heap.get? p.1=some p.2)(tp:F2 (jj own) us ks)(sm:∀w∈ks,w.2<1000000)(hi:i<us.length)(hj:j<us.length)(hC:C (decide (rkP (ks.getD i (0,0))<rkP (ks.getD j (0,0)))) s) :
  kas_ask prog w A (tuples' true) us i j C s:=by
 have hlen:ks.length=us.length:=tp.length_eq.symm;unfold kas_ask;obtain⟨a,o,xs,n,t,u,ev,hm,hc,hd,hx⟩:=nU tp hi;obtain⟨a',o',xs',n',t',u',ev',hm',hc',hd',hx'⟩:=nU tp hj;have hr:=DX (sm _ (getD_mem (d:=(0,0)) (show i<ks.length by lia))) (sm _ (getD_mem (d:=(0,0)) (show j<ks.length by lia)));obtain⟨x,hx0⟩:∃x,x=ks.getD i (0,0):=⟨_,rfl⟩;obtain⟨y,hy0⟩:∃y,y=ks.getD j (0,0):=⟨_,rfl⟩;rw[<- hx0] at hx hr hC;rw[<- hy0] at hx' hr hC;have z1:xs.size=2:=by rw[<- mS,hx];rfl
 have z2:xs'.size=2:=by rw[<- mS,hx'];rfl
 rw[ev,ev'];refine kat_lt (hh _ hm) hd (hh _ hm') hd' ?_;rw[hx,hx'];refine kat_cons (wpAny_eqBool_int ?_);by_cases e1:x.1=y.1
 ·rw[show (((x.1:Nat):Int)==((y.1:Nat):Int))=true by rw[e1];simp];refine kat_yes (kat_cons (wpAny_eqBool_int ?_));by_cases e2:x.2=y.2
  ·rw[show (((x.2:Nat):Int)==((y.2:Nat):Int))=true by rw[e2];simp];refine kat_yes (kat_nil ?_);rw[z1,z2,show decide (2<2)=decide (rkP x<rkP y) from decide_eq_decide.mpr (by rw[hr];lia)];exact hC
  ·rw[show (((x.2:Nat):Int)==((y.2:Nat):Int))=false by rw[beq_eq_false_iff_ne];lia];refine kat_no (kat_one _ _ (lt_int ?_));show C _ _;rw[show decide (((x.2:Nat):Int)<((y.2:Nat):Int))=decide (rkP x<rkP y) from decide_eq_decide.mpr (by rw[hr];lia)];exact hC
 ·rw[show (((x.1:Nat):Int)==((y.1:Nat):Int))=false by rw[beq_eq_false_iff_ne];lia];refine kat_no (oneLt_int ?_);rw[show decide (((x.1:Nat):Int)<((y.1:Nat):Int))=decide (rkP x<rkP y) from decide_eq_decide.mpr (by rw[hr];lia)];exact hC
theorem vX{h:Heap}(hh:∀p∈own,h.get? p.1=some p.2)(tp:F2 (jj own) us ks){i j:Nat}(hi:i<us.length)(hj:j<us.length)(e:us.getD i Value.none=us.getD j Value.none):rkP (ks.getD i (0,0))=rkP (ks.getD j (0,0)):=by
 obtain⟨a,o,xs,n,t,u,ev,hm,hc,hd,hx⟩:=nU tp hi;obtain⟨a',o',xs',n',t',u',ev',hm',hc',hd',hx'⟩:=nU tp hj;rw[ev,ev'] at e;cases e;have e3:=hh _ hm;rw[hh _ hm'] at e3;cases e3;rw[hd'] at hd;cases hd;rw[hx'] at hx;have g1:=List.cons.inj hx;have g2:=List.cons.inj g1.2;injection g1.1 with g3 _
 injection g2.1 with g4 _
 unfold rkP
 lia
theorem Gn{p:List Nat}{n:Nat}(hlen:ks.length=n)(nd:ks.Nodup)(sm:∀w∈ks,w.2<1000000)(pp:p.Perm (List.range n))(up:p.Pairwise λi j=>rkP (ks.getD i (0,0))<=rkP (ks.getD j (0,0))):p.Pairwise λi j=>rkP (ks.getD i (0,0))<rkP (ks.getD j (0,0)):=by
 have ndp:p.Nodup:=pp.nodup_iff.mpr List.nodup_range;refine(up.and ndp).imp_of_mem λ{i j} hi hj z=>?_
 have li:i<ks.length:=by rw[hlen];simpa using pp.mem_iff.mp hi
 have lj:j<ks.length:=by rw[hlen];simpa using pp.mem_iff.mp hj
 have ne2:rkP (ks.getD i (0,0))≠rkP (ks.getD j (0,0)):=λe=>by
  have:=yD (sm _ (getD_mem li)) (sm _ (getD_mem lj)) e;rw[getD_get li,getD_get lj] at this;exact z.2 ((List.getElem_inj nd).mp this)
 have:=z.1
 lia
theorem tail_any{st:SortSt}{e e1:Nat}{out:xF}{P:PySem.Fin->Shared->Prop}(hout:(arrOf st).map (·.2)=out.toArray)(hz:out.length<=1000)(hu:us.length<=1000)(hf:failedOf st=none)
  (h:KatFin h₀ L m kS a us e e1 out (λs'=>P (.done (.ret .none)) s') s):wpAny (model prog w) A (ksk_tail a false e1 (.ref kS) st) P E s:=by
 obtain⟨nw,g,F',N',U,k⟩:=h;obtain⟨pre,post,rfl,hg,x1,x2⟩:=U.split;have nk:=N' (kS,seqObj "list" us.toArray e) (rX _ zC);have sb:=Heap.SameBut.update s.heap kS (Obj.mapSeq λ_=>(#[]:xI));obtain⟨ck,hck⟩:∃ck,(s.heap.update kS (Obj.mapSeq λ_=>(#[]:xI))).get? kS=some (seqObj "list" #[] ck):=⟨_,get?_update_seq nk.1 λ_=>#[]⟩;obtain⟨nw2,g2,F2,N2,U2,k2⟩:=k _ ck (kas_fr F' sb nk.2.1 nk.2.2) (by rw[hg];exact news_set N' x1 x2 sb hck);obtain⟨pre2,post2,rfl,hg2,y1,y2⟩:=U2.split;have na:=N2 (a,seqObj "list" #[] e1) (rX _ zC)
 generalize hw:s.heap.update kS (Obj.mapSeq λ_=>(#[]:xI))=w1 at *
 have sb2:=Heap.SameBut.update w1 a (Obj.mapSeq λ_=>out.toArray);obtain⟨c2,hc2⟩:∃c2,(w1.update a (Obj.mapSeq λ_=>out.toArray)).get? a=some (seqObj "list" out.toArray c2):=⟨_,get?_update_seq na.1 λ_=>out.toArray⟩;have z1:us.toArray.size<=sizeLine:=by rw[nX,sizeLine_eq];lia
 have z2:out.toArray.size<=sizeLine:=by rw[nX,sizeLine_eq];lia
 unfold ksk_tail;simp only[Bool.false_eq_true,if_false];rw[hout];refine zI (listUpdate_at nk.1 rfl ?_ z1 (Nat.zero_le _));rw[hw];refine zI (wpAny_letGo (zI (seqEpoch_at na.1 rfl (zI (listUpdate_at na.1 rfl ?_ (Nat.zero_le _) (Nat.le_succ_of_le z2))))));rw[hf];simp only[bne_self_eq_false,Bool.false_eq_true,if_false];exact oB (k2 _ c2 (kas_fr F2 sb2 na.2.1 na.2.2) (by rw[hg2];exact news_set N2 y1 y2 sb2 hc2))
theorem Qt{e e1:Nat}{P:PySem.Fin->Shared->Prop}{κ:SortKind}{r:Nat->Int}(hl:us.length=vs.length)(h2:2<=vs.length)(hz:vs.length<=1000)(hk:wpAny (model prog w) A (keyKind' us.toArray) (λk s'=>k=κ/\s'=s) (λ_ _=>False) s)
  (ask:∀i j (C:Bool->Shared->Prop),i<us.length->j<us.length->C (decide (r i<r j)) s->kas_ask prog w A κ us i j C s) (hw:∀i j,i<us.length->j<us.length->us.getD i Value.none=us.getD j Value.none->r i=r j)
  (h:∀p:List Nat,p.Perm (List.range vs.length)->(p.Pairwise λi j=>r i<=r j)->KatFin h₀ L m kS a us e e1 (p.map λi=>vs.getD i Value.none) (λs'=>P (.done (.ret .none)) s') s) :
  wpAny (model prog w) A (ksk_end a false vs.toArray e1 (.ref kS) us.toArray) P E s:=by
 have hn:¬ vs.toArray.size<2:=by rw[nX];lia
 unfold ksk_end;dsimp only;simp only[Bool.false_eq_true,if_false];rw[yT hn,yT hn];refine zI (mM hk (λk s' hh=>?_) λ_ _ x=>x.elim);obtain⟨rfl,rfl⟩:=hh;refine zI (mM (TS.Aq (Q:=λst' s''=>s''=s'/\∃p:List Nat,p.Perm (List.range vs.length)/\(p.Pairwise λi j=>r i<=r j)/\(arrOf st').map (·.2)=(p.map λi=>vs.getD i Value.none).toArray/\failedOf st'=none) hl (by lia) ask hw λst' p a1 a2 a3 a4=>⟨rfl,p,a1,a2,a3,a4⟩) (λz s'' hz'=>?_) λ_ _ x=>x);obtain⟨⟨⟩,st'⟩:=z;obtain⟨rfl,p,a1,a2,a3,a4⟩:=hz';exact tail_any a3 (by rw[wS,a1.length_eq,List.length_range];exact hz) (by lia) a4 (h p a1 a2)
theorem fold_any{Fin:List Value->Nat->Shared->Prop}{body:Value->PUnit->Sem (ForInStep PUnit)}
  (hb:∀x ks e (s:Shared) (C:Value->Nat->Shared->Prop),List.length ks<=999->wpAny (model prog w) A (call f [x]) (KatBack h₀ L m kS ks e C) (λ_ _=>False) s ->
   wpAny (model prog w) A (body x ⟨⟩) (λr s'=>r=.yield ⟨⟩/\∃k c,s'.heap.get? kS=some (seqObj "list" (ks++[k]).toArray c)/\C k c s') E s):∀(r ks:xF)(e:Nat)(s:Shared),ks.length+r.length<=1000 ->
   s.heap.get? kS=some (seqObj "list" ks.toArray e)->KatKeys prog w A h₀ L m kS f Fin r ks e s ->
   wpAny (model prog w) A (forIn r PUnit.unit body) (λ_ s'=>∃zs e,s'.heap.get? kS=some (seqObj "list" zs.toArray e)/\zs.length=ks.length+r.length/\Fin zs e s') E s:=by
 intro r
 induction r with
 | nil =>
  intro ks e s hl hk h;rw[List.forIn_nil];exact oB ⟨ks,e,hk,rfl,h⟩
 | cons x r ih =>
  intro ks e s hl hk h;rw[zzD] at hl;rw[List.forIn_cons];refine zI (mM (hb x ks e s (λk c s'=>KatKeys prog w A h₀ L m kS f Fin r (ks++[k]) c s') (by lia) h) (λq s' hq=>?_) λ_ _ z=>z);obtain⟨rfl,k,c,hk',h2⟩:=hq;refine mM (ih (ks++[k]) c s' (by rw[yY,List.length_singleton];lia) hk' h2) (λ_ s'' hd=>?_) λ_ _ z=>z
  obtain⟨zs,e',g1,g2,g3⟩:=hd;exact⟨zs,e',g1,by rw[g2,yY,List.length_singleton,zzD];lia,g3⟩
theorem Mp{e1:Nat}{P:PySem.Fin->Shared->Prop}(hk:s.heap.get? kS=some (seqObj "list" #[] 0))(hz:vs.length<=1000)
  (h:KatKeys prog w A h₀ L m kS f (λus e s'=>us.length=vs.length->wpAny (model prog w) A (ksk_end a false vs.toArray e1 (.ref kS) us.toArray) P E s') vs [] 0 s):wpAny (model prog w) A (ksk_rest a f false vs.toArray e1 (.ref kS)) P E s:=by
 unfold ksk_rest;refine zI (wpAny_rule ?_);rw[List.forIn_toArray];refine zI (mM (fold_any (λx ks e s' C hz hx=>?_) vs [] 0 s (by rw[List.length_nil];lia) hk h) (λ_ s' hd=>?_) λ_ _ x=>x)
 ·refine zI (wpAny_attempt (mM hx (λk s'' hk=>?_) λ_ _ hF=>hF.elim));obtain⟨nw,g,F',N',U,c⟩:=hk;obtain⟨pre,post,rfl,hg,x1,x2⟩:=U.split;have nk:=N' (kS,seqObj "list" ks.toArray e) (rX _ zC);have sb:=Heap.SameBut.update s''.heap kS (Obj.mapSeq (·.push k));have ea:ks.toArray.push k=(ks++[k]).toArray:=by simp
  obtain⟨c2,hc2⟩:∃c2,(s''.heap.update kS (Obj.mapSeq (·.push k))).get? kS=some (seqObj "list" (ks++[k]).toArray c2):=⟨_,by rw[<- ea];exact get?_update_seq nk.1 (·.push k)⟩;have z1:ks.toArray.size<=sizeLine:=by rw[nX,sizeLine_eq];lia
  have z2:(ks.toArray.push k).size<=sizeLine:=by rw[Array.size_push,nX,sizeLine_eq];lia
  dsimp only;refine zI (listUpdate_at nk.1 rfl ?_ z1 (Nat.le_succ_of_le z2));exact oB ⟨rfl,k,c2,hc2,c _ c2 (kas_fr F' sb nk.2.1 nk.2.2) (by rw[hg];exact news_set N' x1 x2 sb hc2)⟩
 ·obtain⟨zs,e,hk',hl,fin⟩:=hd;rw[List.length_nil,Nat.zero_add] at hl;exact zI (listItems_at hk' rfl (fin hl))
theorem Mq{n:Nat}{P:PySem.Fin->Shared->Prop}(F:Fr h₀ L s.heap m)(N:News h₀ L s.heap news)(ho:s.heap.get? a=some (seqObj "list" vs.toArray n))(haL:a≠L)(ha0:h₀.get? a=none)(hna:∀p∈news,p.1≠a)(hz:vs.length<=1000)
  (h:∀kS e1 h',Fr h₀ L h' m->News h₀ L h' ((kS,seqObj "list" #[] 0)::(a,seqObj "list" #[] e1)::news)->a<kS->(∀q∈news,q.1<kS)->KatKeys prog w A h₀ L m kS f (λus e s'=>us.length=vs.length->wpAny (model prog w) A (ksk_end a false vs.toArray e1 (.ref kS) us.toArray) P E s') vs [] 0 { s with heap:=h' }) :
  wpAny (model prog w) A (ksk_tree a f false) P E s:=by
 have s1:=Heap.SameBut.update s.heap a (Obj.mapSeq λ_=>(#[]:xI));obtain⟨e1,ho1⟩:∃e1,(s.heap.update a (Obj.mapSeq λ_=>(#[]:xI))).get? a=some (seqObj "list" #[] e1):=⟨_,get?_update_seq ho λ_=>#[]⟩;have F1:=kas_fr F s1 haL ha0;have N1:=kas_news N s1 hna;unfold ksk_tree;refine zI (listItems_at ho rfl (zI (listUpdate_at ho rfl ?_ (by rw[nX,sizeLine_eq];lia) (Nat.zero_le _))))
 generalize hg:s.heap.update a (Obj.mapSeq λ_=>(#[]:xI))=g at *
 refine zI (seqEpoch_at ho1 rfl (zI (wpAny_newTuple (zI (wpAny_newList (mI ?_) (Nat.zero_le _))) (by show vs.length<=_;rw[sizeLine_eq];lia))))
 generalize hp:g.push (seqObj "tuple" vs.toArray 0)=g2
 have sz2:g2.objs.size=g.objs.size+1:=by rw[<- hp,size_push']
 have up:∀b o,g.get? b=some o->(g2.push (seqObj "list" #[] 0)).get? b=some o:=λb o e=>uS _ (by rw[<- hp];exact uS _ e)
 have la:a<g2.objs.size:=by rw[sz2];exact nV (uC ho1)
 have lN:∀q∈news,q.1<g2.objs.size:=λq hq=>by rw[sz2];exact nV (uC (N1 q hq).1)
 have lL:L<g2.objs.size:=by rw[sz2];exact nV F1.ns.lt
 have F3:Fr h₀ L (g2.push (seqObj "list" #[] 0)) m:=by rw[<- hp];exact(F1.push _).push _
 have hk:(g2.push (seqObj "list" #[] 0)).get? g2.objs.size=some (seqObj "list" #[] 0):=oS _ rfl;show wpAny (model prog w) A _ P E { s with heap:=g2.push (seqObj "list" #[] 0) }
 refine Mp (s:={ s with heap:=g2.push (seqObj "list" #[] 0) }) (kS:=g2.objs.size) hk hz (h _ e1 _ F3 (λp hp'=>?_) la lN)
 rcases jS.mp hp' with rfl|hp'
 ·exact⟨hk,Nat.ne_of_gt lL,Heap.get?_none_of_le (oC F.above (zzE lL))⟩
 ·rcases jS.mp hp' with rfl|hp'
  ·exact⟨up _ _ ho1,haL,ha0⟩
  ·exact⟨up _ _ (N1 p hp').1,(N1 p hp').2⟩
theorem Ar{q:Addr}{Q:xB}(F:Fr h₀ L s.heap m)(N:News h₀ L s.heap news)(hl:s.heap.IsList l vs.toArray)(hz:vs.length<=1000)
  (h:∀D kS e1 h' (P:PySem.Fin->Shared->Prop) (E:xB),(∀s4,Q (.ref D) s4->P (.done (.ret .none)) s4)->Fr h₀ L h' m->News h₀ L h' ((kS,seqObj "list" #[] 0)::(D,seqObj "list" #[] e1)::news)->D<kS->(∀q∈news,q.1<D)->KatKeys prog w A.in1.in1 h₀ L m kS (.ref q) (λus e s'=>us.length=vs.length->wpAny (model prog w) A.in1.in1 (ksk_end D false vs.toArray e1 (.ref kS) us.toArray) P E s') vs [] 0 { s with heap:=h' }) :
  wpAny (model prog w) A (call (.builtin "sorted") [.ref l] [(Str.ofString "key", .ref q)]) Q E s:=by
 refine call_function_entry_kw kind_sorted plain_sorted entry_sorted (ksk_s1 _ _) ?_;unfold Builtin.«sorted»;refine zI (m:=checkCount "sorted" 1 1 _) (oB (zI (collect_list hl ?_ (by rw[sizeLine_eq];lia))));refine zI (wpAny_newList ?_ (by rw[sizeLine_eq];lia))
 generalize eh:((s.heap.push (seqObj "list" #[] 0)).update s.heap.objs.size (Obj.mapSeq (·++vs.toArray)))=hp
 have hsz:hp.objs.size=s.heap.objs.size+1:=by rw[<- eh,Heap.size_update,size_push']
 have keep:∀b o,s.heap.get? b=some o->(hp.push (seqObj "list" vs.toArray 0)).get? b=some o:=λb o q=>by
  have hlt:b<s.heap.objs.size:=uC q;rw[zzG _ _ _ (by rw[hsz];exact gE (nV hlt)),<- eh,zzF _ _ _ _ (gE hlt),zzG _ _ _ (gE hlt)];exact q
 have hoL:(hp.push (seqObj "list" vs.toArray 0)).get? hp.objs.size=some (seqObj "list" vs.toArray 0):=oS _ rfl;have up1:∀{b:Addr},b<s.heap.objs.size->b<hp.objs.size:=λh=>by rw[hsz];exact nV h
 have hL:L<hp.objs.size:=up1 F.ns.lt;show wpAny _ _ _ _ _ { s with heap:=hp.push (seqObj "list" vs.toArray 0) }
 refine zI (mI (wpAny_call_entry_kw slot_list_sort ⟨_,hoL,rfl⟩ entry_list_sort ?body (ksk_l1 _ _)))
 case body =>
  show wpAny (model prog w) A.in1.in1 (Builtin.«list.sort» ⟨[.ref hp.objs.size],[(Str.ofString "key", .ref q)]⟩) _ _ _;rw[ksk_t1];refine Mq (s:={ s with heap:=hp.push (seqObj "list" vs.toArray 0) }) (F.kept keep) (N.grown keep) hoL (Nat.ne_of_gt hL) (Heap.get?_none_of_le (oC F.above (zzE hL))) (λp hp'=>gE (up1 (uC (N p hp').1))) hz λkS e1 h' F' N' l0 l1=>?_
  exact h _ kS e1 h' _ _ (λs4 hq=>⟨_,rfl,oB ⟨_,rfl,hq⟩⟩) F' N' l0 λq hq=>up1 (uC (N q hq).1)
theorem sO{h:Heap}(hs:s.heap=h)(hh:∀p∈own,h.get? p.1=some p.2)(tp:F2 (jj own) us ks)(h0:0<us.length):wpAny (model prog w) A (keyKind' us.toArray) (λk s'=>k=tuples' true/\s'=s) (λ_ _=>False) s:=by
 subst hs;obtain⟨fs,kt,fl,Ls⟩:=qJ hh tp;refine kat_kind (T:=.type "int") kt (by lia) (λv hv=>?_) rfl ⟨rfl,rfl⟩;obtain⟨z,t,rfl⟩:=Ls v hv;exact Looks.of_pure rfl
theorem uW{q:Addr}{ks:xD}{Q:xB}(F:Fr h₀ L s.heap m)(N:News h₀ L s.heap news)(hl:s.heap.IsList l vs.toArray)(hz:vs.length<=1000)(tt:F2 (λv k=>nW prog w A.in1.in1 news (.ref q) v k s) vs ks)(nd:ks.Nodup)(sm:∀w∈ks,w.2<1000000)
  (k:∀D (p:List Nat) c h' tk,Fr h₀ L h' m->News h₀ L h' ((D,seqObj "list" (p.map (λi=>vs.getD i Value.none)).toArray c)::news)->(∀q∈news,q.1<D)->p.Perm (List.range vs.length)->(p.Pairwise λi j=>rkP (ks.getD i (0,0))<rkP (ks.getD j (0,0)))->Q (.ref D) { s with heap:=h',toks:=tk }) :
  wpAny (model prog w) A (call (.builtin "sorted") [.ref l] [(Str.ofString "key", .ref q)]) Q E s:=by
 by_cases h64:vs.length<64
 ·exact yF F N hl h64 tt nd sm k
 have hlen:ks.length=vs.length:=tt.length_eq.symm;refine Ar F N hl hz λD kS e1 h' P E' hP F' N' l0 l1=>?_
 have nN:∀p∈news,p.1≠kS:=λp hp=>gE (Nat.lt_trans (l1 p hp) l0)
 refine qK (KS:=ks) (s:=s) (gE l0) nN (λown us kd e h tk F2 N2 n1 n2 g ek ul=>?_) vs ks [] [] [] 0 h' s.toks tt rfl F' N' (λ_ hp=>nomatch hp) (λ_ hp=>nomatch hp) .nil;subst ek;have hh:∀p∈own,h.get? p.1=some p.2:=λp hp=>(N2 p (zD _ (zD _ (mN _ hp)))).1
 refine Qt (h₀:=h₀) (L:=L) (m:=m) (e:=e) (s:={ s with heap:=h,toks:=tk }) (r:=λi=>rkP (kd.getD i (0,0))) (κ:=tuples' true) ul (by lia) hz (sO (s:={ s with heap:=h,toks:=tk }) rfl hh g (by lia)) (λi j C hi hj hC=>vW (s:={ s with heap:=h,toks:=tk }) hh g sm hi hj hC) (λi j hi hj e=>vX hh g hi hj e) λp pp up=>?_
 refine KatFin.intro (s:={ s with heap:=h,toks:=tk }) F2 N2 (UpdF.head λp hp=>?_) λh3 c F3 N3=>?_
 ·rcases jS.mp hp with rfl|hp
  ·exact gE l0
  ·exact(wT.mp hp).elim (n1 p) (nN p)
 ·refine KasFin.intro (s:={ s with heap:=h3,toks:=tk }) F3 N3 (UpdF.tail (Nat.ne_of_gt l0) (UpdF.head λp hp=>(wT.mp hp).elim (n2 p) λz=>gE (l1 p z))) λh4 c4 F4 N4=>?_
  refine hP _ (k D p c4 h4 tk F4 (λp hp=>?_) l1 pp (Gn hlen nd sm pp up));rcases jS.mp hp with rfl|hp
  ·exact N4 _ (zD _ zC)
  ·exact N4 p (zD _ (zD _ (rX _ hp)))
theorem Mr{n:Nat}{P:PySem.Fin->Shared->Prop}(F:Fr h₀ L s.heap m)(N:News h₀ L s.heap news)(ho:s.heap.get? a=some (seqObj "list" vs.toArray n))(haL:a≠L)(ha0:h₀.get? a=none)(hna:∀p∈news,p.1≠a)(h2:2<=vs.length)(hz:vs.length<=1000)(tp:F2 (jj news) vs ks)(sm:∀w∈ks,w.2<1000000)
  (k:∀(p:List Nat) h' c,Fr h₀ L h' m->News h₀ L h' ((a,seqObj "list" (p.map λi=>vs.getD i Value.none).toArray c)::news)->p.Perm (List.range vs.length)->(p.Pairwise λi j=>rkP (ks.getD i (0,0))<=rkP (ks.getD j (0,0)))->P (.done (.ret .none)) { s with heap:=h' }) :
  wpAny (model prog w) A (Builtin.«list.sort» ⟨[.ref a],[]⟩) P E s:=by
 have s1:=Heap.SameBut.update s.heap a (Obj.mapSeq λ_=>(#[]:xI));obtain⟨e1,ho1⟩:∃e1,(s.heap.update a (Obj.mapSeq λ_=>(#[]:xI))).get? a=some (seqObj "list" #[] e1):=⟨_,get?_update_seq ho λ_=>#[]⟩;rw[list_sort_plain];refine zI (listItems_at ho rfl (zI (listUpdate_at ho rfl ?_ (by rw[nX,sizeLine_eq];lia) (Nat.zero_le _))));refine zI (seqEpoch_at ho1 rfl (zI (wpAny_newTuple ?_ (by show vs.length<=_;rw[sizeLine_eq];lia))));refine zI (wpAny_newList (mI ?_) (Nat.zero_le _))
 generalize eh:((s.heap.update a (Obj.mapSeq λ_=>(#[]:xI))).push (seqObj "tuple" vs.toArray 0)).push (seqObj "list" #[] 0)=hp
 have up:∀b o,(s.heap.update a (Obj.mapSeq λ_=>(#[]:xI))).get? b=some o->hp.get? b=some o:=λb o e=>by rw[<- eh];exact uS _ (uS _ e)
 have F3:Fr h₀ L hp m:=by rw[<- eh];exact((kas_fr F s1 haL ha0).push _).push _
 have N3:News h₀ L hp news:=(kas_news N s1 hna).grown up;have ho3:hp.get? a=some (seqObj "list" #[] e1):=up _ _ ho1;show wpAny (model prog w) A _ P E { s with heap:=hp }
 dsimp only;have hn2:¬ vs.toArray.size<2:=by rw[nX];lia
 rw[yT hn2,yT hn2];have hh:∀p∈news,hp.get? p.1=some p.2:=λp hp'=>(N3 p hp').1
 refine zI (mM (sO (s:={ s with heap:=hp }) rfl hh tp (by lia)) (λkd s' hd=>?_) λ_ _ x=>x.elim)
 obtain⟨rfl,rfl⟩:=hd;refine zI (mM (TS.Aq (s:={ s with heap:=hp }) (r:=λi=>rkP (ks.getD i (0,0))) (Q:=λst' s''=>s''={ s with heap:=hp }/\∃p:List Nat,p.Perm (List.range vs.length)/\(p.Pairwise λi j=>rkP (ks.getD i (0,0))<=rkP (ks.getD j (0,0)))/\(arrOf st').map (·.2)=(p.map λi=>vs.getD i Value.none).toArray/\failedOf st'=none) rfl (by lia) (λi j C hi hj hC=>vW (s:={ s with heap:=hp }) hh tp sm hi hj hC) (λi j hi hj e=>vX hh tp hi hj e) λst' p a1 a2 a3 a4=>⟨rfl,p,a1,a2,a3,a4⟩) (λz s'' hz'=>?_) λ_ _ x=>x)
 obtain⟨⟨⟩,st'⟩:=z;obtain⟨rfl,p,pp,up',a3,a4⟩:=hz';dsimp only;rw[a3];obtain⟨out,hout⟩:∃out,out=p.map λi=>vs.getD i Value.none:=⟨_,rfl⟩
 rw[<- hout];have ol:out.length=vs.length:=by rw[hout,wS,pp.length_eq,List.length_range]
 have s2:=Heap.SameBut.update hp a (Obj.mapSeq λ_=>out.toArray);obtain⟨c2,hc2⟩:∃c2,(hp.update a (Obj.mapSeq λ_=>out.toArray)).get? a=some (seqObj "list" out.toArray c2):=⟨_,get?_update_seq ho3 λ_=>out.toArray⟩;refine zI (seqEpoch_at ho3 rfl (zI (listUpdate_at ho3 rfl ?_ (Nat.zero_le _) (by rw[nX,sizeLine_eq];lia))));rw[a4];simp only[bne_self_eq_false,Bool.false_eq_true,if_false];refine oB (k p _ c2 (kas_fr F3 s2 haL ha0) (λq hp'=>?_) pp up');rw[<- hout] at hp';rcases jS.mp hp' with rfl|hp'
 ·exact⟨hc2,haL,ha0⟩
 ·exact kas_news N3 s2 hna q hp'
theorem uX{ks:xD}{Q:xB}(F:Fr h₀ L s.heap m)(N:News h₀ L s.heap news)(hl:s.heap.IsList l vs.toArray)(hz:vs.length<=1000)(tp:F2 (jj news) vs ks)(nd:ks.Nodup)(sm:∀w∈ks,w.2<1000000)
  (k:∀D (p:List Nat) c h',Fr h₀ L h' m->News h₀ L h' ((D,seqObj "list" (p.map (λi=>vs.getD i Value.none)).toArray c)::news)->(∀q∈news,q.1<D)->p.Perm (List.range vs.length)->(p.Pairwise λi j=>rkP (ks.getD i (0,0))<rkP (ks.getD j (0,0)))->Q (.ref D) { s with heap:=h' }) :
  wpAny (model prog w) A (call (.builtin "sorted") [.ref l]) Q E s:=by
 by_cases h64:vs.length<64
 ·exact yE F N hl h64 tp nd sm k
 have h2:2<=vs.length:=by lia
 refine Calls.call_function_entry kind_sorted plain_sorted entry_sorted (args_sorted1 _) ?_;unfold Builtin.«sorted»;refine zI (m:=checkCount "sorted" 1 1 _) (oB (zI (collect_list hl ?_ (by rw[sizeLine_eq];lia))));refine zI (wpAny_newList ?_ (by rw[sizeLine_eq];lia))
 generalize eh:((s.heap.push (seqObj "list" #[] 0)).update s.heap.objs.size (Obj.mapSeq (·++vs.toArray)))=hp
 have hsz:hp.objs.size=s.heap.objs.size+1:=by rw[<- eh,Heap.size_update,size_push']
 have keep:∀b o,s.heap.get? b=some o->(hp.push (seqObj "list" vs.toArray 0)).get? b=some o:=λb o q=>by
  have hlt:b<s.heap.objs.size:=uC q;rw[zzG _ _ _ (by rw[hsz];exact gE (nV hlt)),<- eh,zzF _ _ _ _ (gE hlt),zzG _ _ _ (gE hlt)];exact q
 have hoL:(hp.push (seqObj "list" vs.toArray 0)).get? hp.objs.size=some (seqObj "list" vs.toArray 0):=oS _ rfl;have up1:∀{b:Addr},b<s.heap.objs.size->b<hp.objs.size:=λh=>by rw[hsz];exact nV h
 have hL:L<hp.objs.size:=up1 F.ns.lt;show wpAny _ _ _ _ _ { s with heap:=hp.push (seqObj "list" vs.toArray 0) }
 refine zI (mI (wpAny_call_entry slot_list_sort ⟨_,hoL,rfl⟩ entry_list_sort ?body (args_list_sort _)))
 case body =>
  refine Mr (s:={ s with heap:=hp.push (seqObj "list" vs.toArray 0) }) (F.kept keep) (N.grown keep) hoL (Nat.ne_of_gt hL) (Heap.get?_none_of_le (oC F.above (zzE hL))) (λp hp'=>gE (up1 (uC (N p hp').1))) h2 hz tp sm λp h' c F' N' pp up=>?_
  exact⟨_,rfl,oB ⟨_,rfl,k _ p c h' F' N' (λq hq=>up1 (uC (N q hq).1)) pp (Gn tp.length_eq.symm nd sm pp up)⟩⟩
end
end L2
namespace L2
open PySem PySem.W PySem.Calls PySem.Spec PyProof.Rows PySem.SeqAt
def Gp(K:W.Frag):List V->Hp->VK->Prop:=λvs H Q=>∃(l:Addr)(xs:List V)(ws:xD),vs=[.ref l]/\SqL K H l xs/\aB H xs (au ws)/\(ws.length<=1000/\ws.Nodup/\∀w∈ws,w.2<1000000)/\∀qs:List (Nat×Nat),qs.Perm ws/\Lw qs->∀D zs H',New H H' D (.lst zs)->aB H' zs (au qs)->Q (.ref D) H'
theorem qg{X:Cx}:gV X (.builtin "sorted") (Gp X.K):=by
 intro pins s σ H vs us Q I rv h;obtain⟨l,xs,ws,rfl,hq,tp,⟨Av,nd,sm⟩,q⟩:=h;obtain⟨u,rfl,r⟩:=vals1 rv;cases r;obtain⟨its,rv,p,hz⟩:=I.list hq;obtain⟨m,hm,_⟩:=id I.loc;have hlen:its.length=xs.length:=rv.length.symm;have hw:xs.length=ws.length:=by rw[tp.1,aA]
 have nL:∀{b:Addr} {u:HO},H b=some u->b≠X.env.locals:=λ{b u} e z=>by rw[z,I.free] at e;cases e
 have refs:∀v∈xs,∃q,v=V.ref q:=λv hv=>by
  obtain⟨i,hi,e⟩:=List.getElem_of_mem hv;obtain⟨r,q,_,e2,_⟩:=gA tp (i:=i) (v:=v) (by rw[<- e];simp);exact⟨q,e2⟩
 obtain⟨xb,ub⟩:=o9 rv refs;have F0:Fr { objs:=#[] } X.env.locals s.heap m:=⟨hm,λb o e=>by
  have e:Heap.get? { objs:=#[] } b=some o:=e;simp[Heap.get?] at e,Nat.zero_le _⟩
 have N0:News { objs:=#[] } X.env.locals s.heap (jY s.heap X.env.locals):=λp hp=>⟨(lg hp).1,(lg hp).2,rfl⟩
 have f2:F2 (jj (jY s.heap X.env.locals)) its ws:=Lr (by lia) λi v c hv hc=>by
  have hx:xs[i]?=some (iI v):=by rw[xb,vE,hv];rfl
  obtain⟨r,q,e1,e2,e3⟩:=gA tp hx;obtain⟨q',rfl⟩:=ub v (wE hv);cases e2;unfold au at e1;rw[vE,hc] at e1;cases e1;obtain⟨_,its2,rv2,ob,et,ec,n2,ed⟩:=I.hok _ _ e3;rcases rv2 with _|⟨⟨tk,rfl⟩,_|⟨⟨tk2,rfl⟩,_|_⟩⟩;exact⟨_,ob,_,n2,tk,tk2,rfl,gk et (nL e3),ec,ed,rfl⟩
 refine uX F0 N0 p.isList (by lia) f2 nd sm λD ps c h' F N hD pp up=>?_
 have hn:s.heap.get? D=none:=by
  cases e:s.heap.get? D with
  | none=>rfl
  | some o =>
   have:=hD (D,o) (gk e (N (D,seqObj "list" _ c) zC).2.1);exact gS this (gI _)
 have hn2:H D=none:=by
  cases e:H D with
  | none=>rfl
  | some u =>
   obtain⟨ob,e2⟩:=(I.hok D u e).is;rw[hn] at e2;cases e2
 have plt:∀i∈ps,i<its.length:=λi hi=>by simpa using pp.mem_iff.mp hi
 have hin:∀u∈ps.map (λi=>its.getD i Value.none),∃q,u=Value.ref q:=λu hu=>by
  obtain⟨i,hi,rfl⟩:=qA.mp hu;exact ub _ (getD_mem (plt i hi))
 have eb:(ps.map λi=>its.getD i Value.none).map iI=ps.map λi=>xs.getD i .non:=by
  rw[List.map_map];refine List.map_congr_left λi hi=>?_
  have:=plt i hi;show iI (its.getD i .none)=xs.getD i .non;rw[xb,nB,nB,vE,qS this]
  rfl
 have lo:ps.length=xs.length:=by rw[pp.length_eq,List.length_range,hlen]
 have nw:New H (upd H D (.lst ((ps.map λi=>its.getD i Value.none).map iI))) D (.lst ((ps.map λi=>its.getD i Value.none).map iI)):=New.mk' hn2;refine⟨.ref D,upd H D (.lst ((ps.map λi=>its.getD i Value.none).map iI)),I.RP (t':=s.toks) (λb u n e=>(N (b,u) (zD _ (gk e n))).1) hm F.ns hn ?_,rfl,q (ps.map λi=>ws.getD i (0,0)) ⟨?_,List.pairwise_map.mpr up⟩ D _ _ nw ?_⟩
 ·refine⟨by rw[wS,wS,lo];exact hz,_,c,o_ hin,?_⟩;exact(N (D,seqObj "list" _ c) zC).1
 ·have:=pp.map λi=>ws.getD i (0,0)
  rw[show its.length=ws.length by lia,fQ] at this;exact this
 ·rw[eb];refine⟨by rw[wS,aA,wS],λj r e=>?_⟩;unfold au at e;rw[List.map_map,vE] at e;cases e0:ps[j]? with
  | none=>rw[e0] at e;cases e
  | some i =>
   rw[e0] at e;have hi:=plt i (wE e0);have hx:xs[i]?=some (xs.getD i .non):=by rw[getD_get (show i<xs.length by lia)];simp
   obtain⟨r2,q2,g1,g2,g3⟩:=gA tp hx;unfold au at g1;rw[vE,qS (show i<ws.length by lia)] at g1;refine⟨q2,by rw[vE,e0,Option.map_some,g2],?_⟩;have g4:=nw.s _ _ g3;rw[eb] at g4;rw[g4];have e:[V.int ((ws.getD i (0,0)).1:Nat),V.int ((ws.getD i (0,0)).2:Nat)]=r:=by simpa using e
   rw[<- e,getD_get (show i<ws.length by lia)];cases g1
   rfl
def Gq(K:W.Frag):List V->V->Hp->VK->Prop:=λvs y H Q=>∃(l f:Addr)(xs:List V)(ws:xD),vs=[.ref l]/\y=.ref f/\jD H f/\SqL K H l xs/\aB H xs (au ws)/\(ws.length<=1000/\ws.Nodup/\∀w∈ws,w.1<1000000)/\∀qs:List (Nat×Nat),qs.Perm ws/\nY qs->∀D zs H',New H H' D (.lst zs)->aB H' zs (au qs)->Q (.ref D) H'
theorem sS{X:Cx}{pins:List (Addr×Obj)}{s:Shared}{σ:St}{H:Hp}{Q:VK}{l f:Addr}{xs:List V}{ws:xD}(I:Inv X pins σ H s)(hq:SqL X.K H l xs)(tp:aB H xs (au ws))(Av:ws.length<=1000)(nd:ws.Nodup)(sm:∀w∈ws,w.1<1000000)
  (kt:∀(s1:Shared) (q:Addr) (u u0:Value) {R:xB},(∀b v o,H b=some v->s.heap.get? b=some o->s1.heap.get? b=some o)->(∀b o,X.base.get? b=some o->s1.heap.get? b=some o)->IsTup s1.heap q [u0,u].toArray ->
   (∀h' tk a,(∀b o,s1.heap.get? b=some o->h'.get? b=some o)->s1.heap.get? a=none->h'.get? a=some (seqObj "tuple" #[u,u0] 0)->R (.ref a) { s1 with heap:=h',toks:=tk })->wpAny (model X.prog X.w) X.A.in1.in1 (call (.ref f) [.ref q]) R (λ_ _=>False) s1)
  (q:∀qs:List (Nat×Nat),qs.Perm ws/\nY qs->∀D zs H',New H H' D (.lst zs)->aB H' zs (au qs)->Q (.ref D) H') :
  wpAny (model X.prog X.w) X.A (call (.builtin "sorted") [.ref l] [(Str.ofString "key", .ref f)]) (EP X pins σ Q) X.xe s:=by
 obtain⟨its,rv,p,hz⟩:=I.list hq;obtain⟨m,hm,_⟩:=id I.loc;have hlen:its.length=xs.length:=rv.length.symm;have hw:xs.length=ws.length:=by rw[tp.1,aA]
 have nL:∀{b:Addr} {u:HO},H b=some u->b≠X.env.locals:=λ{b u} e z=>by rw[z,I.free] at e;cases e
 have refs:∀v∈xs,∃q,v=V.ref q:=λv hv=>by
  obtain⟨i,hi,e⟩:=List.getElem_of_mem hv;obtain⟨r,q,_,e2,_⟩:=gA tp (i:=i) (v:=v) (by rw[<- e];simp);exact⟨q,e2⟩
 obtain⟨xb,ub⟩:=o9 rv refs;have F0:Fr { objs:=#[] } X.env.locals s.heap m:=⟨hm,λb o e=>by
  have e:Heap.get? { objs:=#[] } b=some o:=e;simp[Heap.get?] at e,Nat.zero_le _⟩
 have N0:News { objs:=#[] } X.env.locals s.heap (jY s.heap X.env.locals):=λp hp=>⟨(lg hp).1,(lg hp).2,rfl⟩
 have f2:F2 (λv k=>nW X.prog X.w X.A.in1.in1 (jY s.heap X.env.locals) (.ref f) v k s) its (ws.map swP):=Lr (by rw[wS];lia) λi v c hv hc h tk hh=>by
  have hx:xs[i]?=some (iI v):=by rw[xb,vE,hv];rfl
  obtain⟨r,q,e1',e2,e3⟩:=gA tp hx;obtain⟨q',rfl⟩:=ub v (wE hv);cases e2;unfold au at e1';rw[vE] at e1' hc;cases ew:ws[i]? with
  | none=>rw[ew] at hc;cases hc
  | some w =>
   rw[ew] at e1' hc;cases e1';cases hc;have kp:∀b o,b≠X.env.locals->s.heap.get? b=some o->h.get? b=some o:=λb o n e=>hh (b,o) (gk e n)
   have lb:∀b o,X.base.get? b=some o->h.get? b=some o:=λb o e=>kp b o (gE (qV (uC e) (oC I.ok.bsz I.ok.above))) (I.bk b o e)
   obtain⟨_,its2,rv2,ob,et,ec2,n2,ed2⟩:=I.hok _ _ e3;rcases rv2 with _|⟨⟨tk1,rfl⟩,_|⟨⟨tk2,rfl⟩,_|_⟩⟩;exact kt { s with heap:=h,toks:=tk } q _ _ (λb u o e1 e2=>kp _ _ (nL e1) e2) lb ⟨ob,kp _ _ (nL e3) et,ec2,n2,ed2⟩ λh' tk' a k2 ha ho=>⟨a,h',tk',tk2,tk1,rfl,rfl,k2,ha,ho⟩
 refine uW F0 N0 p.isList (by lia) f2 (Iz (λa b=>Qp) nd) (λw hw=>by obtain⟨v,hv,rfl⟩:=qA.mp hw;exact sm v hv) λD ps c h' tk' F N hD pp up=>?_
 have hn:s.heap.get? D=none:=by
  cases e:s.heap.get? D with
  | none=>rfl
  | some o =>
   have:=hD (D,o) (gk e (N (D,seqObj "list" _ c) zC).2.1);exact gS this (gI _)
 have hn2:H D=none:=by
  cases e:H D with
  | none=>rfl
  | some u =>
   obtain⟨ob,e2⟩:=(I.hok D u e).is;rw[hn] at e2;cases e2
 have plt:∀i∈ps,i<its.length:=λi hi=>by simpa using pp.mem_iff.mp hi
 have hin:∀u∈ps.map (λi=>its.getD i Value.none),∃q,u=Value.ref q:=λu hu=>by
  obtain⟨i,hi,rfl⟩:=qA.mp hu;exact ub _ (getD_mem (plt i hi))
 have eb:(ps.map λi=>its.getD i Value.none).map iI=ps.map λi=>xs.getD i .non:=by
  rw[List.map_map];refine List.map_congr_left λi hi=>?_
  have:=plt i hi;show iI (its.getD i .none)=xs.getD i .non;rw[xb,nB,nB,vE,qS this]
  rfl
 have lo:ps.length=xs.length:=by rw[pp.length_eq,List.length_range,hlen]
 have nw:New H (upd H D (.lst ((ps.map λi=>its.getD i Value.none).map iI))) D (.lst ((ps.map λi=>its.getD i Value.none).map iI)):=New.mk' hn2;refine⟨.ref D,upd H D (.lst ((ps.map λi=>its.getD i Value.none).map iI)),I.RP (t':=tk') (λb u n e=>(N (b,u) (zD _ (gk e n))).1) hm F.ns hn ?_,rfl,q (ps.map λi=>ws.getD i (0,0)) ⟨?_,List.pairwise_map.mpr (up.imp_of_mem λ{i j} hi hj z=>?_)⟩ D _ _ nw ?_⟩
 ·refine⟨by rw[wS,wS,lo];exact hz,_,c,o_ hin,?_⟩;exact(N (D,seqObj "list" _ c) zC).1
 ·have:=pp.map λi=>ws.getD i (0,0)
  rw[show its.length=ws.length by lia,fQ] at this;exact this
 ·have g:∀i∈ps,(ws.map swP).getD i (0,0)=swP (ws.getD i (0,0)):=λi hi=>by
   have:=plt i hi;rw[nB,nB,vE,qS (show i<ws.length by lia)]
   rfl
  rw[<- g i hi,<- g j hj];exact z
 ·rw[eb];refine⟨by rw[wS,aA,wS],λj r e=>?_⟩;unfold au at e;rw[List.map_map,vE] at e;cases e0:ps[j]? with
  | none=>rw[e0] at e;cases e
  | some i =>
   rw[e0] at e;have hi:=plt i (wE e0);have hx:xs[i]?=some (xs.getD i .non):=by rw[getD_get (show i<xs.length by lia)];simp
   obtain⟨r2,q2,g1,g2,g3⟩:=gA tp hx;unfold au at g1;rw[vE,qS (show i<ws.length by lia)] at g1;refine⟨q2,by rw[vE,e0,Option.map_some,g2],?_⟩;have g4:=nw.s _ _ g3;rw[eb] at g4;rw[g4];have e:[V.int ((ws.getD i (0,0)).1:Nat),V.int ((ws.getD i (0,0)).2:Nat)]=r:=by simpa using e
   rw[<- e,getD_get (show i<ws.length by lia)];cases g1
   rfl
theorem Aw{X:Cx}{K:W.Frag}{k:Nat}(hK:X.K=K)(hr:Room k X.A):KR X "sorted" "key" (Gq K):=by
 intro pins s σ H vs us y u Q I rv ry h;subst hK;obtain⟨l,f,xs,ws,rfl,rfl,lam,hq,tp,⟨Av,nd,sm⟩,q⟩:=h;cases ry;rcases rv with _|⟨r,_|_⟩;cases r;obtain⟨qual,x,params,p1,p2,p3,p4,p5,p6,p7,j,j2,j3,scope,pm,ctv,c',oc,cv,t,ef,ec,ed,e1,S,hb⟩:=lam;refine sS I hq tp Av nd sm (λs1 q u u0 R kp lb it hR=>?_) q;exact Uh (A:=X.A.in1.in1) (s:=s1) (show X.A.depth<_ from hr.depth) (kp _ _ _ ef (I.hok f _ ef).1) ⟨c',oc,cv,t,rfl,kp _ _ _ ec (I.hok c' _ ec).1,ed,e1⟩ (I.ok.mod.nolimit.keeps lb) S (hb _) (its:=[u0,u]) it rfl rfl hR
section
variable{K:W.Frag}{H0 H:Hp}{M:List Addr}{L:List (Addr×HO)}{I:List Im}{Q:VK}{l f:Addr}{ys:List V}{ws:xD}
instance Vo[h:SqA K H l ys][t:TpA H ys (au ws)]:Go (Gp K [.ref l] H Q) (Sd (ws.length<=1000/\ws.Nodup/\∀w∈ws,w.2<1000000) (∀qs:List (Nat×Nat),qs.Perm ws/\Lw qs->∀D zs H',New H H' D (.lst zs)->aB H' zs (au qs)->Q (.ref D) H')):=⟨λs=>⟨l,ys,ws,rfl,h.e,t.e,s.1,s.2⟩⟩
instance Vp[F:SH H0 M H L I][b:Xf I f][h:SqA K H l ys][t:TpA H ys (au ws)]:Go (Gq K [.ref l] (.ref f) H Q) (Sd (ws.length<=1000/\ws.Nodup/\∀w∈ws,w.1<1000000) (∀qs:List (Nat×Nat),qs.Perm ws/\nY qs->∀D zs H',New H H' D (.lst zs)->aB H' zs (au qs)->Q (.ref D) H')):=⟨λs=>⟨l,f,ys,ws,rfl,rfl,F.im _ b.m,h.e,t.e,s.1,s.2⟩⟩
end
end L2
set_option maxHeartbeats 1000000
namespace L2
open PySem PySem.Spec PyProof.Rows
section
variable{P:List Value->Prop}
theorem el1(h:∀a,P [a]):∀us:List Value,us.length=1->P us
 | [a],_=>h a
theorem el2(h:∀a b,P [a,b]):∀us:List Value,us.length=2->P us
 | [a,b],_=>h a b
theorem el3(h:∀a b c,P [a,b,c]):∀us:List Value,us.length=3->P us
 | [a,b,c],_=>h a b c
theorem el4(h:∀a b c d,P [a,b,c,d]):∀us:List Value,us.length=4->P us
 | [a,b,c,d],_=>h a b c d
theorem el5(h:∀a b c d e,P [a,b,c,d,e]):∀us:List Value,us.length=5->P us
 | [a,b,c,d,e],_=>h a b c d e
end
class ImI(f:Im)(I:List Im):Prop where
 m:f∈I
class SbI(I' I:List Im):Prop where
 s:∀f∈I',f∈I
section
variable{f g:Im}{I I':List Im}
instance abH[h:ImI f I]:ImI f (g::I):=⟨zD _ h.m⟩
instance abI:ImI f (f::I):=⟨zC⟩
instance abJ:SbI [] I:=⟨λ_ h=>gS h vS⟩
instance abK[h:ImI f I][t:SbI I' I]:SbI (f::I') I:=⟨λg hg=>(jS.mp hg).elim (λe=>e▸h.m) (t.s g)⟩
end
class EnT(D':Ends)(G:outParam (L2.St->Hp->Prop))(D:outParam Ends):Prop where
 nx:∀σ H,G σ H->D'.nx σ H
 rt:∀v H,D.rt v H->D'.rt v H
 bk:∀σ H,D.bk σ H->D'.bk σ H
 ct:∀σ H,D.ct σ H->D'.ct σ H
section
variable{σ:L2.St}{H:Hp}{D D':Ends}{s u:TS}{G:L2.St->Hp->Prop}
theorem aay(k:∀D',EnT D' (u D) D->s D' σ H):Oz s u D σ H:=k ⟨u D,D.rt,D.bk,D.ct⟩ ⟨λ_ _ h=>h,λ_ _ h=>h,λ_ _ h=>h,λ_ _ h=>h⟩
theorem Gs(h:EnT D' G D)(k:G σ H):Ends.nx D' σ H:=h.nx σ H k
end
end L2
set_option maxHeartbeats 4000000
namespace L2
open PySem PySem.W PySem.Calls PySem.Spec PyProof.Rows PySem.SeqAt
theorem Uv{prog:Program}{w:World}{A:Around}{s:Shared}{f q:Addr}{o:Obj}{fd:FuncData}{x:Str}{u u0:Value}{p1 p2 p3 p4 p5 p6 p7 p8:Pos}{j j2 j3:Nat}{its:xF}{Q:xB}{E:xB}
  (hroom:A.depth<recursionLimit) (ho:s.heap.get? f=some o) (hd:o.data=.func fd) (hlim:s.heap.NoLimit) (hcd:s.heap.CodeRec fd.code fd.qualname) (hbody:fd.body=.stmts [.Return (some (swBody x p1 p2 p3 p4 p5 p6 p7 j j2 j3)) p8]) (S:h_ x fd.scope)
  (hbind:bindArgs fd ⟨[.ref q],[]⟩=pure [(x,.ref q)])
  (ht:IsTup s.heap q its.toArray) (hi:its[1]?=some u) (hi0:its[0]?=some u0) (h:∀h' tk a,(∀b o,s.heap.get? b=some o->h'.get? b=some o)->s.heap.get? a=none->h'.get? a=some (seqObj "tuple" #[u,u0] 0)->Q (.ref a) { s with heap:=h',toks:=tk }):wpAny (model prog w) A (call (.ref f) [.ref q]) Q E s:=by
 refine wpAny_call ?_;refine codeAny_call_plain hroom ho hd hlim hcd hbody hbind S.Ld (λy hy=>?_) (λh1 hns hk1=>?_) S.co S.gen S.kind
 ·rw[rV.mp hy];exact S.loc
 ·have ht1:IsTup h1 q its.toArray:=by
   obtain⟨o,e,r⟩:=ht;exact⟨o,hk1 _ _ e,r⟩
  have hlen:1<its.length:=(qE.mp hi).1;have hns':h1.Ns s.heap.objs.size (λy=>[(x,Value.ref q)].reverse.lookup y):=hns;refine wpAny_execs_cons (wpAny_Return_some ?_);refine Tuple_ (spliced_more ?_);refine Subscript_ (wpAny_Name (wpAny_loadName_local S.kind S.loc hns' (v:=.ref q) (by simp) ?_) S.FW);refine wpAny_Constant_int ?_;refine subscriptTail_builtinR (x:=u) (IsTup.typeIs ht1) slot_tuple_getitem.lookup (getItem_tuple (j:=1) ht1 (by decide) (by decide) ?_ (by simpa using hi) ⟨rfl,?_⟩) ?_
  ·rw[nX];unfold seqIndex?;simp
   lia
  ·refine spliced_more ?_;refine Subscript_ (wpAny_Name (wpAny_loadName_local S.kind S.loc hns' (v:=.ref q) (by simp) ?_) S.FW);refine wpAny_Constant_int ?_;refine subscriptTail_builtinR (x:=u0) (IsTup.typeIs ht1) slot_tuple_getitem.lookup (getItem_tuple (j:=0) ht1 (by decide) (by decide) ?_ (by simpa using hi0) ⟨rfl,?_⟩) ?_
   ·have l0:(0:Int)<(its.length:Int):=by lia
    rw[nX];unfold seqIndex?;simp;intro z;rw[z] at hlen;simp at hlen
   ·refine spliced_none (wpAny_newTuple ?_ (by show 2<=sizeLine;decide));exact h _ _ _ (λb o e=>uS _ (hk1 b o e)) (Heap.get?_none_of_le (zzE hns.lt)) (oS _ rfl)
   ·rfl
  ·rfl
def Ms(K:W.Frag)(mg:xC)(y:Str):Prop:=∃(f:Addr) (fd:FuncData) (oc:Value) (od:xL) (osl:Array (Option Value)) (x:Str) (p1 p2 p3 p4 p5 p6 p7 p8:Pos) (j j2 j3:Nat),mg y=some (.ref f)/\K.lookup f=some ⟨oc,od,.func fd,osl⟩/\W.codeIn K fd.code fd.qualname=true /\
 fd.body=.stmts [.Return (some (swBody x p1 p2 p3 p4 p5 p6 p7 j j2 j3)) p8]/\h_ x fd.scope/\∀q:Addr,bindArgs fd ⟨[.ref q],[]⟩=pure [(x,.ref q)]
theorem HasDef.sw{K:W.Frag}{mg:xC}{y x:Str}{st:Stmt}{p1 p2 p3 p4 p5 p6 p7 p8:Pos}{j j2 j3:Nat}(h:HasDef K mg y st)(hb:cj st=[.Return (some (swBody x p1 p2 p3 p4 p5 p6 p7 j j2 j3)) p8])(S:h_ x (aF st))
  (bd:∀(kV doc pm:Value)(an:xL)(cdv ct:Value)(us:xF),us.length=1->bindArgs (W.fnOf y y (dw st) (cj st) (aF st) .none kV doc pm an cdv ct) ⟨us,[]⟩=pure ([x].zip us)):Ms K mg y:=by
 obtain⟨f,fd,F,m⟩:=h;obtain⟨oc,od,kV,doc,pm,an,cdv,ct,osl,rfl,lk,hcd⟩:=F.ex;exact⟨f,_,oc,od,osl,x,p1,p2,p3,p4,p5,p6,p7,p8,j,j2,j3,m,lk,hcd,gN _ hb,S,λq=>bd kV doc pm an cdv ct [.ref q] rfl⟩
def Gu(K:W.Frag):List V->Hp->VK->Prop:=λvs H Q=>∃(l:Addr)(xs:List V)(ws:xD),vs=[.ref l]/\SqL K H l xs/\aB H xs (au ws)/\(ws.length<=1000/\ws.Nodup/\∀w∈ws,w.1<1000000)/\∀qs:List (Nat×Nat),qs.Perm ws/\nY qs->∀D zs H',New H H' D (.lst zs)->aB H' zs (au qs)->Q (.ref D) H'
theorem vY{X:Cx}{K:W.Frag}{k:Nat}{y:Str}{p p2 pos kp:Pos}{e:Expr}{t:TA}(hw:Ms X.K X.mg y)(hK:X.K=K)(hr:Room k X.A)(hg:Gl X "sorted")(hm:X.mg "sorted" = none)(ha:PA X [e] t)(hx:Gl X y:=by rfl)(hdb:(y==("__debug__" : Str))=false:=by decide)
  (he:backTo pos (starEach [e] X.env)=(false,eval e X.env)::backTo pos (starEach [] X.env):=by rfl) (hpl:(backTo pos (starEach [e] X.env)).any (·.1)=false:=by rfl):PE X (.Call (.Name "sorted" p) [e] [⟨some "key", .Name y p2,kp⟩] pos) (tCB (Gu K) t):=by
 subst hK;obtain⟨f,fd,oc,od,osl,x,p1,p2',p3,p4,p5,p6,p7,p8,j,j2,j3,my,lk,hcd,hb,S,bd⟩:=hw;have nm:PE X (.Name y p2) (tC (.ref f)):=zL ⟨_,my,rfl⟩ hx hdb;intro pins s σ H Q I h;refine wpAny_Call_Name_kw (q_ I hg hm boot_sorted ?_ (by decide) (by decide));refine callWith_kw (thn (ha pos pins s σ H _ I h) λus s1 ⟨vs,H1,I1,rv,q1⟩=>?_) he hpl;refine kws_cons (thn (nm pins s1 σ H1 (λy H2=>y=.ref f/\H2=H1) I1 ⟨rfl,rfl⟩) λz s2 ⟨y,H2,I2,r2,e1,e2⟩=>kws_nil ?_);subst e1 e2;obtain rfl:z=Value.ref f:=r2;obtain⟨l,xs,ws,rfl,hq,tp,⟨Av,nd,sm⟩,q⟩:=q1;rcases rv with _|⟨r,_|_⟩;cases r;refine sS I2 hq tp Av nd sm (λs1 q u u0 R kp lb it hR=>?_) q;have KX:X.K.In s1.heap:=I2.ok.mod.kin.keeps lb;exact Uv (A:=X.A.in1.in1) (s:=s1) (show X.A.depth<_ from hr.depth) (KX _ _ lk) rfl (I2.ok.mod.nolimit.keeps lb) (W.codeRec_of KX hcd) hb S (bd _) (its:=[u0,u]) it rfl rfl hR
section
variable{K:W.Frag}{H:Hp}{Q:VK}{l:Addr}{ys:List V}{ws:xD}
instance Vq[h:SqA K H l ys][t:TpA H ys (au ws)]:Go (Gu K [.ref l] H Q) (Sd (ws.length<=1000/\ws.Nodup/\∀w∈ws,w.1<1000000) (∀qs:List (Nat×Nat),qs.Perm ws/\nY qs->∀D zs H',New H H' D (.lst zs)->aB H' zs (au qs)->Q (.ref D) H')):=⟨λs=>⟨l,ys,ws,rfl,h.e,t.e,s.1,s.2⟩⟩
end
end L2
namespace L2
open PySem PySem.Spec PyProof.Rows PySem.SeqAt
open AutoSeq1 (wpAny_loadPart')
open MeetsSeq
theorem Mt(l:Addr)(us:xI)(c:Nat)(x:Value)(f:Value->Bool)(j:Nat)(jl:j<us.size)(yes:f us[j]=true)(small:us.size<=sizeLine)(left:Nat) :
  ∀i:Nat,j-i=left->i<=j->(∀m (hm:m<us.size),i<=m->m<j->f us[m]=false)->Meets (Builtin.«list.remove.loop» ⟨[.ref l,x,rawInt i],[]⟩)
   (λA R s=>s.heap.get? l=some { cls:=.type "list", dict:=none,data:=.seq us c,slots:=#[] }/\(∀y,y∈us->EqAt A.in1 s y x (f y))/\R (.ok (.ret .none)) { s with heap:=s.heap.update l (Obj.mapSeq λxs=>xs.eraseIdxIfInBounds j) }):=by
 induction left with
 | zero =>
  intro i h1 h2 no prog w A R s h;obtain⟨hp,g,d,tk,os⟩:=s;obtain⟨el,eq,h⟩:=h;obtain rfl:i=j:=by lia
  wp_walk using wpAny_loadPart' el
  rw[show us[((i:Nat):Int).toNat]?=some us[i] by simp[jl]];refine zI (eq _ (Array.getElem_mem jl) prog w _ _ ?_);rw[yes];have z2:(us.eraseIdxIfInBounds i).size<=sizeLine+1:=oC (size_erased us _) (Nat.le_succ_of_le small)
  wp_walk using (wpAny_updateSeq el rfl (hz:=small) (_hz':=z2)),wpAny_loadPart' el
  simpa using h
 | succ left ih =>
  intro i h1 h2 no prog w A R s h;obtain⟨hp,g,d,tk,os⟩:=s;obtain⟨el,eq,h⟩:=h;have il:i<us.size:=by lia
  wp_walk using wpAny_loadPart' el
  rw[show us[((i:Nat):Int).toNat]?=some us[i] by simp[il]];refine zI (eq _ (Array.getElem_mem il) prog w _ _ ?_);rw[no i il (rS _) (by lia)];have ec:((i:Int)+1)=((i+1:Nat):Int):=by push_cast;rfl
  wp_walk
  rw[ec];refine⟨plainId_quiet plain_remove_loop _,codeAny_builtin entry_remove_loop ?_⟩;rw[Around.under_plainId plain_remove_loop _];exact ih (i+1) (by lia) (by lia) (λm hm a b=>no m hm (by lia) b) prog w A R _ ⟨el,eq,h⟩
theorem Mu(l:Addr)(us:xI)(c:Nat)(x:Value)(f:Value->Bool)(j:Nat)(jl:j<us.size)(yes:f us[j]=true)(no:∀m (hm:m<us.size),m<j->f us[m]=false)(small:us.size<=sizeLine):Meets (Builtin.«list.remove» ⟨[.ref l,x],[]⟩)
      (λA R s=>s.heap.get? l=some { cls:=.type "list", dict:=none,data:=.seq us c,slots:=#[] }/\(∀y,y∈us->EqAt A.in1 s y x (f y))/\R (.ok (.ret .none)) { s with heap:=s.heap.update l (Obj.mapSeq λxs=>xs.eraseIdxIfInBounds j) }):=by
 intro prog w A R s h;obtain⟨hp,g,d,tk,os⟩:=s;obtain⟨el,eq,h⟩:=h
 wp_walk using wpAny_loadPart' el
 refine⟨plainId_quiet plain_remove_loop _,codeAny_builtin entry_remove_loop ?_⟩;rw[Around.under_plainId plain_remove_loop _];exact Mt l us c x f j jl yes small _ 0 rfl (Nat.zero_le _) (λm hm _ b=>no m hm b) prog w A R _ ⟨el,eq,h⟩
theorem Mv{H:Hp}{ws:xD}{ys:List V}{i:Nat}{v:V}(h:aB H ys (au ws))(e:ys[i]?=some v):∃w q,ws[i]?=some w/\v=.ref q/\H q=some (.tup [.int (w.1:Nat),.int (w.2:Nat)]):=by
 obtain⟨r,q,e1,e2,e3⟩:=gA h e;unfold au at e1;rw[vE] at e1;cases e4:ws[i]? with
 | none=>rw[e4] at e1;cases e1
 | some w =>
  rw[e4] at e1;cases e1;exact⟨w,q,rfl,e2,e3⟩
theorem Ax{X:Cx}{k:Nat}{pins:List (Addr×Obj)}{σ:St}{H:Hp}{s:Shared}{q:Addr}{ys:List V}{its:xF}{a b:Nat}{ts:xD}(hr:Room k X.A)(I:Inv X pins σ H s)(hq:H q=some (.tup [.int (a:Nat),.int (b:Nat)]))(tp:aB H ys (au ts))(rv:Vals ys its) :
  ∃f:Value->Bool,(∀z∈its,EqAt X.A.in1 s z (.ref q) (f z))/\∀(i:Nat)(z:Value),its[i]?=some z->∃w,ts[i]?=some w/\f z=decide (w=(a,b)):=by
 have hi:∀i z,its[i]?=some z->∃(w:Nat×Nat)(q':Addr),ts[i]?=some w/\z=Value.ref q'/\H q'=some (.tup [.int (w.1:Nat),.int (w.2:Nat)]):=λi z e=>by
  have hl:i<ys.length:=by rw[rv.length];exact(qE.mp e).1
  obtain⟨w,q',e1,e2,e3⟩:=Mv tp (i:=i) (v:=ys[i]) (qS hl);obtain⟨u,hu,ru⟩:=rv.get (i:=i) (x:=ys[i]) (by simp);rw[e] at hu;cases hu;rw[e2] at ru;exact⟨w,q',e1,ru,e3⟩
 have wu:∀{q':Addr} {w w':Nat×Nat},H q'=some (.tup [.int (w.1:Nat),.int (w.2:Nat)])->H q'=some (.tup [.int (w'.1:Nat),.int (w'.2:Nat)])->w=w':=λ{q' w w'} h1 h2=>by
  rw[h1] at h2;simp only[Option.some.injEq,HO.tup.injEq,List.cons.injEq,V.int.injEq,and_true] at h2;exact Prod.ext (show w.1=w'.1 by lia) (show w.2=w'.2 by lia)
 have rp:∀(q':Addr)(c d:Nat),H q'=some (.tup [.int (c:Nat),.int (d:Nat)])->Rep X.K H (.tup [.int (c:Nat),.int (d:Nat)]) (.ref q'):=λq' c d hw=>by
  simp only[Rep];exact⟨q',_,rfl,SqT.of hw,by simp[cU,Rep]⟩
 refine⟨λz=>@decide (∃q',z=Value.ref q'/\H q'=some (.tup [.int (a:Nat),.int (b:Nat)])) (Classical.propDecidable _),?_,?_⟩
 ·intro z hz;obtain⟨i,hi2,ez⟩:=List.getElem_of_mem hz;obtain⟨w,q',e1,rfl,e3⟩:=hi i z (by rw[<- ez];simp);have hE:=eq3 I 50 X.A.in1 _ _ _ _ (.ref q') (.ref q) (by have:=hr.un;show X.A.units+1+50<_;lia) (by simp[fM,fO]) (rp q' _ _ e3) (rp q _ _ hq) rfl rfl;have e4:gQ (.tup [.int (w.1:Nat),.int (w.2:Nat)]) (.tup [.int (a:Nat),.int (b:Nat)])=@decide (∃q2,Value.ref q'=Value.ref q2/\H q2=some (.tup [.int (a:Nat),.int (b:Nat)])) (Classical.propDecidable _):=by
   simp only[gQ,gM,Bool.and_true];rw[Bool.eq_iff_iff,@decide_eq_true_iff _ (Classical.propDecidable _),Bool.and_eq_true]
   constructor
   ·rintro ⟨h1,h2⟩;have h1:(w.1:Int)=(a:Int):=by simpa using h1
    have h2:(w.2:Int)=(b:Int):=by simpa using h2
    exact⟨q',rfl,by rw[e3,h1,h2]⟩
   ·rintro ⟨q2,e5,e6⟩;cases e5;have:=wu (w':=(a,b)) e3 e6;subst this;simp
  rw[e4] at hE;exact hE.eq
 ·intro i z ez;obtain⟨w,q',e1,rfl,e3⟩:=hi i z ez;refine⟨w,e1,?_⟩;rw[Bool.eq_iff_iff,@decide_eq_true_iff _ (Classical.propDecidable _),decide_eq_true_iff]
  constructor
  ·rintro ⟨q2,e5,e6⟩;cases e5;exact wu (w':=(a,b)) e3 e6
  ·rintro rfl;exact⟨q',rfl,e3⟩
def RX(K:W.Frag):R2:=λx y H Q=>∃(q l:Addr)(ys:List V)(a b:Nat)(ts:xD),x=.ref q/\y=.ref l/\H q=some (.tup [.int (a:Nat),.int (b:Nat)])/\SqL K H l ys/\aB H ys (au ts)/\Q (.bl !decide ((a,b)∈ts)) H
theorem Qu{X:Cx}{K:W.Frag}{k:Nat}(hK:X.K=K)(hr:Room k X.A):OpR X (compareOp .NotIn) (RX K):=by
 subst hK;intro pins s σ H x y v u Q I rx ry h;obtain⟨q,l,ys,a,b,ts,rfl,rfl,hq,hl,tp,h⟩:=h;cases rx;cases ry;obtain⟨its,rv,pl,hz⟩:=I.list hl;obtain⟨f,f1,f2⟩:=Ax hr I hq tp rv;refine notIn_listAt f pl.isList (λz hz=>f1 z (by simpa using hz)) ⟨.bl _,H,I,rfl,?_⟩;have e5:its.toArray.any f=decide ((a,b)∈ts):=by
  rw[Bool.eq_iff_iff,decide_eq_true_iff];simp only[List.any_toArray,List.any_eq_true]
  constructor
  ·rintro ⟨z,hz,ez⟩;obtain⟨i,hi2,e2⟩:=List.getElem_of_mem hz;obtain⟨w,e1,e3⟩:=f2 i z (by rw[<- e2];simp);rw[e3,decide_eq_true_iff] at ez;rw[<- ez];exact wE e1
  ·intro hm;obtain⟨i,hi2,ew⟩:=List.getElem_of_mem hm;have hl2:i<its.length:=by rw[<- rv.length,tp.1,aA];exact hi2
   obtain⟨w,e1,e3⟩:=f2 i its[i] (by simp);refine⟨its[i],List.getElem_mem hl2,?_⟩;rw[e3,decide_eq_true_iff];rw[qS hi2,ew] at e1;exact(nS e1).symm
 rw[e5];exact h
def Mw:V->List V->Hp->VK->Prop:=λx vs H Q=>∃(q l:Addr)(ys:List V)(a b:Nat)(ts:xD),x=.ref l/\vs=[.ref q]/\H q=some (.tup [.int (a:Nat),.int (b:Nat)])/\H l=some (.lst ys)/\aB H ys (au ts)/\((a,b)∈ts/\ts.length<=1000) /\
 ∀ys',aB H ys' (au (ts.erase (a,b)))->∀H',Off l H H'->H' l=some (.lst ys')->Q .non H'
theorem sU:∀{ts:xD} {w:Nat×Nat},w∈ts->∃j,j<ts.length/\ts[j]?=some w/\(∀m,m<j->ts[m]?≠some w)/\ts.erase w=ts.eraseIdx j
 | t::ts,w,h=>by
  by_cases e:t=w
  ·subst e;exact⟨0,by simp,rfl,λm hm=>absurd hm (Nat.not_lt_zero _),by simp⟩
  ·obtain⟨j,h1,h2,h3,h4⟩:=sU (ts:=ts) (w:=w) (by rcases jS.mp h with rfl|h;exact gS rfl e;exact h)
   refine⟨j+1,by simpa using h1,by simpa using h2,λm hm=>?_,?_⟩
   ·cases m with
    | zero=>simpa using e
    | succ m=>simpa using h3 m (by lia)
   ·rw[List.erase_cons_tail (by simpa using e),h4,List.eraseIdx_cons_succ]
theorem Ay{H:Hp}{ys:List V}{rs:List (List V)}(h:aB H ys rs)(j:Nat):aB H (ys.eraseIdx j) (rs.eraseIdx j):=by
 have hl:=h.1;refine⟨by rw[List.length_eraseIdx,List.length_eraseIdx,hl],λi r e=>?_⟩;rw[List.getElem?_eraseIdx] at e ⊢;split at e
 ·rename_i c;rw[yB c];exact h.2 i r e
 ·rename_i c;rw[yT c];exact h.2 (i+1) r e
theorem Az:∀{ys:List V} {its:xF} (j:Nat),Vals ys its->Vals (ys.eraseIdx j) (its.eraseIdx j)
 | _,_,_,.nil=>.nil
 | _,_,0,.cons r t=>t
 | _,_,j+1,.cons r t=>.cons r (Az j t)
theorem yI{α β:Type}(g:α->β):∀(l:List α)(j:Nat),(l.eraseIdx j).map g=(l.map g).eraseIdx j
 | [],_=>rfl
 | _::_,0=>rfl
 | a::l,j+1=>gN (g a::·) (yI g l j)
theorem Qv{X:Cx}{k:Nat}(hr:Room k X.A):MtM X "list.remove" Mw:=by
 intro pins s σ H x vs v us Q I rx rv h;obtain⟨q,l,ys,a,b,ts,rfl,rfl,hq,hH,tp,⟨hm,small⟩,kq⟩:=h;cases rx;obtain⟨u,rfl,ru⟩:=vals1 rv;cases ru;obtain⟨z,its,n,r,hl,e⟩:=I.uT hH;obtain⟨f,f1,f2⟩:=Ax hr I hq tp r;obtain⟨j,j1,j2,j3,j4⟩:=sU hm;have yl:ys.length=ts.length:=by rw[tp.1,aA]
 have il:its.length=ts.length:=by rw[<- r.length,yl]
 have jl:j<its.toArray.size:=by rw[nX];lia
 have jl2:j<its.length:=by lia
 have yes:f its.toArray[j]=true:=by
  obtain⟨w,e1,e3⟩:=f2 j its[j] (by simp);rw[j2] at e1;cases e1;simpa using e3
 have no:∀m (hm:m<its.toArray.size),m<j->f its.toArray[m]=false:=λm h1 h2=>by
  have hm2:m<its.length:=by simpa using h1
  obtain⟨w,e1,e3⟩:=f2 m its[m] (by simp);have:w≠(a,b):=λc=>j3 m h2 (by rw[e1,c])
  simpa[this] using e3
 have ls:its.length<=sizeLine:=by rw[sizeLine_eq];lia
 have tp2:aB H (ys.eraseIdx j) (au (ts.erase (a,b))):=by
  rw[j4,show au (ts.eraseIdx j)=(au ts).eraseIdx j by unfold au;exact yI _ ts j];exact Ay tp j
 refine call_meets PySem.F.slot_list_remove ⟨_,e,rfl⟩ PySem.F.entry_list_remove (PySem.F.args_list_remove_2 _ _) (Mu l its.toArray n (.ref q) f j jl yes no (by rw[List.size_toArray];exact ls)) ⟨e,λy hy=>f1 y (by simpa using hy),?_⟩;exact⟨.non,_,I.JG (its':=its.eraseIdx j) (ys:=ys.eraseIdx j) hH e (by simp) (Az j r) (by rw[List.length_eraseIdx];split <;> lia),rfl,kq _ tp2 _ L2.Off.upd bx⟩
theorem Qw{X:Cx}{k:Nat}{o e:Expr}{to te:TE}{apos cpos:Pos}(hr:Room k X.A)(ho:PE X o to)(he:PE X e te)(hbase:attributeBase o "remove" X.env (eval o X.env)=eval o X.env:=by rfl)
  (hfew:((backTo cpos (starEach [e] X.env)).all (λx=>!x.1) && (backToKw cpos (keywordEach [] X.env)).all (λx=>x.1.isSome)
   && decide (([e]:List Expr).length+([]:List Keyword).length+(if ([]:List Keyword).isEmpty then 0 else 1)<30))=true:=by rfl)
  (hline:(apos.endLine==cpos.line)=true:=by rfl) (hs:starEach [e] X.env=(false,eval e X.env)::starEach [] X.env:=by rfl) :
  PE X (.Call (.Attribute o "remove" apos) [e] [] cpos) (tBM X.K "list" Mw to (rC te xX)) :=
 Ez PySem.F.plainAttrs_list PySem.F.slot_list_remove PySem.F.type_list_remove (Qv hr) ho (aj he ao hs) hbase hfew hline hs (by rfl)
section
variable{K:W.Frag}{H:Hp}{Q:VK}{l q:Addr}{ys:List V}{ts:xD}{a b:Nat}
instance YS[h:Hat H q (.tup [.int (a:Nat),.int (b:Nat)])][h2:SqA K H l ys][t:TpA H ys (au ts)]:Go (RX K (.ref q) (.ref l) H Q) (Q (.bl !decide ((a,b)∈ts)) H):=⟨λk=>⟨q,l,ys,a,b,ts,rfl,rfl,h.e,h2.e,t.e,k⟩⟩
class Xj(w:Nat×Nat)(ts:xD):Prop where
 m:w∈ts
 s:ts.length<=1000
instance YT[h:Hat H q (.tup [.int (a:Nat),.int (b:Nat)])][h2:Hat H l (.lst ys)][t:TpA H ys (au ts)][m:Xj (a,b) ts]:Go (Mw (.ref l) [.ref q] H Q) (∀ys',aB H ys' (au (ts.erase (a,b)))->∀H',Off l H H'->H' l=some (.lst ys')->Q .non H'):=⟨λk=>⟨q,l,ys,a,b,ts,rfl,rfl,h.e,h2.e,t.e,⟨m.m,m.s⟩,k⟩⟩
end
end L2
namespace L2
open PySem PySem.Spec PyProof.Rows
section
variable{P:Program}{w:World}{K:W.Frag}{mg:xC}{base:Heap}{x:Str}{ps:List Str}{sp:Sp}
structure Uw(P:Program)(w:World)(K:W.Frag)(mg:xC)(base:Heap)(x:Str)(ps:List Str)(sp:Sp):Prop where
 ex:∃(f:Addr)(fd:FuncData),(∀vs H Q E,sp vs H Q E->vs.length=ps.length)/\(∀(A:Around)(outer:List Env)(s:Shared)(H:Hp)(us:xF)(vs:List V)(Q:VK),A.depth<recursionLimit->xY P w K mg base A outer s H->BindsTo s fd ⟨us,[]⟩ (ps.zip us)->Vals vs us->sp vs H Q E0 ->
  codeAny (model P w) A (.call (.ref f) ⟨us,[]⟩) (CR CX0 outer P w H s Q E0) s)/\mg x=some (.ref f)/\W.keepIn K (.ref f)=true/\Binds K fd ps []
abbrev cxH(P:Program)(w:World)(K:W.Frag)(mg:xC)(base:Heap)(N:List Str)(x:Str)(sc:Scope)(f:Addr)(cdv:Value)(A:Around)(outer:List Env)(s:Shared)(H:Hp):Cx:={ iV CX0 P w K mg base N x sc f cdv A outer s H E0 with calm:=false,xe:=λ_ _=>False }
theorem Qx{st:Stmt}{N:List Str}(h:HasDef K mg x st)(S:aN N ps (aF st))(len:∀vs H Q E,sp vs H Q E->vs.length=ps.length)
  (hb:∀(kV doc pm:Value)(an:xL)(cdv ct:Value)(us:xF),us.length=ps.length->bindArgs (W.fnOf x x (dw st) (cj st) (aF st) .none kV doc pm an cdv ct) ⟨us,[]⟩=pure (ps.zip us))
  (hbody:∀(f:Addr)(cdv:Value)(A:Around)(outer:List Env)(s:Shared)(H:Hp)(vs:List V)(Q:VK),sp vs H Q E0 ->
   ∃t,PSs (cxH P w K mg base N x (aF st) f cdv A outer s H) (cj st) t/\t { nx:=λ_ H'=>Q .non H',rt:=Q } (start N vs) H):Uw P w K mg base x ps sp:=by
 obtain⟨f,fd,F,m⟩:=h;refine⟨f,fd,len,?_,m,F.kp,F.binds hb⟩;obtain⟨oc,od,kV,doc,pm,an,cdv,ct,osl,rfl,lk,hcd⟩:=F.ex;intro A outer s H us vs Q room e0 bd r hsp;have hl:=len _ _ _ _ hsp;have KX:K.In s.heap:=e0.mod.kin.keeps λb o e=>(e0.bs b o e).1
 have lim:s.heap.NoLimit:=e0.mod.nolimit.keeps λb o e=>(e0.bs b o e).1
 have kinds:∀y∈ps.zip us,(aF st).names.lookup y.1=some .local\/((aF st).names.lookup y.1=some .cell/\((cellsFrom (s.heap.objs.size+1) (aF st).names []).lookup y.1).isSome=true):=λ⟨n,v⟩ hy=>by
  rcases S.par n (List.of_mem_zip hy).1 with q|q
  ·exact .inl q
  ·exact .inr ⟨q,W.cellsFrom_some _ _ _ (.inl q)⟩
 refine codeAny_call_function room (KX _ _ lk) rfl S.co S.gen rfl (W.codeRec_of KX hcd) (bd _ _ _ _ ?_);refine wpAny_newFunctionEnv_cells S.kind kinds λenv he s1 y=>?_
 subst he;refine⟨lim.keeps y.toInCall.keep,codeAny_func ?_⟩;obtain⟨t,ht,hq⟩:=hbody f cdv A outer s H vs Q hsp;have e1:xY P w K mg base ({ A with handled:=none }) outer s H:=⟨e0.frames,e0.mod,e0.bs,e0.bsz,e0.jK,e0.frf,e0.hok,e0.bare⟩
 have I0:Inv (iV CX0 P w K mg base N x (aF st) f cdv ({ A with handled:=none }) outer s H E0) [] (start N vs) H s1:=vq S rfl e1 hl r y
 have I:Inv (cxH P w K mg base N x (aF st) f cdv A outer s H) [] (start N vs) H s1 :=
  ⟨⟨I0.ok.mod,I0.ok.kind,I0.ok.glob,I0.ok.blt,I0.ok.above,I0.ok.inj,I0.ok.has,I0.ok.cab,(λh=>by cases h),I0.ok.frames,I0.ok.stk,I0.ok.exf,I0.ok.bs,I0.ok.bsz,I0.ok.uO,I0.ok.xR,I0.ok.jK,I0.ok.frf⟩,I0.os,I0.bare,I0.base,I0.loc,I0.cell,I0.free,I0.fZ,I0.pin,I0.hok,I0.len⟩
 refine mM (ht [] s1 (start N vs) H _ I hq) (λfl s' hs=>?_) λe s' hs=>False.elim hs
 have fin:∀{σ':St} {H':Hp} {v:V} {u:Value},Inv (cxH P w K mg base N x (aF st) f cdv A outer s H) [] σ' H' s'->RelV v u->Q v H'->CE outer P w H s Q u s' :=
  λ{σ' H' v u} J rv q=>⟨v,H',J.os,J.bare,J.base,J.hok,rv,q⟩
 cases fl with
 | ret u =>
  obtain⟨v,σ',H',J,rv,q⟩:=hs;exact fin J rv q
 | next =>
  obtain⟨σ',H',J,q⟩:=hs;exact fin (v:=V.non) (u:=Value.none) J rfl q
 | brk =>
  obtain⟨_,_,_,q⟩:=hs;exact False.elim q
 | cont =>
  obtain⟨_,_,_,q⟩:=hs;exact False.elim q
end
theorem MF{X:Cx}{k:Nat}{A:Around}(hr:Room k A)(eu:X.A.units=A.units):OpR X (compareOp .Eq) (KC X.K):=by
 intro pins s σ H x y v u Q I rx ry h;obtain⟨d,d',h1,h2,hd,q⟩:=h;have un:=hr.un;exact(eq3 I 100 X.A d d' x y v u (by lia) hd h1 h2 rx ry).rc X.prog X.w X.xe _ ⟨.bl _,H,I,rfl,q⟩
theorem Qy{X:Cx}{A:Around}{k:Nat}{x:Str}{ps:List Str}{sp:Sp}{p pos:Pos}{e:Expr}{es:List Expr}{t:TA}(D:Uw X.prog X.w X.K X.mg X.base x ps sp)(hr:Room k A)(eA:X.A.depth=A.depth)(ha:PA X (e::es) t)(hg:Gl X x:=by rfl)
  (hdb:(x==("__debug__" : Str))=false:=by decide) (he:starEach (e::es) X.env=(false,eval e X.env)::starEach es X.env:=by rfl) (hpl:(backTo pos (starEach es X.env)).any (·.1)=false:=by rfl) :
  PE X (.Call (.Name x p) (e::es) [] pos) (rD sp [] E0 t):=by
 obtain⟨f,fd,len,run,hm,hk,hb⟩:=D.ex;intro pins s σ H Q I h;refine wpAny_Call_Name_kw (kO I hg hm ?_ hdb);refine W.callWith_K (h₀:=X.base) I.ok.mod.kin hk (thn (ha pos pins s σ H _ I h) λus s1 ⟨vs,H1,I1,r,q⟩=>⟨I1.kIn,?_⟩) he hpl;have q:sp (vs++[]) H1 Q E0:=q;rw[mP] at q;have hl:us.length=ps.length:=by rw[<- r.length];exact len _ _ _ _ q
 have bd:=hb s1 us I1.kIn (by simpa using hl);rw[mP] at bd;show wpAny (model X.prog X.w) X.A (call (Value.ref f) us) (EP X pins σ Q) X.xe s1;refine wpAny_call (codeAny_mono (run X.A X.stack s1 H1 us vs Q (by rw[eA];exact hr.depth) I1.env0 bd r q) λr s' hq=>?_);cases r with
 | error e=>exact False.elim hq
 | ok fl =>
  cases fl with
  | ret u=>exact I1.after hq
  | next=>exact False.elim hq
  | brk=>exact False.elim hq
  | cont=>exact False.elim hq
end L2
namespace M22
end M22
namespace M22
end M22
namespace M44
def aP(s z:Nat)(t:Nat×Nat):Bool:=decide (s<t.1+t.2) && decide (t.1<s+z)
theorem dY{s z:Nat}{t:Nat×Nat}:aP s z t=true ↔ s<t.1+t.2/\t.1<s+z:=by
 unfold aP;simp
def fwF:Nat->Nat->List (Nat×Nat)->List (Nat×Nat)
 | 0,s,ts=>if ts.filter (aP s (2 ^ 0))=[] then [(s,2 ^ 0)] else []
 | k+1,s,ts=>if ts.filter (aP s (2 ^ (k+1)))=[] then [(s,2 ^ (k+1))] else if (s,2 ^ (k+1))∈ts.filter (aP s (2 ^ (k+1))) then [] else
   fwF k s (ts.filter (aP s (2 ^ (k+1))))++fwF k (s+2 ^ k) (ts.filter (aP s (2 ^ (k+1))))
def C(tk:Nat->Bool)(n p k:Nat):Prop:=p % 2 ^ k=0/\p+2 ^ k<=n/\∀c,p<=c->c<p+2 ^ k->tk c=false
theorem pos2(k:Nat):0<2 ^ k:=Nat.pow_pos (by decide)
theorem eO(k:Nat):2 ^ (k+1)=2 ^ k+2 ^ k:=by rw[Nat.pow_succ];lia
theorem C.down{tk:Nat->Bool}{n p k:Nat}(h:C tk n p (k+1)):C tk n p k:=by
 obtain⟨h1,h2,h3⟩:=h;have hp:=pos2 k;have e:=eO k;refine⟨?_,by lia,λc a b=>h3 c a (by lia)⟩;obtain⟨q,hq⟩:=Nat.dvd_of_mod_eq_zero h1;exact Nat.mod_eq_zero_of_dvd ⟨2*q,by rw[hq,e,Nat.add_mul];rw[<- Nat.mul_assoc,Nat.mul_comm (2 ^ k) 2,Nat.mul_assoc];lia⟩
theorem C.le{tk:Nat->Bool}{n p k j:Nat}(hj:j<=k)(h:C tk n p k):C tk n p j:=by
 induction k with
 | zero=>rw[Nat.le_zero.mp hj];exact h
 | succ k ih =>
  rcases Nat.lt_or_ge k j with c|c
  ·rw[show j=k+1 by lia];exact h
  ·exact ih c h.down
theorem C.uniq{tk:Nat->Bool}{n p k j:Nat}(h1:C tk n p k)(h2:¬ C tk n p (k+1))(h3:C tk n p j)(h4:¬ C tk n p (j+1)):k=j:=by
 rcases Nat.lt_trichotomy k j with c|c|c
 ·exact gS (h3.le c) h2
 ·exact c
 ·exact gS (h1.le c) h4
inductive Gr(tk:Nat->Bool)(n:Nat):Nat->List (Nat×Nat)->Prop where
 | done {p:Nat}:n<=p->Gr tk n p []
 | skip {p:Nat} {l:xD}:p<n->tk p=true->Gr tk n (p+1) l->Gr tk n p l
 | out {p k:Nat} {l:xD}:p<n->C tk n p k->¬ C tk n p (k+1)->Gr tk n (p+2 ^ k) l->Gr tk n p ((p,2 ^ k)::l)
theorem A_{tk:Nat->Bool}{n:Nat}{l:xD}:∀(z p:Nat),p+z<=n->(∀c,p<=c->c<p+z->tk c=true)->Gr tk n (p+z) l->Gr tk n p l
 | 0,p,_,_,h=>h
 | z+1,p,hn,ht,h=>by
  refine .skip (by lia) (ht p (rS _) (by lia)) (A_ z (p+1) (by lia) (λc a b=>ht c (by lia) (by lia)) ?_);rw[show p+1+z=p+(z+1) by lia];exact h
structure Ok(tk:Nat->Bool)(s k:Nat)(ts:xD):Prop where
 ag:∀c,s<=c->c<s+2 ^ k->(tk c=true ↔ ∃t∈ts,t.1<=c/\c<t.1+t.2)
 nest:∀t∈ts,s<t.1+t.2->t.1<s+2 ^ k->s<=t.1/\t.1+t.2<=s+2 ^ k/\∃j,t.2=2 ^ j/\(t.1-s) % 2 ^ j=0
theorem Qz{a k j:Nat}(h1:a % 2 ^ j=0)(h2:a+2 ^ j<=2 ^ (k+1))(h3:¬ (a=0/\j=k+1)):a+2 ^ j<=2 ^ k\/2 ^ k<=a:=by
 have hj:=pos2 j;have hk:=pos2 k;have e:=eO k;have hjk:j<=k:=by
  rcases Nat.lt_or_ge k j with c|c
  ·exfalso
   have h4:2 ^ (k+1)<=2 ^ j:=Nat.pow_le_pow_right (by decide) c;have h5:a=0:=by lia
   have h6:2 ^ j=2 ^ (k+1):=by lia
   have h7:j=k+1:=by
    rcases Nat.lt_or_ge (k+1) j with z|z
    ·have:2 ^ (k+1+1)<=2 ^ j:=Nat.pow_le_pow_right (by decide) z;have:=eO (k+1);have:=pos2 (k+1)
     lia
    ·lia
   exact h3 ⟨h5,h7⟩
  ·exact c
 rcases Nat.lt_or_ge a (2 ^ k) with c|c
 ·left
  obtain⟨q,hq⟩:=Nat.dvd_of_mod_eq_zero h1;obtain⟨m,hm⟩:∃m,2 ^ k=2 ^ j*m:=⟨2 ^ (k-j),by rw[<- Nat.pow_add];congr 1;lia⟩;rw[hq,hm] at c ⊢;have:q<m:=Nat.lt_of_mul_lt_mul_left c
  calc 2 ^ j*q+2 ^ j=2 ^ j*(q+1):=by rw[Nat.mul_add,Nat.mul_one]
   _<=2 ^ j*m:=Nat.mul_le_mul_left _ this
 ·exact .inr c
theorem MJ{a k j:Nat}(h1:a % 2 ^ j=0)(h2:2 ^ k<=a)(hj:j<=k):(a-2 ^ k) % 2 ^ j=0:=by
 obtain⟨q,hq⟩:=Nat.dvd_of_mod_eq_zero h1;obtain⟨m,hm⟩:∃m,2 ^ k=2 ^ j*m:=⟨2 ^ (k-j),by rw[<- Nat.pow_add];congr 1;lia⟩;rw[hq,hm,<- Nat.mul_sub];exact Nat.mul_mod_right _ _
theorem Ok.Ba{tk:Nat->Bool}{s k:Nat}{ts:xD}(h:Ok tk s k ts):Ok tk s k (ts.filter (aP s (2 ^ k))) where
 ag c a b:=by
  rw[h.ag c a b]
  constructor
  ·rintro ⟨t,ht,h1,h2⟩;exact⟨t,List.mem_filter.mpr ⟨ht,dY.mpr ⟨by lia,by lia⟩⟩,h1,h2⟩
  ·rintro ⟨t,ht,h1,h2⟩;exact⟨t,(List.mem_filter.mp ht).1,h1,h2⟩
 nest t ht:=h.nest t (List.mem_filter.mp ht).1
theorem Ok.halves{tk:Nat->Bool}{s k:Nat}{ts:xD}(h:Ok tk s (k+1) ts)(hn:(s,2 ^ (k+1)) ∉ ts):Ok tk s k ts/\Ok tk (s+2 ^ k) k ts:=by
 have e:=eO k;have hk:=pos2 k;have key:∀t∈ts,s<t.1+t.2->t.1<s+2 ^ (k+1)->∃j,t.2=2 ^ j/\s<=t.1/\(t.1-s) % 2 ^ j=0/\t.1+t.2<=s+2 ^ (k+1)/\(t.1+t.2<=s+2 ^ k\/(s+2 ^ k<=t.1/\j<=k)):=by
  intro t ht a b;obtain⟨h1,h2,j,h3,h4⟩:=h.nest t ht a b;refine⟨j,h3,h1,h4,h2,?_⟩;have hj:=pos2 j;rcases Qz (a:=t.1-s) (k:=k) (j:=j) h4 (by lia) (λ⟨z1,z2⟩=>hn (by
   have:t=(s,2 ^ (k+1)):=by
    apply Prod.ext
    ·show t.1=s
     lia
    ·show t.2=2 ^ (k+1);rw[h3,z2]
   rw[<- this];exact ht)) with c|c
  ·left;lia
  ·right
   refine⟨by lia,?_⟩;rcases Nat.lt_or_ge k j with z|z
   ·have:2 ^ (k+1)<=2 ^ j:=Nat.pow_le_pow_right (by decide) z
    lia
   ·exact z
 refine⟨⟨λc a b=>h.ag c a (by lia),λt ht a b=>?_⟩,⟨λc a b=>h.ag c (by lia) (by lia),λt ht a b=>?_⟩⟩
 ·obtain⟨j,h1,h2,h3,h4,h5⟩:=key t ht a (by lia);refine⟨h2,?_,j,h1,h3⟩;rcases h5 with h5|⟨h5,_⟩
  ·exact h5
  ·lia
 ·obtain⟨j,h1,h2,h3,h4,h5⟩:=key t ht (by lia) (by lia);rcases h5 with h5|⟨h5,h6⟩
  ·lia
  ·refine⟨h5,by lia,j,h1,?_⟩;have:=MJ (a:=t.1-s) (k:=k) (j:=j) h3 (by lia) h6;rw[show t.1-(s+2 ^ k)=t.1-s-2 ^ k by lia];exact this
theorem MK{s k:Nat}(h:s % 2 ^ (k+1)=0):(s+2 ^ k) % 2 ^ (k+1)≠0:=by
 have hk:=pos2 k;have e:=eO k;rw[Nat.add_mod,h,Nat.zero_add,Nat.mod_mod,Nat.mod_eq_of_lt (by lia)]
 lia
theorem QB{s k:Nat}(h:s % 2 ^ (k+1)=0):s % 2 ^ k=0/\(s+2 ^ k) % 2 ^ k=0:=by
 have e:=eO k;have h0:s % 2 ^ k=0:=by
  obtain⟨q,hq⟩:=Nat.dvd_of_mod_eq_zero h;rw[hq,e,Nat.add_mul,<- Nat.mul_add];exact Nat.mul_mod_right _ _
 exact⟨h0,by rw[Nat.add_mod,h0,Nat.mod_self];rfl⟩
theorem MN{tk:Nat->Bool}{n:Nat}:∀(k s:Nat)(ts l:xD),Ok tk s k ts->s % 2 ^ k=0->s+2 ^ k<=n->¬ C tk n s (k+1)->Gr tk n (s+2 ^ k) l->Gr tk n s (fwF k s ts++l):=by
 intro k;have free:∀(k s:Nat)(ts:xD),Ok tk s k ts->ts.filter (aP s (2 ^ k))=[]->∀c,s<=c->c<s+2 ^ k->tk c=false:=by
  intro k s ts ok he c a b;cases ht:tk c with
  | false=>rfl
  | true =>
   obtain⟨t,h1,h2,h3⟩:=(ok.ag c a b).mp ht;have:t∈ts.filter (aP s (2 ^ k)):=List.mem_filter.mpr ⟨h1,dY.mpr ⟨by lia,by lia⟩⟩;rw[he] at this;cases this
 have full:∀(k s:Nat)(ts l:xD),Ok tk s k ts->(s,2 ^ k)∈ts->s+2 ^ k<=n->Gr tk n (s+2 ^ k) l->Gr tk n s l:=by
  intro k s ts l ok hm hn hg;exact A_ (2 ^ k) s hn (λc a b=>(ok.ag c a b).mpr ⟨_,hm,a,b⟩) hg
 induction k with
 | zero =>
  intro s ts l ok al hn hc hg;unfold fwF;split
  ·rename_i he;exact .out (by have:=pos2 0;lia) ⟨al,hn,free 0 s ts ok he⟩ hc hg
  ·rename_i he;obtain⟨t,ht⟩:=List.exists_mem_of_ne_nil _ he;obtain⟨h1,h2⟩:=List.mem_filter.mp ht;obtain⟨h3,h4⟩:=dY.mp h2;obtain⟨h5,h6,j,h7,h8⟩:=ok.nest t h1 h3 h4;have hj:=pos2 j;have:t=(s,2 ^ 0):=by
    apply Prod.ext
    ·show t.1=s;simp only[Nat.pow_zero] at h4 h6
     lia
    ·show t.2=2 ^ 0;simp only[Nat.pow_zero] at h4 h6 ⊢
     lia
   rw[this] at h1;exact full 0 s ts l ok h1 hn hg
 | succ k ih =>
  intro s ts l ok al hn hc hg;have e:=eO k;have hk:=pos2 k;unfold fwF;split
  ·rename_i he;exact .out (by lia) ⟨al,hn,free (k+1) s ts ok he⟩ hc hg
  ·rename_i he;split
   ·rename_i hm;exact full (k+1) s ts l ok (List.mem_filter.mp hm).1 hn hg
   ·rename_i hm;obtain⟨o1,o2⟩:=ok.Ba.halves hm;obtain⟨a1,a2⟩:=QB al;rw[jI];have nc:¬ C tk n s (k+1):=by
     intro ⟨_,_,hf⟩;obtain⟨t,ht⟩:=List.exists_mem_of_ne_nil _ he;obtain⟨h1,h2⟩:=List.mem_filter.mp ht;obtain⟨h3,h4⟩:=dY.mp h2;obtain⟨h5,h6,j,h7,h8⟩:=ok.nest t h1 h3 h4;have hj:=pos2 j;have:=(ok.ag t.1 h5 (by lia)).mpr ⟨t,h1,rS _,by lia⟩;rw[hf t.1 h5 (by lia)] at this;cases this
    refine ih s _ _ o1 a1 (by lia) nc ?_;refine ih (s+2 ^ k) _ _ o2 a2 (by lia) (λz=>MK al z.1) ?_;rw[Nat.add_assoc,<- e];exact hg
end M44
namespace M44
def whF:Nat->Nat->Nat->List (Nat×Nat)
 | 0,_,_=>[]
 | f+1,s,n=>if s<n then (s,2 ^ Nat.log2 (n-s))::whF f (s+2 ^ Nat.log2 (n-s)) n else []
def Pc(n a b:Nat):Prop:=∃k,b=2 ^ k/\a % 2 ^ k=0/\a+2 ^ k<=n
inductive Ch(n:Nat):Nat->List (Nat×Nat)->Prop where
 | nil {s:Nat}:n<=s->Ch n s []
 | cons {s e:Nat} {l:xD}:s<n->s % 2 ^ (e+1)=0->s+2 ^ e<=n->n<s+2 ^ (e+1)->Ch n (s+2 ^ e) l->Ch n s ((s,2 ^ e)::l)
theorem mod_le{a j k:Nat}(h:a % 2 ^ k=0)(hj:j<=k):a % 2 ^ j=0 :=
 Nat.mod_eq_zero_of_dvd (Nat.dvd_trans (Nat.pow_dvd_pow 2 hj) (Nat.dvd_of_mod_eq_zero h))
theorem pA{j k:Nat}(h:2 ^ j<=2 ^ k):j<=k:=(Nat.pow_le_pow_iff_right (by decide)).mp h
theorem jm{j k:Nat}(h:2 ^ j<2 ^ k):j<k:=(Nat.pow_lt_pow_iff_right (by decide)).mp h
theorem MP{n:Nat}:∀(f s g:Nat),n-s<=f->s % 2 ^ g=0->n<s+2 ^ g->Ch n s (whF f s n)
 | 0,s,g,h,_,_=>.nil (by lia)
 | f+1,s,g,h,h1,h2=>by
  unfold whF;split
  ·rename_i hs;have a:2 ^ Nat.log2 (n-s)<=n-s:=Nat.log2_self_le (by lia);have b:n-s<2 ^ (Nat.log2 (n-s)+1):=Nat.lt_log2_self;have c:Nat.log2 (n-s)<g:=jm (by lia);have d:=pos2 (Nat.log2 (n-s));have m:=mod_le h1 (show Nat.log2 (n-s)+1<=g from c);have e:=eO (Nat.log2 (n-s));refine .cons hs m (by lia) (by lia) (MP f _ (Nat.log2 (n-s)) (by lia) ?_ (by lia));rw[Nat.add_mod,mod_le m (Nat.le_succ _),Nat.mod_self]
   rfl
  ·exact .nil (by lia)
theorem pB{a b k:Nat}(ha:a % 2 ^ k=0)(hb:b % 2 ^ k=0)(h:a<b):a+2 ^ k<=b:=by
 obtain⟨p,rfl⟩:=Nat.dvd_of_mod_eq_zero ha;obtain⟨q,rfl⟩:=Nat.dvd_of_mod_eq_zero hb;have h3:=pos2 k;have:p<q:=Nat.lt_of_mul_lt_mul_left h
 calc 2 ^ k*p+2 ^ k=2 ^ k*(p+1):=by rw[Nat.mul_add,Nat.mul_one]
  _<=2 ^ k*q:=Nat.mul_le_mul_left _ this
theorem QC{a b k:Nat}(ha:a % 2 ^ k=0)(hb:b % 2 ^ k=0):(a-b) % 2 ^ k=0:=by
 obtain⟨p,rfl⟩:=Nat.dvd_of_mod_eq_zero ha;obtain⟨q,rfl⟩:=Nat.dvd_of_mod_eq_zero hb;rw[<- Nat.mul_sub];exact Nat.mul_mod_right _ _
theorem sV{a b k:Nat}(ha:a % 2 ^ k=0)(hb:b % 2 ^ k=0):(a+b) % 2 ^ k=0:=by
 rw[Nat.add_mod,ha,hb];exact Nat.zero_mod _
theorem Bc{n s e a k:Nat}(h1:s % 2 ^ (e+1)=0)(h2:s+2 ^ e<=n)(h3:n<s+2 ^ (e+1))(ha:a % 2 ^ k=0)(hn:a+2 ^ k<=n)(m1:s<a+2 ^ k)(m2:a<s+2 ^ e):s<=a/\a+2 ^ k<=s+2 ^ e/\(a-s) % 2 ^ k=0:=by
 have ee:=eO e;have pk:=pos2 k;have pe:=pos2 e;rcases Nat.lt_or_ge e k with c|c
 ·exfalso
  have ha':=mod_le ha (show e+1<=k from c);have hk':(a+2 ^ k) % 2 ^ (e+1)=0:=sV ha' (mod_le (Nat.mod_self _) c);have:=pB h1 hk' m1
  lia
 ·have hs:=mod_le h1 (show k<=e+1 by lia);have he:(s+2 ^ e) % 2 ^ k=0:=sV hs (mod_le (Nat.mod_self _) c);refine⟨?_,pB ha he m2,QC ha hs⟩;rcases Nat.lt_or_ge a s with d|d
  ·have:=pB ha hs d
   lia
  ·exact d
theorem Xk{n a b:Nat}:∀{s:Nat} {ws:xD},Ch n s ws->s<=a->Pc n a b->∃w∈ws,w.1<=a/\a+b<=w.1+w.2/\(a-w.1) % b=0:=by
 intro s ws h
 induction h with
 | @nil s h =>
  rintro hs ⟨k,rfl,_,h2⟩;have:=pos2 k
  lia
 | @cons s e l h1 h2 h3 h4 _ ih =>
  rintro hs ⟨k,rfl,ha,hn⟩;rcases Nat.lt_or_ge a (s+2 ^ e) with c|c
  ·have pk:=pos2 k;obtain⟨_,x,y⟩:=Bc h2 h3 h4 ha hn (by lia) c;exact⟨_,zC,hs,x,y⟩
  ·obtain⟨w,hw,r⟩:=ih c ⟨k,rfl,ha,hn⟩;exact⟨w,zD _ hw,r⟩
theorem M4{n:Nat}:∀{s:Nat} {ws:xD},Ch n s ws->∀w∈ws,∃e,w.2=2 ^ e/\w.1 % 2 ^ (e+1)=0/\w.1+2 ^ e<=n/\n<w.1+2 ^ (e+1):=by
 intro s ws h
 induction h with
 | nil _=>intro w hw;cases hw
 | @cons s e l h1 h2 h3 h4 _ ih =>
  intro w hw;rcases jS.mp hw with rfl|hw
  ·exact⟨e,rfl,h2,h3,h4⟩
  ·exact ih w hw
theorem M5{n a b:Nat}{ws:xD}(h:Ch n 0 ws)(hb:∃k,b=2 ^ k):(∃w∈ws,w.1<=a/\a+b<=w.1+w.2/\(a-w.1) % b=0) ↔ Pc n a b:=by
 constructor
 ·rintro ⟨w,hw,h1,h2,h3⟩;obtain⟨k,rfl⟩:=hb;obtain⟨e,he,m,x,y⟩:=M4 h w hw;rw[he] at h2;have ke:k<=e:=pA (by lia);refine⟨k,rfl,?_,by lia⟩;have:=sV (mod_le m (show k<=e+1 by lia)) h3
  rwa [show w.1+(a-w.1)=a by lia] at this
 ·exact λp=>Xk h (Nat.zero_le _) p
def frF(ws ts:xD):List (Nat×Nat):=ws.flatMap λw=>fwF (Nat.log2 w.2) w.1 ts
def tkF(ts:xD)(c:Nat):Bool:=ts.any λt=>decide (t.1<=c) && decide (c<t.1+t.2)
theorem Gv{ts:xD}{c:Nat}:tkF ts c=true ↔ ∃t∈ts,t.1<=c/\c<t.1+t.2:=by
 unfold tkF;simp
theorem RZ{n s e:Nat}{ts:xD}(h2:s % 2 ^ (e+1)=0)(h3:s+2 ^ e<=n)(h4:n<s+2 ^ (e+1))(hp:∀t∈ts,Pc n t.1 t.2):Ok (tkF ts) s e ts where
 ag:=λc _ _=>Gv
 nest:=λt ht m1 m2=>by
  obtain⟨k,e1,e2,e3⟩:=hp t ht;rw[e1] at m1 ⊢;obtain⟨x,y,z⟩:=Bc h2 h3 h4 e2 e3 m1 m2;exact⟨x,y,k,rfl,z⟩
theorem R0{n:Nat}{ts:xD}(hp:∀t∈ts,Pc n t.1 t.2):∀{s:Nat} {ws:xD},Ch n s ws->Gr (tkF ts) n s (frF ws ts):=by
 intro s ws h
 induction h with
 | nil h=>exact .done h
 | @cons s e l h1 h2 h3 h4 _ ih =>
  unfold frF;rw[List.flatMap_cons];show Gr _ _ _ (fwF (Nat.log2 (2 ^ e)) s ts++_);rw[Nat.log2_two_pow];exact MN e s ts _ (RZ h2 h3 h4 hp) (mod_le h2 (Nat.le_succ _)) h3 (λc=>by have:=c.2.1;lia) ih
theorem QD{tk:Nat->Bool}{n p:Nat}{l l':xD}(h:Gr tk n p l):Gr tk n p l'->l=l':=by
 induction h generalizing l' with
 | done h =>
  intro h2;cases h2 with
  | done _=>rfl
  | skip h3 _ _=>lia
  | out h3 _ _ _=>lia
 | skip h1 h2 _ ih =>
  intro h3;cases h3 with
  | done h4=>lia
  | skip _ _ h5=>exact ih h5
  | @out _ k _ _ c _ _=>have:=c.2.2 _ (rS _) (by have:=pos2 k;lia);rw[h2] at this;cases this
 | @out p k l h1 h2 h3 _ ih =>
  intro h4;cases h4 with
  | done h5=>lia
  | skip _ h6 _=>have:=h2.2.2 _ (rS _) (by have:=pos2 k;lia);rw[h6] at this;cases this
  | out _ h6 h7 h8 =>
   obtain rfl:=C.uniq h2 h3 h6 h7;rw[ih h8]
theorem QF{n:Nat}{ts l ws:xD}(hp:∀t∈ts,Pc n t.1 t.2)(hc:Ch n 0 ws)(hg:Gr (tkF ts) n 0 l):l=frF ws ts:=QD hg (R0 hp hc)
end M44
namespace M44
def frP(n:Nat)(ts:xD):List (Nat×Nat):=frF (whF n 0 n) ts
structure Gd(n:Nat)(ts:xD):Prop where
 pc:∀t∈ts,Pc n t.1 t.2
 ap:ts.Pairwise λt w=>aP w.1 w.2 t=false
theorem Gd.nil{n:Nat}:Gd n []:=⟨λ_ h=>gS h vS,List.Pairwise.nil⟩
theorem Gd.snoc{n:Nat}{ts:xD}{w:Nat×Nat}(h:Gd n ts)(p:Pc n w.1 w.2)(m:∀t∈ts,aP w.1 w.2 t=false):Gd n (ts++[w]):=by
 refine⟨λt ht=>?_,zzA.mpr ⟨h.ap,List.pairwise_singleton ..,λt ht v hv=>?_⟩⟩
 ·rcases wT.mp ht with ht|ht
  ·exact h.pc t ht
  ·rw[rV.mp ht];exact p
 ·rw[rV.mp hv];exact m t ht
theorem Gd.sub{n:Nat}{ts us:xD}(h:Gd n ts)(s:us.Sublist ts):Gd n us:=⟨λt ht=>h.pc t (s.mem ht),h.ap.sublist s⟩
theorem Gd.erase{n:Nat}{ts:xD}{w:Nat×Nat}(h:Gd n ts):Gd n (ts.erase w):=h.sub List.erase_sublist
theorem Pc.pos{n a b:Nat}(h:Pc n a b):1<=b/\a+b<=n:=by
 obtain⟨k,rfl,_,h⟩:=h;have:=pos2 k
 lia
theorem Gd.nodup{n:Nat}{ts:xD}(h:Gd n ts):ts.Nodup:=by
 refine h.ap.imp_of_mem λ{t w} ht hw e z=>?_
 subst z;have:=(h.pc t ht).pos;have:aP t.1 t.2 t=true:=dY.mpr ⟨by lia,by lia⟩;rw[e] at this;cases this
theorem Gd.len{n:Nat}{ts:xD}(h:Gd n ts){w:Nat×Nat}(m:w∈ts):w.1+w.2<=n/\1<=w.2:=by
 have:=(h.pc w m).pos
 lia
theorem gr_mem{tk:Nat->Bool}{n p:Nat}{l:xD}(h:Gr tk n p l):∀w∈l,p<=w.1/\∃k,w.2=2 ^ k/\C tk n w.1 k:=by
 induction h with
 | done _=>exact λ_ h=>gS h vS
 | skip _ _ _ ih=>exact λw hw=>⟨by have:=(ih w hw).1;lia,(ih w hw).2⟩
 | @out p k l h1 h2 h3 _ ih =>
  intro w hw;have:=pos2 k;rcases jS.mp hw with rfl|hw
  ·exact⟨rS _,k,rfl,h2⟩
  ·exact⟨by have:=(ih w hw).1;lia,(ih w hw).2⟩
theorem Gw{tk:Nat->Bool}{n p:Nat}{l:xD}(h:Gr tk n p l):l.Pairwise (λa b=>a.1<b.1)/\l.length<=n-p:=by
 induction h with
 | done _=>exact⟨List.Pairwise.nil,by simp⟩
 | skip _ _ _ ih=>exact⟨ih.1,by lia⟩
 | @out p k l h1 h2 h3 h4 ih =>
  have:=pos2 k;have:=h2.2.1;refine⟨List.pairwise_cons.mpr ⟨λw hw=>?_,ih.1⟩,by rw[zzD];lia⟩;have:=(gr_mem h4 w hw).1;show p<w.1
  lia
section
variable{n:Nat}{ts:xD}{w:Nat×Nat}
theorem Ef(h:n<=240)(g:Gd n ts):Gr (tkF ts) n 0 (frP n ts):=R0 g.pc (MP n 0 8 (by lia) (by rfl) (by lia))
theorem M6(h:n<=240)(g:Gd n ts):(frP n ts).Pairwise (λa b=>a.1<b.1):=(Gw (Ef h g)).1
theorem eF(h:n<=240)(g:Gd n ts):(frP n ts).length<=240:=by have:=(Gw (Ef h g)).2;lia
theorem lD(h:n<=240)(g:Gd n ts):(frP n ts).Nodup:=(M6 h g).imp λh z=>by rw[z] at h;lia
theorem Gx(h:n<=240)(g:Gd n ts)(m:w∈frP n ts):Pc n w.1 w.2/\∀t∈ts,aP w.1 w.2 t=false:=by
 obtain⟨_,k,e,c1,c2,c3⟩:=gr_mem (Ef h g) w m;rw[e];refine⟨⟨k,rfl,c1,c2⟩,λt ht=>?_⟩;rw[Bool.eq_false_iff];intro z;obtain⟨z1,z2⟩:=dY.mp z;have tp:=(g.pc t ht).pos;have:=c3 (max w.1 t.1) (by lia) (by lia);rw[Bool.eq_false_iff] at this;exact this (Gv.mpr ⟨t,ht,by lia,by lia⟩)
theorem gU(h:n<=240)(g:Gd n ts)(m:w∈frP n ts):w.1+w.2<=240/\1<=w.2:=by
 have:=(Gx h g m).1.pos
 lia
theorem M7{k:Nat}(h:n<=240)(g:Gd n ts)(m:w∈frP n ts)(hk:2 ^ k<=w.2):Pc n w.1 (2 ^ k)/\∀t∈ts,aP w.1 (2 ^ k) t=false:=by
 obtain⟨⟨j,e,c1,c2⟩,ap⟩:=Gx h g m;rw[e] at hk;refine⟨⟨k,rfl,mod_le c1 (pA hk),by lia⟩,λt ht=>?_⟩;have:=ap t ht;rw[Bool.eq_false_iff] at this ⊢;intro z;obtain⟨z1,z2⟩:=dY.mp z;exact this (dY.mpr ⟨z1,by rw[e];lia⟩)
end
end M44
namespace K45
open PySem L2 PyProof.Rows
def top(i:Nat):Stmt:=PySem.Challenge.pw_slideroom_k45_halves_looked_at.main.body.getD i (.Pass ⟨0,0,0,0⟩)
abbrev mH:Stmt:=top 13
theorem qj:aN ["thing"] ["thing"] (aF mH):=⟨rfl,rfl,rfl,by decide +kernel,rfl,by decide +kernel,by decide +kernel⟩
abbrev pC:Stmt:=top 14
theorem sW:aN ["thing","low"] ["thing","low"] (aF pC):=⟨rfl,rfl,rfl,by decide +kernel,rfl,by decide +kernel,by decide +kernel⟩
abbrev j5:Stmt:=top 15
theorem n_:aN ["thing","low","high"] ["thing","low","high"] (aF j5):=⟨rfl,rfl,rfl,by decide +kernel,rfl,by decide +kernel,by decide +kernel⟩
abbrev pD:Stmt:=top 16
theorem sX:aN ["thing"] ["thing"] (aF pD):=⟨rfl,rfl,rfl,by decide +kernel,rfl,by decide +kernel,by decide +kernel⟩
abbrev sY:Stmt:=top 18
theorem vZ:aN ["stretch"] ["stretch"] (aF sY):=⟨rfl,rfl,rfl,by decide +kernel,rfl,by decide +kernel,by decide +kernel⟩
abbrev yJ:Stmt:=top 19
theorem Bf:aN ["one","other"] ["one","other"] (aF yJ):=⟨rfl,rfl,rfl,by decide +kernel,rfl,by decide +kernel,by decide +kernel⟩
abbrev pG:Stmt:=top 20
theorem sZ:aN ["stretches"] ["stretches"] (aF pG):=⟨rfl,rfl,rfl,by decide +kernel,rfl,by decide +kernel,by decide +kernel⟩
abbrev yK:Stmt:=top 21
theorem Bg:aN ["stretches"] ["stretches"] (aF yK):=⟨rfl,rfl,rfl,by decide +kernel,rfl,by decide +kernel,by decide +kernel⟩
abbrev j6:Stmt:=top 8
theorem v7:aN ["holes"] ["holes"] (aF j6):=⟨rfl,rfl,rfl,by decide +kernel,rfl,by decide +kernel,by decide +kernel⟩
abbrev pH:Stmt:=top 9
theorem tD:aN ["ordered","size","passed","hole"] ["ordered","size"] (aF pH):=⟨rfl,rfl,rfl,by decide +kernel,rfl,by decide +kernel,by decide +kernel⟩
abbrev pI:Stmt:=top 25
theorem tE:aN ["size","power"] ["size"] (aF pI):=⟨rfl,rfl,rfl,by decide +kernel,rfl,by decide +kernel,by decide +kernel⟩
abbrev Eh:Stmt:=top 26
theorem Gy:aN ["most","power"] ["most"] (aF Eh):=⟨rfl,rfl,rfl,by decide +kernel,rfl,by decide +kernel,by decide +kernel⟩
abbrev tG:Stmt:=top 27
theorem v8:aN ["many","wholes","start","whole"] ["many"] (aF tG):=⟨rfl,rfl,rfl,by decide +kernel,rfl,by decide +kernel,by decide +kernel⟩
abbrev M8:Stmt:=top 28
theorem M9:aN ["whole","piece"] ["whole","piece"] (aF M8):=⟨rfl,rfl,rfl,by decide +kernel,rfl,by decide +kernel,by decide +kernel⟩
abbrev yL:Stmt:=top 29
theorem Bh:aN ["many","start","size"] ["many","start","size"] (aF yL):=⟨rfl,rfl,rfl,by decide +kernel,rfl,by decide +kernel,by decide +kernel⟩
abbrev tH:Stmt:=top 30
theorem v9:aN ["many","start","size","taken"] ["many","start","size","taken"] (aF tH):=⟨rfl,rfl,rfl,by decide +kernel,rfl,by decide +kernel,by decide +kernel⟩
abbrev pJ:Stmt:=top 31
theorem bR:aN ["piece","taken","sharing","half"] ["piece","taken"] (aF pJ):=⟨rfl,rfl,rfl,by decide +kernel,rfl,by decide +kernel,by decide +kernel⟩
abbrev pK:Stmt:=top 32
theorem tK:aN ["many","taken","told","whole"] ["many","taken"] (aF pK):=⟨rfl,rfl,rfl,by decide +kernel,rfl,by decide +kernel,by decide +kernel⟩
abbrev yM:Stmt:=top 36
theorem Bj:aN ["_law_script","_law_k"] ["_law_script","_law_k"] (aF yM):=⟨rfl,rfl,rfl,by decide +kernel,rfl,by decide +kernel,by decide +kernel⟩
abbrev tL:Stmt:=top 37
theorem wg:aN ["_law_cell_here","_law_many_here","_law_found","_law_number","_law_k"] ["_law_cell_here","_law_many_here"] (aF tL):=⟨rfl,rfl,rfl,by decide +kernel,rfl,by decide +kernel,by decide +kernel⟩
abbrev tM:Stmt:=top 38
theorem lE:aN ["_law_thing"] ["_law_thing"] (aF tM):=⟨rfl,rfl,rfl,by decide +kernel,rfl,by decide +kernel,by decide +kernel⟩
abbrev yN:Stmt:=top 39
theorem Bk:aN ["_law_told","_law_row"] ["_law_told"] (aF yN):=⟨rfl,rfl,rfl,by decide +kernel,rfl,by decide +kernel,by decide +kernel⟩
abbrev yO:Stmt:=top 40
theorem Bl:aN ["_law_cell_here","_law_first","_law_second"] ["_law_cell_here"] (aF yO):=⟨rfl,rfl,rfl,by decide +kernel,rfl,by decide +kernel,by decide +kernel⟩
abbrev tO:Stmt:=top 41
theorem wk:aN ["_law_size_here","_law_power_here"] ["_law_size_here"] (aF tO):=⟨rfl,rfl,rfl,by decide +kernel,rfl,by decide +kernel,by decide +kernel⟩
abbrev yP:Stmt:=top 42
theorem Bo:aN ["_law_many_here","_law_taken","_law_cells","_law_start","_law_size_here","_law_found","_law_place"] ["_law_many_here","_law_taken"] (aF yP):=⟨rfl,rfl,rfl,by decide +kernel,rfl,by decide +kernel,by decide +kernel⟩
abbrev wA:Stmt:=top 43
abbrev mJ:Stmt:=top 44
theorem ql:aN ["_law_rule","_law_size_here","_law_largest","_law_way","e"] ["_law_rule","_law_size_here","_law_largest","_law_way"] (aF mJ):=⟨rfl,rfl,rfl,by decide +kernel,rfl,by decide +kernel,by decide +kernel⟩
abbrev tQ:Stmt:=top 45
theorem wB:aN ["_law_rule","_law_many_here","_law_taken","_law_way","_law_holes","_law_sizes","_law_orders","_law_dues","_law_k","_law_told"] ["_law_rule","_law_many_here","_law_taken","_law_way"] (aF tQ):=⟨rfl,rfl,rfl,by decide +kernel,rfl,by decide +kernel,by decide +kernel⟩
abbrev pL:Stmt:=top 46
theorem tU:aN ["_law_rule","_law_size_here","_law_due","_law_told","_law_fine"] ["_law_rule","_law_size_here","_law_due"] (aF pL):=⟨rfl,rfl,rfl,by decide +kernel,rfl,by decide +kernel,by decide +kernel⟩
abbrev tV:Stmt:=top 47
theorem wC:aN ["_law_rule","_law_many_here","_law_taken","_law_size_here","_law_way","_law_passed","_law_start","_law_wide","_law_told","_law_largest"] ["_law_rule","_law_many_here","_law_taken","_law_size_here","_law_way"] (aF tV):=⟨rfl,rfl,rfl,by decide +kernel,rfl,by decide +kernel,by decide +kernel⟩
abbrev yQ:Stmt:=top 48
theorem Bp:aN ["_law_many_here","_law_cell_here","_law_draws_here"] ["_law_many_here","_law_cell_here","_law_draws_here"] (aF yQ):=⟨rfl,rfl,rfl,by decide +kernel,rfl,by decide +kernel,by decide +kernel⟩
abbrev oh:Stmt:=top 49
theorem M_:aN ["_law_script","_law_many_here","_law_rule","_law_taken","_law_cell_here","_law_draws_here","_law_start","_law_size_here","_law_used"] ["_law_script"] (aF oh):=⟨rfl,rfl,rfl,by decide +kernel,rfl,by decide +kernel,by decide +kernel⟩
abbrev yR:Stmt:=inClass (top 33) 0
theorem Bq:aN ["self","many"] ["self","many"] (aF yR):=⟨rfl,rfl,rfl,by decide +kernel,rfl,by decide +kernel,by decide +kernel⟩
abbrev yS:Stmt:=inClass (top 33) 1
theorem Br:aN ["self"] ["self"] (aF yS):=⟨rfl,rfl,rfl,by decide +kernel,rfl,by decide +kernel,by decide +kernel⟩
abbrev tW:Stmt:=inClass (top 33) 2
theorem wD:aN ["self"] ["self"] (aF tW):=⟨rfl,rfl,rfl,by decide +kernel,rfl,by decide +kernel,by decide +kernel⟩
abbrev yU:Stmt:=inClass (top 33) 3
theorem Bs:aN ["self","start","size"] ["self","start","size"] (aF yU):=⟨rfl,rfl,rfl,by decide +kernel,rfl,by decide +kernel,by decide +kernel⟩
abbrev yV:Stmt:=inClass (top 33) 4
theorem Bt:aN ["self","start","size"] ["self","start","size"] (aF yV):=⟨rfl,rfl,rfl,by decide +kernel,rfl,by decide +kernel,by decide +kernel⟩
abbrev tZ:Stmt:=inClass (top 23) 0
theorem wF:aN ["self","book"] ["self","book"] (aF tZ):=⟨rfl,rfl,rfl,by decide +kernel,rfl,by decide +kernel,by decide +kernel⟩
abbrev t_:Stmt:=inClass (top 23) 1
theorem wG:aN ["self"] ["self"] (aF t_):=⟨rfl,rfl,rfl,by decide +kernel,rfl,by decide +kernel,by decide +kernel⟩
abbrev iZ:Stmt:=inClass (top 23) 2
theorem j7:aN ["self","behind"] ["self","behind"] (aF iZ):=⟨rfl,rfl,rfl,by decide +kernel,rfl,by decide +kernel,by decide +kernel⟩
abbrev pN:Stmt:=inClass (top 23) 3
theorem uc:aN ["self"] ["self"] (aF pN):=⟨rfl,rfl,rfl,by decide +kernel,rfl,by decide +kernel,by decide +kernel⟩
abbrev gq:Stmt:=inClass (top 23) 4
theorem iQ:aN ["self"] ["self"] (aF gq):=⟨rfl,rfl,rfl,by decide +kernel,rfl,by decide +kernel,by decide +kernel⟩
abbrev iw:Stmt:=inClass (top 23) 5
theorem jG:aN ["self"] ["self"] (aF iw):=⟨rfl,rfl,rfl,by decide +kernel,rfl,by decide +kernel,by decide +kernel⟩
abbrev ud:Stmt:=inClass (top 23) 7
theorem wH:aN ["self","size","found"] ["self","size"] (aF ud):=⟨rfl,rfl,rfl,by decide +kernel,rfl,by decide +kernel,by decide +kernel⟩
abbrev uf:Stmt:=inClass (top 23) 8
theorem wI:aN ["self","size","start"] ["self","size"] (aF uf):=⟨rfl,rfl,rfl,by decide +kernel,rfl,by decide +kernel,by decide +kernel⟩
abbrev yW:Stmt:=inClass (top 23) 9
theorem Bu:aN ["self","start","size"] ["self","start","size"] (aF yW):=⟨rfl,rfl,rfl,by decide +kernel,rfl,by decide +kernel,by decide +kernel⟩
abbrev ug:Stmt:=inClass (top 23) 10
theorem wJ:aN ["self","start","size"] ["self","start","size"] (aF ug):=⟨rfl,rfl,rfl,by decide +kernel,rfl,by decide +kernel,by decide +kernel⟩
abbrev yX:Stmt:=inClass (top 34) 0
theorem Bv:aN ["self","many"] ["self","many"] (aF yX):=⟨rfl,rfl,rfl,by decide +kernel,rfl,by decide +kernel,by decide +kernel⟩
abbrev yZ:Stmt:=inClass (top 34) 1
theorem Bw:aN ["self"] ["self"] (aF yZ):=⟨rfl,rfl,rfl,by decide +kernel,rfl,by decide +kernel,by decide +kernel⟩
abbrev uh:Stmt:=inClass (top 34) 2
theorem wK:aN ["self"] ["self"] (aF uh):=⟨rfl,rfl,rfl,by decide +kernel,rfl,by decide +kernel,by decide +kernel⟩
abbrev mK:Stmt:=inClass (top 34) 3
theorem qm:aN ["self","size"] ["self","size"] (aF mK):=⟨rfl,rfl,rfl,by decide +kernel,rfl,by decide +kernel,by decide +kernel⟩
abbrev uo:Stmt:=inClass (top 34) 4
theorem wL:aN ["self"] ["self"] (aF uo):=⟨rfl,rfl,rfl,by decide +kernel,rfl,by decide +kernel,by decide +kernel⟩
abbrev jo:Stmt:=inClass (top 6) 0
theorem IK:aN ["self","size","largest"] ["self","size","largest"] (aF jo):=⟨rfl,rfl,rfl,by decide +kernel,rfl,by decide +kernel,by decide +kernel⟩
theorem Nb{P:Program}{w:World}{K:W.Frag}{mg:xC}{base:Heap}{C:Addr}(S:JX K C)(n0:cX K C "size")(n1:cX K C "largest"):J1 P w K mg base CX0 "NoHole.__init__" jo ["self","size","largest"] (Wd C "size" "largest"):=λf fd F=>by
 refine⟨F.ok IK (λvs H Q E h=>?_) (λcdv A outer s H vs Q E hr h=>?_),F.binds (λ_ _ _ _ _ _=>el3 λ_ _ _=>rfl)⟩
 ·obtain⟨x,v,y,rfl,_⟩:=h
  rfl
 ·obtain⟨x,v,y,rfl,ho,k⟩:=h;refine⟨_,aq (JZ (pv 0) (pv 1)) (aD (JZ (pv 0) (pv 2))),?_⟩;refine⟨_,rfl,_,rfl,x,C,rfl,S,n0.taker,.inl ⟨ho,λdx hd=>?_⟩⟩;have hzx:dx≠x:=λq=>by rw[q,ho] at hd;cases hd
  exact⟨_,rfl,_,rfl,x,C,rfl,S,n1.taker,.inr ⟨dx,_,bx,by rw[bf hzx,bx],hzx,by simp,k dx hd⟩⟩
structure Txt(K:W.Frag)(mg:xC)(c:Nat->Addr)(R CP CV CB aG ak:Addr):Prop where
 dR:rN K mg "NoHole" "NoHole.__init__" jo (c 0) R
 Bx:Wg K (c 0) R
 i_:cX K (c 0) "size"
 eG:cX K (c 0) "largest"
 uq:HasDef K mg "is_whole" mH
 wM:HasDef K mg "is_from" pC
 qp:HasDef K mg "is_within" j5
 wN:HasDef K mg "is_many" pD
 BJ:HasDef K mg "end_of" sY
 Gz:HasDef K mg "share_cells" yJ
 wO:HasDef K mg "largest_size" pG
 GC:HasDef K mg "all_sizes" yK
 ur:W.codeHdIn K aG ak=true
 BK:Gj K mg "by_size" j6 aG
 wQ:HasDef K mg "found_in" pH
 wR:HasDef K mg "rounded" pI
 Nf:HasDef K mg "greatest_power" Eh
 BL:HasDef K mg "wholes_of" tG
 R4:HasDef K mg "is_cut_from" M8
 GD:HasDef K mg "is_piece" yL
 BP:HasDef K mg "is_free_piece" tH
 dZ:HasDef K mg "free_within" pJ
 wU:HasDef K mg "free_pieces" pK
 GF:HasDef K mg "_law_cell" yM
 BR:HasDef K mg "_law_draws" tL
 uw:HasDef K mg "_law_whole" tM
 GJ:HasDef K mg "_law_rows" yN
 GK:HasDef K mg "_law_many" yO
 BW:HasDef K mg "_law_power" tO
 GP:HasDef K mg "_law_free" yP
 wV:HasDef K mg "_law_by_size" wA
 ux:HasDef K mg "_law_refused" mJ
 BX:HasDef K mg "_law_state" tQ
 wW:HasDef K mg "_law_looked" pL
 BZ:HasDef K mg "_law_asked" tV
 GQ:HasDef K mg "_law_size" yQ
 cD:mg "isinstance" = none
 GR:mg "int" = none
 za:mg "bool" = none
 Ng:mg "list" = none
 zf:mg "tuple" = none
 wX:mg "len" = none
 Nh:mg "any" = none
 zj:mg "range" = none
 B_:mg "max" = none
 GX:mg "sum" = none
 jq:mg "sorted" = none
 j8:Dr mg "FEWEST_CELLS" (.int 16)
 ou:Dr mg "MOST_CELLS" (.int 240)
 g_R:mg "RoomError" = some (.ref R)
 c_R:(W.clsIn K R).isSome=true
 t_R:W.typeIn K (.ref R)=some (.type "type")
 m_R:W.mroIn K R (.type "BaseException")=some true
 clP:Cls K CP
 wY:mg "Pieces" = some (.ref CP)
 aR:cX K CP "many"
 aJ:cX K CP "pieces"
 clV:Cls K CV
 wZ:mg "Halves" = some (.ref CV)
 aU:cX K CV "book"
 clB:Cls K CB
 GZ:mg "Rule" = some (.ref CB)
 G3:∃f,FnAt K "__init__" "Pieces.__init__" yR f/\Mk K CP f
 G4:∃f,FnAt K "told" "Pieces.told" yS f/\Meth K CP "told" f
 Ca:∃f,FnAt K "taken" "Pieces.taken" tW f/\Meth K CP "taken" f
 G5:∃f,FnAt K "take" "Pieces.take" yU f/\Meth K CP "take" f
 G6:∃f,FnAt K "give" "Pieces.give" yV f/\Meth K CP "give" f
 Cd:∃f,FnAt K "__init__" "Rule.__init__" tZ f/\vN K CB "__init__" f
 Ce:∃f,FnAt K "mark" "Rule.mark" t_ f/\Meth K CV "mark" f
 mz:∃f,FnAt K "turn_mark" "Rule.turn_mark" iZ f/\Meth K CV "turn_mark" f
 xg:∃f,FnAt K "holes" "Rule.holes" pN f/\Meth K CV "holes" f
 jr:∃f,FnAt K "largest_hole" "Rule.largest_hole" gq f/\Meth K CV "largest_hole" f
 j9:∃f,FnAt K "free_cells" "Rule.free_cells" iw f/\Meth K CV "free_cells" f
 Cg:∃f,FnAt K "look" "Rule.look" ud f/\Meth K CV "look" f
 Ci:∃f,FnAt K "take" "Rule.take" uf f/\Meth K CV "take" f
 G7:∃f,FnAt K "put" "Rule.put" yW f/\Meth K CV "put" f
 Cj:∃f,FnAt K "give" "Rule.give" ug f/\Meth K CV "give" f
 G8:∃f,FnAt K "__init__" "Halves.__init__" yX f/\Mk K CV f
 G9:∃f,FnAt K "rule_word" "Halves.rule_word" yZ f/\Meth K CV "rule_word" f
 Ck:∃f,FnAt K "order" "Halves.order" uh f/\Meth K CV "order" f
 uz:∃f,FnAt K "used_by" "Halves.used_by" mK f/\Meth K CV "used_by" f
 Cm:∃f,FnAt K "taken" "Halves.taken" uo f/\Meth K CV "taken" f
local macro_rules|`(tactic| k_tabat)=>`(tactic| first
 | with_reducible assumption
 | (with_reducible exact New.e (by with_reducible assumption))
 | (with_reducible refine New.at (by with_reducible assumption) ?_;k_tabat)
 | (with_reducible refine Off.at (by with_reducible assumption) (by k_ne) ?_;k_tabat)
 | (with_reducible refine Kp.at (by with_reducible assumption) (by k_ne) ?_;k_tabat)
 | (with_reducible refine Same.at (by with_reducible assumption) ?_;k_tabat))
local macro_rules|`(tactic| k_ne)=>`(tactic| first
 | with_reducible assumption
 | (with_reducible exact Ne.symm (by with_reducible assumption))
 | (with_reducible exact New.neA (by with_reducible assumption) (by k_in))
 | (with_reducible exact New.neB (by with_reducible assumption) (by k_in)))
local macro_rules|`(tactic| k_in)=>`(tactic| first
 | (with_reducible exact Hs.of (by with_reducible assumption))
 | (with_reducible exact New.hs (by with_reducible assumption))
 | (with_reducible refine New.Ux (by with_reducible assumption) ?_;k_in)
 | (with_reducible refine Off.Ux (by with_reducible assumption) (by k_ne) ?_;k_in)
 | (with_reducible refine Kp.Ux (by with_reducible assumption) (by k_ne) ?_;k_in)
 | (with_reducible refine Same.Ux (by with_reducible assumption) ?_;k_in))
local macro_rules|`(tactic| k_flat)=>`(tactic| first
 | with_reducible assumption
 | (with_reducible exact SqL.of (by k_tabat))
 | (with_reducible exact SqT.of (by k_tabat))
 | (with_reducible refine Same.seq (by with_reducible assumption) ?_;k_flat)
 | (with_reducible refine Same.seq (New.s (by with_reducible assumption)) ?_;k_flat)
 | (with_reducible refine Off.seq (by with_reducible assumption) (by k_ne) ?_;k_flat))
local macro_rules|`(tactic| k_keys)=>`(tactic| first
 | with_reducible assumption
 | (with_reducible exact Ri)
 | (with_reducible exact Wt)
 | (with_reducible exact Wu)
 | (with_reducible exact Wv)
 | with_unfolding_all rfl)
local macro_rules|`(tactic| k_room)=>`(tactic| first
 | with_reducible assumption
 | decide
 | lia
 | (simp only[List.length_cons,List.length_nil,List.length_map,List.length_append,List.length_replicate];lia))
local macro_rules|`(tactic| k_inst)=>`(tactic| first
 | (with_reducible refine cO ?_;first|lia|(simp only[List.length_cons,List.length_nil,List.length_map,List.length_append,List.length_replicate,aA];lia))
 | (with_reducible refine rW ?_;first|lia|(simp only[List.length_cons,List.length_nil,List.length_map,List.length_append,List.length_replicate,aA];lia))
 | with_unfolding_all exact Nat.le_of_ble_eq_true rfl
 | lia)
local macro_rules|`(tactic| k_upd)=>`(tactic| first
 | with_reducible assumption
 | (intro b u e;k_tabat))
local macro_rules|`(tactic| k_updF)=>`(tactic| first
 | with_reducible assumption
 | (intro b u nb e;k_tabat))
local macro_rules|`(tactic| k_all)=>`(tactic| first
 | with_reducible assumption
 | (refine⟨?_,?_,?_⟩;(focus (intro b u e;k_tabat));(focus k_tabat);(focus (intro b u e;k_ne))))
local macro_rules|`(tactic| k_mem)=>`(tactic| with_reducible (first
 | refine J7 ?_|refine J8 ?_|refine J9 ?_|refine Rm ?_|refine Fv ?_|refine Fp ?_|refine Rj ?_|refine Wo ?_
 | refine Fw ?_|refine Wf ?_|refine Rk ?_|refine Rn ?_|refine Fo ?_|refine J6 ?_|refine w_call ?_|refine w_c ?_
 | refine wv0 ?_|refine wv1 ?_|refine wv2 ?_|refine wv3 ?_|refine wv4 ?_|refine wv5 ?_|refine wv6 ?_|refine wv7 ?_|refine wv8 ?_|refine wv9 ?_|refine abL ?_|refine abM ?_|refine abN ?_|refine abO ?_
 | refine wn0 ?_|refine wn1 ?_|refine wn2 ?_|refine wn3 ?_|refine wn4 ?_|refine wn5 ?_|refine wn6 ?_|refine wn7 ?_|refine wn8 ?_|refine wn9 ?_|refine abP ?_|refine abQ ?_|refine abS ?_|refine abT ?_
 | refine Wm ?_|refine w_u ?_|refine abU ?_|refine Rq ?_|refine Rr ?_|refine abb ?_|refine abd ?_|refine abe ?_|refine abf ?_|refine Wn ?_|refine w_not ?_|refine w_and ?_|refine w_or ?_|refine Kh ?_|refine Kl ?_|refine abg ?_
 | refine abh ?_|refine PX ?_|refine Wq ?_|refine abj ?_|refine w_sub ?_|refine Fx ?_|refine Xl ?_|refine Km ?_|refine Rt ?_|refine Rv ?_|refine abk ?_|refine aaz ?_|refine aaA ?_
 | refine w_mod (by decide) ?_|refine w_div (by decide) (by decide) ?_|refine w_pow (by decide) (by decide) (by decide) ?_|refine Kf (by decide) (by decide) ?_|refine Kg (by decide) (by decide) ?_|refine Fq ?_|refine Ft ?_|refine aaB ?_|refine abl ?_|refine aaC ?_|refine YW ?_|refine abm ?_|refine aaD ?_|refine abn ?_|refine aaE ?_|refine KQ ?_|refine Ac ?_|refine Ab ?_|refine Aa ?_))
set_option hygiene false in
local macro_rules|`(tactic| k_meth)=>`(tactic| first
 | k_mem
 | with_reducible (refine K5 (by k_tabat) ?_)
 | with_reducible (refine K6 (by k_tabat) ?_)
 | with_reducible (refine aaF (by k_tabat) ?_)
 | with_reducible (refine aaG (by k_tabat) ?_)
 | with_reducible refine aaH ?_
 | with_reducible refine K7 ?_
 | with_reducible refine K8 ?_
 | with_reducible refine aaI ?_
 | with_reducible (refine Ko (by k_flat) (by k_keys) ?_)
 | with_reducible (refine Ru (by k_flat) (by k_keys) ?_)
 | with_reducible (refine Ks (by k_flat) ?_)
 | with_reducible (refine Ku (by k_flat) ?_)
 | with_reducible (refine YX (by k_inst) ?_;intro _ _ _)
 | with_reducible (refine RB (by k_flat) ?_)
 | with_reducible (refine RD (by k_tabat) (by k_inst) ?_;intro _ _ _)
 | with_reducible (refine abo (by k_tabat) ?_;intro _ _ _)
 | with_reducible (refine RG (by k_flat) ?_;intro _ _ _)
 | with_reducible (refine K1 (by k_tabat) (by k_tabat) (by k_inst) ?_;intro _ _ _)
 | with_reducible (refine aaJ (by k_flat) ?_;intro _ _ _)
 | with_reducible (refine K4 (by k_tabat) (by lia) ?_;intro _ _ _)
 | with_reducible (refine Kw (by k_room) ?_)
 | with_reducible (refine Ky (by k_room) ?_)
 | with_reducible (refine Dw (by k_room) ?_)
 | with_reducible (refine Ni (by k_room) ?_)
 | with_reducible (refine Ww ?_)
 | with_reducible (refine Wx ?_)
 | with_reducible (refine RJ ?_)
 | with_reducible (refine RK ?_)
 | with_reducible (refine K9 (by with_unfolding_all rfl) (by k_flat) ?_)
 | with_reducible (refine aaK rfl ?_)
 | with_reducible refine aaL ?_
 | with_reducible refine Rx ?_
 | with_reducible refine KZ ?_
 | with_reducible (refine w_mod (by lia) ?_)
 | with_reducible (refine aaM ?_)
 | with_reducible refine aaN ?_
 | with_reducible refine FQ ?_
 | with_reducible refine YZ ?_
 | with_reducible refine KD ?_
 | with_reducible refine Fz ?_)
section
variable{P:Program}{w:World}{K:W.Frag}{mg:xC}{base:Heap}{c:Nat->Addr}{aG ak R CP CV CB:Addr}
theorem cP(T:Txt K mg c R CP CV CB aG ak):Def P w K mg base CX0 1 "is_whole" ["thing"] (jX K):=by
 refine bM T.uq qj (λvs H Q E h=>?_) (λ_ _ _ _ _ _=>el1 λ_=>rfl) (λf cdv A outer s H vs Q E hr h=>?_)
 ·obtain⟨x,n,rfl,_⟩:=h
  rfl
 ·obtain⟨x,n,rfl,ty,k⟩:=h;have nd:=qj.nd;refine⟨_,(aD (aM (fJ (bN fP rfl T.cD boot_isinstance (aj (pv 0) (aj (m_ (T := "int") rfl T.GR boot_int) ao))) (gG (xV (bN fP rfl T.cD boot_isinstance (aj (pv 0) (aj (m_ (T := "bool") rfl T.za boot_bool) ao)))))))),?_⟩;clear nd ;rw[show start ["thing"] [x]=[some (x)] from rfl]
  try dsimp only[cC,bI]
  rw[Tf] at k
  repeat k_mem
  refine w_is ty (JN ty) ?_
  repeat k_mem
  refine i_b (λh=>?_) (λh=>?_)
  ·repeat k_mem
   refine w_is ty (yh ty) ?_
   repeat k_mem
   rw[h] at k;exact k
  ·rw[h] at k;exact k
theorem cB(T:Txt K mg c R CP CV CB aG ak):Def P w K mg base CX0 2 "is_from" ["thing","low"] (g_ K):=by
 have cP:=cP (P:=P) (w:=w) (base:=base) T;refine bM T.wM sW (λvs H Q E h=>?_) (λ_ _ _ _ _ _=>el2 λ_ _=>rfl) (λf cdv A outer s H vs Q E hr h=>?_)
 ·obtain⟨x,n,lo,rfl,_⟩:=h
  rfl
 ·obtain⟨x,n,lo,rfl,ty,k⟩:=h;have nd:=sW.nd;refine⟨_,(aD (aM (fJ (aK cP hr (aj (pv 0) ao)) (gG (fK zG (pv 1) (pv 0) (bD _)))))),?_⟩;clear nd cP;rw[show start ["thing","low"] [x,.int lo]=[some (x),some (.int lo)] from rfl]
  try dsimp only[cC,bI]
  repeat k_mem
  refine yw ty ?_
  repeat k_mem
  cases x with
  | int i =>
   refine i_T rfl ?_
   repeat k_mem
   exact k
  | _=>exact i_F rfl k
theorem iR(T:Txt K mg c R CP CV CB aG ak):Def P w K mg base CX0 2 "is_within" ["thing","low","high"] (nM K):=by
 have cP:=cP (P:=P) (w:=w) (base:=base) T;refine bM T.qp n_ (λvs H Q E h=>?_) (λ_ _ _ _ _ _=>el3 λ_ _ _=>rfl) (λf cdv A outer s H vs Q E hr h=>?_)
 ·obtain⟨x,n,lo,hi,rfl,_⟩:=h
  rfl
 ·obtain⟨x,n,lo,hi,rfl,ty,k⟩:=h;have nd:=n_.nd;refine⟨_,(aD (aM (fJ (aK cP hr (aj (pv 0) ao)) (gG (Jx zG zG (pv 1) (pv 0) (pv 2)))))),?_⟩;clear nd cP;rw[show start ["thing","low","high"] [x,.int lo,.int hi]=[some (x),some (.int lo),some (.int hi)] from rfl]
  try dsimp only[cC,bI]
  repeat k_mem
  refine yw ty ?_
  repeat k_mem
  cases x with
  | int i =>
   refine i_T rfl ?_
   repeat k_mem
   have k:Q (.bl (decide (lo<=i) && decide (i<=hi))) H:=k;refine fB (λh=>?_) (λh=>?_)
   ·repeat k_mem
    rw[uB h,Bool.true_and] at k;exact k
   ·rw[uA h,Bool.false_and] at k;exact k
  | _=>exact i_F rfl k
theorem dh(T:Txt K mg c R CP CV CB aG ak):Def P w K mg base CX0 3 "is_many" ["thing"] (rY K):=by
 have iR:=iR (P:=P) (w:=w) (base:=base) T;refine bM T.wN sX (λvs H Q E h=>?_) (λ_ _ _ _ _ _=>el1 λ_=>rfl) (λf cdv A outer s H vs Q E hr h=>?_)
 ·obtain⟨x,n,rfl,_⟩:=h
  rfl
 ·obtain⟨x,n,rfl,ty,k⟩:=h;have nd:=sX.nd;refine⟨_,(aD (aM (aK iR hr (aj (pv 0) (aj (zL T.j8) (aj (zL T.ou) ao)))))),?_⟩;clear nd iR;rw[show start ["thing"] [x]=[some (x)] from rfl]
  try dsimp only[cC,bI]
  repeat k_mem
  exact La ty k
theorem dD(T:Txt K mg c R CP CV CB aG ak):Def P w K mg base CX0 1 "end_of" ["stretch"] oZ:=by
 refine bM T.BJ vZ (λvs H Q E h=>?_) (λ_ _ _ _ _ _=>el1 λ_=>rfl) (λf cdv A outer s H vs Q E hr h=>?_)
 ·obtain⟨q,a,b,rfl,_⟩:=h
  rfl
 ·obtain⟨q,a,b,rfl,h,k⟩:=h;have nd:=vZ.nd;refine⟨_,(aD (aM (aV cJ (bJ bH (pv 0) aC (λ_ _=>rfl)) (bJ bH (pv 0) aC (λ_ _=>rfl))))),?_⟩;clear nd ;rw[show start ["stretch"] [.ref q]=[some (.ref q)] from rfl]
  try dsimp only[cC,bI]
  repeat k_meth
  exact k
theorem lF(T:Txt K mg c R CP CV CB aG ak):Def P w K mg base CX0 1 "largest_size" ["stretches"] rZ:=by
 refine bM T.wO sZ (λvs H Q E h=>?_) (λ_ _ _ _ _ _=>el1 λ_=>rfl) (λf cdv A outer s H vs Q E hr h=>?_)
 ·obtain⟨p,ys,ws,rfl,_⟩:=h
  rfl
 ·obtain⟨p,ys,ws,rfl,hp,tp,hz,k⟩:=h;have nd:=sZ.nd;refine⟨_,(aD (aM (yt (oY rfl) rfl T.B_ boot_max (aj (nq (N:=["stretch"]) (nt:=1) (fr:=[]) (cM (pv 0)) (λ_ _ _ _=>(bL (i:=0) (show (["stretch"]:List Str).Nodup from by decide +kernel) rfl (Or.inl rfl))) (λ_ _ _ _=>kZ) (λ_ _ _ _=>(bJ (Fy (K:=K) rfl) (pv 0) aC (λ_ _=>rfl)))) ao) aC))),?_⟩;clear nd ;rw[show start ["stretches"] [.ref p]=[some (.ref p)] from rfl]
  try dsimp only[cC,bI]
  repeat k_meth
  refine TF (SqL.of hp) (vU (F:=λr=>r.getD 1 .non) hp tp (by rw[tp.1,aA];lia) rfl (λq r H1 R hr s1 h1 kk=>?_) λl H1 n1=>?_)
  ·obtain⟨w,_,rfl⟩:=qA.mp hr
   repeat k_meth
   exact kk _ (Same.refl _)
  ·repeat k_meth
   refine DK (ns:=bO ws) (SqL.of ?_) (λn hn=>?_) (k _ n1.s)
   ·rw[n1.e];simp[au,bO]
   ·obtain⟨w,_,rfl⟩:=qA.mp hn;exact Int.natCast_nonneg _
theorem qN(T:Txt K mg c R CP CV CB aG ak):Def P w K mg base CX0 1 "all_sizes" ["stretches"] Ad:=by
 refine bM T.GC Bg (λvs H Q E h=>?_) (λ_ _ _ _ _ _=>el1 λ_=>rfl) (λf cdv A outer s H vs Q E hr h=>?_)
 ·obtain⟨p,ys,ws,rfl,_⟩:=h
  rfl
 ·obtain⟨p,ys,ws,rfl,hp,tp,hz,hw,k⟩:=h;have nd:=Bg.nd;refine⟨_,(aD (aM (bN (oX rfl) rfl T.GX boot_sum (aj (nq (N:=["stretch"]) (nt:=1) (fr:=[]) (cM (pv 0)) (λ_ _ _ _=>(bL (i:=0) (show (["stretch"]:List Str).Nodup from by decide +kernel) rfl (Or.inl rfl))) (λ_ _ _ _=>kZ) (λ_ _ _ _=>(bJ (Fy (K:=K) rfl) (pv 0) aC (λ_ _=>rfl)))) ao)))),?_⟩;clear nd ;rw[show start ["stretches"] [.ref p]=[some (.ref p)] from rfl]
  try dsimp only[cC,bI]
  repeat k_meth
  refine TF (SqL.of hp) (vU (F:=λr=>r.getD 1 .non) hp tp (by rw[tp.1,aA];lia) rfl (λq r H1 R hr s1 h1 kk=>?_) λl H1 n1=>?_)
  ·obtain⟨w,_,rfl⟩:=qA.mp hr
   repeat k_meth
   exact kk _ (Same.refl _)
  ·repeat k_meth
   refine w_sumL (ns:=bO ws) (SqL.of ?_) (λn hn=>?_) (by unfold bO;rw[List.length_map];lia) (k _ n1.s)
   ·rw[n1.e];simp[au,bO]
   ·obtain⟨w,hw',rfl⟩:=qA.mp hn;have:=hw w hw'
    lia
end
end K45
namespace K45
open PySem L2 PyProof.Rows
local macro_rules|`(tactic| k_room)=>`(tactic| first
 | with_reducible assumption
 | with_unfolding_all exact rfl
 | with_unfolding_all exact Nat.le_of_ble_eq_true rfl
 | lia
 | (with_reducible refine cO ?_;first|lia|(simp only[List.length_cons,List.length_nil,List.length_map,List.length_append,List.length_replicate,aA,List.length_take,List.length_drop,List.length_set];lia))
 | (with_reducible refine rW ?_;first|lia|(simp only[List.length_cons,List.length_nil,List.length_map,List.length_append,List.length_replicate,aA,List.length_take,List.length_drop,List.length_set];lia))
 | (simp only[List.length_cons,List.length_nil,List.length_map,List.length_append,List.length_replicate,aA,List.length_take,List.length_drop,List.length_set];lia)
 | decide)
local macro_rules|`(tactic| k_mem)=>`(tactic| first
 | with_reducible assumption
 | decide
 | lia
 | (simp only[List.length_cons,List.length_nil,List.length_map,List.length_append,List.length_replicate,aA,List.length_take,List.length_drop,List.length_set];lia))
set_option hygiene false in
local macro_rules|`(tactic| k_meth)=>`(tactic| first
 | with_reducible refine go1 ?_
 | (clear F;intro H_ a_ dx_ (F:SH _ _ _ _ _) (ex_:mG _ _ _ _);have exA_:=ExA.mk ex_)
 | (clear F;intro H_ (F:SH _ _ _ _ _))
 | (clear F;intro H_ p_ (F:SH _ _ _ _ _))
 | (clear F;intro H_ x_ dx_ (F:SH _ _ _ _ _))
 | (clear F;intro H_ p_ ys_ l_ (F:SH _ _ _ _ _))
 | with_reducible refine sd (by k_room) ?_
 | (intro (r_:Int) (x_:Int) (y_:Int) (z_:Int) lo_ hi_)
 | (intro (x_:Int) (y_:Int))
 | (intro (c_:Int))
 | with_reducible refine Kw (by k_mem) ?_
 | with_reducible refine Ky (by k_mem) ?_
 | with_reducible refine Dw (by k_mem) ?_
 | with_reducible refine Ni (by k_mem) ?_)
theorem lG{c:TT}{tb:TS}{D:Ends}{σ:L2.St}{H:Hp}(Pv:Nat->L2.St->Hp->Prop)(h0:∃m,Pv m σ H)
  (hs:∀m σ H,Pv m σ H->c σ H λb H1=>if b=true then ∃N:L2.St->Hp->Prop,(∀σ' H',N σ' H'->∃m',m'<m/\Pv m' σ' H')/\tb { D with nx:=N,ct:=N,bk:=D.nx } σ H1 else D.nx σ H1):Jm c tb D σ H:=⟨Pv,h0,hs⟩
open M44
def IsR(i:Nat)(r:Nat):Prop:=∃k,r=2 ^ k/\i<=2 ^ k/\(k=0\/2 ^ (k-1)<i)
theorem Nj{i r:Nat}(h1:1<=i)(h:IsR i r):r=i ↔ ∃k,i=2 ^ k:=by
 obtain⟨k,rfl,h2,h3⟩:=h
 constructor
 ·exact λe=>⟨k,e.symm⟩
 ·rintro ⟨j,rfl⟩;have a:=pA h2;rcases h3 with rfl|h3
  ·rw[show j=0 by lia]
  ·have b:=jm h3;rw[show k=j by lia]
theorem G_{m k:Nat}(h1:2 ^ k<=m)(h2:m<2 ^ (k+1)):2 ^ k=2 ^ Nat.log2 m:=by
 have m0:m≠0:=by have:=pos2 k;lia
 have a:2 ^ Nat.log2 m<=m:=Nat.log2_self_le m0;have b:m<2 ^ (Nat.log2 m+1):=Nat.lt_log2_self;have c:=jm (j:=k) (k:=Nat.log2 m+1) (by lia);have d:=jm (j:=Nat.log2 m) (k:=k+1) (by lia);rw[show k=Nat.log2 m by lia]
theorem eZ(ws:xD)(w:Nat×Nat):au (ws++[w])=au ws++[[V.int (w.1:Nat),V.int (w.2:Nat)]]:=by unfold au;rw[List.map_append];rfl
theorem fV{H:Hp}{ws:xD}{ys:List V}{i:Nat}{v:V}(h:aB H ys (au ws))(e:ys[i]?=some v):∃w q,ws[i]?=some w/\v=.ref q/\H q=some (.tup [.int (w.1:Nat),.int (w.2:Nat)]):=by
 obtain⟨r,q,e1,e2,e3⟩:=gA h e;unfold au at e1;rw[vE] at e1;cases e4:ws[i]? with
 | none=>rw[e4] at e1;cases e1
 | some w =>
  rw[e4] at e1;cases e1;exact⟨w,q,rfl,e2,e3⟩
theorem aA{H:Hp}{ws:xD}{ys:List V}(h:aB H ys (au ws)):ys.length=ws.length:=by rw[h.1];unfold au;rw[List.length_map]
theorem Cq{K:W.Frag}{l:Addr}{ys:List V}{ws:xD}{G:Nat×Nat->V}{te:TE}{σ fvs:L2.St}{fr:List Nat}{H:Hp}{Q:VK}(hq:SqL K H l ys)(tp:aB H ys (au ws))(hz:ys.length<=1000000)(hf:(fr.map λi=>(σ[i]?).getD none)=fvs)
  (turn:∀(w:Nat×Nat)(q:Addr)(H':Hp)(R:VK),w∈ws->Same H H'->H' q=some (.tup [.int (w.1:Nat),.int (w.2:Nat)])->(∀H2,Same H' H2->R (G w) H2)->te (some (.ref q)::fvs) H' R)
  (k:∀p H',New H H' p (.lst (ws.map G))->Q (.ref p) H'):eE (Itl K l) 1 fr (bT 0) qb te σ H Q:=by
 refine comp_map (P:=λi y=>∃w,ws[i]?=some w/\y=G w) (jz (xs:=ys)) hz hf (λH' s=>s.seq hq) (λi v H' R hv s kk=>?_) λp H' zs n hl hP=>k p H' ?_
 ·obtain⟨w,q,e1,rfl,e2⟩:=fV tp hv;exact turn w q H' R (wE e1) s (s _ _ e2) λH2 s2=>kk _ _ s2 ⟨w,e1,rfl⟩
 ·have e:zs=ws.map G:=by
   apply List.ext_getElem?
   intro i;rw[vE];by_cases hi:i<zs.length
   ·obtain⟨v,e1,e2⟩:=hP i zs[i] (by simp);rw[e1,qS hi,e2]
    rfl
   ·rw[zzC (by lia),zzC (by rw[<- aA tp];lia)]
    rfl
  rw[e] at n;exact n
noncomputable def tr (p:Prop):Bool:=@decide p (Classical.propDecidable p)
theorem Nk{p:Prop}(h:p):tr p=true:=@decide_eq_true p (Classical.propDecidable p) h
theorem zq{p:Prop}(h:¬ p):tr p=false:=@decide_eq_false p (Classical.propDecidable p) h
theorem uD{p:Prop}:tr p=true ↔ p:=⟨λh=>Classical.byContradiction (λn=>by rw[zq n] at h;exact gS h (by decide)),Nk⟩
def Ei(w0 w1 a b:Nat):Prop:=w0<=a/\a+b<=w0+w1/\(∃k,b=2 ^ k)/\(a-w0) % b=0
def PcV(n:Nat)(v u:V):Prop:=∃a b:Nat,v=.int (a:Nat)/\u=.int (b:Nat)/\Pc n a b
def FpV(n:Nat)(v u:V)(ts:xD):Prop:=∃a b:Nat,v=.int (a:Nat)/\u=.int (b:Nat)/\Pc n a b/\∀t∈ts,aP a b t=false
theorem Hf{n a b:Nat}{ts:xD}:FpV n (.int (a:Nat)) (.int (b:Nat)) ts ↔ Pc n a b/\∀t∈ts,aP a b t=false:=⟨λ⟨c,d,e1,e2,h⟩=>by
 rw[show a=c by have:=V.int.inj e1;lia,show b=d by have:=V.int.inj e2;lia];exact h,λh=>⟨a,b,rfl,rfl,h⟩⟩
theorem eH{a b:Nat}{w:Nat×Nat}:(decide ((a:Int)<(w.1:Int)+(w.2:Int)) && decide ((w.1:Int)<(a:Int)+(b:Int)))=aP a b w:=by
 rw[Bool.eq_iff_iff,dY,Bool.and_eq_true,decide_eq_true_iff,decide_eq_true_iff]
 lia
def xq(K:W.Frag):Sp:=λvs H Q _=>∃(n:Nat)(v u:V)(t1 t2:String)(l:Addr)(ys:List V)(ts:xD),vs=[.int (n:Nat),v,u,.ref l]/\16<=n/\n<=240/\dN K H v (.type t1)/\dN K H u (.type t2)/\H l=some (.lst ys)/\aB H ys (au ts)/\ts.length<=1000/\∀H',Same H H'->Q (.bl (tr (FpV n v u ts))) H'
instance Uy{K:W.Frag}{H:Hp}{Q:VK}{E:XK}{n:Nat}{v u:V}{t1 t2:String}{l:Addr}{ys:List V}{ts:xD}[h:TyA K H v t1][h2:TyA K H u t2][h3:Hat H l (.lst ys)][t:TpA H ys (au ts)]:Go (xq K [.int (n:Nat),v,u,.ref l] H Q E) (Sd ((16<=n/\n<=240)/\ts.length<=1000) (∀H',Same H H'->Q (.bl (tr (FpV n v u ts))) H')):=⟨λk=>⟨n,v,u,t1,t2,l,ys,ts,rfl,k.1.1.1,k.1.1.2,h.e,h2.e,h3.e,t.e,k.1.2,k.2⟩⟩
def Nm:Sp:=λvs H Q _=>∃(q r:Addr)(w0 w1 a b:Nat),vs=[.ref q,.ref r]/\H q=some (.tup [.int (w0:Nat),.int (w1:Nat)])/\H r=some (.tup [.int (a:Nat),.int (b:Nat)])/\1<=b/\w0+w1<=240/\Q (.bl (tr (Ei w0 w1 a b))) H
def Cr(K:W.Frag):Sp:=λvs H Q _=>∃(n:Nat)(v u:V)(t1 t2:String),vs=[.int (n:Nat),v,u]/\16<=n/\n<=240/\dN K H v (.type t1)/\dN K H u (.type t2)/\∀H',Same H H'->Q (.bl (tr (PcV n v u))) H'
theorem Np{v:V}{lo:Int}(h:qD v lo=true):∃i:Int,v=.int i/\lo<=i:=by
 cases v with
 | int i=>exact⟨i,rfl,by simpa[qD] using h⟩
 | _=>simp[qD] at h
theorem Nq{n:Nat}{v u:V}(h:PcV n v u):qD v 0=true/\qD u 1=true:=by
 obtain⟨a,b,rfl,rfl,k,rfl,_,_⟩:=h;have:=pos2 k;show decide ((0:Int)<=(a:Int))=true/\decide ((1:Int)<=((2 ^ k:Nat):Int))=true;exact⟨uB (by lia),uB (by lia)⟩
theorem QG{n a b:Nat}:PcV n (.int (a:Nat)) (.int (b:Nat)) ↔ Pc n a b:=⟨λ⟨c,d,e1,e2,h⟩=>by
 rw[show a=c by have:=V.int.inj e1;lia,show b=d by have:=V.int.inj e2;lia];exact h,λh=>⟨a,b,rfl,rfl,h⟩⟩
theorem lH{n:Nat}(h:n<=240):Ch n 0 (whF n 0 n):=MP n 0 8 (by lia) (by rfl) (by lia)
theorem Nr{n:Nat}:∀{s:Nat} {ws:xD},Ch n s ws->ws.length<=n-s:=by
 intro s ws h
 induction h with
 | nil _=>simp
 | @cons s e l h1 h2 h3 h4 _ ih=>have:=pos2 e;simp only[List.length_cons];lia
theorem Uz{n a b:Nat}(h:n<=240):((whF n 0 n).map λw=>tr (Ei w.1 w.2 a b)).any id=tr (PcV n (.int (a:Nat)) (.int (b:Nat))):=by
 rw[Bool.eq_iff_iff,uD,QG];simp only[List.any_eq_true,List.mem_map,id]
 constructor
 ·rintro ⟨_,⟨w,hw,rfl⟩,h2⟩;obtain⟨c1,c2,c3,c4⟩:=uD.mp h2;exact(M5 (lH h) c3).mp ⟨w,hw,c1,c2,c4⟩
 ·intro hp;obtain⟨k,hk,_⟩:=id hp;obtain⟨w,hw,c1,c2,c3⟩:=(M5 (lH h) ⟨k,hk⟩).mpr hp;exact⟨true,⟨w,hw,Nk ⟨c1,c2,⟨k,hk⟩,c3⟩⟩,rfl⟩
instance aaO{H:Hp}{Q:VK}{E:XK}{q r:Addr}{w0 w1 a b:Nat}[h:Hat H q (.tup [.int (w0:Nat),.int (w1:Nat)])][h2:Hat H r (.tup [.int (a:Nat),.int (b:Nat)])]:Go (Nm [.ref q,.ref r] H Q E) (Sd (1<=b/\w0+w1<=240) (Q (.bl (tr (Ei w0 w1 a b))) H)):=⟨λk=>⟨q,r,w0,w1,a,b,rfl,h.e,h2.e,k.1.1,k.1.2,k.2⟩⟩
instance Vr{K:W.Frag}{H:Hp}{Q:VK}{E:XK}{n:Nat}{v u:V}{t1 t2:String}[h:TyA K H v t1][h2:TyA K H u t2]:Go (Cr K [.int (n:Nat),v,u] H Q E) (Sd (16<=n/\n<=240) (∀H',Same H H'->Q (.bl (tr (PcV n v u))) H')):=⟨λk=>⟨n,v,u,t1,t2,rfl,k.1.1,k.1.2,h.e,h2.e,k.2⟩⟩
def uE:Sp:=λvs H Q _=>∃i:Nat,vs=[.int (i:Nat)]/\1<=i/\i<=1000000000000000000000000000000000/\∀r,IsR i r->Q (.int (r:Nat)) H
def Hg:Sp:=λvs H Q _=>∃m:Nat,vs=[.int (m:Nat)]/\1<=m/\m<=1000/\Q (.int ((2 ^ Nat.log2 m:Nat):Int)) H
def xr:Sp:=λvs H Q _=>∃n:Nat,vs=[.int (n:Nat)]/\16<=n/\n<=240/\∀(p:Addr)(ys:List V)(H':Hp),New H H' p (.lst ys)->aB H' ys (au (whF n 0 n))->Q (.ref p) H'
instance UG{H:Hp}{Q:VK}{E:XK}{i:Nat}:Go (uE [.int (i:Nat)] H Q E) (Sd (1<=i/\i<=1000000000000000000000000000000000) (∀r,IsR i r->Q (.int (r:Nat)) H)):=⟨λk=>⟨i,rfl,k.1.1,k.1.2,k.2⟩⟩
instance Y0{H:Hp}{Q:VK}{E:XK}{m:Nat}:Go (Hg [.int (m:Nat)] H Q E) (Sd (1<=m/\m<=1000) (Q (.int ((2 ^ Nat.log2 m:Nat):Int)) H)):=⟨λk=>⟨m,rfl,k.1.1,k.1.2,k.2⟩⟩
instance Vs{H:Hp}{Q:VK}{E:XK}{n:Nat}:Go (xr [.int (n:Nat)] H Q E) (Sd (16<=n/\n<=240) (∀(p:Addr)(ys:List V)(H':Hp),New H H' p (.lst ys)->aB H' ys (au (whF n 0 n))->Q (.ref p) H')):=⟨λk=>⟨n,rfl,k.1.1,k.1.2,k.2⟩⟩
def Cu:Sp:=λvs H Q _=>∃(p q:Addr)(a b c d:Int),vs=[.ref p,.ref q]/\H p=some (.tup [.int a,.int b])/\H q=some (.tup [.int c,.int d])/\Q (.bl (decide (a<c+d) && decide (c<a+b))) H
section
variable{p q:Addr}{a b c d:Int}{H:Hp}{Q:VK}{E:XK}
instance Xm[h:Hat H p (.tup [.int a,.int b])][h2:Hat H q (.tup [.int c,.int d])]:Go (Cu [.ref p,.ref q] H Q E) (Q (.bl (decide (a<c+d) && decide (c<a+b))) H):=⟨λk=>⟨p,q,a,b,c,d,rfl,h.e,h2.e,k⟩⟩
end
section
variable{P:Program}{w:World}{K:W.Frag}{mg:xC}{base:Heap}{c:Nat->Addr}{aG ak R CP CV CB:Addr}
theorem zsix(T:Txt K mg c R CP CV CB aG ak):aH K CP "many"/\aH K CP "pieces"/\aH K CV "book":=⟨⟨T.clP,T.aR⟩,⟨T.clP,T.aJ⟩,⟨T.clV,T.aU⟩⟩
theorem bG(T:Txt K mg c R CP CV CB aG ak):Def P w K mg base CX0 2 "share_cells" ["one","other"] Cu:=by
 have dD:=dD (P:=P) (w:=w) (base:=base) T;refine bM T.Gz Bf (λvs H Q E h=>?_) (λ_ _ _ _ _ _=>el2 λ_ _=>rfl) (λf cdv A outer s H vs Q E hr h=>?_)
 ·obtain⟨p,q,a,b,c,d,rfl,_⟩:=h
  rfl
 ·obtain⟨p,q,a,b,c,d,rfl,hp,hq,k⟩:=h;have nd:=Bf.nd;refine⟨_,(aD (aM (fJ (fK pX (bJ bH (pv 0) aC (λ_ _=>rfl)) (aK dD hr (aj (pv 1) ao)) (bD _)) (gG (fK pX (bJ bH (pv 1) aC (λ_ _=>rfl)) (aK dD hr (aj (pv 0) ao)) (bD _)))))),?_⟩;clear nd dD;rw[show start ["one","other"] [.ref p,.ref q]=[some (.ref p),some (.ref q)] from rfl]
  try dsimp only[cC,bI]
  obtain⟨aX,aL,aY⟩:=zsix T;have abV:=Old.mk (M:=[]) hp nm0;have uY:=Old.mk (M:=[]) hq nm0;have F:SH H [] H [] []:=SH.nil
  repeat k_meth
  refine fB (λh=>?_) (λh=>?_)
  ·repeat k_meth
   rw[uB h,Bool.true_and] at k;exact k
  ·rw[uA h,Bool.false_and] at k;exact k
theorem bY(T:Txt K mg c R CP CV CB aG ak):Def P w K mg base CX0 3 "rounded" ["size"] uE:=by
 have cB:=cB (P:=P) (w:=w) (base:=base) T;refine bM T.wR tE (λvs H Q E h=>?_) (λ_ _ _ _ _ _=>el1 λ_=>rfl) (λf cdv A outer s H vs Q E hr h=>?_)
 ·obtain⟨i,rfl,_⟩:=h
  rfl
 ·obtain⟨i,rfl,i1,i2,k⟩:=h;have nd:=tE.nd;refine⟨_,(aq (bZ (cT (cu (aK cB hr (aj (pv 0) (aj aC ao))))) jc bA)
   (aq (bC (i:=1) nd rfl (Or.inl rfl) aC)
   (aq (jd PassesOwn.never (bw pX (pv 1) (pv 0) (bD _)) (aD (bC (i:=1) nd rfl (Or.inl rfl) (aV jx (pv 1) aC))))
   (aD (aM (pv 1)))))),?_⟩
  clear nd cB;rw[show start ["size","power"] [.int (i:Nat)]=[some (.int (i:Nat)),none] from rfl]
  try dsimp only[cC,bI]
  obtain⟨aX,aL,aY⟩:=zsix T;have F:SH H [] H [] []:=SH.nil
  repeat k_meth
  refine lG (λm σ' H'=>∃j:Nat,σ'=[some (.int (i:Nat)),some (.int ((2 ^ j:Nat):Int))]/\m=2*i-2 ^ j/\(j=0\/2 ^ (j-1)<i)/\H=H') ⟨_,0,rfl,rfl,.inl rfl,rfl⟩ ?_;clear F;rintro m σ' _ ⟨j,rfl,rfl,hj,rfl⟩;have F:SH H [] H [] []:=SH.nil;have pj:=pos2 j;have jle:2 ^ j<=2*i:=by
   rcases hj with rfl|hj
   ·lia
   ·cases j with
    | zero=>lia
    | succ j=>have:=eO j;simp only[Nat.add_sub_cancel] at hj;lia
  have dbl:((2 ^ j:Nat):Int)*2=((2 ^ (j+1):Nat):Int):=by have:=eO j;lia
  have d2:=eO j
  generalize hw:(2 ^ j:Nat)=wj at *
  repeat k_meth
  refine fB (λh=>?_) (λh=>?_)
  ·refine⟨λσ' H'=>∃m',m'<_/\_,λσ' H' h=>h,?_⟩
   repeat k_meth
   rw[dbl];exact⟨2*i-2 ^ (j+1),by lia,j+1,rfl,rfl,.inr (by simp only[Nat.add_sub_cancel];lia),rfl⟩
  ·repeat k_meth
   exact k _ ⟨j,hw.symm,by lia,by rcases hj with hj|hj;exact .inl hj;exact .inr hj⟩
theorem zu(T:Txt K mg c R CP CV CB aG ak):Def P w K mg base CX0 1 "greatest_power" ["most"] Hg:=by
 refine bM T.Nf Gy (λvs H Q E h=>?_) (λ_ _ _ _ _ _=>el1 λ_=>rfl) (λf cdv A outer s H vs Q E hr h=>?_)
 ·obtain⟨m,rfl,_⟩:=h
  rfl
 ·obtain⟨m,rfl,m1,m2,k⟩:=h;have nd:=Gy.nd;refine⟨_,(aq (bC (i:=1) nd rfl (Or.inl rfl) aC)
   (aq (jd PassesOwn.never (bw zG (aV jx (pv 1) aC) (pv 0) (bD _)) (aD (bC (i:=1) nd rfl (Or.inl rfl) (aV jx (pv 1) aC))))
   (aD (aM (pv 1))))),?_⟩
  clear nd ;rw[show start ["most","power"] [.int (m:Nat)]=[some (.int (m:Nat)),none] from rfl]
  try dsimp only[cC,bI]
  obtain⟨aX,aL,aY⟩:=zsix T;have F:SH H [] H [] []:=SH.nil
  repeat k_meth
  refine lG (λl σ' H'=>∃j:Nat,σ'=[some (.int (m:Nat)),some (.int ((2 ^ j:Nat):Int))]/\l=m-2 ^ j/\2 ^ j<=m/\H=H') ⟨_,0,rfl,rfl,by simpa using m1,rfl⟩ ?_;clear F;rintro l σ' _ ⟨j,rfl,rfl,hj,rfl⟩;have F:SH H [] H [] []:=SH.nil;have pj:=pos2 j;have dbl:((2 ^ j:Nat):Int)*2=((2 ^ (j+1):Nat):Int):=by have:=eO j;lia
  have d2:=eO j;have fin:¬ (2 ^ (j+1)<=m)->2 ^ j=2 ^ Nat.log2 m:=λh=>G_ hj (by lia)
  generalize hw:(2 ^ j:Nat)=wj at *
  repeat k_meth
  refine fB (λh=>?_) (λh=>?_)
  ·refine⟨λσ' H'=>∃m',m'<_/\_,λσ' H' h=>h,?_⟩
   repeat k_meth
   rw[dbl];exact⟨m-2 ^ (j+1),by lia,j+1,rfl,rfl,by lia,rfl⟩
  ·repeat k_meth
   rw[fin (by lia)];exact k
theorem gC(T:Txt K mg c R CP CV CB aG ak):Def P w K mg base CX0 4 "wholes_of" ["many"] xr:=by
 have dh:=dh (P:=P) (w:=w) (base:=base) T;have dD:=dD (P:=P) (w:=w) (base:=base) T;have zu:=zu (P:=P) (w:=w) (base:=base) T;refine bM T.BL v8 (λvs H Q E h=>?_) (λ_ _ _ _ _ _=>el1 λ_=>rfl) (λf cdv A outer s H vs Q E hr h=>?_)
 ·obtain⟨n,rfl,_⟩:=h
  rfl
 ·obtain⟨n,rfl,n1,n2,k⟩:=h;have nd:=v8.nd;refine⟨_,(aq (bZ (cT (cu (aK dh hr (aj (pv 0) ao)))) jc bA)
   (aq (bC (i:=1) nd rfl (Or.inl rfl) (bB ao))
   (aq (bC (i:=2) nd rfl (Or.inl rfl) aC)
   (aq (jd PassesOwn.never (bw pX (pv 2) (pv 0) (bD _)) (aq (bC (i:=3) nd rfl (Or.inl rfl) (bK (aj (pv 2) (aj (aK zu hr (aj (aV Dh (pv 0) (pv 2)) ao)) ao))))
    (aq (cL (dG (pv 1) (pv 3)))
    (aD (bC (i:=2) nd rfl (Or.inl rfl) (aK dD hr (aj (pv 3) ao)))))))
   (aD (aM (pv 1))))))),?_⟩
  clear nd dh dD zu;rw[show start ["many","wholes","start","whole"] [.int (n:Nat)]=[some (.int (n:Nat)),none,none,none] from rfl]
  try dsimp only[cC,bI]
  obtain⟨aX,aL,aY⟩:=zsix T;have F:SH H [] H [] []:=SH.nil
  repeat k_meth
  rw[uB (show (16:Int)<=(n:Int) by lia),uB (show (n:Int)<=240 by lia),show (true && true)=true from rfl]
  repeat k_meth
  obtain⟨pw,e_⟩:∃q,q=p_:=⟨_,rfl⟩;subst e_;refine lG (λl σ' H'=>∃(st:Nat)(f:Nat)(ws:xD)(ys:List V)(o3:Option V),σ'=[some (.int (n:Nat)),some (.ref pw),some (.int (st:Nat)),o3]/\l=n-st/\n-st<=f/\st+ws.length<=2*st/\st<=n/\whF n 0 n=ws++whF f st n/\ys.length=ws.length/\SH H [] H' [(pw,.lst ys)] [.tps ys (au ws)]) ⟨_,0,n,[],[],none,rfl,rfl,by lia,by simp,by lia,rfl,rfl,(F.bQ (ys:=[]) (rs:=au []) aB.nil).sub SbC.s SbI.s⟩ ?_;clear F;rintro l σ' H' ⟨st,f,ws,ys,_,rfl,rfl,hf,hl,hn,ew,yl,F⟩
  repeat k_meth
  refine fB (λh=>?_) (λh=>?_)
  ·have hlt:st<n:=by lia
   obtain⟨f,rfl⟩:∃g,f=g+1:=⟨f-1,by lia⟩;rw[whF,yB hlt] at ew;have a1:2 ^ Nat.log2 (n-st)<=n-st:=Nat.log2_self_le (by lia);have a2:=pos2 (Nat.log2 (n-st));refine⟨λσ' H'=>∃m',m'<_/\_,λσ' H' h=>h,?_⟩
   repeat k_meth
   rw[show (n:Int)-(st:Int)=((n-st:Nat):Int) by lia]
   generalize hw:2 ^ Nat.log2 (n-st)=wz at *
   repeat k_meth
   rw[hw] at F ⊢;rw[show (st:Int)+(wz:Int)=((st+wz:Nat):Int) by lia];have tt:aB H_ (ys++[.ref p_]) (au (ws++[(st,wz)])):=by
    rw[eZ];exact aB.snoc TpA.e aZ
   exact⟨n-(st+wz),by lia,st+wz,f,ws++[(st,wz)],ys++[.ref p_],_,rfl,rfl,by lia,by rw[List.length_append];simp only[List.length_cons,List.length_nil];lia,by lia,by rw[ew,List.append_assoc];rfl,by rw[List.length_append,List.length_append,yl];rfl,(F.bQ tt).sub SbC.s SbI.s⟩
  ·have e0:whF f st n=[]:=by
    cases f with
    | zero=>rfl
    | succ f=>rw[whF,yT (by lia)]
   rw[e0,mP] at ew
   repeat k_meth
   rw[ew] at k;exact k _ ys _ SH.nwC TpA.e
theorem Hh(T:Txt K mg c R CP CV CB aG ak):Def P w K mg base CX0 4 "is_cut_from" ["whole","piece"] Nm:=by
 have dD:=dD (P:=P) (w:=w) (base:=base) T;have bY:=bY (P:=P) (w:=w) (base:=base) T;refine bM T.R4 M9 (λvs H Q E h=>?_) (λ_ _ _ _ _ _=>el2 λ_ _=>rfl) (λf cdv A outer s H vs Q E hr h=>?_)
 ·obtain⟨q,r,w0,w1,a,b,rfl,_⟩:=h
  rfl
 ·obtain⟨q,r,w0,w1,a,b,rfl,hq,hr_,b1,w2,k⟩:=h;have nd:=M9.nd;refine⟨_,(aq (bZ (PW.pt (iC (bw pX (bJ bH (pv 1) aC (λ_ _=>rfl)) (bJ bH (pv 0) aC (λ_ _=>rfl)) (bD _)) (jN (bw Rg (aK dD hr (aj (pv 1) ao)) (aK dD hr (aj (pv 0) ao)) (bD _))))) (aD (aM iB)) bA)
   (aD (aM (fJ (fK jF (aK bY hr (aj (bJ bH (pv 1) aC (λ_ _=>rfl)) ao)) (bJ bH (pv 1) aC (λ_ _=>rfl)) (bD _)) (gG (fK jF (aV dF (aV Dh (bJ bH (pv 1) aC (λ_ _=>rfl)) (bJ bH (pv 0) aC (λ_ _=>rfl))) (bJ bH (pv 1) aC (λ_ _=>rfl))) aC (bD _))))))),?_⟩
  clear nd dD bY;rw[show start ["whole","piece"] [.ref q,.ref r]=[some (.ref q),some (.ref r)] from rfl]
  try dsimp only[cC,bI]
  obtain⟨aX,aL,aY⟩:=zsix T;have uY:=Old.mk (M:=[]) hq nm0;have o_hr_:=Old.mk (M:=[]) hr_ nm0;have F:SH H [] H [] []:=SH.nil
  repeat k_meth
  refine fB (λh=>?_) (λh=>?_)
  ·repeat k_meth
   rw[zq (λz=>by have:=z.1;lia)] at k;exact k
  repeat k_meth
  refine fB (λh2=>?_) (λh2=>?_)
  ·repeat k_meth
   rw[zq (λz=>by have:=z.2.1;lia)] at k;exact k
  repeat k_meth
  intro r2 hr2;have rs:=Nj b1 hr2
  repeat k_meth
  refine fB (λh3=>?_) (λh3=>?_)
  ·have e1:∃k,b=2 ^ k:=rs.mp (by lia)
   repeat k_meth
   have e2:((a:Int)-(w0:Int)) % (b:Int)=(((a-w0) % b:Nat):Int):=by rw[show (a:Int)-(w0:Int)=((a-w0:Nat):Int) by lia];rfl
   rw[e2];rw[show tr (Ei w0 w1 a b)=decide ((((a-w0) % b:Nat):Int)=0) by
    rw[Bool.eq_iff_iff,uD,decide_eq_true_iff];exact⟨λz=>by have:=z.2.2.2;lia,λz=>⟨by lia,by lia,e1,by lia⟩⟩] at k
   exact k
  ·repeat k_meth
   rw[zq (λz=>h3 (by have:=rs.mpr z.2.2.1;lia))] at k;exact k
theorem qO(T:Txt K mg c R CP CV CB aG ak):Def P w K mg base CX0 5 "is_piece" ["many","start","size"] (Cr K):=by
 have dh:=dh (P:=P) (w:=w) (base:=base) T;have cB:=cB (P:=P) (w:=w) (base:=base) T;have Hh:=Hh (P:=P) (w:=w) (base:=base) T;have gC:=gC (P:=P) (w:=w) (base:=base) T;refine bM T.GD Bh (λvs H Q E h=>?_) (λ_ _ _ _ _ _=>el3 λ_ _ _=>rfl) (λf cdv A outer s H vs Q E hr h=>?_)
 ·obtain⟨n,v,u,t1,t2,rfl,_⟩:=h
  rfl
 ·obtain⟨n,v,u,t1,t2,rfl,n1,n2,ty,uy,k⟩:=h;have nd:=Bh.nd;refine⟨_,(aq (bZ (PW.pt (iC (cT (cu (aK dh hr (aj (pv 0) ao)))) (iC (cT (cu (aK cB hr (aj (pv 1) (aj aC ao))))) (jN (cT (cu (aK cB hr (aj (pv 2) (aj aC ao))))))))) (aD (aM iB)) bA)
   (aD (aM (bN (zM rfl) rfl T.Nh boot_any (aj (nq (N:=["whole","start","size"]) (nt:=1) (fr:=[1,2]) (cM (aK gC hr (aj (pv 0) ao))) (λ_ _ _ _=>(bL (i:=0) (show (["whole","start","size"]:List Str).Nodup from by decide +kernel) rfl (Or.inl rfl))) (λ_ _ _ _=>kZ) (λ_ _ _ _=>(aK Hh hr (aj (pv 0) (aj (bK (aj (pv 1) (aj (pv 2) ao))) ao))))) ao))))),?_⟩
  clear nd dh cB Hh gC;rw[show start ["many","start","size"] [.int (n:Nat),v,u]=[some (.int (n:Nat)),some (v),some (u)] from rfl]
  try dsimp only[cC,bI]
  obtain⟨aX,aL,aY⟩:=zsix T;have F:SH H [] H [] []:=SH.nil;have o_v:DY K H [] v t1:=⟨ty,λ_ _ z=>by cases z⟩;have o_u:DY K H [] u t2:=⟨uy,λ_ _ z=>by cases z⟩
  repeat k_meth
  rw[uB (show (16:Int)<=(n:Int) by lia),uB (show (n:Int)<=240 by lia),show (true && true)=true from rfl]
  repeat k_meth
  by_cases e1:qD v 0=true
  ·rw[e1]
   repeat k_meth
   by_cases e2:qD u 1=true
   ·rw[e2];obtain⟨i,rfl,hi⟩:=Np e1;obtain⟨j,rfl,hj⟩:=Np e2;obtain⟨a,rfl⟩:∃a:Nat,i=(a:Int):=⟨i.toNat,by lia⟩;obtain⟨b,rfl⟩:∃b:Nat,j=(b:Int):=⟨j.toNat,by lia⟩
    repeat k_meth
    refine Cq (ws:=whF n 0 n) (G:=λw=>.bl (tr (Ei w.1 w.2 a b))) (fvs:=[some (.int (a:Nat)),some (.int (b:Nat))]) SqA.e TpA.e (by have:=Nr (lH n2);lia) rfl (λw q H' R hw s hq kk=>?_) λz H2 nw=>?_
    ·obtain⟨e,he,_,hle,_⟩:=M4 (lH n2) w hw;have lew:w.1+w.2<=240:=by rw[he];lia
     clear F;have F:SH H' [] H' [] []:=SH.nil;have o_q:=Old.mk (M:=[]) hq nm0
     repeat k_meth
     exact kk _ F.sm
    ·rw[show (whF n 0 n).map (λw=>V.bl (tr (Ei w.1 w.2 a b)))=((whF n 0 n).map λw=>tr (Ei w.1 w.2 a b)).map V.bl by rw[List.map_map];rfl] at nw;replace F:=F.newL nw
     repeat k_meth
     refine⟨z,_,rfl,SqA.e,?_⟩;rw[Uz n2];exact k _ F.sm
   ·have e2:qD u 1=false:=by simpa using e2
    rw[e2];rw[zq (λz=>by rw[(Nq z).2] at e2;cases e2)] at k
    repeat k_meth
    exact k _ F.sm
  ·have e1:qD v 0=false:=by simpa using e1
   rw[e1];rw[zq (λz=>by rw[(Nq z).1] at e1;cases e1)] at k
   repeat k_meth
   exact k _ F.sm
theorem oA(T:Txt K mg c R CP CV CB aG ak):Def P w K mg base CX0 6 "is_free_piece" ["many","start","size","taken"] (xq K):=by
 have qO:=qO (P:=P) (w:=w) (base:=base) T;have bG:=bG (P:=P) (w:=w) (base:=base) T;refine bM T.BP v9 (λvs H Q E h=>?_) (λ_ _ _ _ _ _=>el4 λ_ _ _ _=>rfl) (λf cdv A outer s H vs Q E hr h=>?_)
 ·obtain⟨n,v,u,t1,t2,l,ys,ts,rfl,_⟩:=h
  rfl
 ·obtain⟨n,v,u,t1,t2,l,ys,ts,rfl,n1,n2,ty,uy,hl,tp,fw,k⟩:=h;have nd:=v9.nd;refine⟨_,(aq (bZ (cT (cu (aK qO hr (aj (pv 0) (aj (pv 1) (aj (pv 2) ao)))))) (aD (aM iB)) bA)
   (aD (aM (xV (bN (zM rfl) rfl T.Nh boot_any (aj (nq (N:=["piece","start","size"]) (nt:=1) (fr:=[1,2]) (cM (pv 3)) (λ_ _ _ _=>(bL (i:=0) (show (["piece","start","size"]:List Str).Nodup from by decide +kernel) rfl (Or.inl rfl))) (λ_ _ _ _=>kZ) (λ_ _ _ _=>(aK bG hr (aj (bK (aj (pv 1) (aj (pv 2) ao))) (aj (pv 0) ao))))) ao)))))),?_⟩
  clear nd qO bG;rw[show start ["many","start","size","taken"] [.int (n:Nat),v,u,.ref l]=[some (.int (n:Nat)),some (v),some (u),some (.ref l)] from rfl]
  try dsimp only[cC,bI]
  obtain⟨aX,aL,aY⟩:=zsix T;have gK:=Old.mk (M:=[]) hl nm0;have jM:=ji.mk tp;have F:SH H [] H [] []:=SH.nil;have o_v:DY K H [] v t1:=⟨ty,λ_ _ z=>by cases z⟩;have o_u:DY K H [] u t2:=⟨uy,λ_ _ z=>by cases z⟩;have yl:=aA tp
  repeat k_meth
  by_cases e:PcV n v u
  ·rw[Nk e];obtain⟨a,b,rfl,rfl,pc⟩:=id e
   repeat k_meth
   refine Cq (ws:=ts) (G:=λw=>.bl (aP a b w)) (fvs:=[some (.int (a:Nat)),some (.int (b:Nat))]) SqA.e TpA.e (by lia) rfl (λw q H' R hw s hq kk=>?_) λz H2 nw=>?_
   ·clear F;have F:SH H' [] H' [] []:=SH.nil;have o_q:=Old.mk (M:=[]) hq nm0
    repeat k_meth
    rw[eH];exact kk _ F.sm
   ·rw[show ts.map (λw=>V.bl (aP a b w))=(ts.map λw=>aP a b w).map V.bl by rw[List.map_map];rfl] at nw;replace F:=F.newL nw
    repeat k_meth
    refine⟨z,_,rfl,SqA.e,?_⟩
    repeat k_meth
    rw[show tr (FpV n (.int (a:Nat)) (.int (b:Nat)) ts)=!((ts.map λw=>aP a b w).any id) by
     rw[Bool.eq_iff_iff,uD,Hf];simp only[Bool.not_eq_true',List.any_eq_false,List.mem_map,id];exact⟨λh x ⟨w,hw,e⟩=>by rw[<- e,h.2 w hw];decide,λh=>⟨pc,λw hw=>by have:=h _ ⟨w,hw,rfl⟩;simpa using this⟩⟩] at k
    exact k _ F.sm
  ·rw[zq e];rw[zq (λ⟨a,b,e1,e2,h,_⟩=>e ⟨a,b,e1,e2,h⟩)] at k
   repeat k_meth
   exact k _ F.sm
end
open PySem.Spec PySem.SeqAt M44
theorem Cv{a b c d:Nat}(h:([.int (a:Nat),.int (b:Nat)]:List V)=[.int (c:Nat),.int (d:Nat)]):(a,b)=(c,d):=by
 simp only[List.cons.injEq,V.int.injEq,and_true] at h;exact Prod.ext (show a=c by lia) (show b=d by lia)
def aaP(K:W.Frag):R2:=λx y H Q=>∃(q l:Addr)(ys:List V)(a b:Nat)(ts:xD),x=.ref q/\y=.ref l/\H q=some (.tup [.int (a:Nat),.int (b:Nat)])/\SqL K H l ys/\aB H ys (au ts)/\Q (.bl (decide ((a,b)∈ts))) H
theorem j_{X:Cx}{K:W.Frag}{k:Nat}(hK:X.K=K)(hr:Room k X.A):OpR X (compareOp .In) (aaP K):=by
 subst hK;intro pins s σ H x y v u Q I rx ry h;obtain⟨q,l,ys,a,b,ts,rfl,rfl,hq,hl,tp,h⟩:=h;cases rx;cases ry;obtain⟨its,rv,pl,hz⟩:=I.list hl;have hi:∀i z,its[i]?=some z->∃(w:Nat×Nat)(q':Addr),ts[i]?=some w/\z=Value.ref q'/\H q'=some (.tup [.int (w.1:Nat),.int (w.2:Nat)]):=λi z e=>by
  have hlen:=rv.length;have hi:i<ys.length:=by rw[hlen];exact(qE.mp e).1
  obtain⟨w,q',e1,e2,e3⟩:=fV tp (i:=i) (v:=ys[i]) (qS hi);obtain⟨u,hu,ru⟩:=rv.get (i:=i) (x:=ys[i]) (by simp);rw[e] at hu;cases hu;rw[e2] at ru;exact⟨w,q',e1,ru,e3⟩
 let e:Value->Bool:=λz=>tr (∃q',z=Value.ref q'/\H q'=some (.tup [.int (a:Nat),.int (b:Nat)]))
 have he:∀(q':Addr)(w:Nat×Nat),H q'=some (.tup [.int (w.1:Nat),.int (w.2:Nat)])->e (Value.ref q')=decide (w=(a,b)):=λq' w hw=>by
  show tr _=_;rw[Bool.eq_iff_iff,uD,decide_eq_true_iff]
  constructor
  ·rintro ⟨q2,e1,e2⟩;cases e1;rw[hw] at e2;exact Cv (HO.tup.inj (nS e2))
  ·rintro rfl;exact⟨q',rfl,hw⟩
 have rp:∀(q':Addr)(c d:Nat),H q'=some (.tup [.int (c:Nat),.int (d:Nat)])->Rep X.K H (.tup [.int (c:Nat),.int (d:Nat)]) (.ref q'):=λq' c d hw=>by
  simp only[Rep];exact⟨q',_,rfl,SqT.of hw,by simp[cU,Rep]⟩
 refine in_listAt e pl.isList (λz hz=>?_) ⟨.bl _,H,I,rfl,?_⟩
 ·obtain⟨i,hi2,ez⟩:=List.getElem_of_mem (show z∈its by simpa using hz);obtain⟨w,q',e1,rfl,e3⟩:=hi i z (by rw[<- ez];simp);have hE:=(eq3 I 50 X.A.in1 _ _ _ _ (.ref q') (.ref q) (by have:=hr.un;show X.A.units+1+50<_;lia) (by simp[fM,fO]) (rp q' _ _ e3) (rp q _ _ hq) rfl rfl);rw[he q' w e3];have e4:gQ (.tup [.int (w.1:Nat),.int (w.2:Nat)]) (.tup [.int (a:Nat),.int (b:Nat)])=decide (w=(a,b)):=by
   simp only[gQ,gM,Bool.and_true];rw[Bool.eq_iff_iff,decide_eq_true_iff,Bool.and_eq_true]
   constructor
   ·rintro ⟨h1,h2⟩;have h1:(w.1:Int)=(a:Int):=by simpa using h1
    have h2:(w.2:Int)=(b:Int):=by simpa using h2
    exact Prod.ext (show w.1=a by lia) (show w.2=b by lia)
   ·rintro rfl;simp
  rw[<- e4];exact hE.eq
 ·have e5:its.toArray.any e=decide ((a,b)∈ts):=by
   rw[Bool.eq_iff_iff,decide_eq_true_iff];simp only[List.any_toArray,List.any_eq_true]
   constructor
   ·rintro ⟨z,hz,ez⟩;obtain⟨i,hi2,ez2⟩:=List.getElem_of_mem hz;obtain⟨w,q',e1,rfl,e3⟩:=hi i z (by rw[<- ez2];simp);rw[he q' w e3,decide_eq_true_iff] at ez;rw[<- ez];exact wE e1
   ·intro hm;obtain⟨i,hi2,ew⟩:=List.getElem_of_mem hm;have hl2:i<its.length:=by rw[<- rv.length,aA tp];exact hi2
    obtain⟨w,q',e1,e2,e3⟩:=hi i its[i] (by simp);refine⟨its[i],List.getElem_mem hl2,?_⟩;rw[e2,he q' w e3,decide_eq_true_iff];rw[qS hi2,ew] at e1;exact(nS e1).symm
  rw[e5];exact h
theorem uF{H H':Hp}(s:Same H H'){p:V->Bool}{pr:Nat×Nat->Bool}(hp:∀(q:Addr)(w:Nat×Nat),H q=some (.tup [.int (w.1:Nat),.int (w.2:Nat)])->p (.ref q)=pr w):∀{xs:List V} {ws:xD},aB H xs (au ws)->aB H' (xs.filter p) (au (ws.filter pr))
 | [],[],h=>⟨rfl,λj r e=>by simp[au] at e⟩
 | [],w::ws,h=>absurd h.1 (by simp[au])
 | x::xs,[],h=>absurd h.1 (by simp[au])
 | x::xs,w::ws,h=>by
  obtain⟨q,e1,e2⟩:=h.2 0 [.int (w.1:Nat),.int (w.2:Nat)] rfl;have ht:aB H xs (au ws):=⟨by simpa[au] using h.1,λj r e=>h.2 (j+1) r (by simpa[au] using e)⟩;cases e1;have ih:=uF s hp ht;rw[List.filter_cons,List.filter_cons,hp q w e2];cases pr w with
  | false=>exact ih
  | true =>
   refine⟨by have:=ih.1;simpa[au] using this,λj r e=>?_⟩;cases j with
   | zero =>
    cases e;exact⟨q,rfl,s _ _ e2⟩
   | succ j=>exact ih.2 j r (by simpa[au] using e)
theorem fC{K:W.Frag}{l:Addr}{xs:List V}{ws:xD}{pr:Nat×Nat->Bool}{c:TT}{σ fvs:L2.St}{fr:List Nat}{H:Hp}{Q:VK}(hq:SqL K H l xs)(tp:aB H xs (au ws))(hz:xs.length<=1000000)(hf:(fr.map λi=>(σ[i]?).getD none)=fvs)
  (turn:∀(q:Addr)(w:Nat×Nat)(H':Hp)(R:Bool->Hp->Prop),w∈ws->Same H H'->H' q=some (.tup [.int (w.1:Nat),.int (w.2:Nat)])->(∀H2,Same H' H2->R (pr w) H2)->c (some (.ref q)::fvs) H' R)
  (k:∀l' ys H',New H H' l' (.lst ys)->aB H' ys (au (ws.filter pr))->Q (.ref l') H'):eE (Itl K l) 1 fr (bT 0) c (gF 0) σ H Q:=by
 let p:V->Bool:=λv=>match v with|.ref q=>tr (∃w:Nat×Nat,H q=some (.tup [.int (w.1:Nat),.int (w.2:Nat)])/\pr w=true)|_=>false
 have hp:∀(q:Addr)(w:Nat×Nat),H q=some (.tup [.int (w.1:Nat),.int (w.2:Nat)])->p (.ref q)=pr w:=λq w e=>by
  show tr _=pr w;cases h:pr w with
  | true=>exact Nk ⟨w,e,h⟩
  | false =>
   refine zq λ⟨s,e2,h2⟩=>?_
   rw[e] at e2;have:=Cv (HO.tup.inj (nS e2));rw[show s=w from this.symm,h] at h2;cases h2
 refine Af (p:=p) hq hz hf (λv H' R hv s kk=>?_) λl' H' n=>k l' _ H' n (uF n.s hp tp)
 obtain⟨i,hi,e⟩:=List.getElem_of_mem hv;obtain⟨w,q,e1,rfl,e2⟩:=fV tp (i:=i) (v:=v) (by rw[<- e];simp);exact turn q w H' R (wE e1) s (s _ _ e2) λH2 s2=>by rw[<- hp q w e2];exact kk H2 s2
theorem cV{H:Hp}{xs ys:List V}{a b:xD}(h:aB H xs (au a))(h2:aB H ys (au b)):aB H (xs++ys) (au (a++b)):=by
 have e:au (a++b)=au a++au b:=by unfold au;rw[List.map_append]
 rw[e];refine⟨by rw[yY,yY,h.1,h2.1],λj r er=>?_⟩;rcases Nat.lt_or_ge j (au a).length with hj|hj
 ·rw[wP hj] at er;obtain⟨q,e1,e2⟩:=h.2 j r er;exact⟨q,by rw[wP (by rw[h.1];exact hj)];exact e1,e2⟩
 ·rw[nK hj] at er;obtain⟨q,e1,e2⟩:=h2.2 _ r er;exact⟨q,by rw[nK (by rw[h.1];exact hj),h.1];exact e1,e2⟩
theorem cW:∀(k s:Nat)(ts:xD),(fwF k s ts).length<=2 ^ k
 | 0,s,ts=>by unfold fwF;split <;> simp
 | k+1,s,ts=>by
  have e:=eO k;have p:=pos2 k;unfold fwF;split
  ·simp only[List.length_cons,List.length_nil];lia
  ·split
   ·simp
   ·rw[yY];have a:=cW k s (ts.filter (aP s (2 ^ (k+1))));have b:=cW k (s+2 ^ k) (ts.filter (aP s (2 ^ (k+1))))
    lia
theorem QJ{tk:Nat->Bool}{s:Nat}{ts:xD}(ok:Ok tk s 0 ts)(he:ts.filter (aP s (2 ^ 0))≠[]):(s,2 ^ 0)∈ts.filter (aP s (2 ^ 0)):=by
 obtain⟨t,ht⟩:=List.exists_mem_of_ne_nil _ he;obtain⟨h1,h2⟩:=List.mem_filter.mp ht;obtain⟨h3,h4⟩:=dY.mp h2;obtain⟨h5,h6,j,h7,h8⟩:=ok.nest t h1 h3 h4;have hj:=pos2 j;have:t=(s,2 ^ 0):=by
  apply Prod.ext
  ·show t.1=s;simp only[Nat.pow_zero] at h4 h6
   lia
  ·show t.2=2 ^ 0;simp only[Nat.pow_zero] at h4 h6 ⊢
   lia
 rw[this] at ht;exact ht
theorem jE{k s:Nat}{ts:xD}(e1:ts.filter (aP s (2 ^ (k+1)))≠[])(hm:(s,2 ^ (k+1)) ∉ ts.filter (aP s (2 ^ (k+1)))):fwF (k+1) s ts=fwF k s (ts.filter (aP s (2 ^ (k+1))))++fwF k (s+2 ^ k) (ts.filter (aP s (2 ^ (k+1)))):=by rw[fwF,yT e1,yT hm]
def Xn:Sp:=λ_ _ _ _=>False
def qt(k:Nat):Sp:=λvs H Q _=>∃(q l:Addr)(ys:List V)(ts:xD)(s:Nat),vs=[.ref q,.ref l]/\H q=some (.tup [.int (s:Nat),.int ((2 ^ k:Nat):Int)])/\H l=some (.lst ys)/\aB H ys (au ts)/\ts.length<=1000/\s+2 ^ k<=1000/\(∃tk,Ok tk s k ts)/\∀p zs H',New H H' p (.lst zs)->aB H' zs (au (fwF k s ts))->Q (.ref p) H'
section
variable{P:Program}{w:World}{K:W.Frag}{mg:xC}{base:Heap}{c:Nat->Addr}{aG ak R CP CV CB:Addr}
theorem uG(T:Txt K mg c R CP CV CB aG ak):Def P w K mg base CX0 5 "free_within" ["piece","taken"] Xn:=by
 refine bM T.dZ bR (λvs H Q E h=>h.elim) (λ_ _ _ _ _ _=>el2 λ_ _=>rfl) (λf cdv A outer s H vs Q E hr h=>h.elim)
theorem mL(T:Txt K mg c R CP CV CB aG ak):Def P w K mg base CX0 6 "free_within" ["piece","taken"] (qt 0):=by
 have bG:=bG (P:=P) (w:=w) (base:=base) T;refine bM T.dZ bR (λvs H Q E h=>?_) (λ_ _ _ _ _ _=>el2 λ_ _=>rfl) (λf cdv A outer s H vs Q E hr h=>?_)
 ·obtain⟨q,l,ys,ts,s,rfl,_⟩:=h
  rfl
 ·obtain⟨q,l,ys,ts,s,rfl,hq,hl,tp,fw,s1,ok,k⟩:=h;have nd:=bR.nd;refine⟨_,(aq (gP (i:=2) nd rfl (Or.inl rfl) (N:=["one","piece"]) (nt:=1) (fr:=[0]) (cM (pv 1)) (λ_ _ _ _=>(bL (i:=0) (show (["one","piece"]:List Str).Nodup from by decide +kernel) rfl (Or.inl rfl))) (λ_ _ _ _=>iD (cu (aK bG hr (aj (pv 1) (aj (pv 0) ao))))) (λ_ _ _ _=>(pv 0)))
   (aq (bZ (bw (jZ hr) (pv 2) (bB ao) (bD _)) (aD (aM (bB (aj (pv 0) ao)))) bA)
   (aq (bZ (bw (j_ (K:=K) rfl hr) (pv 0) (pv 2) (by with_unfolding_all rfl)) (aD (aM (bB ao))) bA)
   (aq (bC (i:=3) nd rfl (Or.inl rfl) (aV eU (bJ bH (pv 0) aC (λ_ _=>rfl)) aC))
   (aD (aM (aV iG (aK (uG (P:=P) (w:=w) (base:=base) T) hr (aj (bK (aj (bJ bH (pv 0) aC (λ_ _=>rfl)) (aj (pv 3) ao))) (aj (pv 2) ao))) (aK (uG (P:=P) (w:=w) (base:=base) T) hr (aj (bK (aj (aV cJ (bJ bH (pv 0) aC (λ_ _=>rfl)) (pv 3)) (aj (pv 3) ao))) (aj (pv 2) ao)))))))))),?_⟩
  clear nd bG;rw[show start ["piece","taken","sharing","half"] [.ref q,.ref l]=[some (.ref q),some (.ref l),none,none] from rfl]
  try dsimp only[cC,bI]
  obtain⟨aX,aL,aY⟩:=zsix T;have uY:=Old.mk (M:=[]) hq nm0;have gK:=Old.mk (M:=[]) hl nm0;have jM:=ji.mk tp;have F:SH H [] H [] []:=SH.nil;have yl:=aA tp
  repeat k_meth
  refine fC (ws:=ts) (pr:=aP s (2 ^ 0)) (fvs:=[some (.ref q)]) SqA.e TpA.e (by lia) rfl (λq2 w H' R hw s2 hq2 kk=>?_) λpl ys2 H2 nw tp2=>?_
  ·have hq3:H' q=some (.tup [.int (s:Nat),.int ((2 ^ 0:Nat):Int)]):=s2 _ _ aZ;clear F;have F:SH H' [] H' [] []:=SH.nil;have o_q:=Old.mk (M:=[]) hq3 nm0;have Ej:=Old.mk (M:=[]) hq2 nm0
   repeat k_meth
   rw[eH];exact kk _ F.sm
  replace F:=(F.newL nw).bQ tp2;have yl2:=aA tp2;have fl2:=List.length_filter_le (aP s (2 ^ 0)) ts;obtain⟨tk,ok⟩:=ok
  repeat k_meth
  by_cases e0:ys2=[]
  ·have e1:ts.filter (aP s (2 ^ 0))=[]:=by
    rw[e0] at yl2;exact List.eq_nil_of_length_eq_zero yl2.symm
   have e2:fwF 0 s ts=[(s,2 ^ 0)]:=by rw[fwF,yB e1]
   rw[e2] at k;rw[uB e0]
   repeat k_meth
   exact k _ _ _ SH.nwC ⟨rfl,λj r e=>by
    cases j with
    | zero=>cases e;exact⟨q,rfl,aZ⟩
    | succ j=>simp[au] at e⟩
  have e1:ts.filter (aP s (2 ^ 0))≠[]:=λz=>e0 (by rw[z] at yl2;exact List.eq_nil_of_length_eq_zero yl2)
  rw[uA e0]
  repeat k_meth
  refine⟨q,pl,ys2,s,2 ^ 0,_,rfl,rfl,aZ,SqA.e,TpA.e,?_⟩;rw[uB (QJ ok e1)];have e2:fwF 0 s ts=[]:=by rw[fwF,yT e1]
  rw[e2] at k
  repeat k_meth
  exact k _ _ _ SH.nwC aB.nil
theorem mO(T:Txt K mg c R CP CV CB aG ak):Def P w K mg base CX0 7 "free_within" ["piece","taken"] (qt 1):=by
 have bG:=bG (P:=P) (w:=w) (base:=base) T;refine bM T.dZ bR (λvs H Q E h=>?_) (λ_ _ _ _ _ _=>el2 λ_ _=>rfl) (λf cdv A outer s H vs Q E hr h=>?_)
 ·obtain⟨q,l,ys,ts,s,rfl,_⟩:=h
  rfl
 ·obtain⟨q,l,ys,ts,s,rfl,hq,hl,tp,fw,s1,ok,k⟩:=h;have nd:=bR.nd;refine⟨_,(aq (gP (i:=2) nd rfl (Or.inl rfl) (N:=["one","piece"]) (nt:=1) (fr:=[0]) (cM (pv 1)) (λ_ _ _ _=>(bL (i:=0) (show (["one","piece"]:List Str).Nodup from by decide +kernel) rfl (Or.inl rfl))) (λ_ _ _ _=>iD (cu (aK bG hr (aj (pv 1) (aj (pv 0) ao))))) (λ_ _ _ _=>(pv 0)))
   (aq (bZ (bw (jZ hr) (pv 2) (bB ao) (bD _)) (aD (aM (bB (aj (pv 0) ao)))) bA)
   (aq (bZ (bw (j_ (K:=K) rfl hr) (pv 0) (pv 2) (by with_unfolding_all rfl)) (aD (aM (bB ao))) bA)
   (aq (bC (i:=3) nd rfl (Or.inl rfl) (aV eU (bJ bH (pv 0) aC (λ_ _=>rfl)) aC))
   (aD (aM (aV iG (aK (mL (P:=P) (w:=w) (base:=base) T) hr (aj (bK (aj (bJ bH (pv 0) aC (λ_ _=>rfl)) (aj (pv 3) ao))) (aj (pv 2) ao))) (aK (mL (P:=P) (w:=w) (base:=base) T) hr (aj (bK (aj (aV cJ (bJ bH (pv 0) aC (λ_ _=>rfl)) (pv 3)) (aj (pv 3) ao))) (aj (pv 2) ao)))))))))),?_⟩
  clear nd bG;rw[show start ["piece","taken","sharing","half"] [.ref q,.ref l]=[some (.ref q),some (.ref l),none,none] from rfl]
  try dsimp only[cC,bI]
  obtain⟨aX,aL,aY⟩:=zsix T;have uY:=Old.mk (M:=[]) hq nm0;have gK:=Old.mk (M:=[]) hl nm0;have jM:=ji.mk tp;have F:SH H [] H [] []:=SH.nil;have yl:=aA tp
  repeat k_meth
  refine fC (ws:=ts) (pr:=aP s (2 ^ 1)) (fvs:=[some (.ref q)]) SqA.e TpA.e (by lia) rfl (λq2 w H' R hw s2 hq2 kk=>?_) λpl ys2 H2 nw tp2=>?_
  ·have hq3:H' q=some (.tup [.int (s:Nat),.int ((2 ^ 1:Nat):Int)]):=s2 _ _ aZ;clear F;have F:SH H' [] H' [] []:=SH.nil;have o_q:=Old.mk (M:=[]) hq3 nm0;have Ej:=Old.mk (M:=[]) hq2 nm0
   repeat k_meth
   rw[eH];exact kk _ F.sm
  replace F:=(F.newL nw).bQ tp2;have yl2:=aA tp2;have fl2:=List.length_filter_le (aP s (2 ^ 1)) ts;obtain⟨tk,ok⟩:=ok
  repeat k_meth
  by_cases e0:ys2=[]
  ·have e1:ts.filter (aP s (2 ^ 1))=[]:=by
    rw[e0] at yl2;exact List.eq_nil_of_length_eq_zero yl2.symm
   have e2:fwF 1 s ts=[(s,2 ^ 1)]:=by rw[fwF,yB e1]
   rw[e2] at k;rw[uB e0]
   repeat k_meth
   exact k _ _ _ SH.nwC ⟨rfl,λj r e=>by
    cases j with
    | zero=>cases e;exact⟨q,rfl,aZ⟩
    | succ j=>simp[au] at e⟩
  have e1:ts.filter (aP s (2 ^ 1))≠[]:=λz=>e0 (by rw[z] at yl2;exact List.eq_nil_of_length_eq_zero yl2)
  rw[uA e0]
  repeat k_meth
  refine⟨q,pl,ys2,s,2 ^ 1,_,rfl,rfl,aZ,SqA.e,TpA.e,?_⟩;by_cases hm:(s,2 ^ 1)∈ts.filter (aP s (2 ^ 1))
  ·rw[uB hm];have e2:fwF 1 s ts=[]:=by rw[fwF,yT e1,yB hm]
   rw[e2] at k
   repeat k_meth
   exact k _ _ _ SH.nwC aB.nil
  rw[uA hm];have e2:fwF 1 s ts=fwF 0 s (ts.filter (aP s (2 ^ 1)))++fwF 0 (s+2 ^ 0) (ts.filter (aP s (2 ^ 1))):=jE (k:=0) e1 hm;rw[e2] at k;obtain⟨ok1,ok2⟩:=ok.Ba.halves hm
  repeat k_meth
  rw[show ((2 ^ 1:Nat):Int) / 2=((2 ^ 0:Nat):Int) by decide]
  repeat k_meth
  refine⟨p_,pl,ys2,_,s,rfl,aZ,aZ,TpA.e,by lia,by lia,⟨tk,ok1⟩,λp1 zs1 H3 n3 t3=>?_⟩;replace F:=(F.newL n3).bQ t3
  repeat k_meth
  rw[show (s:Int)+((2 ^ 0:Nat):Int)=((s+2 ^ 0:Nat):Int) by lia] at F;refine⟨p_,pl,ys2,_,s+2 ^ 0,rfl,aZ,aZ,TpA.e,by lia,by lia,⟨tk,ok2⟩,λp2 zs2 H4 n4 t4=>?_⟩;replace F:=(F.newL n4).bQ t4;have z1:=aA t3;have z2:=aA t4;have w1:=cW 0 s (ts.filter (aP s (2 ^ 1)));have w2:=cW 0 (s+2 ^ 0) (ts.filter (aP s (2 ^ 1)));have z3:zs1.length+zs2.length<=sizeLine:=by rw[sizeLine_eq];lia
  repeat k_meth
  exact k _ _ _ SH.nwC (cV TpA.e TpA.e)
theorem mQ(T:Txt K mg c R CP CV CB aG ak):Def P w K mg base CX0 8 "free_within" ["piece","taken"] (qt 2):=by
 have bG:=bG (P:=P) (w:=w) (base:=base) T;refine bM T.dZ bR (λvs H Q E h=>?_) (λ_ _ _ _ _ _=>el2 λ_ _=>rfl) (λf cdv A outer s H vs Q E hr h=>?_)
 ·obtain⟨q,l,ys,ts,s,rfl,_⟩:=h
  rfl
 ·obtain⟨q,l,ys,ts,s,rfl,hq,hl,tp,fw,s1,ok,k⟩:=h;have nd:=bR.nd;refine⟨_,(aq (gP (i:=2) nd rfl (Or.inl rfl) (N:=["one","piece"]) (nt:=1) (fr:=[0]) (cM (pv 1)) (λ_ _ _ _=>(bL (i:=0) (show (["one","piece"]:List Str).Nodup from by decide +kernel) rfl (Or.inl rfl))) (λ_ _ _ _=>iD (cu (aK bG hr (aj (pv 1) (aj (pv 0) ao))))) (λ_ _ _ _=>(pv 0)))
   (aq (bZ (bw (jZ hr) (pv 2) (bB ao) (bD _)) (aD (aM (bB (aj (pv 0) ao)))) bA)
   (aq (bZ (bw (j_ (K:=K) rfl hr) (pv 0) (pv 2) (by with_unfolding_all rfl)) (aD (aM (bB ao))) bA)
   (aq (bC (i:=3) nd rfl (Or.inl rfl) (aV eU (bJ bH (pv 0) aC (λ_ _=>rfl)) aC))
   (aD (aM (aV iG (aK (mO (P:=P) (w:=w) (base:=base) T) hr (aj (bK (aj (bJ bH (pv 0) aC (λ_ _=>rfl)) (aj (pv 3) ao))) (aj (pv 2) ao))) (aK (mO (P:=P) (w:=w) (base:=base) T) hr (aj (bK (aj (aV cJ (bJ bH (pv 0) aC (λ_ _=>rfl)) (pv 3)) (aj (pv 3) ao))) (aj (pv 2) ao)))))))))),?_⟩
  clear nd bG;rw[show start ["piece","taken","sharing","half"] [.ref q,.ref l]=[some (.ref q),some (.ref l),none,none] from rfl]
  try dsimp only[cC,bI]
  obtain⟨aX,aL,aY⟩:=zsix T;have uY:=Old.mk (M:=[]) hq nm0;have gK:=Old.mk (M:=[]) hl nm0;have jM:=ji.mk tp;have F:SH H [] H [] []:=SH.nil;have yl:=aA tp
  repeat k_meth
  refine fC (ws:=ts) (pr:=aP s (2 ^ 2)) (fvs:=[some (.ref q)]) SqA.e TpA.e (by lia) rfl (λq2 w H' R hw s2 hq2 kk=>?_) λpl ys2 H2 nw tp2=>?_
  ·have hq3:H' q=some (.tup [.int (s:Nat),.int ((2 ^ 2:Nat):Int)]):=s2 _ _ aZ;clear F;have F:SH H' [] H' [] []:=SH.nil;have o_q:=Old.mk (M:=[]) hq3 nm0;have Ej:=Old.mk (M:=[]) hq2 nm0
   repeat k_meth
   rw[eH];exact kk _ F.sm
  replace F:=(F.newL nw).bQ tp2;have yl2:=aA tp2;have fl2:=List.length_filter_le (aP s (2 ^ 2)) ts;obtain⟨tk,ok⟩:=ok
  repeat k_meth
  by_cases e0:ys2=[]
  ·have e1:ts.filter (aP s (2 ^ 2))=[]:=by
    rw[e0] at yl2;exact List.eq_nil_of_length_eq_zero yl2.symm
   have e2:fwF 2 s ts=[(s,2 ^ 2)]:=by rw[fwF,yB e1]
   rw[e2] at k;rw[uB e0]
   repeat k_meth
   exact k _ _ _ SH.nwC ⟨rfl,λj r e=>by
    cases j with
    | zero=>cases e;exact⟨q,rfl,aZ⟩
    | succ j=>simp[au] at e⟩
  have e1:ts.filter (aP s (2 ^ 2))≠[]:=λz=>e0 (by rw[z] at yl2;exact List.eq_nil_of_length_eq_zero yl2)
  rw[uA e0]
  repeat k_meth
  refine⟨q,pl,ys2,s,2 ^ 2,_,rfl,rfl,aZ,SqA.e,TpA.e,?_⟩;by_cases hm:(s,2 ^ 2)∈ts.filter (aP s (2 ^ 2))
  ·rw[uB hm];have e2:fwF 2 s ts=[]:=by rw[fwF,yT e1,yB hm]
   rw[e2] at k
   repeat k_meth
   exact k _ _ _ SH.nwC aB.nil
  rw[uA hm];have e2:fwF 2 s ts=fwF 1 s (ts.filter (aP s (2 ^ 2)))++fwF 1 (s+2 ^ 1) (ts.filter (aP s (2 ^ 2))):=jE (k:=1) e1 hm;rw[e2] at k;obtain⟨ok1,ok2⟩:=ok.Ba.halves hm
  repeat k_meth
  rw[show ((2 ^ 2:Nat):Int) / 2=((2 ^ 1:Nat):Int) by decide]
  repeat k_meth
  refine⟨p_,pl,ys2,_,s,rfl,aZ,aZ,TpA.e,by lia,by lia,⟨tk,ok1⟩,λp1 zs1 H3 n3 t3=>?_⟩;replace F:=(F.newL n3).bQ t3
  repeat k_meth
  rw[show (s:Int)+((2 ^ 1:Nat):Int)=((s+2 ^ 1:Nat):Int) by lia] at F;refine⟨p_,pl,ys2,_,s+2 ^ 1,rfl,aZ,aZ,TpA.e,by lia,by lia,⟨tk,ok2⟩,λp2 zs2 H4 n4 t4=>?_⟩;replace F:=(F.newL n4).bQ t4;have z1:=aA t3;have z2:=aA t4;have w1:=cW 1 s (ts.filter (aP s (2 ^ 2)));have w2:=cW 1 (s+2 ^ 1) (ts.filter (aP s (2 ^ 2)));have z3:zs1.length+zs2.length<=sizeLine:=by rw[sizeLine_eq];lia
  repeat k_meth
  exact k _ _ _ SH.nwC (cV TpA.e TpA.e)
theorem mU(T:Txt K mg c R CP CV CB aG ak):Def P w K mg base CX0 9 "free_within" ["piece","taken"] (qt 3):=by
 have bG:=bG (P:=P) (w:=w) (base:=base) T;refine bM T.dZ bR (λvs H Q E h=>?_) (λ_ _ _ _ _ _=>el2 λ_ _=>rfl) (λf cdv A outer s H vs Q E hr h=>?_)
 ·obtain⟨q,l,ys,ts,s,rfl,_⟩:=h
  rfl
 ·obtain⟨q,l,ys,ts,s,rfl,hq,hl,tp,fw,s1,ok,k⟩:=h;have nd:=bR.nd;refine⟨_,(aq (gP (i:=2) nd rfl (Or.inl rfl) (N:=["one","piece"]) (nt:=1) (fr:=[0]) (cM (pv 1)) (λ_ _ _ _=>(bL (i:=0) (show (["one","piece"]:List Str).Nodup from by decide +kernel) rfl (Or.inl rfl))) (λ_ _ _ _=>iD (cu (aK bG hr (aj (pv 1) (aj (pv 0) ao))))) (λ_ _ _ _=>(pv 0)))
   (aq (bZ (bw (jZ hr) (pv 2) (bB ao) (bD _)) (aD (aM (bB (aj (pv 0) ao)))) bA)
   (aq (bZ (bw (j_ (K:=K) rfl hr) (pv 0) (pv 2) (by with_unfolding_all rfl)) (aD (aM (bB ao))) bA)
   (aq (bC (i:=3) nd rfl (Or.inl rfl) (aV eU (bJ bH (pv 0) aC (λ_ _=>rfl)) aC))
   (aD (aM (aV iG (aK (mQ (P:=P) (w:=w) (base:=base) T) hr (aj (bK (aj (bJ bH (pv 0) aC (λ_ _=>rfl)) (aj (pv 3) ao))) (aj (pv 2) ao))) (aK (mQ (P:=P) (w:=w) (base:=base) T) hr (aj (bK (aj (aV cJ (bJ bH (pv 0) aC (λ_ _=>rfl)) (pv 3)) (aj (pv 3) ao))) (aj (pv 2) ao)))))))))),?_⟩
  clear nd bG;rw[show start ["piece","taken","sharing","half"] [.ref q,.ref l]=[some (.ref q),some (.ref l),none,none] from rfl]
  try dsimp only[cC,bI]
  obtain⟨aX,aL,aY⟩:=zsix T;have uY:=Old.mk (M:=[]) hq nm0;have gK:=Old.mk (M:=[]) hl nm0;have jM:=ji.mk tp;have F:SH H [] H [] []:=SH.nil;have yl:=aA tp
  repeat k_meth
  refine fC (ws:=ts) (pr:=aP s (2 ^ 3)) (fvs:=[some (.ref q)]) SqA.e TpA.e (by lia) rfl (λq2 w H' R hw s2 hq2 kk=>?_) λpl ys2 H2 nw tp2=>?_
  ·have hq3:H' q=some (.tup [.int (s:Nat),.int ((2 ^ 3:Nat):Int)]):=s2 _ _ aZ;clear F;have F:SH H' [] H' [] []:=SH.nil;have o_q:=Old.mk (M:=[]) hq3 nm0;have Ej:=Old.mk (M:=[]) hq2 nm0
   repeat k_meth
   rw[eH];exact kk _ F.sm
  replace F:=(F.newL nw).bQ tp2;have yl2:=aA tp2;have fl2:=List.length_filter_le (aP s (2 ^ 3)) ts;obtain⟨tk,ok⟩:=ok
  repeat k_meth
  by_cases e0:ys2=[]
  ·have e1:ts.filter (aP s (2 ^ 3))=[]:=by
    rw[e0] at yl2;exact List.eq_nil_of_length_eq_zero yl2.symm
   have e2:fwF 3 s ts=[(s,2 ^ 3)]:=by rw[fwF,yB e1]
   rw[e2] at k;rw[uB e0]
   repeat k_meth
   exact k _ _ _ SH.nwC ⟨rfl,λj r e=>by
    cases j with
    | zero=>cases e;exact⟨q,rfl,aZ⟩
    | succ j=>simp[au] at e⟩
  have e1:ts.filter (aP s (2 ^ 3))≠[]:=λz=>e0 (by rw[z] at yl2;exact List.eq_nil_of_length_eq_zero yl2)
  rw[uA e0]
  repeat k_meth
  refine⟨q,pl,ys2,s,2 ^ 3,_,rfl,rfl,aZ,SqA.e,TpA.e,?_⟩;by_cases hm:(s,2 ^ 3)∈ts.filter (aP s (2 ^ 3))
  ·rw[uB hm];have e2:fwF 3 s ts=[]:=by rw[fwF,yT e1,yB hm]
   rw[e2] at k
   repeat k_meth
   exact k _ _ _ SH.nwC aB.nil
  rw[uA hm];have e2:fwF 3 s ts=fwF 2 s (ts.filter (aP s (2 ^ 3)))++fwF 2 (s+2 ^ 2) (ts.filter (aP s (2 ^ 3))):=jE (k:=2) e1 hm;rw[e2] at k;obtain⟨ok1,ok2⟩:=ok.Ba.halves hm
  repeat k_meth
  rw[show ((2 ^ 3:Nat):Int) / 2=((2 ^ 2:Nat):Int) by decide]
  repeat k_meth
  refine⟨p_,pl,ys2,_,s,rfl,aZ,aZ,TpA.e,by lia,by lia,⟨tk,ok1⟩,λp1 zs1 H3 n3 t3=>?_⟩;replace F:=(F.newL n3).bQ t3
  repeat k_meth
  rw[show (s:Int)+((2 ^ 2:Nat):Int)=((s+2 ^ 2:Nat):Int) by lia] at F;refine⟨p_,pl,ys2,_,s+2 ^ 2,rfl,aZ,aZ,TpA.e,by lia,by lia,⟨tk,ok2⟩,λp2 zs2 H4 n4 t4=>?_⟩;replace F:=(F.newL n4).bQ t4;have z1:=aA t3;have z2:=aA t4;have w1:=cW 2 s (ts.filter (aP s (2 ^ 3)));have w2:=cW 2 (s+2 ^ 2) (ts.filter (aP s (2 ^ 3)));have z3:zs1.length+zs2.length<=sizeLine:=by rw[sizeLine_eq];lia
  repeat k_meth
  exact k _ _ _ SH.nwC (cV TpA.e TpA.e)
theorem mV(T:Txt K mg c R CP CV CB aG ak):Def P w K mg base CX0 10 "free_within" ["piece","taken"] (qt 4):=by
 have bG:=bG (P:=P) (w:=w) (base:=base) T;refine bM T.dZ bR (λvs H Q E h=>?_) (λ_ _ _ _ _ _=>el2 λ_ _=>rfl) (λf cdv A outer s H vs Q E hr h=>?_)
 ·obtain⟨q,l,ys,ts,s,rfl,_⟩:=h
  rfl
 ·obtain⟨q,l,ys,ts,s,rfl,hq,hl,tp,fw,s1,ok,k⟩:=h;have nd:=bR.nd;refine⟨_,(aq (gP (i:=2) nd rfl (Or.inl rfl) (N:=["one","piece"]) (nt:=1) (fr:=[0]) (cM (pv 1)) (λ_ _ _ _=>(bL (i:=0) (show (["one","piece"]:List Str).Nodup from by decide +kernel) rfl (Or.inl rfl))) (λ_ _ _ _=>iD (cu (aK bG hr (aj (pv 1) (aj (pv 0) ao))))) (λ_ _ _ _=>(pv 0)))
   (aq (bZ (bw (jZ hr) (pv 2) (bB ao) (bD _)) (aD (aM (bB (aj (pv 0) ao)))) bA)
   (aq (bZ (bw (j_ (K:=K) rfl hr) (pv 0) (pv 2) (by with_unfolding_all rfl)) (aD (aM (bB ao))) bA)
   (aq (bC (i:=3) nd rfl (Or.inl rfl) (aV eU (bJ bH (pv 0) aC (λ_ _=>rfl)) aC))
   (aD (aM (aV iG (aK (mU (P:=P) (w:=w) (base:=base) T) hr (aj (bK (aj (bJ bH (pv 0) aC (λ_ _=>rfl)) (aj (pv 3) ao))) (aj (pv 2) ao))) (aK (mU (P:=P) (w:=w) (base:=base) T) hr (aj (bK (aj (aV cJ (bJ bH (pv 0) aC (λ_ _=>rfl)) (pv 3)) (aj (pv 3) ao))) (aj (pv 2) ao)))))))))),?_⟩
  clear nd bG;rw[show start ["piece","taken","sharing","half"] [.ref q,.ref l]=[some (.ref q),some (.ref l),none,none] from rfl]
  try dsimp only[cC,bI]
  obtain⟨aX,aL,aY⟩:=zsix T;have uY:=Old.mk (M:=[]) hq nm0;have gK:=Old.mk (M:=[]) hl nm0;have jM:=ji.mk tp;have F:SH H [] H [] []:=SH.nil;have yl:=aA tp
  repeat k_meth
  refine fC (ws:=ts) (pr:=aP s (2 ^ 4)) (fvs:=[some (.ref q)]) SqA.e TpA.e (by lia) rfl (λq2 w H' R hw s2 hq2 kk=>?_) λpl ys2 H2 nw tp2=>?_
  ·have hq3:H' q=some (.tup [.int (s:Nat),.int ((2 ^ 4:Nat):Int)]):=s2 _ _ aZ;clear F;have F:SH H' [] H' [] []:=SH.nil;have o_q:=Old.mk (M:=[]) hq3 nm0;have Ej:=Old.mk (M:=[]) hq2 nm0
   repeat k_meth
   rw[eH];exact kk _ F.sm
  replace F:=(F.newL nw).bQ tp2;have yl2:=aA tp2;have fl2:=List.length_filter_le (aP s (2 ^ 4)) ts;obtain⟨tk,ok⟩:=ok
  repeat k_meth
  by_cases e0:ys2=[]
  ·have e1:ts.filter (aP s (2 ^ 4))=[]:=by
    rw[e0] at yl2;exact List.eq_nil_of_length_eq_zero yl2.symm
   have e2:fwF 4 s ts=[(s,2 ^ 4)]:=by rw[fwF,yB e1]
   rw[e2] at k;rw[uB e0]
   repeat k_meth
   exact k _ _ _ SH.nwC ⟨rfl,λj r e=>by
    cases j with
    | zero=>cases e;exact⟨q,rfl,aZ⟩
    | succ j=>simp[au] at e⟩
  have e1:ts.filter (aP s (2 ^ 4))≠[]:=λz=>e0 (by rw[z] at yl2;exact List.eq_nil_of_length_eq_zero yl2)
  rw[uA e0]
  repeat k_meth
  refine⟨q,pl,ys2,s,2 ^ 4,_,rfl,rfl,aZ,SqA.e,TpA.e,?_⟩;by_cases hm:(s,2 ^ 4)∈ts.filter (aP s (2 ^ 4))
  ·rw[uB hm];have e2:fwF 4 s ts=[]:=by rw[fwF,yT e1,yB hm]
   rw[e2] at k
   repeat k_meth
   exact k _ _ _ SH.nwC aB.nil
  rw[uA hm];have e2:fwF 4 s ts=fwF 3 s (ts.filter (aP s (2 ^ 4)))++fwF 3 (s+2 ^ 3) (ts.filter (aP s (2 ^ 4))):=jE (k:=3) e1 hm;rw[e2] at k;obtain⟨ok1,ok2⟩:=ok.Ba.halves hm
  repeat k_meth
  rw[show ((2 ^ 4:Nat):Int) / 2=((2 ^ 3:Nat):Int) by decide]
  repeat k_meth
  refine⟨p_,pl,ys2,_,s,rfl,aZ,aZ,TpA.e,by lia,by lia,⟨tk,ok1⟩,λp1 zs1 H3 n3 t3=>?_⟩;replace F:=(F.newL n3).bQ t3
  repeat k_meth
  rw[show (s:Int)+((2 ^ 3:Nat):Int)=((s+2 ^ 3:Nat):Int) by lia] at F;refine⟨p_,pl,ys2,_,s+2 ^ 3,rfl,aZ,aZ,TpA.e,by lia,by lia,⟨tk,ok2⟩,λp2 zs2 H4 n4 t4=>?_⟩;replace F:=(F.newL n4).bQ t4;have z1:=aA t3;have z2:=aA t4;have w1:=cW 3 s (ts.filter (aP s (2 ^ 4)));have w2:=cW 3 (s+2 ^ 3) (ts.filter (aP s (2 ^ 4)));have z3:zs1.length+zs2.length<=sizeLine:=by rw[sizeLine_eq];lia
  repeat k_meth
  exact k _ _ _ SH.nwC (cV TpA.e TpA.e)
theorem mW(T:Txt K mg c R CP CV CB aG ak):Def P w K mg base CX0 11 "free_within" ["piece","taken"] (qt 5):=by
 have bG:=bG (P:=P) (w:=w) (base:=base) T;refine bM T.dZ bR (λvs H Q E h=>?_) (λ_ _ _ _ _ _=>el2 λ_ _=>rfl) (λf cdv A outer s H vs Q E hr h=>?_)
 ·obtain⟨q,l,ys,ts,s,rfl,_⟩:=h
  rfl
 ·obtain⟨q,l,ys,ts,s,rfl,hq,hl,tp,fw,s1,ok,k⟩:=h;have nd:=bR.nd;refine⟨_,(aq (gP (i:=2) nd rfl (Or.inl rfl) (N:=["one","piece"]) (nt:=1) (fr:=[0]) (cM (pv 1)) (λ_ _ _ _=>(bL (i:=0) (show (["one","piece"]:List Str).Nodup from by decide +kernel) rfl (Or.inl rfl))) (λ_ _ _ _=>iD (cu (aK bG hr (aj (pv 1) (aj (pv 0) ao))))) (λ_ _ _ _=>(pv 0)))
   (aq (bZ (bw (jZ hr) (pv 2) (bB ao) (bD _)) (aD (aM (bB (aj (pv 0) ao)))) bA)
   (aq (bZ (bw (j_ (K:=K) rfl hr) (pv 0) (pv 2) (by with_unfolding_all rfl)) (aD (aM (bB ao))) bA)
   (aq (bC (i:=3) nd rfl (Or.inl rfl) (aV eU (bJ bH (pv 0) aC (λ_ _=>rfl)) aC))
   (aD (aM (aV iG (aK (mV (P:=P) (w:=w) (base:=base) T) hr (aj (bK (aj (bJ bH (pv 0) aC (λ_ _=>rfl)) (aj (pv 3) ao))) (aj (pv 2) ao))) (aK (mV (P:=P) (w:=w) (base:=base) T) hr (aj (bK (aj (aV cJ (bJ bH (pv 0) aC (λ_ _=>rfl)) (pv 3)) (aj (pv 3) ao))) (aj (pv 2) ao)))))))))),?_⟩
  clear nd bG;rw[show start ["piece","taken","sharing","half"] [.ref q,.ref l]=[some (.ref q),some (.ref l),none,none] from rfl]
  try dsimp only[cC,bI]
  obtain⟨aX,aL,aY⟩:=zsix T;have uY:=Old.mk (M:=[]) hq nm0;have gK:=Old.mk (M:=[]) hl nm0;have jM:=ji.mk tp;have F:SH H [] H [] []:=SH.nil;have yl:=aA tp
  repeat k_meth
  refine fC (ws:=ts) (pr:=aP s (2 ^ 5)) (fvs:=[some (.ref q)]) SqA.e TpA.e (by lia) rfl (λq2 w H' R hw s2 hq2 kk=>?_) λpl ys2 H2 nw tp2=>?_
  ·have hq3:H' q=some (.tup [.int (s:Nat),.int ((2 ^ 5:Nat):Int)]):=s2 _ _ aZ;clear F;have F:SH H' [] H' [] []:=SH.nil;have o_q:=Old.mk (M:=[]) hq3 nm0;have Ej:=Old.mk (M:=[]) hq2 nm0
   repeat k_meth
   rw[eH];exact kk _ F.sm
  replace F:=(F.newL nw).bQ tp2;have yl2:=aA tp2;have fl2:=List.length_filter_le (aP s (2 ^ 5)) ts;obtain⟨tk,ok⟩:=ok
  repeat k_meth
  by_cases e0:ys2=[]
  ·have e1:ts.filter (aP s (2 ^ 5))=[]:=by
    rw[e0] at yl2;exact List.eq_nil_of_length_eq_zero yl2.symm
   have e2:fwF 5 s ts=[(s,2 ^ 5)]:=by rw[fwF,yB e1]
   rw[e2] at k;rw[uB e0]
   repeat k_meth
   exact k _ _ _ SH.nwC ⟨rfl,λj r e=>by
    cases j with
    | zero=>cases e;exact⟨q,rfl,aZ⟩
    | succ j=>simp[au] at e⟩
  have e1:ts.filter (aP s (2 ^ 5))≠[]:=λz=>e0 (by rw[z] at yl2;exact List.eq_nil_of_length_eq_zero yl2)
  rw[uA e0]
  repeat k_meth
  refine⟨q,pl,ys2,s,2 ^ 5,_,rfl,rfl,aZ,SqA.e,TpA.e,?_⟩;by_cases hm:(s,2 ^ 5)∈ts.filter (aP s (2 ^ 5))
  ·rw[uB hm];have e2:fwF 5 s ts=[]:=by rw[fwF,yT e1,yB hm]
   rw[e2] at k
   repeat k_meth
   exact k _ _ _ SH.nwC aB.nil
  rw[uA hm];have e2:fwF 5 s ts=fwF 4 s (ts.filter (aP s (2 ^ 5)))++fwF 4 (s+2 ^ 4) (ts.filter (aP s (2 ^ 5))):=jE (k:=4) e1 hm;rw[e2] at k;obtain⟨ok1,ok2⟩:=ok.Ba.halves hm
  repeat k_meth
  rw[show ((2 ^ 5:Nat):Int) / 2=((2 ^ 4:Nat):Int) by decide]
  repeat k_meth
  refine⟨p_,pl,ys2,_,s,rfl,aZ,aZ,TpA.e,by lia,by lia,⟨tk,ok1⟩,λp1 zs1 H3 n3 t3=>?_⟩;replace F:=(F.newL n3).bQ t3
  repeat k_meth
  rw[show (s:Int)+((2 ^ 4:Nat):Int)=((s+2 ^ 4:Nat):Int) by lia] at F;refine⟨p_,pl,ys2,_,s+2 ^ 4,rfl,aZ,aZ,TpA.e,by lia,by lia,⟨tk,ok2⟩,λp2 zs2 H4 n4 t4=>?_⟩;replace F:=(F.newL n4).bQ t4;have z1:=aA t3;have z2:=aA t4;have w1:=cW 4 s (ts.filter (aP s (2 ^ 5)));have w2:=cW 4 (s+2 ^ 4) (ts.filter (aP s (2 ^ 5)));have z3:zs1.length+zs2.length<=sizeLine:=by rw[sizeLine_eq];lia
  repeat k_meth
  exact k _ _ _ SH.nwC (cV TpA.e TpA.e)
theorem mX(T:Txt K mg c R CP CV CB aG ak):Def P w K mg base CX0 12 "free_within" ["piece","taken"] (qt 6):=by
 have bG:=bG (P:=P) (w:=w) (base:=base) T;refine bM T.dZ bR (λvs H Q E h=>?_) (λ_ _ _ _ _ _=>el2 λ_ _=>rfl) (λf cdv A outer s H vs Q E hr h=>?_)
 ·obtain⟨q,l,ys,ts,s,rfl,_⟩:=h
  rfl
 ·obtain⟨q,l,ys,ts,s,rfl,hq,hl,tp,fw,s1,ok,k⟩:=h;have nd:=bR.nd;refine⟨_,(aq (gP (i:=2) nd rfl (Or.inl rfl) (N:=["one","piece"]) (nt:=1) (fr:=[0]) (cM (pv 1)) (λ_ _ _ _=>(bL (i:=0) (show (["one","piece"]:List Str).Nodup from by decide +kernel) rfl (Or.inl rfl))) (λ_ _ _ _=>iD (cu (aK bG hr (aj (pv 1) (aj (pv 0) ao))))) (λ_ _ _ _=>(pv 0)))
   (aq (bZ (bw (jZ hr) (pv 2) (bB ao) (bD _)) (aD (aM (bB (aj (pv 0) ao)))) bA)
   (aq (bZ (bw (j_ (K:=K) rfl hr) (pv 0) (pv 2) (by with_unfolding_all rfl)) (aD (aM (bB ao))) bA)
   (aq (bC (i:=3) nd rfl (Or.inl rfl) (aV eU (bJ bH (pv 0) aC (λ_ _=>rfl)) aC))
   (aD (aM (aV iG (aK (mW (P:=P) (w:=w) (base:=base) T) hr (aj (bK (aj (bJ bH (pv 0) aC (λ_ _=>rfl)) (aj (pv 3) ao))) (aj (pv 2) ao))) (aK (mW (P:=P) (w:=w) (base:=base) T) hr (aj (bK (aj (aV cJ (bJ bH (pv 0) aC (λ_ _=>rfl)) (pv 3)) (aj (pv 3) ao))) (aj (pv 2) ao)))))))))),?_⟩
  clear nd bG;rw[show start ["piece","taken","sharing","half"] [.ref q,.ref l]=[some (.ref q),some (.ref l),none,none] from rfl]
  try dsimp only[cC,bI]
  obtain⟨aX,aL,aY⟩:=zsix T;have uY:=Old.mk (M:=[]) hq nm0;have gK:=Old.mk (M:=[]) hl nm0;have jM:=ji.mk tp;have F:SH H [] H [] []:=SH.nil;have yl:=aA tp
  repeat k_meth
  refine fC (ws:=ts) (pr:=aP s (2 ^ 6)) (fvs:=[some (.ref q)]) SqA.e TpA.e (by lia) rfl (λq2 w H' R hw s2 hq2 kk=>?_) λpl ys2 H2 nw tp2=>?_
  ·have hq3:H' q=some (.tup [.int (s:Nat),.int ((2 ^ 6:Nat):Int)]):=s2 _ _ aZ;clear F;have F:SH H' [] H' [] []:=SH.nil;have o_q:=Old.mk (M:=[]) hq3 nm0;have Ej:=Old.mk (M:=[]) hq2 nm0
   repeat k_meth
   rw[eH];exact kk _ F.sm
  replace F:=(F.newL nw).bQ tp2;have yl2:=aA tp2;have fl2:=List.length_filter_le (aP s (2 ^ 6)) ts;obtain⟨tk,ok⟩:=ok
  repeat k_meth
  by_cases e0:ys2=[]
  ·have e1:ts.filter (aP s (2 ^ 6))=[]:=by
    rw[e0] at yl2;exact List.eq_nil_of_length_eq_zero yl2.symm
   have e2:fwF 6 s ts=[(s,2 ^ 6)]:=by rw[fwF,yB e1]
   rw[e2] at k;rw[uB e0]
   repeat k_meth
   exact k _ _ _ SH.nwC ⟨rfl,λj r e=>by
    cases j with
    | zero=>cases e;exact⟨q,rfl,aZ⟩
    | succ j=>simp[au] at e⟩
  have e1:ts.filter (aP s (2 ^ 6))≠[]:=λz=>e0 (by rw[z] at yl2;exact List.eq_nil_of_length_eq_zero yl2)
  rw[uA e0]
  repeat k_meth
  refine⟨q,pl,ys2,s,2 ^ 6,_,rfl,rfl,aZ,SqA.e,TpA.e,?_⟩;by_cases hm:(s,2 ^ 6)∈ts.filter (aP s (2 ^ 6))
  ·rw[uB hm];have e2:fwF 6 s ts=[]:=by rw[fwF,yT e1,yB hm]
   rw[e2] at k
   repeat k_meth
   exact k _ _ _ SH.nwC aB.nil
  rw[uA hm];have e2:fwF 6 s ts=fwF 5 s (ts.filter (aP s (2 ^ 6)))++fwF 5 (s+2 ^ 5) (ts.filter (aP s (2 ^ 6))):=jE (k:=5) e1 hm;rw[e2] at k;obtain⟨ok1,ok2⟩:=ok.Ba.halves hm
  repeat k_meth
  rw[show ((2 ^ 6:Nat):Int) / 2=((2 ^ 5:Nat):Int) by decide]
  repeat k_meth
  refine⟨p_,pl,ys2,_,s,rfl,aZ,aZ,TpA.e,by lia,by lia,⟨tk,ok1⟩,λp1 zs1 H3 n3 t3=>?_⟩;replace F:=(F.newL n3).bQ t3
  repeat k_meth
  rw[show (s:Int)+((2 ^ 5:Nat):Int)=((s+2 ^ 5:Nat):Int) by lia] at F;refine⟨p_,pl,ys2,_,s+2 ^ 5,rfl,aZ,aZ,TpA.e,by lia,by lia,⟨tk,ok2⟩,λp2 zs2 H4 n4 t4=>?_⟩;replace F:=(F.newL n4).bQ t4;have z1:=aA t3;have z2:=aA t4;have w1:=cW 5 s (ts.filter (aP s (2 ^ 6)));have w2:=cW 5 (s+2 ^ 5) (ts.filter (aP s (2 ^ 6)));have z3:zs1.length+zs2.length<=sizeLine:=by rw[sizeLine_eq];lia
  repeat k_meth
  exact k _ _ _ SH.nwC (cV TpA.e TpA.e)
theorem Ek(T:Txt K mg c R CP CV CB aG ak):Def P w K mg base CX0 13 "free_within" ["piece","taken"] (qt 7):=by
 have bG:=bG (P:=P) (w:=w) (base:=base) T;refine bM T.dZ bR (λvs H Q E h=>?_) (λ_ _ _ _ _ _=>el2 λ_ _=>rfl) (λf cdv A outer s H vs Q E hr h=>?_)
 ·obtain⟨q,l,ys,ts,s,rfl,_⟩:=h
  rfl
 ·obtain⟨q,l,ys,ts,s,rfl,hq,hl,tp,fw,s1,ok,k⟩:=h;have nd:=bR.nd;refine⟨_,(aq (gP (i:=2) nd rfl (Or.inl rfl) (N:=["one","piece"]) (nt:=1) (fr:=[0]) (cM (pv 1)) (λ_ _ _ _=>(bL (i:=0) (show (["one","piece"]:List Str).Nodup from by decide +kernel) rfl (Or.inl rfl))) (λ_ _ _ _=>iD (cu (aK bG hr (aj (pv 1) (aj (pv 0) ao))))) (λ_ _ _ _=>(pv 0)))
   (aq (bZ (bw (jZ hr) (pv 2) (bB ao) (bD _)) (aD (aM (bB (aj (pv 0) ao)))) bA)
   (aq (bZ (bw (j_ (K:=K) rfl hr) (pv 0) (pv 2) (by with_unfolding_all rfl)) (aD (aM (bB ao))) bA)
   (aq (bC (i:=3) nd rfl (Or.inl rfl) (aV eU (bJ bH (pv 0) aC (λ_ _=>rfl)) aC))
   (aD (aM (aV iG (aK (mX (P:=P) (w:=w) (base:=base) T) hr (aj (bK (aj (bJ bH (pv 0) aC (λ_ _=>rfl)) (aj (pv 3) ao))) (aj (pv 2) ao))) (aK (mX (P:=P) (w:=w) (base:=base) T) hr (aj (bK (aj (aV cJ (bJ bH (pv 0) aC (λ_ _=>rfl)) (pv 3)) (aj (pv 3) ao))) (aj (pv 2) ao)))))))))),?_⟩
  clear nd bG;rw[show start ["piece","taken","sharing","half"] [.ref q,.ref l]=[some (.ref q),some (.ref l),none,none] from rfl]
  try dsimp only[cC,bI]
  obtain⟨aX,aL,aY⟩:=zsix T;have uY:=Old.mk (M:=[]) hq nm0;have gK:=Old.mk (M:=[]) hl nm0;have jM:=ji.mk tp;have F:SH H [] H [] []:=SH.nil;have yl:=aA tp
  repeat k_meth
  refine fC (ws:=ts) (pr:=aP s (2 ^ 7)) (fvs:=[some (.ref q)]) SqA.e TpA.e (by lia) rfl (λq2 w H' R hw s2 hq2 kk=>?_) λpl ys2 H2 nw tp2=>?_
  ·have hq3:H' q=some (.tup [.int (s:Nat),.int ((2 ^ 7:Nat):Int)]):=s2 _ _ aZ;clear F;have F:SH H' [] H' [] []:=SH.nil;have o_q:=Old.mk (M:=[]) hq3 nm0;have Ej:=Old.mk (M:=[]) hq2 nm0
   repeat k_meth
   rw[eH];exact kk _ F.sm
  replace F:=(F.newL nw).bQ tp2;have yl2:=aA tp2;have fl2:=List.length_filter_le (aP s (2 ^ 7)) ts;obtain⟨tk,ok⟩:=ok
  repeat k_meth
  by_cases e0:ys2=[]
  ·have e1:ts.filter (aP s (2 ^ 7))=[]:=by
    rw[e0] at yl2;exact List.eq_nil_of_length_eq_zero yl2.symm
   have e2:fwF 7 s ts=[(s,2 ^ 7)]:=by rw[fwF,yB e1]
   rw[e2] at k;rw[uB e0]
   repeat k_meth
   exact k _ _ _ SH.nwC ⟨rfl,λj r e=>by
    cases j with
    | zero=>cases e;exact⟨q,rfl,aZ⟩
    | succ j=>simp[au] at e⟩
  have e1:ts.filter (aP s (2 ^ 7))≠[]:=λz=>e0 (by rw[z] at yl2;exact List.eq_nil_of_length_eq_zero yl2)
  rw[uA e0]
  repeat k_meth
  refine⟨q,pl,ys2,s,2 ^ 7,_,rfl,rfl,aZ,SqA.e,TpA.e,?_⟩;by_cases hm:(s,2 ^ 7)∈ts.filter (aP s (2 ^ 7))
  ·rw[uB hm];have e2:fwF 7 s ts=[]:=by rw[fwF,yT e1,yB hm]
   rw[e2] at k
   repeat k_meth
   exact k _ _ _ SH.nwC aB.nil
  rw[uA hm];have e2:fwF 7 s ts=fwF 6 s (ts.filter (aP s (2 ^ 7)))++fwF 6 (s+2 ^ 6) (ts.filter (aP s (2 ^ 7))):=jE (k:=6) e1 hm;rw[e2] at k;obtain⟨ok1,ok2⟩:=ok.Ba.halves hm
  repeat k_meth
  rw[show ((2 ^ 7:Nat):Int) / 2=((2 ^ 6:Nat):Int) by decide]
  repeat k_meth
  refine⟨p_,pl,ys2,_,s,rfl,aZ,aZ,TpA.e,by lia,by lia,⟨tk,ok1⟩,λp1 zs1 H3 n3 t3=>?_⟩;replace F:=(F.newL n3).bQ t3
  repeat k_meth
  rw[show (s:Int)+((2 ^ 6:Nat):Int)=((s+2 ^ 6:Nat):Int) by lia] at F;refine⟨p_,pl,ys2,_,s+2 ^ 6,rfl,aZ,aZ,TpA.e,by lia,by lia,⟨tk,ok2⟩,λp2 zs2 H4 n4 t4=>?_⟩;replace F:=(F.newL n4).bQ t4;have z1:=aA t3;have z2:=aA t4;have w1:=cW 6 s (ts.filter (aP s (2 ^ 7)));have w2:=cW 6 (s+2 ^ 6) (ts.filter (aP s (2 ^ 7)));have z3:zs1.length+zs2.length<=sizeLine:=by rw[sizeLine_eq];lia
  repeat k_meth
  exact k _ _ _ SH.nwC (cV TpA.e TpA.e)
end
open M44
theorem Nt(ws ts:xD)(w:Nat×Nat):frF (ws++[w]) ts=frF ws ts++fwF (Nat.log2 w.2) w.1 ts:=by unfold frF;simp
theorem UJ{n:Nat}{ts:xD}:∀{s:Nat} {ws:xD},Ch n s ws->(frF ws ts).length<=n-s:=by
 intro s ws h
 induction h with
 | nil _=>simp[frF]
 | @cons s e l h1 h2 h3 h4 _ ih =>
  have a:=cW e s ts;unfold frF at ih ⊢;rw[List.flatMap_cons,yY];show (fwF (Nat.log2 (2 ^ e)) s ts).length+_<=_;rw[Nat.log2_two_pow]
  lia
theorem QK(ws ts:xD)(i:Nat):(frF (ws.take i) ts).length<=(frF ws ts).length:=by
 have:frF ws ts=frF (ws.take i) ts++frF (ws.drop i) ts:=by unfold frF;rw[<- List.flatMap_append,List.take_append_drop]
 rw[this,yY]
 lia
def R5(n:Nat)(ts:xD):Prop:=∀(i:Nat)(w:Nat×Nat),ts[i]?=some w->Pc n w.1 w.2/\∀t∈ts.take i,aP w.1 w.2 t=false
theorem R5.pc{n:Nat}{ts:xD}(h:R5 n ts):∀t∈ts,Pc n t.1 t.2:=λt ht=>by
 obtain⟨i,hi,e⟩:=List.getElem_of_mem ht;exact(h i t (by rw[qS hi,e])).1
def Nu:Sp:=λvs H Q _=>∃(n:Nat)(l:Addr)(ys:List V)(ts:xD),vs=[.int (n:Nat),.ref l]/\16<=n/\n<=240/\H l=some (.lst ys)/\aB H ys (au ts)/\(∀t∈ts,Pc n t.1 t.2)/\ts.length<=1000/\∀p zs H',New H H' p (.lst zs)->aB H' zs (au (frF (whF n 0 n) ts))->Q (.ref p) H'
instance aaQ{H:Hp}{Q:VK}{E:XK}{n:Nat}{l:Addr}{ys:List V}{ts:xD}[h:Hat H l (.lst ys)][t:TpA H ys (au ts)]:Go (Nu [.int (n:Nat),.ref l] H Q E) (Sd ((16<=n/\n<=240)/\ts.length<=1000) ((∀t∈ts,Pc n t.1 t.2)/\∀p zs H',New H H' p (.lst zs)->aB H' zs (au (frF (whF n 0 n) ts))->Q (.ref p) H')):=⟨λk=>⟨n,l,ys,ts,rfl,k.1.1.1,k.1.1.2,h.e,t.e,k.2.1,k.1.2,k.2.2⟩⟩
section
variable{P:Program}{w:World}{K:W.Frag}{mg:xC}{base:Heap}{c:Nat->Addr}{aG ak R CP CV CB:Addr}
theorem lJ(T:Txt K mg c R CP CV CB aG ak):Def P w K mg base CX0 15 "free_pieces" ["many","taken"] Nu:=by
 have gC:=gC (P:=P) (w:=w) (base:=base) T;refine bM T.wU tK (λvs H Q E h=>?_) (λ_ _ _ _ _ _=>el2 λ_ _=>rfl) (λf cdv A outer s H vs Q E hr h=>?_)
 ·obtain⟨n,l,ys,ts,rfl,_⟩:=h
  rfl
 ·obtain⟨n,l,ys,ts,rfl,n1,n2,hl,tp,hp,fw,k⟩:=h;have nd:=tK.nd;refine⟨_,(aq (bC (i:=2) nd rfl (Or.inl rfl) (bB ao))
   (aq (jQ PassesOwn.never rfl (cM (aK gC hr (aj (pv 0) ao))) (bL (i:=3) nd rfl (Or.inl rfl)) (aD (cL (Qd (pv 2) (sG (aK (mL (P:=P) (w:=w) (base:=base) T) hr (aj (pv 3) (aj (pv 1) ao))) (sG (aK (mO (P:=P) (w:=w) (base:=base) T) hr (aj (pv 3) (aj (pv 1) ao))) (sG (aK (mQ (P:=P) (w:=w) (base:=base) T) hr (aj (pv 3) (aj (pv 1) ao))) (sG (aK (mU (P:=P) (w:=w) (base:=base) T) hr (aj (pv 3) (aj (pv 1) ao))) (sG (aK (mV (P:=P) (w:=w) (base:=base) T) hr (aj (pv 3) (aj (pv 1) ao))) (sG (aK (mW (P:=P) (w:=w) (base:=base) T) hr (aj (pv 3) (aj (pv 1) ao))) (sG (aK (mX (P:=P) (w:=w) (base:=base) T) hr (aj (pv 3) (aj (pv 1) ao))) (aK (Ek (P:=P) (w:=w) (base:=base) T) hr (aj (pv 3) (aj (pv 1) ao))))))))))))))
   (aD (aM (pv 2))))),?_⟩
  clear nd gC;rw[show start ["many","taken","told","whole"] [.int (n:Nat),.ref l]=[some (.int (n:Nat)),some (.ref l),none,none] from rfl]
  try dsimp only[cC,bI]
  obtain⟨aX,aL,aY⟩:=zsix T;have gK:=Old.mk (M:=[]) hl nm0;have jM:=ji.mk tp;have F:SH H [] H [] []:=SH.nil
  repeat k_meth
  rename_i td;obtain⟨wl,e_⟩:∃q,q=p_:=⟨_,rfl⟩;subst e_;have cf:=lH n2;have wsl:=Nr cf;have frl:=UJ (ts:=ts) cf;have yl:=aA tp;refine k_ (xs:=ys_) (λi σ' H'=>∃(o3:Option V)(zs:List V),σ'=[some (.int (n:Nat)),some (.ref l),some (.ref td),o3]/\zs.length=(frF ((whF n 0 n).take i) ts).length/\SH H [] H' [(td,.lst zs),(wl,.lst ys_)] [.tps zs (au (frF ((whF n 0 n).take i) ts)),.tps ys_ (au (whF n 0 n))]) ⟨_,[],rfl,by simp[frF],(F.bQ (ys:=[]) (rs:=au (frF ((whF n 0 n).take 0) ts)) (by simp only[List.take_zero,frF,List.flatMap_nil];exact aB.nil)).sub SbC.s SbI.s⟩ ?_ ?_ ?_
  ·clear F;rintro i σ' H' hi ⟨_,zs,rfl,zl,F⟩;exact SqA.e
  ·clear F;rintro i v σ' H' hv ⟨_,zs,rfl,zl,F⟩;obtain⟨⟨s,z⟩,q,e1,rfl,e2⟩:=fV (H:=H') (ws:=whF n 0 n) TpA.e hv;obtain⟨e,he,m1,m2,m3⟩:=M4 cf _ (wE e1);simp only at he m1 m2 m3 e2;subst he;have e7:e<8:=jm (by lia);have ok:=RZ m1 m2 m3 hp;have ft:=QK (whF n 0 n) ts i;have es:frF ((whF n 0 n).take (i+1)) ts=frF ((whF n 0 n).take i) ts++fwF e s ts:=by
    rw[List.take_add_one,e1,Option.toList,Nt];show _++fwF (Nat.log2 (2 ^ e)) s ts=_;rw[Nat.log2_two_pow]
   have fl:=cW e s ts;replace F:=F.DQ e2
   repeat k_meth
   obtain rfl|rfl|rfl|rfl|rfl|rfl|rfl|rfl:e=0\/e=1\/e=2\/e=3\/e=4\/e=5\/e=6\/e=7:=by lia
   ·refine Eb ?_
    repeat k_meth
    refine⟨q,l,ys,ts,s,rfl,aZ,aZ,TpA.e,fw,by lia,⟨_,ok⟩,λp1 zs1 H3 n3 t3=>?_⟩;have z1:=aA t3;replace F:=(F.newL n3).bQ t3;have z3:zs.length+zs1.length<=sizeLine:=by rw[sizeLine_eq];lia
    repeat k_meth
    refine⟨_,zs++zs1,rfl,by rw[es,yY,yY,zl,z1],?_⟩;have tt:aB H_ (zs++zs1) (au (frF ((whF n 0 n).take (i+1)) ts)):=by rw[es];exact cV TpA.e TpA.e
    exact(F.bQ tt).sub SbC.s SbI.s
   ·refine fY (Eb ?_)
    repeat k_meth
    refine⟨q,l,ys,ts,s,rfl,aZ,aZ,TpA.e,fw,by lia,⟨_,ok⟩,λp1 zs1 H3 n3 t3=>?_⟩;have z1:=aA t3;replace F:=(F.newL n3).bQ t3;have z3:zs.length+zs1.length<=sizeLine:=by rw[sizeLine_eq];lia
    repeat k_meth
    refine⟨_,zs++zs1,rfl,by rw[es,yY,yY,zl,z1],?_⟩;have tt:aB H_ (zs++zs1) (au (frF ((whF n 0 n).take (i+1)) ts)):=by rw[es];exact cV TpA.e TpA.e
    exact(F.bQ tt).sub SbC.s SbI.s
   ·refine fY (fY (Eb ?_))
    repeat k_meth
    refine⟨q,l,ys,ts,s,rfl,aZ,aZ,TpA.e,fw,by lia,⟨_,ok⟩,λp1 zs1 H3 n3 t3=>?_⟩;have z1:=aA t3;replace F:=(F.newL n3).bQ t3;have z3:zs.length+zs1.length<=sizeLine:=by rw[sizeLine_eq];lia
    repeat k_meth
    refine⟨_,zs++zs1,rfl,by rw[es,yY,yY,zl,z1],?_⟩;have tt:aB H_ (zs++zs1) (au (frF ((whF n 0 n).take (i+1)) ts)):=by rw[es];exact cV TpA.e TpA.e
    exact(F.bQ tt).sub SbC.s SbI.s
   ·refine fY (fY (fY (Eb ?_)))
    repeat k_meth
    refine⟨q,l,ys,ts,s,rfl,aZ,aZ,TpA.e,fw,by lia,⟨_,ok⟩,λp1 zs1 H3 n3 t3=>?_⟩;have z1:=aA t3;replace F:=(F.newL n3).bQ t3;have z3:zs.length+zs1.length<=sizeLine:=by rw[sizeLine_eq];lia
    repeat k_meth
    refine⟨_,zs++zs1,rfl,by rw[es,yY,yY,zl,z1],?_⟩;have tt:aB H_ (zs++zs1) (au (frF ((whF n 0 n).take (i+1)) ts)):=by rw[es];exact cV TpA.e TpA.e
    exact(F.bQ tt).sub SbC.s SbI.s
   ·refine fY (fY (fY (fY (Eb ?_))))
    repeat k_meth
    refine⟨q,l,ys,ts,s,rfl,aZ,aZ,TpA.e,fw,by lia,⟨_,ok⟩,λp1 zs1 H3 n3 t3=>?_⟩;have z1:=aA t3;replace F:=(F.newL n3).bQ t3;have z3:zs.length+zs1.length<=sizeLine:=by rw[sizeLine_eq];lia
    repeat k_meth
    refine⟨_,zs++zs1,rfl,by rw[es,yY,yY,zl,z1],?_⟩;have tt:aB H_ (zs++zs1) (au (frF ((whF n 0 n).take (i+1)) ts)):=by rw[es];exact cV TpA.e TpA.e
    exact(F.bQ tt).sub SbC.s SbI.s
   ·refine fY (fY (fY (fY (fY (Eb ?_)))))
    repeat k_meth
    refine⟨q,l,ys,ts,s,rfl,aZ,aZ,TpA.e,fw,by lia,⟨_,ok⟩,λp1 zs1 H3 n3 t3=>?_⟩;have z1:=aA t3;replace F:=(F.newL n3).bQ t3;have z3:zs.length+zs1.length<=sizeLine:=by rw[sizeLine_eq];lia
    repeat k_meth
    refine⟨_,zs++zs1,rfl,by rw[es,yY,yY,zl,z1],?_⟩;have tt:aB H_ (zs++zs1) (au (frF ((whF n 0 n).take (i+1)) ts)):=by rw[es];exact cV TpA.e TpA.e
    exact(F.bQ tt).sub SbC.s SbI.s
   ·refine fY (fY (fY (fY (fY (fY (Eb ?_))))))
    repeat k_meth
    refine⟨q,l,ys,ts,s,rfl,aZ,aZ,TpA.e,fw,by lia,⟨_,ok⟩,λp1 zs1 H3 n3 t3=>?_⟩;have z1:=aA t3;replace F:=(F.newL n3).bQ t3;have z3:zs.length+zs1.length<=sizeLine:=by rw[sizeLine_eq];lia
    repeat k_meth
    refine⟨_,zs++zs1,rfl,by rw[es,yY,yY,zl,z1],?_⟩;have tt:aB H_ (zs++zs1) (au (frF ((whF n 0 n).take (i+1)) ts)):=by rw[es];exact cV TpA.e TpA.e
    exact(F.bQ tt).sub SbC.s SbI.s
   ·refine fY (fY (fY (fY (fY (fY (fY ?_))))))
    repeat k_meth
    refine⟨q,l,ys,ts,s,rfl,aZ,aZ,TpA.e,fw,by lia,⟨_,ok⟩,λp1 zs1 H3 n3 t3=>?_⟩;have z1:=aA t3;replace F:=(F.newL n3).bQ t3;have z3:zs.length+zs1.length<=sizeLine:=by rw[sizeLine_eq];lia
    repeat k_meth
    refine⟨_,zs++zs1,rfl,by rw[es,yY,yY,zl,z1],?_⟩;have tt:aB H_ (zs++zs1) (au (frF ((whF n 0 n).take (i+1)) ts)):=by rw[es];exact cV TpA.e TpA.e
    exact(F.bQ tt).sub SbC.s SbI.s
  ·clear F;rintro σ' H' ⟨_,zs,rfl,zl,F⟩
   repeat k_meth
   have t9:aB H' zs (au (frF ((whF n 0 n).take ys_.length) ts)):=TpA.e;rw[l_,List.take_length] at t9;exact k _ zs _ SH.nwC t9
end
open M22 M44
def cG(i:Nat):Nat:=2 ^ Nat.log2 (2*i-1)
theorem mY{i r:Nat}(h1:1<=i)(h:IsR i r):r=cG i:=by
 obtain⟨k,rfl,h2,h3⟩:=h;have:=eO k;refine G_ ?_ (by lia);rcases h3 with rfl|h3
 ·simp only[Nat.pow_zero]
  lia
 ·cases k with
  | zero=>simp only[Nat.pow_zero];lia
  | succ k=>have:=eO k;simp only[Nat.add_sub_cancel] at h3;lia
theorem QL(i:Nat):∃k,cG i=2 ^ k:=⟨_,rfl⟩
theorem Nv{i k:Nat}(h1:1<=i)(h2:i<=2 ^ k)(h3:k=0\/2 ^ (k-1)<i):cG i=2 ^ k:=(mY h1 ⟨k,rfl,h2,h3⟩).symm
def pF(n:Int)(p:Addr):List (Str×V):=fL "pieces" (.ref p) (fL "many" (.int n) [])
theorem qP{n:Int}{p:Addr}{m:Str}(h1:m ≠ "pieces")(h2:m ≠ "many"):(pF n p).lookup m=none:=by unfold pF;rw[cQ,if_neg h1,cQ,if_neg h2];rfl
def vF(x:Addr):List (Str×V):=fL "book" (.ref x) []
theorem eN{x:Addr}{m:Str}(h1:m ≠ "book"):(vF x).lookup m=none:=by unfold vF;rw[cQ,if_neg h1];rfl
class GtA(n:Nat)(ts:xD):Prop where
 lo:16<=n
 hi:n<=240
 gd:Gd n ts
 len:ts.length<=200
def Pk(CP:Addr)(H:Hp)(x l dx:Addr)(n:Nat)(ys:List V)(ts:xD):Prop:=H x=some (.ins CP dx (pF n l))/\H l=some (.lst ys)/\aB H ys (au ts)/\GtA n ts
class PkA(CP:Addr)(H:Hp)(x:Addr)(l dx:outParam Addr)(n:outParam Nat)(ys:outParam (List V))(ts:outParam (List (Nat×Nat))):Prop where
 e:Pk CP H x l dx n ys ts
def Hv(CV CP:Addr)(H:Hp)(y dy x l dx:Addr)(n:Nat)(ys:List V)(ts:xD):Prop:=H y=some (.ins CV dy (vF x))/\Pk CP H x l dx n ys ts
class HvA(CV CP:Addr)(H:Hp)(y:Addr)(dy x l dx:outParam Addr)(n:outParam Nat)(ys:outParam (List V))(ts:outParam (List (Nat×Nat))):Prop where
 e:Hv CV CP H y dy x l dx n ys ts
class FrA(n a z:Nat)(ts:xD):Prop where
 z1:1<=z
 z2:z<=1000000000000000000000000000000000
 pc:Pc n a (cG z)
 ap:∀t∈ts,aP a (cG z) t=false
class TkA(a z:Nat)(ts:xD):Prop where
 z1:1<=z
 z2:z<=1000000000000000000000000000000000
 m:(a,cG z)∈ts
def leP(a b:Nat×Nat):Bool:=decide (rkP a<=rkP b)
def leS(a b:Nat×Nat):Bool:=decide (rkP (swP a)<=rkP (swP b))
def kh(ws:xD):List (Nat×Nat):=ws.mergeSort leP
def bF(ws:xD):List (Nat×Nat):=ws.mergeSort leS
theorem iy(ws:xD):(bF ws).Perm ws:=List.mergeSort_perm ws leS
theorem Nx{α:Type}{f:α->Int}{qs:List α}(r:qs.Pairwise λa b=>f a<f b):∀a∈qs,∀b∈qs,f a=f b->a=b:=by
 induction qs with
 | nil=>intro a ha;cases ha
 | cons c t ih =>
  intro a ha b hb e;have h:=List.pairwise_cons.mp r;rcases jS.mp ha with rfl|ha
  ·rcases jS.mp hb with rfl|hb
   ·rfl
   ·have:=h.1 b hb
    lia
  ·rcases jS.mp hb with rfl|hb
   ·have:=h.1 a (by assumption)
    lia
   ·exact ih h.2 a ha b hb e
theorem Ny{qs:xD}(r:nY qs):∀a∈qs,∀b∈qs,rkP (swP a)=rkP (swP b)->a=b:=Nx (f:=λa=>rkP (swP a)) r
theorem uH{ws qs:xD}(p:qs.Perm ws)(r:nY qs):bF ws=qs:=by
 have pw:(bF ws).Pairwise (λa b=>leS a b=true):=List.pairwise_mergeSort (λa b c h1 h2=>by unfold leS at *;simp at *;lia) (λa b=>by unfold leS;simp;lia) ws;have pq:qs.Pairwise (λa b=>leS a b=true):=r.imp λh=>by unfold leS;simp;lia
 refine List.Perm.eq_of_pairwise (λa b ha hb h1 h2=>?_) pw pq ((iy ws).trans p.symm);unfold leS at h1 h2;simp at h1 h2;exact Ny r a (p.mem_iff.mpr ((iy ws).mem_iff.mp ha)) b hb (by lia)
theorem pO(ws:xD):(kh ws).Perm ws:=List.mergeSort_perm ws leP
theorem Hi{ws qs:xD}(p:qs.Perm ws)(r:Lw qs):kh ws=qs:=by
 have pw:(kh ws).Pairwise (λa b=>leP a b=true):=List.pairwise_mergeSort (λa b c h1 h2=>by unfold leP at *;simp at *;lia) (λa b=>by unfold leP;simp;lia) ws;have pq:qs.Pairwise (λa b=>leP a b=true):=r.imp λh=>by unfold leP;simp;lia
 refine List.Perm.eq_of_pairwise (λa b ha hb h1 h2=>?_) pw pq ((pO ws).trans p.symm);unfold leP at h1 h2;simp at h1 h2;exact Nx (f:=λa=>rkP a) r a (p.mem_iff.mpr ((pO ws).mem_iff.mp ha)) b hb (by lia)
def Cw(CP:Addr):Sp:=λvs H Q _=>∃(x dx:Addr)(n:Nat),vs=[.ref x,.int n]/\H x=some (.ins CP dx [])/\16<=n/\n<=240/\∀(p:Addr)(H':Hp),Kp x H H'->H' x=some (.ins CP dx (pF n p))->H' p=some (.lst [])->(∀a u,H a=some u->a≠p)->Q .non H'
def Cy(CP:Addr):Sp:=λvs H Q _=>∃(x l dx:Addr)(n:Nat)(ys:List V)(ts:xD),vs=[.ref x]/\Pk CP H x l dx n ys ts/\∀q zs H',New H H' q (.lst zs)->aB H' zs (au (frP n ts))->Q (.ref q) H'
def xu(CP:Addr):Sp:=λvs H Q _=>∃(x l dx:Addr)(n:Nat)(ys:List V)(ts:xD),vs=[.ref x]/\Pk CP H x l dx n ys ts/\∀q zs H',New H H' q (.lst zs)->aB H' zs (au (kh ts))->Q (.ref q) H'
def Cz(CP:Addr):Sp:=λvs H Q _=>∃(x l dx:Addr)(n a z:Nat)(ys:List V)(ts:xD),vs=[.ref x,.int (a:Nat),.int (z:Nat)]/\Pk CP H x l dx n ys ts/\FrA n a z ts/\∀ys' H',Kp l H H'->H' l=some (.lst ys')->aB H' ys' (au (ts++[(a,cG z)]))->Q .non H'
def CG(CP:Addr):Sp:=λvs H Q _=>∃(x l dx:Addr)(n a z:Nat)(ys:List V)(ts:xD),vs=[.ref x,.int (a:Nat),.int (z:Nat)]/\Pk CP H x l dx n ys ts/\TkA a z ts/\∀ys' H',Kp l H H'->H' l=some (.lst ys')->aB H' ys' (au (ts.erase (a,cG z)))->Q .non H'
def xG(CV:Addr):Sp:=λvs H Q _=>∃(y dy x:Addr),vs=[.ref y,.ref x]/\H y=some (.ins CV dy [])/\∀H',Kp y H H'->H' y=some (.ins CV dy (vF x))->Q .non H'
def CJ(CV CP:Addr):Sp:=λvs H Q _=>∃(y dy:Addr)(n:Nat),vs=[.ref y,.int n]/\H y=some (.ins CV dy [])/\(16<=n/\n<=240)/\∀(x dx p:Addr)(H':Hp),Kp y H H'->H' y=some (.ins CV dy (vF x))->H' x=some (.ins CP dx (pF n p))->H' p=some (.lst [])->(∀a u,H a=some u->a≠p)->(∀a u,H a=some u->a≠x)->Q .non H'
def xH(CV CP:Addr):Sp:=λvs H Q _=>∃(y dy x l dx:Addr)(n:Nat)(ys:List V)(ts:xD),vs=[.ref y]/\Hv CV CP H y dy x l dx n ys ts/\∀q zs H',New H H' q (.lst zs)->aB H' zs (au (frP n ts))->Q (.ref q) H'
def xJ(CV CP:Addr):Sp:=λvs H Q _=>∃(y dy x l dx:Addr)(n:Nat)(ys:List V)(ts:xD),vs=[.ref y]/\Hv CV CP H y dy x l dx n ys ts/\∀q zs H',New H H' q (.lst zs)->aB H' zs (au (kh ts))->Q (.ref q) H'
def qw(CV CP:Addr):Sp:=λvs H Q _=>∃(y dy x l dx:Addr)(n:Nat)(ys:List V)(ts:xD),vs=[.ref y]/\Hv CV CP H y dy x l dx n ys ts/\∀H',Same H H'->Q (.int (fH 0 (bO (frP n ts)))) H'
def CK(CV CP:Addr):Sp:=λvs H Q _=>∃(y dy x l dx:Addr)(n:Nat)(ys:List V)(ts:xD),vs=[.ref y]/\Hv CV CP H y dy x l dx n ys ts/\∀H',Same H H'->Q (.int (bO (frP n ts)).sum) H'
def Hj(CV CP:Addr):Sp:=λvs H Q _=>∃(y dy x l dx:Addr)(n a z:Nat)(ys:List V)(ts:xD),vs=[.ref y,.int (a:Nat),.int (z:Nat)]/\Hv CV CP H y dy x l dx n ys ts/\FrA n a z ts/\∀ys' H',Kp l H H'->H' l=some (.lst ys')->aB H' ys' (au (ts++[(a,cG z)]))->Q .non H'
def CN(CV CP:Addr):Sp:=λvs H Q _=>∃(y dy x l dx:Addr)(n a z:Nat)(ys:List V)(ts:xD),vs=[.ref y,.int (a:Nat),.int (z:Nat)]/\Hv CV CP H y dy x l dx n ys ts/\TkA a z ts/\∀ys' H',Kp l H H'->H' l=some (.lst ys')->aB H' ys' (au (ts.erase (a,cG z)))->Q .non H'
def CQ:Sp:=λvs H Q _=>∃(y:Addr),vs=[.ref y]/\Q (.int 0) H
def CT:Sp:=λvs H Q _=>∃(y:Addr)(u:V),vs=[.ref y,u]/\Q .non H
def CW:Sp:=λvs H Q _=>∃(y:Addr),vs=[.ref y]/\Q (.str "halves") H
def CZ:Sp:=λvs H Q _=>∃(y:Addr)(z:Nat),vs=[.ref y,.int (z:Nat)]/\(1<=z/\z<=1000000000000000000000000000000000)/\Q (.int (cG z:Nat)) H
section
variable{CV CP y dy x p dx l q:Addr}{n a z:Nat}{ys zs:List V}{ts ws:xD}{H:Hp}{Q:VK}{E:XK}{H0:Hp}{M:List Addr}{L L':List (Addr×HO)}{I:List Im}{R:Hp->Prop}{rs:List (List V)}{m:Int}{u:V}
instance Y4:FLk (pF m p) "many" (.int m):=⟨by unfold pF;rw[cQ,if_neg (by decide),cQ,if_pos rfl]⟩
instance Vt:FLk (pF m p) "pieces" (.ref p):=⟨by unfold pF;rw[cQ,if_pos rfl]⟩
instance Y5:FLk (vF x) "book" (.ref x):=⟨by unfold vF;rw[cQ,if_pos rfl]⟩
instance Y6:FNo (pF m p) "told":=⟨qP (by decide) (by decide)⟩
instance Xo:FNo (pF m p) "taken":=⟨qP (by decide) (by decide)⟩
instance Y7:FNo (pF m p) "take":=⟨qP (by decide) (by decide)⟩
instance Y8:FNo (pF m p) "give":=⟨qP (by decide) (by decide)⟩
instance Y9:FNo (vF x) "mark":=⟨eN (by decide)⟩
instance QM:FNo (vF x) "turn_mark":=⟨eN (by decide)⟩
instance Xp:FNo (vF x) "holes":=⟨eN (by decide)⟩
instance Jf:FNo (vF x) "largest_hole":=⟨eN (by decide)⟩
instance Ot:FNo (vF x) "free_cells":=⟨eN (by decide)⟩
instance Y_:FNo (vF x) "look":=⟨eN (by decide)⟩
instance Za:FNo (vF x) "take":=⟨eN (by decide)⟩
instance aaR:FNo (vF x) "put":=⟨eN (by decide)⟩
instance Zb:FNo (vF x) "give":=⟨eN (by decide)⟩
instance QS:FNo (vF x) "rule_word":=⟨eN (by decide)⟩
instance Xq:FNo (vF x) "order":=⟨eN (by decide)⟩
instance UL:FNo (vF x) "used_by":=⟨eN (by decide)⟩
instance Xr:FNo (vF x) "taken":=⟨eN (by decide)⟩
instance pkA[h:Hat H x (.ins CP dx (pF n l))][h2:Hat H l (.lst ys)][t:TpA H ys (au ts)][g:GtA n ts]:PkA CP H x l dx n ys ts:=⟨h.e,h2.e,t.e,g⟩
instance hvA[h:Hat H y (.ins CV dy (vF x))][h2:PkA CP H x l dx n ys ts]:HvA CV CP H y dy x l dx n ys ts:=⟨h.e,h2.e⟩
instance aaS[F:SH H0 M H L I][u:LkU L l (.lst ys) L']:Go (∀H',Kp l H H'->H' l=some (.lst ys)->aB H' ys rs->R H') (∀H',SH H0 M H' L' (.tps ys rs::I)->R H'):=⟨λk H' f e t=>k H' ((F.kpL f e u.u).bQ t)⟩
instance aaT{C dz:Addr}{gs:List (Str×V)}[F:SH H0 M H L I][u:LkU L l (.ins C dz gs) L']:Go (∀H',Kp l H H'->H' l=some (.ins C dz gs)->R H') (∀H',SH H0 M H' L' I->R H'):=⟨λk H' f e=>k H' (F.kp f e u.u rfl)⟩
instance Zc{Z:Addr->Addr->Hp->Prop}{gs:List (Str×V)}[F:SH H0 M H L I]:Go (∀x dx H',New H H' x (.ins CP dx gs)->Z x dx H') (∀H' x dx,SH H0 M H' ((x,.ins CP dx gs)::L) I->Z x dx H'):=⟨λk p dx H' n=>k H' p dx (F.ZJ n)⟩
instance Xu[h:PkA CP H x l dx n ys ts]:Go (Cy CP [.ref x] H Q E) (∀q zs H',New H H' q (.lst zs)->aB H' zs (au (frP n ts))->Q (.ref q) H'):=⟨λk=>⟨x,l,dx,n,ys,ts,rfl,h.e,k⟩⟩
instance Vu[h:PkA CP H x l dx n ys ts]:Go (xu CP [.ref x] H Q E) (∀q zs H',New H H' q (.lst zs)->aB H' zs (au (kh ts))->Q (.ref q) H'):=⟨λk=>⟨x,l,dx,n,ys,ts,rfl,h.e,k⟩⟩
instance Xv[h:PkA CP H x l dx n ys ts][c:FrA n a z ts]:Go (Cz CP [.ref x,.int (a:Nat),.int (z:Nat)] H Q E) (∀ys' H',Kp l H H'->H' l=some (.lst ys')->aB H' ys' (au (ts++[(a,cG z)]))->Q .non H'):=⟨λk=>⟨x,l,dx,n,a,z,ys,ts,rfl,h.e,c,k⟩⟩
instance Xw[h:PkA CP H x l dx n ys ts][c:TkA a z ts]:Go (CG CP [.ref x,.int (a:Nat),.int (z:Nat)] H Q E) (∀ys' H',Kp l H H'->H' l=some (.lst ys')->aB H' ys' (au (ts.erase (a,cG z)))->Q .non H'):=⟨λk=>⟨x,l,dx,n,a,z,ys,ts,rfl,h.e,c,k⟩⟩
instance Vv[h:Hat H y (.ins CV dy [])]:Go (xG CV [.ref y,.ref x] H Q E) (∀H',Kp y H H'->H' y=some (.ins CV dy (vF x))->Q .non H'):=⟨λk=>⟨y,dy,x,rfl,h.e,k⟩⟩
instance Xx[h:Hat H x (.ins CP dx [])]:Go (Cw CP [.ref x,.int (n:Nat)] H Q E) (Sd (16<=n/\n<=240) (∀(p:Addr)(H1:Hp),New H H1 p (.lst [])->∀H2,Off x H1 H2->H2 x=some (.ins CP dx (pF n p))->Q .non H2)):=by
 refine⟨λs=>⟨x,dx,n,rfl,h.e,s.1.1,s.1.2,λp H' kp ex ep fr=>?_⟩⟩;have hx:=h.e;have nxp:x≠p:=fr x _ hx
 let H1:Hp:=λb=>if b=x then H x else H' b
 have h1x:H1 x=H x:=yB rfl;have h1n:∀{b:Addr},b≠x->H1 b=H' b:=λn=>yT n
 refine s.2 p H1 ⟨λb u eb=>?_,?_,λb u eb=>fr b u eb⟩ H' (λb nb=>(h1n nb).symm) ex
 ·by_cases hb:b=x
  ·rw[hb,h1x,<- hb];exact eb
  ·rw[h1n hb];exact kp b u hb eb
 ·rw[h1n (Ne.symm nxp)];exact ep
instance Xy[h:Hat H y (.ins CV dy [])]:Go (CJ CV CP [.ref y,.int (n:Nat)] H Q E) (Sd (16<=n/\n<=240) (∀(p:Addr)(H1:Hp),New H H1 p (.lst [])->∀(x dx:Addr)(H2:Hp),New H1 H2 x (.ins CP dx (pF n p))->∀H3,Off y H2 H3->H3 y=some (.ins CV dy (vF x))->Q .non H3)):=by
 refine⟨λs=>⟨y,dy,n,rfl,h.e,s.1,λx dx p H' kp ey ex ep fp fx=>?_⟩⟩;have hy:=h.e;have nyp:y≠p:=fp y _ hy;have nyx:y≠x:=fx y _ hy;have npx:p≠x:=λz=>by rw[z,ex] at ep;cases ep
 let H2:Hp:=λb=>if b=y then H y else H' b
 let H1:Hp:=λb=>if b=x then none else H2 b
 have h2y:H2 y=H y:=yB rfl;have h2n:∀{b:Addr},b≠y->H2 b=H' b:=λn=>yT n
 have h1n:∀{b:Addr},b≠x->H1 b=H2 b:=λn=>yT n
 refine s.2 p H1 ⟨λb u eb=>?_,?_,λb u eb=>fp b u eb⟩ x dx H2 ⟨λb u eb=>?_,?_,λb u eb z=>?_⟩ H' (λb nb=>(h2n nb).symm) ey
 ·rw[h1n (fx b u eb)];by_cases hb:b=y
  ·rw[hb,h2y,<- hb];exact eb
  ·rw[h2n hb];exact kp b u hb eb
 ·rw[h1n npx,h2n (Ne.symm nyp)];exact ep
 ·by_cases hb:b=x
  ·have:H1 b=none:=yB hb;rw[this] at eb;cases eb
  ·rw[h1n hb] at eb;exact eb
 ·rw[h2n (Ne.symm nyx)];exact ex
 ·have:H1 b=none:=yB z;rw[this] at eb;cases eb
instance Vw[h:HvA CV CP H y dy x l dx n ys ts]:Go (xH CV CP [.ref y] H Q E) (∀q zs H',New H H' q (.lst zs)->aB H' zs (au (frP n ts))->Q (.ref q) H'):=⟨λk=>⟨y,dy,x,l,dx,n,ys,ts,rfl,h.e,k⟩⟩
instance Vx[h:HvA CV CP H y dy x l dx n ys ts]:Go (xJ CV CP [.ref y] H Q E) (∀q zs H',New H H' q (.lst zs)->aB H' zs (au (kh ts))->Q (.ref q) H'):=⟨λk=>⟨y,dy,x,l,dx,n,ys,ts,rfl,h.e,k⟩⟩
instance R6[h:HvA CV CP H y dy x l dx n ys ts]:Go (qw CV CP [.ref y] H Q E) (∀H',Same H H'->Q (.int (fH 0 (bO (frP n ts)))) H'):=⟨λk=>⟨y,dy,x,l,dx,n,ys,ts,rfl,h.e,k⟩⟩
instance Xz[h:HvA CV CP H y dy x l dx n ys ts]:Go (CK CV CP [.ref y] H Q E) (∀H',Same H H'->Q (.int (bO (frP n ts)).sum) H'):=⟨λk=>⟨y,dy,x,l,dx,n,ys,ts,rfl,h.e,k⟩⟩
instance Zd[h:HvA CV CP H y dy x l dx n ys ts][c:FrA n a z ts]:Go (Hj CV CP [.ref y,.int (a:Nat),.int (z:Nat)] H Q E) (∀ys' H',Kp l H H'->H' l=some (.lst ys')->aB H' ys' (au (ts++[(a,cG z)]))->Q .non H'):=⟨λk=>⟨y,dy,x,l,dx,n,a,z,ys,ts,rfl,h.e,c,k⟩⟩
instance XC[h:HvA CV CP H y dy x l dx n ys ts][c:TkA a z ts]:Go (CN CV CP [.ref y,.int (a:Nat),.int (z:Nat)] H Q E) (∀ys' H',Kp l H H'->H' l=some (.lst ys')->aB H' ys' (au (ts.erase (a,cG z)))->Q .non H'):=⟨λk=>⟨y,dy,x,l,dx,n,a,z,ys,ts,rfl,h.e,c,k⟩⟩
instance XD:Go (CQ [.ref y] H Q E) (Q (.int 0) H):=⟨λk=>⟨y,rfl,k⟩⟩
instance XF:Go (CT [.ref y,u] H Q E) (Q .non H):=⟨λk=>⟨y,u,rfl,k⟩⟩
instance XH:Go (CW [.ref y] H Q E) (Q (.str "halves") H):=⟨λk=>⟨y,rfl,k⟩⟩
instance XJ:Go (CZ [.ref y,.int (z:Nat)] H Q E) (Sd (1<=z/\z<=1000000000000000000000000000000000) (Q (.int (cG z:Nat)) H)):=⟨λk=>⟨y,z,rfl,k.1,k.2⟩⟩
instance R7[h:Hat H q (.lst ys)][t:TpA H ys (au ws)]:Go (rZ [.ref q] H Q E) (Sd (ws.length<=1000) (∀H',Same H H'->Q (.int (fH 0 (bO ws))) H')):=⟨λs=>⟨q,ys,ws,rfl,h.e,t.e,s.1,s.2⟩⟩
instance Vy[h:Hat H q (.lst ys)][t:TpA H ys (au ws)]:Go (Ad [.ref q] H Q E) (Sd (ws.length<=1000/\∀w∈ws,w.2<=1000) (∀H',Same H H'->Q (.int (bO ws).sum) H')):=⟨λs=>⟨q,ys,ws,rfl,h.e,t.e,s.1.1,s.1.2,s.2⟩⟩
end
section
variable{P:Program}{w:World}{K:W.Frag}{mg:xC}{base:Heap}{c:Nat->Addr}{aG ak R CP CV CB:Addr}
theorem oE(T:Txt K mg c R CP CV CB aG ak):Mak P w K mg base CX0 4 "Pieces" CP ["self","many"] (Cw CP):=by
 have dh:=dh (P:=P) (w:=w) (base:=base) T;obtain⟨f,hf,hm⟩:=T.G3;refine(cI (k:=3) hf Bq (λvs H Q E h=>?_) (λ_ _ _ _ _ _=>el2 λ_ _=>rfl) (λf cdv A outer s H vs Q E hr h=>?_)).mak hm T.wY
 ·obtain⟨x,dx,n,rfl,_⟩:=h
  rfl
 ·obtain⟨x,dx,n,rfl,hx,h16,abW,k⟩:=h;have nd:=Bq.nd;refine⟨_,(aq (bZ (cT (cu (aK dh hr (aj (pv 1) ao)))) jc bA)
   (aq (Dm (pv 0) (pv 1) rfl)
   (aD (Dm (pv 0) (bB ao) rfl)))),?_⟩
  clear nd dh;rw[show start ["self","many"] [.ref x,.int n]=[some (.ref x),some (.int n)] from rfl]
  try dsimp only[cC,bI]
  obtain⟨aX,aL,aY⟩:=zsix T;have F:SH H [x] H [(x,.ins CP dx [])] []:=SH.nil.jh List.mem_cons_self hx rfl (by simp)
  repeat k_meth
  rw[uB (show (16:Int)<=(n:Int) by lia),uB (show (n:Int)<=240 by lia),show (true && true)=true from rfl]
  repeat k_meth
  exact k p_ _ F.kpo aZ aZ (F.fresh (LkL.m (o:=.lst _)) (nm1 (SH.neC (F:=F))))
theorem oF(T:Txt K mg c R CP CV CB aG ak):Met P w K mg base CX0 16 CP "told" ["self"] (Cy CP):=by
 have lJ:=lJ (P:=P) (w:=w) (base:=base) T;obtain⟨f,hf,hm⟩:=T.G4;refine(cI (k:=15) hf Br (λvs H Q E h=>?_) (λ_ _ _ _ _ _=>el1 λ_=>rfl) (λf cdv A outer s H vs Q E hr h=>?_)).met hm
 ·obtain⟨x,l,dx,n,ys,ts,rfl,_⟩:=h
  rfl
 ·obtain⟨x,l,dx,n,ys,ts,rfl,pk,k⟩:=h;have nd:=Br.nd;refine⟨_,(aD (aM (aK lJ hr (aj (gH (pv 0) rfl) (aj (gH (pv 0) rfl) ao))))),?_⟩;clear nd lJ;rw[show start ["self"] [.ref x]=[some (.ref x)] from rfl]
  try dsimp only[cC,bI]
  obtain⟨hx,hl,tp,gt⟩:=id pk;obtain⟨n1,n2,gd,tl⟩:=id gt;have yl:=aA tp;obtain⟨aX,aL,aY⟩:=zsix T;have kj:=Old.mk (M:=[]) hx nm0;have gK:=Old.mk (M:=[]) hl nm0;have jM:=ji.mk tp;have F:SH H [] H [] []:=SH.nil
  repeat k_meth
  refine⟨gd.pc,λq zs H' nw t=>?_⟩
  repeat k_meth
  exact k q zs H' nw t
theorem lK(T:Txt K mg c R CP CV CB aG ak):Met P w K mg base CX0 1 CP "taken" ["self"] (xu CP):=by
 obtain⟨f,hf,hm⟩:=T.Ca;refine(cI (k:=0) hf wD (λvs H Q E h=>?_) (λ_ _ _ _ _ _=>el1 λ_=>rfl) (λf cdv A outer s H vs Q E hr h=>?_)).met hm
 ·obtain⟨x,l,dx,n,ys,ts,rfl,_⟩:=h
  rfl
 ·obtain⟨x,l,dx,n,ys,ts,rfl,pk,k⟩:=h;have nd:=wD.nd;refine⟨_,(aD (aM (bN qg rfl T.jq boot_sorted (aj (gH (pv 0) rfl) ao)))),?_⟩;clear nd ;rw[show start ["self"] [.ref x]=[some (.ref x)] from rfl]
  try dsimp only[cC,bI]
  obtain⟨hx,hl,tp,gt⟩:=id pk;obtain⟨n1,n2,gd,tl⟩:=id gt;have yl:=aA tp;obtain⟨aX,aL,aY⟩:=zsix T;have kj:=Old.mk (M:=[]) hx nm0;have gK:=Old.mk (M:=[]) hl nm0;have jM:=ji.mk tp;have F:SH H [] H [] []:=SH.nil;have side:ts.length<=1000/\ts.Nodup/\∀w∈ts,w.2<1000000:=⟨by lia,gd.nodup,λw hw=>by have:=gd.len hw;lia⟩
  repeat k_meth
  intro qs hq;have eq:=Hi hq.1 hq.2;subst eq
  repeat k_meth
  exact k _ _ _ SH.nwC TpA.e
theorem oG(T:Txt K mg c R CP CV CB aG ak):Met P w K mg base CX0 7 CP "take" ["self","start","size"] (Cz CP):=by
 have cB:=cB (P:=P) (w:=w) (base:=base) T;have oA:=oA (P:=P) (w:=w) (base:=base) T;have bY:=bY (P:=P) (w:=w) (base:=base) T;obtain⟨f,hf,hm⟩:=T.G5;refine(cI (k:=6) hf Bs (λvs H Q E h=>?_) (λ_ _ _ _ _ _=>el3 λ_ _ _=>rfl) (λf cdv A outer s H vs Q E hr h=>?_)).met hm
 ·obtain⟨x,l,dx,n,a,z,ys,ts,rfl,_⟩:=h
  rfl
 ·obtain⟨x,l,dx,n,a,z,ys,ts,rfl,pk,fa,k⟩:=h;have nd:=Bs.nd;refine⟨_,(aq (bZ (PW.pt (iC (cT (cu (aK cB hr (aj (pv 2) (aj aC ao))))) (jN (cT (cu (aK oA hr (aj (gH (pv 0) rfl) (aj (pv 1) (aj (aK bY hr (aj (pv 2) ao)) (aj (gH (pv 0) rfl) ao)))))))))) jc bA)
   (aD (cL (dG (gH (pv 0) rfl) (bK (aj (pv 1) (aj (aK bY hr (aj (pv 2) ao)) ao))))))),?_⟩
  clear nd cB oA bY;rw[show start ["self","start","size"] [.ref x,.int (a:Nat),.int (z:Nat)]=[some (.ref x),some (.int (a:Nat)),some (.int (z:Nat))] from rfl]
  try dsimp only[cC,bI]
  obtain⟨hx,hl,tp,gt⟩:=id pk;obtain⟨n1,n2,gd,tl⟩:=id gt;have yl:=aA tp;have nxl:x≠l:=λe=>by rw[e,hl] at hx;cases hx
  obtain⟨aX,aL,aY⟩:=zsix T;have F:SH H [l] H [(l,.lst ys)] [.tps ys (au ts)]:=(SH.nil.jh List.mem_cons_self hl rfl (by simp)).bQ tp;have kj:=Old.mk (M:=[l]) hx (nm1 nxl);obtain⟨z1,z2,pc,ap⟩:=fa
  repeat k_meth
  intro r hr1;have er:=mY z1 hr1;subst er
  repeat k_meth
  rw[Nk (Hf.mpr ⟨pc,ap⟩)]
  repeat k_meth
  intro r hr2;have er:=mY z1 hr2;subst er
  repeat k_meth
  exact k _ _ F.kpo aZ (by rw[eZ];exact aB.snoc TpA.e aZ)
theorem oH(T:Txt K mg c R CP CV CB aG ak):Met P w K mg base CX0 4 CP "give" ["self","start","size"] (CG CP):=by
 have cP:=cP (P:=P) (w:=w) (base:=base) T;have cB:=cB (P:=P) (w:=w) (base:=base) T;have bY:=bY (P:=P) (w:=w) (base:=base) T;obtain⟨f,hf,hm⟩:=T.G6;refine(cI (k:=3) hf Bt (λvs H Q E h=>?_) (λ_ _ _ _ _ _=>el3 λ_ _ _=>rfl) (λf cdv A outer s H vs Q E hr h=>?_)).met hm
 ·obtain⟨x,l,dx,n,a,z,ys,ts,rfl,_⟩:=h
  rfl
 ·obtain⟨x,l,dx,n,a,z,ys,ts,rfl,pk,fa,k⟩:=h;have nd:=Bt.nd;refine⟨_,(aq (bZ (PW.pt (iC (cT (cu (aK cP hr (aj (pv 1) ao)))) (iC (cT (cu (aK cB hr (aj (pv 2) (aj aC ao))))) (jN (bw (Qu (K:=K) rfl hr) (bK (aj (pv 1) (aj (aK bY hr (aj (pv 2) ao)) ao))) (gH (pv 0) rfl) (by with_unfolding_all rfl)))))) jc bA)
   (aD (cL (Qw hr (gH (pv 0) rfl) (bK (aj (pv 1) (aj (aK bY hr (aj (pv 2) ao)) ao))))))),?_⟩
  clear nd cP cB bY;rw[show start ["self","start","size"] [.ref x,.int (a:Nat),.int (z:Nat)]=[some (.ref x),some (.int (a:Nat)),some (.int (z:Nat))] from rfl]
  try dsimp only[cC,bI]
  obtain⟨hx,hl,tp,gt⟩:=id pk;obtain⟨n1,n2,gd,tl⟩:=id gt;have yl:=aA tp;have nxl:x≠l:=λe=>by rw[e,hl] at hx;cases hx
  obtain⟨aX,aL,aY⟩:=zsix T;have F:SH H [l] H [(l,.lst ys)] [.tps ys (au ts)]:=(SH.nil.jh List.mem_cons_self hl rfl (by simp)).bQ tp;have kj:=Old.mk (M:=[l]) hx (nm1 nxl);obtain⟨z1,z2,hm⟩:=fa;have mt:Xj (a,cG z) ts:=⟨hm,by lia⟩
  repeat k_meth
  rw[show isW (V.int (a:Nat))=true from rfl]
  repeat k_meth
  intro r hr1;have er:=mY z1 hr1;subst er
  repeat k_meth
  intro r hr2;have er:=mY z1 hr2;subst er
  repeat k_meth
  intro ys' tp';replace F:=F.bQ tp'
  repeat k_meth
  exact k _ _ F.kpo aZ TpA.e
end
open M22 M44
section
variable{P:Program}{w:World}{K:W.Frag}{mg:xC}{base:Heap}{c:Nat->Addr}{aG ak R CP CV CB:Addr}
theorem lM(T:Txt K mg c R CP CV CB aG ak):Cdf P w K mg base CX0 1 "Rule" CB "__init__" ["self","book"] (xG CV):=by
 obtain⟨f,hf,hm⟩:=T.Cd;refine(cI (k:=0) hf wF (λvs H Q E h=>?_) (λ_ _ _ _ _ _=>el2 λ_ _=>rfl) (λf cdv A outer s H vs Q E hr h=>?_)).cdf hm T.GZ
 ·obtain⟨y,dy,x,rfl,_⟩:=h
  rfl
 ·obtain⟨y,dy,x,rfl,hy,k⟩:=h;have nd:=wF.nd;refine⟨_,(aD (Dm (pv 0) (pv 1) rfl)),?_⟩;clear nd ;rw[show start ["self","book"] [.ref y,.ref x]=[some (.ref y),some (.ref x)] from rfl]
  try dsimp only[cC,bI]
  obtain⟨aX,aL,aY⟩:=zsix T;have F:SH H [y] H [(y,.ins CV dy [])] []:=SH.nil.jh List.mem_cons_self hy rfl (by simp)
  repeat k_meth
  exact k _ F.kpo aZ
theorem oJ(T:Txt K mg c R CP CV CB aG ak):Mak P w K mg base CX0 6 "Halves" CV ["self","many"] (CJ CV CP):=by
 have lM:=lM (P:=P) (w:=w) (base:=base) T;have oE:=oE (P:=P) (w:=w) (base:=base) T;obtain⟨f,hf,hm⟩:=T.G8;refine(cI (k:=5) hf Bv (λvs H Q E h=>?_) (λ_ _ _ _ _ _=>el2 λ_ _=>rfl) (λf cdv A outer s H vs Q E hr h=>?_)).mak hm T.wZ
 ·obtain⟨y,dy,n,rfl,_⟩:=h
  rfl
 ·obtain⟨y,dy,n,rfl,hy,side,k⟩:=h;have nd:=Bv.nd;refine⟨_,(aD (cL (Tv lM hr (aj (pv 0) (aj (FT oE hr (aj (pv 1) ao)) ao))))),?_⟩;clear nd lM oE;rw[show start ["self","many"] [.ref y,.int n]=[some (.ref y),some (.int n)] from rfl]
  try dsimp only[cC,bI]
  obtain⟨aX,aL,aY⟩:=zsix T;have F:SH H [y] H [(y,.ins CV dy [])] []:=SH.nil.jh List.mem_cons_self hy rfl (by simp)
  repeat k_meth
  exact k x_ dx_ p_ _ F.kpo aZ aZ aZ (F.fresh (LkL.m (o:=.lst _)) (nm1 (SH.neC (F:=F)))) (F.fresh (LkL.m (o:=.ins CP dx_ _)) (nm1 (SH.neC (F:=F))))
theorem bV(T:Txt K mg c R CP CV CB aG ak):Met P w K mg base CX0 17 CV "holes" ["self"] (xH CV CP):=by
 have oF:=oF (P:=P) (w:=w) (base:=base) T;obtain⟨f,hf,hm⟩:=T.xg;refine(cI (k:=16) hf uc (λvs H Q E h=>?_) (λ_ _ _ _ _ _=>el1 λ_=>rfl) (λf cdv A outer s H vs Q E hr h=>?_)).met hm
 ·obtain⟨y,dy,x,l,dx,n,ys,ts,rfl,_⟩:=h
  rfl
 ·obtain⟨y,dy,x,l,dx,n,ys,ts,rfl,nx,k⟩:=h;have nd:=uc.nd;refine⟨_,(aD (aM (dW (gH (pv 0) rfl) T.clP oF hr))),?_⟩;clear nd oF;rw[show start ["self"] [.ref y]=[some (.ref y)] from rfl]
  try dsimp only[cC,bI]
  obtain⟨hy,pk⟩:=nx;obtain⟨hx,hl,tp,gt⟩:=id pk;obtain⟨n1,n2,gd,tl⟩:=id gt;have yl:=aA tp;obtain⟨aX,aL,aY⟩:=zsix T;have pP:=Old.mk (M:=[]) hy nm0;have kj:=Old.mk (M:=[]) hx nm0;have gK:=Old.mk (M:=[]) hl nm0;have jM:=ji.mk tp;have F:SH H [] H [] []:=SH.nil
  repeat k_meth
  exact k _ _ _ SH.nwC TpA.e
theorem bW(T:Txt K mg c R CP CV CB aG ak):Met P w K mg base CX0 18 CV "largest_hole" ["self"] (qw CV CP):=by
 have lF:=lF (P:=P) (w:=w) (base:=base) T;have bV:=bV (P:=P) (w:=w) (base:=base) T;obtain⟨f,hf,hm⟩:=T.jr;refine(cI (k:=17) hf iQ (λvs H Q E h=>?_) (λ_ _ _ _ _ _=>el1 λ_=>rfl) (λf cdv A outer s H vs Q E hr h=>?_)).met hm
 ·obtain⟨y,dy,x,l,dx,n,ys,ts,rfl,_⟩:=h
  rfl
 ·obtain⟨y,dy,x,l,dx,n,ys,ts,rfl,nx,k⟩:=h;have nd:=iQ.nd;refine⟨_,(aD (aM (aK lF hr (aj (dW (pv 0) T.clV bV hr) ao)))),?_⟩;clear nd lF bV;rw[show start ["self"] [.ref y]=[some (.ref y)] from rfl]
  try dsimp only[cC,bI]
  obtain⟨hy,pk⟩:=nx;obtain⟨hx,hl,tp,gt⟩:=id pk;obtain⟨n1,n2,gd,tl⟩:=id gt;have yl:=aA tp;obtain⟨aX,aL,aY⟩:=zsix T;have pP:=Old.mk (M:=[]) hy nm0;have kj:=Old.mk (M:=[]) hx nm0;have gK:=Old.mk (M:=[]) hl nm0;have jM:=ji.mk tp;have F:SH H [] H [] []:=SH.nil;have few:=eF n2 gd
  repeat k_meth
  exact k _ F.sm
theorem eV(T:Txt K mg c R CP CV CB aG ak):Met P w K mg base CX0 18 CV "free_cells" ["self"] (CK CV CP):=by
 have qN:=qN (P:=P) (w:=w) (base:=base) T;have bV:=bV (P:=P) (w:=w) (base:=base) T;obtain⟨f,hf,hm⟩:=T.j9;refine(cI (k:=17) hf jG (λvs H Q E h=>?_) (λ_ _ _ _ _ _=>el1 λ_=>rfl) (λf cdv A outer s H vs Q E hr h=>?_)).met hm
 ·obtain⟨y,dy,x,l,dx,n,ys,ts,rfl,_⟩:=h
  rfl
 ·obtain⟨y,dy,x,l,dx,n,ys,ts,rfl,nx,k⟩:=h;have nd:=jG.nd;refine⟨_,(aD (aM (aK qN hr (aj (dW (pv 0) T.clV bV hr) ao)))),?_⟩;clear nd qN bV;rw[show start ["self"] [.ref y]=[some (.ref y)] from rfl]
  try dsimp only[cC,bI]
  obtain⟨hy,pk⟩:=nx;obtain⟨hx,hl,tp,gt⟩:=id pk;obtain⟨n1,n2,gd,tl⟩:=id gt;have yl:=aA tp;obtain⟨aX,aL,aY⟩:=zsix T;have pP:=Old.mk (M:=[]) hy nm0;have kj:=Old.mk (M:=[]) hx nm0;have gK:=Old.mk (M:=[]) hl nm0;have jM:=ji.mk tp;have F:SH H [] H [] []:=SH.nil;have sd1:(frP n ts).length<=1000/\∀w∈frP n ts,w.2<=1000:=⟨by have:=eF n2 gd;lia,λw hw=>by have:=gU n2 gd hw;lia⟩
  repeat k_meth
  exact k _ F.sm
theorem jt(T:Txt K mg c R CP CV CB aG ak):Met P w K mg base CX0 1 CV "mark" ["self"] CQ:=by
 obtain⟨f,hf,hm⟩:=T.Ce;refine(cI (k:=0) hf wG (λvs H Q E h=>?_) (λ_ _ _ _ _ _=>el1 λ_=>rfl) (λf cdv A outer s H vs Q E hr h=>?_)).met hm
 ·obtain⟨y,rfl,_⟩:=h
  rfl
 ·obtain⟨y,rfl,k⟩:=h;have nd:=wG.nd;refine⟨_,(aD (aM aC)),?_⟩;clear nd ;rw[show start ["self"] [.ref y]=[some (.ref y)] from rfl]
  try dsimp only[cC,bI]
  obtain⟨aX,aL,aY⟩:=zsix T;have F:SH H [] H [] []:=SH.nil
  repeat k_meth
  exact k
theorem fW(T:Txt K mg c R CP CV CB aG ak):Met P w K mg base CX0 1 CV "turn_mark" ["self","behind"] CT:=by
 obtain⟨f,hf,hm⟩:=T.mz;refine(cI (k:=0) hf j7 (λvs H Q E h=>?_) (λ_ _ _ _ _ _=>el2 λ_ _=>rfl) (λf cdv A outer s H vs Q E hr h=>?_)).met hm
 ·obtain⟨y,u,rfl,_⟩:=h
  rfl
 ·obtain⟨y,u,rfl,k⟩:=h;have nd:=j7.nd;refine⟨_,(aD OD),?_⟩;clear nd ;rw[show start ["self","behind"] [.ref y,u]=[some (.ref y),some (u)] from rfl]
  try dsimp only[cC,bI]
  obtain⟨aX,aL,aY⟩:=zsix T;have F:SH H [] H [] []:=SH.nil
  repeat k_meth
  exact k
theorem oK(T:Txt K mg c R CP CV CB aG ak):Met P w K mg base CX0 1 CV "rule_word" ["self"] CW:=by
 obtain⟨f,hf,hm⟩:=T.G9;refine(cI (k:=0) hf Bw (λvs H Q E h=>?_) (λ_ _ _ _ _ _=>el1 λ_=>rfl) (λf cdv A outer s H vs Q E hr h=>?_)).met hm
 ·obtain⟨y,rfl,_⟩:=h
  rfl
 ·obtain⟨y,rfl,k⟩:=h;have nd:=Bw.nd;refine⟨_,(aD (aM Jh)),?_⟩;clear nd ;rw[show start ["self"] [.ref y]=[some (.ref y)] from rfl]
  try dsimp only[cC,bI]
  obtain⟨aX,aL,aY⟩:=zsix T;have F:SH H [] H [] []:=SH.nil
  repeat k_meth
  exact k
theorem dU(T:Txt K mg c R CP CV CB aG ak):Met P w K mg base CX0 4 CV "used_by" ["self","size"] CZ:=by
 have bY:=bY (P:=P) (w:=w) (base:=base) T;obtain⟨f,hf,hm⟩:=T.uz;refine(cI (k:=3) hf qm (λvs H Q E h=>?_) (λ_ _ _ _ _ _=>el2 λ_ _=>rfl) (λf cdv A outer s H vs Q E hr h=>?_)).met hm
 ·obtain⟨y,z,rfl,_⟩:=h
  rfl
 ·obtain⟨y,z,rfl,side,k⟩:=h;have nd:=qm.nd;refine⟨_,(aD (aM (aK bY hr (aj (pv 1) ao)))),?_⟩;clear nd bY;rw[show start ["self","size"] [.ref y,.int (z:Nat)]=[some (.ref y),some (.int (z:Nat))] from rfl]
  try dsimp only[cC,bI]
  obtain⟨aX,aL,aY⟩:=zsix T;have F:SH H [] H [] []:=SH.nil
  repeat k_meth
  intro r hr1;have er:=mY side.1 hr1;subst er
  repeat k_meth
  exact k
theorem lO(T:Txt K mg c R CP CV CB aG ak):Met P w K mg base CX0 2 CV "taken" ["self"] (xJ CV CP):=by
 have lK:=lK (P:=P) (w:=w) (base:=base) T;obtain⟨f,hf,hm⟩:=T.Cm;refine(cI (k:=1) hf wL (λvs H Q E h=>?_) (λ_ _ _ _ _ _=>el1 λ_=>rfl) (λf cdv A outer s H vs Q E hr h=>?_)).met hm
 ·obtain⟨y,dy,x,l,dx,n,ys,ts,rfl,_⟩:=h
  rfl
 ·obtain⟨y,dy,x,l,dx,n,ys,ts,rfl,nx,k⟩:=h;have nd:=wL.nd;refine⟨_,(aD (aM (dW (gH (pv 0) rfl) T.clP lK hr))),?_⟩;clear nd lK;rw[show start ["self"] [.ref y]=[some (.ref y)] from rfl]
  try dsimp only[cC,bI]
  obtain⟨hy,pk⟩:=nx;obtain⟨hx,hl,tp,gt⟩:=id pk;obtain⟨n1,n2,gd,tl⟩:=id gt;have yl:=aA tp;obtain⟨aX,aL,aY⟩:=zsix T;have pP:=Old.mk (M:=[]) hy nm0;have kj:=Old.mk (M:=[]) hx nm0;have gK:=Old.mk (M:=[]) hl nm0;have jM:=ji.mk tp;have F:SH H [] H [] []:=SH.nil
  repeat k_meth
  exact k _ _ _ SH.nwC TpA.e
theorem oM(T:Txt K mg c R CP CV CB aG ak):Met P w K mg base CX0 8 CV "put" ["self","start","size"] (Hj CV CP):=by
 have oG:=oG (P:=P) (w:=w) (base:=base) T;obtain⟨f,hf,hm⟩:=T.G7;refine(cI (k:=7) hf Bu (λvs H Q E h=>?_) (λ_ _ _ _ _ _=>el3 λ_ _ _=>rfl) (λf cdv A outer s H vs Q E hr h=>?_)).met hm
 ·obtain⟨y,dy,x,l,dx,n,a,z,ys,ts,rfl,_⟩:=h
  rfl
 ·obtain⟨y,dy,x,l,dx,n,a,z,ys,ts,rfl,nx,fa,k⟩:=h;have nd:=Bu.nd;refine⟨_,(aD (cL (g8 (gH (pv 0) rfl) T.clP oG hr (aj (pv 1) (aj (pv 2) ao))))),?_⟩;clear nd oG;rw[show start ["self","start","size"] [.ref y,.int (a:Nat),.int (z:Nat)]=[some (.ref y),some (.int (a:Nat)),some (.int (z:Nat))] from rfl]
  try dsimp only[cC,bI]
  obtain⟨hy,pk⟩:=nx;obtain⟨hx,hl,tp,gt⟩:=id pk;obtain⟨n1,n2,gd,tl⟩:=id gt;have yl:=aA tp;have nxl:x≠l:=λe=>by rw[e,hl] at hx;cases hx
  have nyl:y≠l:=λe=>by rw[e,hl] at hy;cases hy
  obtain⟨aX,aL,aY⟩:=zsix T;have F:SH H [l] H [(l,.lst ys)] [.tps ys (au ts)]:=(SH.nil.jh List.mem_cons_self hl rfl (by simp)).bQ tp;have kj:=Old.mk (M:=[l]) hx (nm1 nxl);have pP:=Old.mk (M:=[l]) hy (nm1 nyl)
  repeat k_meth
  intro ys'
  repeat k_meth
  exact k _ _ F.kpo aZ TpA.e
theorem lQ(T:Txt K mg c R CP CV CB aG ak):Met P w K mg base CX0 5 CV "give" ["self","start","size"] (CN CV CP):=by
 have oH:=oH (P:=P) (w:=w) (base:=base) T;obtain⟨f,hf,hm⟩:=T.Cj;refine(cI (k:=4) hf wJ (λvs H Q E h=>?_) (λ_ _ _ _ _ _=>el3 λ_ _ _=>rfl) (λf cdv A outer s H vs Q E hr h=>?_)).met hm
 ·obtain⟨y,dy,x,l,dx,n,a,z,ys,ts,rfl,_⟩:=h
  rfl
 ·obtain⟨y,dy,x,l,dx,n,a,z,ys,ts,rfl,nx,fa,k⟩:=h;have nd:=wJ.nd;refine⟨_,(aD (cL (g8 (gH (pv 0) rfl) T.clP oH hr (aj (pv 1) (aj (pv 2) ao))))),?_⟩;clear nd oH;rw[show start ["self","start","size"] [.ref y,.int (a:Nat),.int (z:Nat)]=[some (.ref y),some (.int (a:Nat)),some (.int (z:Nat))] from rfl]
  try dsimp only[cC,bI]
  obtain⟨hy,pk⟩:=nx;obtain⟨hx,hl,tp,gt⟩:=id pk;obtain⟨n1,n2,gd,tl⟩:=id gt;have yl:=aA tp;have nxl:x≠l:=λe=>by rw[e,hl] at hx;cases hx
  have nyl:y≠l:=λe=>by rw[e,hl] at hy;cases hy
  obtain⟨aX,aL,aY⟩:=zsix T;have F:SH H [l] H [(l,.lst ys)] [.tps ys (au ts)]:=(SH.nil.jh List.mem_cons_self hl rfl (by simp)).bQ tp;have kj:=Old.mk (M:=[l]) hx (nm1 nxl);have pP:=Old.mk (M:=[l]) hy (nm1 nyl)
  repeat k_meth
  intro ys'
  repeat k_meth
  exact k _ _ F.kpo aZ TpA.e
end
open M22 M44
abbrev cY:Pos:=⟨29,29,29,60⟩
abbrev cF:Str := "by_size.<locals>.<lambda>"
theorem zx{α:Type}{p:α->Bool}:∀{ws:List α} {i:Nat} {w:α},ws[i]?=some w->p w=true->(∀z∈ws.take i,p z=false)->ws.find? p=some w
 | [],i,w,e,_,_=>by simp at e
 | a::t,0,w,e,h,_=>by
  simp at e;subst e;rw[List.find?_cons,h]
 | a::t,i+1,w,e,h,hn=>by
  have ha:p a=false:=hn a (by simp);rw[List.find?_cons,ha];exact zx (ws:=t) (i:=i) (by simpa using e) h λz hz=>hn z (by simp[hz])
class pQ(ws:xD)(s:Int)(w:outParam (Nat×Nat)):Prop where
 e:ws.find? (λw=>decide (s<=(w.2:Int)))=some w
class qF(ws:xD)(s:Int):Prop where
 e:ws.find? (λw=>decide (s<=(w.2:Int)))=none
def xK(P:Addr)(pos:Pos)(qual:Str):Sp:=λvs H Q _=>∃(l:Addr)(ys:List V)(ws:xD)(ps:xI),vs=[.ref l]/\H l=some (.lst ys)/\aB H ys (au ws)/\(ws.length<=1000/\ws.Nodup/\∀w∈ws,w.1<1000000)/\H P=some (.tbl ps)/\TabOk pos qual ps H/\∀qs:List (Nat×Nat),qs.Perm ws/\nY qs->∀ps' H1,Kp P H H1->H1 P=some (.tbl ps')->TabOk pos qual ps' H1->∀D zs H2,New H1 H2 D (.lst zs)->aB H2 zs (au qs)->Q (.ref D) H2
theorem two_tab{H H':Hp}{P D:Addr}{pos:Pos}{qual:Str}{ps ps':xI}{zs:List V}{R:Hp->Prop}(hP:H P=some (.tbl ps))(fr:∀b u,b≠P->H b=some u->H' b=some u)(eP:H' P=some (.tbl ps'))(tk:TabOk pos qual ps' H')(eD:H' D=some (.lst zs))(fd:∀b u,H b=some u->b≠D)(k:∀H1,Kp P H H1->H1 P=some (.tbl ps')->TabOk pos qual ps' H1->∀H2,New H1 H2 D (.lst zs)->H2=H'->R H2):R H':=by
 let H1:Hp:=λb=>if b=D then none else H' b
 have h1D:H1 D=none:=yB rfl;have h1n:∀{b:Addr},b≠D->H1 b=H' b:=λn=>yT n
 refine k H1 (λb u nb e=>?_) (by rw[h1n (fd P _ hP)];exact eP) ?_ H' ⟨λb u e=>?_,eD,λb u e z=>?_⟩ rfl
 ·rw[h1n (fd b u e)];exact fr b u nb e
 ·rcases tk with h|⟨c',oc,vs,t,e,e1,e2⟩
  ·exact .inl h
  ·refine .inr ⟨c',oc,vs,t,e,?_,e2⟩;rw[h1n (λz=>by rw[z,eD] at e1;cases e1)];exact e1
 ·by_cases hb:b=D
  ·rw[hb,h1D] at e;cases e
  ·rw[h1n hb] at e;exact e
 ·rw[z,h1D] at e;cases e
def kE(ws:xD)(s:Int):List (Nat×Nat):=ws.takeWhile λw=>!decide (s<=(w.2:Int))
theorem zy{s:Int}:∀{ws:xD} {i:Nat} {w:Nat×Nat},ws[i]?=some w->s<=(w.2:Int)->(∀z∈ws.take i,¬ s<=(z.2:Int))->kE ws s=ws.take i
 | [],i,w,e,_,_=>by simp at e
 | a::t,0,w,e,h,_=>by
  simp at e;subst e;unfold kE;rw[List.takeWhile_cons,if_neg (by simpa using h)]
  rfl
 | a::t,i+1,w,e,h,hn=>by
  have ha:=hn a (by simp);unfold kE;rw[List.takeWhile_cons,if_pos (by simpa using ha),List.take_succ_cons]
  congr 1
  exact zy (ws:=t) (i:=i) (by simpa using e) h λz hz=>hn z (by simp[hz])
theorem Nz(ws:xD)(s:Int):(kE ws s).length<=ws.length:=(List.takeWhile_sublist _).length_le
def zA:Sp:=λvs H Q _=>∃(l:Addr)(s:Int)(ys:List V)(ws:xD),vs=[.ref l,.int s]/\H l=some (.lst ys)/\aB H ys (au ws)/\ws.length<=1000/\((∃w,pQ ws s w/\∀q zs tq H',New H H' q (.lst zs)->aB H' zs (au (kE ws s))->H' tq=some (.tup [.int (w.1:Nat),.ref q])->Q (.ref tq) H')\/(qF ws s/\∀H',Same H H'->Q .non H'))
theorem two_tabL{H H':Hp}{P l:Addr}{pos:Pos}{qual:Str}{ps':xI}{ys ys':List V}{R:Prop}(hl:H l=some (.lst ys))(fr:∀b u,b≠P->b≠l->H b=some u->H' b=some u)(eP:H' P=some (.tbl ps'))(tk:TabOk pos qual ps' H')(el:H' l=some (.lst ys'))(k:∀H1,Kp P H H1->H1 P=some (.tbl ps')->TabOk pos qual ps' H1->Kp l H1 H'->R):R:=by
 let H1:Hp:=λb=>if b=l then some (.lst ys) else H' b
 have h1l:H1 l=some (.lst ys):=yB rfl;have h1n:∀{b:Addr},b≠l->H1 b=H' b:=λn=>yT n
 refine k H1 (λb u nb e=>?_) ?_ ?_ (λb u nb e=>by rw[<- h1n nb];exact e)
 ·by_cases hb:b=l
  ·rw[hb,h1l,<- hl,<- hb];exact e
  ·rw[h1n hb];exact fr b u nb hb e
 ·rw[h1n (λz=>by rw[z,el] at eP;cases eP)];exact eP
 ·rcases tk with h|⟨c',oc,vs,t,e,e1,e2⟩
  ·exact .inl h
  ·refine .inr ⟨c',oc,vs,t,e,?_,e2⟩;rw[h1n (λz=>by rw[z,el] at e1;cases e1)];exact e1
theorem UW(ws:xD)(s:Int):(∃w,pQ ws s w)\/qF ws s:=by
 cases h:ws.find? (λw=>decide (s<=(w.2:Int))) with
 | none=>exact .inr ⟨h⟩
 | some w=>exact .inl ⟨w,⟨h⟩⟩
theorem gw(ws:xD):(bF ws).length=ws.length:=(iy ws).length_eq
theorem C_{n z:Nat}{ts:xD}{w:Nat×Nat}(h:n<=240)(g:Gd n ts)(z1:1<=z)(z2:z<=1000000000000000000000000000000000)(f:pQ (bF (frP n ts)) (cG z:Nat) w):FrA n w.1 z ts/\w∈frP n ts/\cG z<=w.2:=by
 have hm:=(iy _).mem_iff.mp (List.mem_of_find?_eq_some f.e);have hz:cG z<=w.2:=by
  have:=List.find?_some f.e;simp only[decide_eq_true_eq] at this
  lia
 obtain⟨k,hk⟩:=QL z;rw[hk] at hz;obtain⟨a,b⟩:=M7 h g hm hz;rw[<- hk] at a b hz;exact⟨⟨z1,z2,a,b⟩,hm,hz⟩
def xM(CV CP P:Addr)(pos:Pos)(qual:Str):Sp:=λvs H Q _=>∃(y dy x l dx:Addr)(n:Nat)(ys:List V)(ts:xD)(ps:xI),vs=[.ref y]/\Hv CV CP H y dy x l dx n ys ts/\H P=some (.tbl ps)/\TabOk pos qual ps H/\∀ps' H1,Kp P H H1->H1 P=some (.tbl ps')->TabOk pos qual ps' H1->∀D zs H2,New H1 H2 D (.lst zs)->aB H2 zs (au (bF (frP n ts)))->Q (.ref D) H2
def uI(CV CP CE P:Addr)(pos:Pos)(qual:Str):Sp:=λvs H Q E=>∃(y dy x l dx:Addr)(n z:Nat)(ys:List V)(ts:xD)(ps:xI),  vs=[.ref y,.int (z:Nat)]/\Hv CV CP H y dy x l dx n ys ts/\(1<=z/\z<=1000000000000000000000000000000000)/\H P=some (.tbl ps)/\TabOk pos qual ps H /\
 ((∃w,pQ (bF (frP n ts)) (cG z:Nat) w/\∀ps' H1,Kp P H H1->H1 P=some (.tbl ps')->TabOk pos qual ps' H1->∀q zs tq H2,New H1 H2 q (.lst zs)->aB H2 zs (au (kE (bF (frP n ts)) (cG z:Nat)))->H2 tq=some (.tup [.int (w.1:Nat),.ref q])->Q (.ref tq) H2) \/
  (qF (bF (frP n ts)) (cG z:Nat)/\∀ps' d H',Kp P H H'->H' P=some (.tbl ps')->TabOk pos qual ps' H'->H' d=some (jf d [("size", .int (z:Nat)),("largest", .int (fH 0 (bO (frP n ts))))])->E (.ref CE) (some d) H'))
def uJ(CV CP CE P:Addr)(pos:Pos)(qual:Str):Sp:=λvs H Q E=>∃(y dy x l dx:Addr)(n z:Nat)(ys:List V)(ts:xD)(ps:xI),  vs=[.ref y,.int (z:Nat)]/\Hv CV CP H y dy x l dx n ys ts/\(1<=z/\z<=1000000000000000000000000000000000)/\H P=some (.tbl ps)/\TabOk pos qual ps H /\
 ((∃w,pQ (bF (frP n ts)) (cG z:Nat) w/\∀ps' H1,Kp P H H1->H1 P=some (.tbl ps')->TabOk pos qual ps' H1->∀ys' H2,Kp l H1 H2->H2 l=some (.lst ys')->aB H2 ys' (au (ts++[(w.1,cG z)]))->Q (.int (w.1:Nat)) H2) \/
  (qF (bF (frP n ts)) (cG z:Nat)/\∀ps' d H',Kp P H H'->H' P=some (.tbl ps')->TabOk pos qual ps' H'->H' d=some (jf d [("size", .int (z:Nat)),("largest", .int (fH 0 (bO (frP n ts))))])->E (.ref CE) (some d) H'))
section
variable{CV CP CE y dy x dx l q P:Addr}{n z:Nat}{s:Int}{ys zs:List V}{ts ws:xD}{w:Nat×Nat}{H:Hp}{Q:VK}{E:XK}{H0:Hp}{M:List Addr}{L:List (Addr×HO)}{I:List Im}{rs:List (List V)}{pos:Pos}{qual:Str}{ps:xI}{xs:List V}
instance Vz[F:SH H0 M H L I][e:LkL L P (.tbl ps)][tb:nQ I pos qual ps][h:Hat H l (.lst ys)][tt:TpA H ys (au ws)]:Go (xK P pos qual [.ref l] H Q E) (Sd (ws.length<=1000/\ws.Nodup/\∀w∈ws,w.1<1000000) (∀qs:List (Nat×Nat),qs.Perm ws/\nY qs->∀ps' H1,Kp P H H1->H1 P=some (.tbl ps')->TabOk pos qual ps' H1->∀D zs H2,New H1 H2 D (.lst zs)->aB H2 zs (au qs)->Q (.ref D) H2)):=⟨λs=>⟨l,ys,ws,ps,rfl,h.e,tt.e,s.1,F.raw e.m,F.im _ tb.m,s.2⟩⟩
instance Ze[h:Hat H l (.lst ys)][tt:TpA H ys (au ws)][f:pQ ws s w]:Go (zA [.ref l,.int s] H Q E) (Sd (ws.length<=1000) (∀q zs tq H',New H H' q (.lst zs)->aB H' zs (au (kE ws s))->H' tq=some (.tup [.int (w.1:Nat),.ref q])->Q (.ref tq) H')):=⟨λk=>⟨l,s,ys,ws,rfl,h.e,tt.e,k.1,.inl ⟨w,f,k.2⟩⟩⟩
instance Zf[h:Hat H l (.lst ys)][tt:TpA H ys (au ws)][f:qF ws s]:Go (zA [.ref l,.int s] H Q E) (Sd (ws.length<=1000) (∀H',Same H H'->Q .non H')):=⟨λk=>⟨l,s,ys,ws,rfl,h.e,tt.e,k.1,.inr ⟨f,k.2⟩⟩⟩
instance XM{Z:Addr->Hp->Prop}[F:SH H0 M H L I]:Go (∀tq H',New H H' q (.lst zs)->aB H' zs rs->H' tq=some (.tup xs)->Z tq H') (∀H' tq,SH H0 M H' ((q,.lst zs)::L) (.tup tq xs::.tps zs rs::I)->Z tq H'):=⟨λk tq H' n t e=>k H' tq ((F.newR n t).DQ e)⟩
instance VB[F:SH H0 M H L I][h:HvA CV CP H y dy x l dx n ys ts][e:LkL L P (.tbl ps)][tb:nQ I pos qual ps]:Go (xM CV CP P pos qual [.ref y] H Q E) (∀ps' H1,Kp P H H1->H1 P=some (.tbl ps')->TabOk pos qual ps' H1->∀D zs H2,New H1 H2 D (.lst zs)->aB H2 zs (au (bF (frP n ts)))->Q (.ref D) H2):=⟨λk=>⟨y,dy,x,l,dx,n,ys,ts,ps,rfl,h.e,F.raw e.m,F.im _ tb.m,k⟩⟩
instance VD[F:SH H0 M H L I][h:HvA CV CP H y dy x l dx n ys ts][e:LkL L P (.tbl ps)][tb:nQ I pos qual ps][f:pQ (bF (frP n ts)) (cG z:Nat) w]:Go (uI CV CP CE P pos qual [.ref y,.int (z:Nat)] H Q E) (Sd (1<=z/\z<=1000000000000000000000000000000000) (∀ps' H1,Kp P H H1->H1 P=some (.tbl ps')->TabOk pos qual ps' H1->∀q zs tq H2,New H1 H2 q (.lst zs)->aB H2 zs (au (kE (bF (frP n ts)) (cG z:Nat)))->H2 tq=some (.tup [.int (w.1:Nat),.ref q])->Q (.ref tq) H2)):=⟨λkk=>⟨y,dy,x,l,dx,n,z,ys,ts,ps,rfl,h.e,kk.1,F.raw e.m,F.im _ tb.m,.inl ⟨w,f,kk.2⟩⟩⟩
instance VF[F:SH H0 M H L I][h:HvA CV CP H y dy x l dx n ys ts][e:LkL L P (.tbl ps)][tb:nQ I pos qual ps][f:qF (bF (frP n ts)) (cG z:Nat)]:Go (uI CV CP CE P pos qual [.ref y,.int (z:Nat)] H Q E) (Sd (1<=z/\z<=1000000000000000000000000000000000) (∀ps' d H',Kp P H H'->H' P=some (.tbl ps')->TabOk pos qual ps' H'->H' d=some (jf d [("size", .int (z:Nat)),("largest", .int (fH 0 (bO (frP n ts))))])->E (.ref CE) (some d) H')):=⟨λkk=>⟨y,dy,x,l,dx,n,z,ys,ts,ps,rfl,h.e,kk.1,F.raw e.m,F.im _ tb.m,.inr ⟨f,kk.2⟩⟩⟩
instance VG[F:SH H0 M H L I][h:HvA CV CP H y dy x l dx n ys ts][e:LkL L P (.tbl ps)][tb:nQ I pos qual ps][f:pQ (bF (frP n ts)) (cG z:Nat) w]:Go (uJ CV CP CE P pos qual [.ref y,.int (z:Nat)] H Q E) (Sd (1<=z/\z<=1000000000000000000000000000000000) (∀ps' H1,Kp P H H1->H1 P=some (.tbl ps')->TabOk pos qual ps' H1->∀ys' H2,Kp l H1 H2->H2 l=some (.lst ys')->aB H2 ys' (au (ts++[(w.1,cG z)]))->Q (.int (w.1:Nat)) H2)):=⟨λkk=>⟨y,dy,x,l,dx,n,z,ys,ts,ps,rfl,h.e,kk.1,F.raw e.m,F.im _ tb.m,.inl ⟨w,f,kk.2⟩⟩⟩
instance VH[F:SH H0 M H L I][h:HvA CV CP H y dy x l dx n ys ts][e:LkL L P (.tbl ps)][tb:nQ I pos qual ps][f:qF (bF (frP n ts)) (cG z:Nat)]:Go (uJ CV CP CE P pos qual [.ref y,.int (z:Nat)] H Q E) (Sd (1<=z/\z<=1000000000000000000000000000000000) (∀ps' d H',Kp P H H'->H' P=some (.tbl ps')->TabOk pos qual ps' H'->H' d=some (jf d [("size", .int (z:Nat)),("largest", .int (fH 0 (bO (frP n ts))))])->E (.ref CE) (some d) H')):=⟨λkk=>⟨y,dy,x,l,dx,n,z,ys,ts,ps,rfl,h.e,kk.1,F.raw e.m,F.im _ tb.m,.inr ⟨f,kk.2⟩⟩⟩
theorem XQ{z:Addr}{o:HO}(F:SH H0 [P] H L I)(m:(P,o)∈L)(hz:H z=none):H0 z=none:=by
 cases e:H0 z with
 | none=>rfl
 | some u =>
  by_cases h:z=P
  ·have:=F.raw m;rw[<- h,hz] at this;cases this
  ·have:=F.fr z u (nm1 h) e;rw[hz] at this;cases this
instance Zg{n:Nat}{f g:Str}{v y:V}{C:Addr}{o:HO}[F:SH H0 [P] H L I][e:LkL L P o]:Go (Gg n C H0 E f g [v,y] H) (Sd (f≠g) (∀dx H2,Same H H2->H2 dx=some (jf dx [(f,v),(g,y)])->E (.ref C) (some dx) H2)):=⟨λk=>⟨v,y,rfl,λz H' hn hz s e'=>Kd (by simp) hn hz (XQ F e.m hz) s (by
  have e2:fL g y [(f,v)]=[(f,v),(g,y)]:=by simp[fL,k.1]
  rw[<- e2];exact e') k.2⟩⟩
end
section
variable{P:Program}{w:World}{K:W.Frag}{mg:xC}{base:Heap}{c:Nat->Addr}{aG ak R CP CV CB:Addr}
theorem oN(T:Txt K mg c R CP CV CB aG ak)(B:Bm mg base):Def P w K mg base CX0 1 "by_size" ["holes"] (xK ak cY cF):=by
 refine Qq T.BK v7 (λvs H Q E h=>?_) (λ_ _ _ _ _ _=>el1 λ_=>rfl) (λf A outer s H vs Q E hr h=>?_)
 ·obtain⟨l,ys,ws,ps,rfl,_⟩:=h
  rfl
 ·obtain⟨l,ys,ws,ps,rfl,hl,tp,side,hP,tk,k⟩:=h;have nd:=v7.nd;refine⟨_,(aD (aM (yt (Aw rfl hr) rfl T.jq boot_sorted (aj (pv 0) ao) (Qm (qual:=cF) B rfl T.ur (by with_unfolding_all rfl) ⟨rfl,rfl,rfl,by with_unfolding_all rfl,by decide +kernel,by decide⟩)))),?_⟩;clear nd ;rw[show start ["holes"] [.ref l]=[some (.ref l)] from rfl]
  try dsimp only[cC,bI]
  obtain⟨aX,aL,aY⟩:=zsix T;have nlP:l≠ak:=λz=>by rw[z,hP] at hl;cases hl
  have F:SH H [ak] H [(ak,.tbl ps)] [.tps ys (au ws),jC cY cF ps]:=((SH.nil.jh List.mem_cons_self hP rfl (by simp)).nO tk).bQ tp;have gK:=Old.mk (M:=[ak]) hl (nm1 nlP);have yl:ys.length=ws.length:=by rw[tp.1,L2.aA]
  repeat k_meth
  intro f_ ps_
  repeat k_meth
  intro qs hq
  repeat k_meth
  have fd:∀b u,H b=some u->b≠p_:=F.fresh (LkL.m (o:=.lst ys_)) (nm1 (SH.neC (F:=F)));exact two_tab (R:=λH2=>Q _ H2) hP (λb u n e=>F.fr b u (nm1 n) e) aZ SH.tab aZ fd λH1 a1 a2 a3 H2 a4 e=>k qs hq _ H1 a1 a2 a3 _ _ H2 a4 (by rw[e];exact TpA.e)
theorem lR(T:Txt K mg c R CP CV CB aG ak):Def P w K mg base CX0 1 "found_in" ["ordered","size"] zA:=by
 refine bM T.wQ tD (λvs H Q E h=>?_) (λ_ _ _ _ _ _=>el2 λ_ _=>rfl) (λf cdv A outer s H vs Q E hr h=>?_)
 ·obtain⟨l,s,ys,ws,rfl,_⟩:=h
  rfl
 ·obtain⟨l,s,ys,ws,rfl,hl,tp,hz,kk⟩:=h;have nd:=tD.nd;refine⟨_,(aq (bC (i:=2) nd rfl (Or.inl rfl) (bB ao))
   (aq (jQ PassesOwn.never rfl (cM (pv 0)) (bL (i:=3) nd rfl (Or.inl rfl)) (aq (bZ (bw Ju (bJ bH (pv 3) aC (λ_ _=>rfl)) (pv 1) (bD _)) (aD (aM (bK (aj (bJ bH (pv 3) aC (λ_ _=>rfl)) (aj (pv 2) ao))))) bA)
    (aD (cL (dG (pv 2) (pv 3))))))
   (aD (aM Jg)))),?_⟩
  clear nd ;rw[show start ["ordered","size","passed","hole"] [.ref l,.int s]=[some (.ref l),some (.int s),none,none] from rfl]
  try dsimp only[cC,bI]
  obtain⟨aX,aL,aY⟩:=zsix T;have gK:=Old.mk (M:=[]) hl nm0;have jM:=ji.mk tp;have F:SH H [] H [] []:=SH.nil;have yl:ys.length=ws.length:=by rw[tp.1,L2.aA]
  repeat k_meth
  rename Addr=>pa
  refine k_ (xs:=ys) (λi σ' H'=>∃(o3:Option V),σ'=[some (.ref l),some (.int s),some (.ref pa),o3]/\(∀w∈ws.take i,¬ s<=(w.2:Int))/\SH H [] H' [(pa,.lst (ys.take i))] []) ⟨_,rfl,by simp,F⟩ ?_ ?_ ?_
  ·clear F;rintro i σ' H' _ ⟨_,rfl,hn,F⟩;exact SqA.e
  ·clear F;rintro i v σ' H' hv ⟨_,rfl,hn,F⟩;have hi:=(qE.mp hv).1;obtain⟨w,q1,e1,rfl,e2⟩:=fV tp hv;have abX:=Old.mk (M:=[]) e2 nm0;by_cases hs:s<=(w.2:Int)
   ·rcases kk with⟨w',f,k⟩|⟨f,k⟩
    ·have hw:w'=w:=by
      have h2:=zx e1 (p:=λw=>decide (s<=(w.2:Int))) (by simpa using hs) (λz hz=>by simpa using hn z hz);rw[f.e] at h2;exact nS h2
     subst hw
     repeat k_meth
     refine k pa (ys.take i) _ _ SH.nwC ?_ aZ;rw[zy e1 hs hn];have:au (ws.take i)=(au ws).take i:=by unfold au;rw[List.map_take]
     rw[this];have tp2:=tp.same F.sm;refine⟨by rw[nE,nE,L2.aA,yl],λj r e=>?_⟩;rw[List.getElem?_take] at e;split at e
     ·rename_i hj;obtain⟨q,g1,g2⟩:=tp2.2 j r e;exact⟨q,by rw[List.getElem?_take,yB hj];exact g1,g2⟩
     ·cases e
    ·exact absurd (by simpa using List.find?_eq_none.mp f.e w (List.mem_of_getElem? e1)) (by simpa using hs)
   ·have al:(ys.take i).length<sizeLine:=qV (m:=2000) (by rw[nE];lia) (cO (by lia))
    repeat k_meth
    refine⟨_,rfl,λz hz=>?_,by rw[gL,hv];exact F⟩;rw[gL,e1] at hz;rcases wT.mp hz with hz|hz
    ·exact hn z hz
    ·simp at hz;rw[hz];exact hs
  ·clear F;rintro σ' H' ⟨_,rfl,hn,F⟩;rw[yl,List.take_length] at hn;rcases kk with⟨w',f,k⟩|⟨f,k⟩
   ·exact absurd (List.find?_some f.e) (by simpa using hn w' (List.mem_of_find?_eq_some f.e))
   ·repeat k_meth
    exact k _ F.sm
theorem fD(T:Txt K mg c R CP CV CB aG ak)(B:Bm mg base):Met P w K mg base CX0 18 CV "order" ["self"] (xM CV CP ak cY cF):=by
 have oN:=oN (P:=P) (w:=w) (base:=base) T B;have bV:=bV (P:=P) (w:=w) (base:=base) T;obtain⟨f,hf,hm⟩:=T.Ck;refine(cI (k:=17) hf wK (λvs H Q E h=>?_) (λ_ _ _ _ _ _=>el1 λ_=>rfl) (λf cdv A outer s H vs Q E hr h=>?_)).met hm
 ·obtain⟨y,dy,x,l,dx,n,ys,ts,ps,rfl,_⟩:=h
  rfl
 ·obtain⟨y,dy,x,l,dx,n,ys,ts,ps,rfl,nx,hP,tk,k⟩:=h;have nd:=wK.nd;refine⟨_,(aD (aM (aK oN hr (aj (dW (pv 0) T.clV bV hr) ao)))),?_⟩;clear nd oN bV;rw[show start ["self"] [.ref y]=[some (.ref y)] from rfl]
  try dsimp only[cC,bI]
  obtain⟨hy,pk⟩:=nx;obtain⟨hx,hl,tp,gt⟩:=id pk;obtain⟨n1,n2,gd,tl⟩:=id gt;have yl:=aA tp;obtain⟨aX,aL,aY⟩:=zsix T;have fl:=eF n2 gd;have tln:=gw (frP n ts);have nxP:x≠ak:=λe=>by rw[e,hP] at hx;cases hx
  have nyP:y≠ak:=λe=>by rw[e,hP] at hy;cases hy
  have nlP:l≠ak:=λe=>by rw[e,hP] at hl;cases hl
  have F:SH H [ak] H [(ak,.tbl ps)] [.tps ys (au ts),jC cY cF ps]:=((SH.nil.jh List.mem_cons_self hP rfl (by simp)).nO tk).bQ tp;have kj:=Old.mk (M:=[ak]) hx (nm1 nxP);have pP:=Old.mk (M:=[ak]) hy (nm1 nyP);have gK:=Old.mk (M:=[ak]) hl (nm1 nlP);have sd1:(frP n ts).length<=1000/\(frP n ts).Nodup/\∀w∈frP n ts,w.1<1000000:=⟨by have:=eF n2 gd;lia,lD n2 gd,λw hw=>by have:=gU n2 gd hw;lia⟩
  repeat k_meth
  intro qs hq ps_;have eq:=uH hq.1 hq.2;subst eq
  repeat k_meth
  have fd:∀b u,H b=some u->b≠p_:=F.fresh (LkL.m (o:=.lst ys_)) (nm1 (SH.neC (F:=F)));exact two_tab (R:=λH2=>Q _ H2) hP (λb u n e=>F.fr b u (nm1 n) e) aZ SH.tab aZ fd λH1 a1 a2 a3 H2 a4 e=>k _ H1 a1 a2 a3 _ _ H2 a4 (by rw[e];exact TpA.e)
theorem cR(T:Txt K mg c R CP CV CB aG ak)(B:Bm mg base):Met P w K mg base (CX1 P w) 19 CV "look" ["self","size"] (uI CV CP (c 0) ak cY cF):=by
 have lR:=lR (P:=P) (w:=w) (base:=base) T;have fD:=fD (P:=P) (w:=w) (base:=base) T B;have dU:=dU (P:=P) (w:=w) (base:=base) T;have bW:=bW (P:=P) (w:=w) (base:=base) T;obtain⟨f,hf,hm⟩:=T.Cg;refine(vO (k:=18) hf wH (λvs H Q E h=>?_) (λ_ _ _ _ _ _=>el2 λ_ _=>rfl) (λf cdv A outer s H vs Q E hr h=>?_)).met hm
 ·obtain⟨y,dy,x,l,dx,n,z,ys,ts,ps,rfl,_⟩:=h
  rfl
 ·obtain⟨y,dy,x,l,dx,n,z,ys,ts,ps,rfl,nx,side,hP,tk,kk⟩:=h;have nd:=wH.nd;refine⟨_,(aq (bC (i:=2) nd rfl (Or.inl rfl) (aK lR hr (aj (dW (pv 0) T.clV fD hr) (aj (g8 (pv 0) T.clV dU hr (aj (pv 1) ao)) ao))))
   (aq (bZ (bw P0 (pv 2) Jg (bD _)) (aD (Ka T.Bx (PL T.dR (Nb T.dR.S T.i_ T.eG) hr (aj (pv 1) (aj (dW (pv 0) T.clV bW hr) ao))))) bA)
   (PSs.nox (aD (aM (pv 2)))))),?_⟩
  clear nd lR fD dU bW;rw[show start ["self","size","found"] [.ref y,.int (z:Nat)]=[some (.ref y),some (.int (z:Nat)),none] from rfl]
  try dsimp only[cC,bI,RT]
  obtain⟨hy,pk⟩:=nx;obtain⟨hx,hl,tp,gt⟩:=id pk;obtain⟨n1,n2,gd,tl⟩:=id gt;have yl:=aA tp;obtain⟨aX,aL,aY⟩:=zsix T;obtain⟨z1,z2⟩:=id side;have fl:=eF n2 gd;have tln:=gw (frP n ts);have nxP:x≠ak:=λe=>by rw[e,hP] at hx;cases hx
  have nyP:y≠ak:=λe=>by rw[e,hP] at hy;cases hy
  have nlP:l≠ak:=λe=>by rw[e,hP] at hl;cases hl
  have F:SH H [ak] H [(ak,.tbl ps)] [.tps ys (au ts),jC cY cF ps]:=((SH.nil.jh List.mem_cons_self hP rfl (by simp)).nO tk).bQ tp;have kj:=Old.mk (M:=[ak]) hx (nm1 nxP);have pP:=Old.mk (M:=[ak]) hy (nm1 nyP);have gK:=Old.mk (M:=[ak]) hl (nm1 nlP);have sd1:(frP n ts).length<=1000/\(frP n ts).Nodup/\∀w∈frP n ts,w.1<1000000:=⟨by have:=eF n2 gd;lia,lD n2 gd,λw hw=>by have:=gU n2 gd hw;lia⟩;rcases kk with⟨w,f,k⟩|⟨f,k⟩
  ·have f0:pQ (bF (frP n ts)) (cG z:Nat) w:=f
   repeat k_meth
   intro ps2
   repeat k_meth
   intro q zs
   repeat k_meth
   have fd:∀b u,H b=some u->b≠q:=F.fresh (LkL.m (o:=.lst zs)) (nm1 (SH.neC (F:=F)));exact two_tab (R:=λH2=>Q _ H2) hP (λb u n e=>F.fr b u (nm1 n) e) aZ SH.tab aZ fd λH1 a1 a2 a3 H2 a4 e=>k _ H1 a1 a2 a3 q zs _ H2 a4 (by rw[e];exact TpA.e) (by rw[e];exact aZ)
  ·have f0:qF (bF (frP n ts)) (cG z:Nat):=f
   repeat k_meth
   intro ps2
   repeat k_meth
   exact λd H' s e=>k _ d H' (λb u n e=>s _ _ (F.kpo b u n e)) (s _ _ aZ) (TabOk.st _ _ (λq u _ e=>s q u e) SH.tab) e
theorem fG(T:Txt K mg c R CP CV CB aG ak)(B:Bm mg base):Met P w K mg base (CX1 P w) 20 CV "take" ["self","size"] (uJ CV CP (c 0) ak cY cF):=by
 have oM:=oM (P:=P) (w:=w) (base:=base) T;have fW:=fW (P:=P) (w:=w) (base:=base) T;have cR:=cR (P:=P) (w:=w) (base:=base) T B;obtain⟨f,hf,hm⟩:=T.Ci;refine(vO (k:=19) hf wI (λvs H Q E h=>?_) (λ_ _ _ _ _ _=>el2 λ_ _=>rfl) (λf cdv A outer s H vs Q E hr h=>?_)).met hm
 ·obtain⟨y,dy,x,l,dx,n,z,ys,ts,ps,rfl,_⟩:=h
  rfl
 ·obtain⟨y,dy,x,l,dx,n,z,ys,ts,ps,rfl,nx,side,hP,tk,kk⟩:=h;have nd:=wI.nd;refine⟨_,(aq (bC (i:=2) nd rfl (Or.inl rfl) (bJ bH (g8 (pv 0) T.clV cR hr (aj (pv 1) ao) (hx:=Wc)) aC (λ_ _=>rfl)))
   (PSs.nox (aq (cL (g8 (pv 0) T.clV oM hr (aj (pv 2) (aj (pv 1) ao))))
   (aq (cL (g8 (pv 0) T.clV fW hr (aj (aV cJ (pv 2) (pv 1)) ao)))
   (aD (aM (pv 2))))))),?_⟩
  clear nd oM fW cR;rw[show start ["self","size","start"] [.ref y,.int (z:Nat)]=[some (.ref y),some (.int (z:Nat)),none] from rfl]
  try dsimp only[cC,bI,RT]
  obtain⟨hy,pk⟩:=nx;obtain⟨hx,hl,tp,gt⟩:=id pk;obtain⟨n1,n2,gd,tl⟩:=id gt;have yl:=aA tp;have nxl:x≠l:=λe=>by rw[e,hl] at hx;cases hx
  have nyl:y≠l:=λe=>by rw[e,hl] at hy;cases hy
  obtain⟨aX,aL,aY⟩:=zsix T;obtain⟨z1,z2⟩:=id side;have fl:=eF n2 gd;have tln:=gw (frP n ts);have nxP:x≠ak:=λe=>by rw[e,hP] at hx;cases hx
  have nyP:y≠ak:=λe=>by rw[e,hP] at hy;cases hy
  have nlP:l≠ak:=λe=>by rw[e,hP] at hl;cases hl
  rcases kk with⟨w,f,k⟩|⟨f,k⟩
  ·have f0:pQ (bF (frP n ts)) (cG z:Nat) w:=f;obtain⟨fa,hmw,hzw⟩:=C_ n2 gd z1 z2 f;have F:SH H [ak,l] H [(ak,.tbl ps),(l,.lst ys)] [.tps ys (au ts),jC cY cF ps]:=(((SH.nil.jh (by simp) hl rfl (by simp)).jh (by simp) hP rfl (by simpa using nlP)).nO tk).bQ tp;have kj:=Old.mk (M:=[ak,l]) hx (by simp[nxP,nxl]);have pP:=Old.mk (M:=[ak,l]) hy (by simp[nyP,nyl])
   repeat k_meth
   intro ps2
   repeat k_meth
   intro q zs
   repeat k_meth
   intro ys'
   repeat k_meth
   exact two_tabL hl (λb u n1 n2 e=>F.fr b u (by simp[n1,n2]) e) aZ SH.tab aZ λH1 a1 a2 a3 a4=>k _ H1 a1 a2 a3 _ _ a4 aZ TpA.e
  ·have f0:qF (bF (frP n ts)) (cG z:Nat):=f;have F:SH H [ak] H [(ak,.tbl ps)] [.tps ys (au ts),jC cY cF ps]:=((SH.nil.jh List.mem_cons_self hP rfl (by simp)).nO tk).bQ tp;have kj:=Old.mk (M:=[ak]) hx (nm1 nxP);have pP:=Old.mk (M:=[ak]) hy (nm1 nyP);have gK:=Old.mk (M:=[ak]) hl (nm1 nlP)
   repeat k_meth
   exact k
end
open M44
def xO:Sp:=λvs H Q _=>∃i:Nat,vs=[.int (i:Nat)]/\1<=i/\i<=1000000000000000000000000000000000/\Q (.int (cG i:Nat)) H
instance VJ{H:Hp}{Q:VK}{E:XK}{i:Nat}:Go (xO [.int (i:Nat)] H Q E) (Sd (1<=i/\i<=1000000000000000000000000000000000) (Q (.int (cG i:Nat)) H)):=⟨λk=>⟨i,rfl,k.1.1,k.1.2,k.2⟩⟩
def NK(K:W.Frag):Sp:=λvs H Q _=>∃(a:Addr)(ns:List Int)(m:Nat),vs=[.ref a,.int (m:Nat)]/\SqL K H a (ns.map V.int)/\∀c:Int,Q (.int c) H
def IV:Sp:=λvs H Q _=>∃(cl:Int)(m:Nat),vs=[.int cl,.int (m:Nat)]/\m<=100/\∀(ds:List Int)(p:Addr)(H':Hp),ds.length=m->(∀d∈ds,0<=d/\d<10 ^ 6)->New H H' p (.lst (ds.map V.int))->Q (.ref p) H'
def NP:Sp:=λvs H Q _=>∃cl:Int,vs=[.int cl]/\∀(n:Nat)(H':Hp),16<=n->n<=240->Same H H'->Q (.int (n:Nat)) H'
def Dc:Sp:=λvs H Q _=>∃(l:Addr)(ys:List V)(ts:xD),vs=[.ref l]/\H l=some (.lst ys)/\aB H ys (au ts)/\ts.length<=1000/\∀H',Same H H'->Q (.bl true) H'
theorem Hl{ds:List Int}{d:Int}(h:∀d∈ds,0<=d/\d<10 ^ 6)(hd:0<=d/\d<10 ^ 6):∀e∈ds++[d],0<=e/\e<10 ^ 6:=by
 intro e he;rcases wT.mp he with h1|h1
 ·exact h e h1
 ·rw[rV.mp h1];exact hd
theorem XR(x:Int):0<=x % 10 ^ 6/\x % 10 ^ 6<10 ^ 6:=⟨Int.emod_nonneg _ (by decide),Int.emod_lt_of_pos _ (by decide)⟩
theorem ints_snoc(ds:List Int)(z:Int):ds.map V.int++[V.int z]=(ds++[z]).map V.int:=by rw[List.map_append];rfl
theorem NQ{α:Type}(f:α->Bool)(l:List α)(i:Nat)(w:α)(e:l[i]?=some w):(l.take (i+1)).any f=((l.take i).any f || f w):=by
 rw[List.take_add_one,e,Option.toList,List.any_append];simp
section
variable{P:Program}{w:World}{K:W.Frag}{mg:xC}{base:Heap}{c:Nat->Addr}{aG ak R CP CV CB:Addr}
theorem qQ(T:Txt K mg c R CP CV CB aG ak):Def P w K mg base CX0 1 "_law_cell" ["_law_script","_law_k"] (NK K):=by
 refine bM T.GF Bj (λvs H Q E h=>?_) (λ_ _ _ _ _ _=>el2 λ_ _=>rfl) (λf cdv A outer s H vs Q E hr h=>?_)
 ·obtain⟨a,ns,m,rfl,_⟩:=h
  rfl
 ·obtain⟨a,ns,m,rfl,hS,k⟩:=h;have nd:=Bj.nd;refine⟨_,(aq (bZ (bw pX (pv 1) (bN jg rfl T.wX boot_len (aj (pv 0) ao)) (bD _)) (aD (aM (bJ d9 (pv 0) (pv 1) (λ_ _=>rfl)))) bA)
   (aD (aM aC))),?_⟩
  clear nd ;rw[show start ["_law_script","_law_k"] [.ref a,.int (m:Nat)]=[some (.ref a),some (.int (m:Nat))] from rfl]
  try dsimp only[cC,bI]
  obtain⟨aX,aL,aY⟩:=zsix T;have F:SH H [] H [] []:=SH.nil;have abY:=TV.mk (M:=[]) hS nm0
  repeat k_meth
  refine fB (λh=>?_) (λh=>?_)
  ·obtain⟨v,e,mm⟩:=JR (xs:=ns.map V.int) (i:=(m:Int)) (by lia) h;obtain⟨c,_,rfl⟩:=qA.mp mm;have a1:AtI (ns.map V.int) (m:Int) (.int c):=⟨e⟩
   repeat k_meth
   exact k c
  ·repeat k_meth
   exact k _
theorem gD(T:Txt K mg c R CP CV CB aG ak):Def P w K mg base CX0 1 "_law_draws" ["_law_cell_here","_law_many_here"] IV:=by
 refine bM T.BR wg (λvs H Q E h=>?_) (λ_ _ _ _ _ _=>el2 λ_ _=>rfl) (λf cdv A outer s H vs Q E hr h=>?_)
 ·obtain⟨cl,m,rfl,_⟩:=h
  rfl
 ·obtain⟨cl,m,rfl,hm,k⟩:=h;have nd:=wg.nd;refine⟨_,(aq (bC (i:=2) nd rfl (Or.inl rfl) (bB ao))
   (aq (bC (i:=3) nd rfl (Or.inl rfl) (pv 0))
   (aq (jQ PassesOwn.never rfl (u_ rfl T.zj (aj (pv 1) ao)) (bL (i:=4) nd rfl (Or.inl rfl)) (aD (bZ (bw Ju (pv 0) (aV rB aC aC) (bD _)) (aq (cL (dG (pv 2) (aV dF (pv 3) (aV rB aC aC))))
     (aD (bC (i:=3) nd rfl (Or.inl rfl) (aV eU (pv 3) (aV rB aC aC))))) (aq (bC (i:=3) nd rfl (Or.inl rfl) (aV dF (aV cJ (aV cJ (aV jx (pv 3) aC) aC) (pv 4)) aC))
     (aD (cL (dG (pv 2) (aV dF (aV eU (aV dF (aV jx (pv 3) aC) aC) aC) (aV rB aC aC)))))))))
   (aD (aM (pv 2)))))),?_⟩
  clear nd ;rw[show start ["_law_cell_here","_law_many_here","_law_found","_law_number","_law_k"] [.int cl,.int (m:Nat)]=[some (.int cl),some (.int (m:Nat)),none,none,none] from rfl]
  try dsimp only[cC,bI]
  obtain⟨aX,aL,aY⟩:=zsix T;have F:SH H [] H [] []:=SH.nil
  repeat k_meth
  obtain⟨fd,e_⟩:∃q,q=p_:=⟨_,rfl⟩;subst e_;rw[show ((m:Nat):Int).toNat=m by lia];refine Ae (λi σ' H'=>∃(num:Int)(ds:List Int)(o4:Option V),σ'=[some (.int cl),some (.int (m:Nat)),some (.ref fd),some (.int num),o4]/\ds.length=i/\(∀d∈ds,0<=d/\d<10 ^ 6)/\SH H [] H' [(fd,.lst (ds.map V.int))] []) ⟨cl,[],_,rfl,rfl,(λd h=>by cases h),F⟩ ?_ ?_
  ·clear F;rintro i σ' H' hi ⟨num,ds,_,rfl,hl,hd,F⟩;have hlen:(ds.map V.int).length<sizeLine:=by rw[wS,hl,sizeLine_eq];lia
   repeat k_meth
   refine fB (λh=>?_) (λh=>?_)
   ·repeat k_meth
    rw[show Int.toNat 6=6 from rfl,ints_snoc] at F;exact⟨_,_,_,rfl,by rw[yY,hl];rfl,Hl hd (XR _),F⟩
   ·repeat k_meth
    rw[show Int.toNat 6=6 from rfl,ints_snoc] at F;exact⟨_,_,_,rfl,by rw[yY,hl];rfl,Hl hd (XR _),F⟩
  ·clear F;rintro σ' H' ⟨num,ds,_,rfl,hl,hd,F⟩
   repeat k_meth
   exact k ds _ _ hl hd SH.nwC
theorem b_(T:Txt K mg c R CP CV CB aG ak):Def P w K mg base CX0 1 "_law_whole" ["_law_thing"] (jX K):=by
 refine bM T.uw lE (λvs H Q E h=>?_) (λ_ _ _ _ _ _=>el1 λ_=>rfl) (λf cdv A outer s H vs Q E hr h=>?_)
 ·obtain⟨x,n,rfl,_⟩:=h
  rfl
 ·obtain⟨x,n,rfl,ty,k⟩:=h;have nd:=lE.nd;refine⟨_,(aD (aM (fJ (bN fP rfl T.cD boot_isinstance (aj (pv 0) (aj (m_ (T := "int") rfl T.GR boot_int) ao))) (gG (xV (bN fP rfl T.cD boot_isinstance (aj (pv 0) (aj (m_ (T := "bool") rfl T.za boot_bool) ao)))))))),?_⟩;clear nd ;rw[show start ["_law_thing"] [x]=[some (x)] from rfl]
  try dsimp only[cC,bI]
  obtain⟨aX,aL,aY⟩:=zsix T;have F:SH H [] H [] []:=SH.nil;have o_x:DY K H [] x n:=⟨ty,λ_ _ z=>by cases z⟩
  repeat k_meth
  cases x with
  | int i =>
   rw[show yg (.int i)=true from rfl]
   repeat k_meth
   exact k
  | bl b =>
   rw[show yg (.bl b)=true from rfl]
   repeat k_meth
   exact k
  | _ =>
   first|rw[show yg _=false from rfl]|skip
   repeat k_meth
   exact k
theorem iT(T:Txt K mg c R CP CV CB aG ak):Def P w K mg base CX0 2 "_law_rows" ["_law_told"] Dc:=by
 have b_:=b_ (P:=P) (w:=w) (base:=base) T;refine bM T.GJ Bk (λvs H Q E h=>?_) (λ_ _ _ _ _ _=>el1 λ_=>rfl) (λf cdv A outer s H vs Q E hr h=>?_)
 ·obtain⟨l,ys,ts,rfl,_⟩:=h
  rfl
 ·obtain⟨l,ys,ts,rfl,hl,tp,fw,k⟩:=h;have nd:=Bk.nd;refine⟨_,(aq (bZ (cT (cu (bN fP rfl T.cD boot_isinstance (aj (pv 0) (aj (m_ (T := "list") rfl T.Ng boot_list) ao))))) (aD (aM iB)) bA)
   (aq (jQ PassesOwn.never rfl (cM (pv 0)) (bL (i:=1) nd rfl (Or.inl rfl)) (aD (bZ (PW.pt (iC (cT (cu (bN fP rfl T.cD boot_isinstance (aj (pv 1) (aj (m_ (T := "tuple") rfl T.zf boot_tuple) ao))))) (iC (bw Jt (bN jg rfl T.wX boot_len (aj (pv 1) ao)) aC (bD _)) (iC (cT (cu (aK b_ hr (aj (bJ bH (pv 1) aC (λ_ _=>rfl)) ao)))) (jN (cT (cu (aK b_ hr (aj (bJ bH (pv 1) aC (λ_ _=>rfl)) ao))))))))) (aD (aM iB)) bA)))
   (aD (aM iB)))),?_⟩
  clear nd b_;rw[show start ["_law_told","_law_row"] [.ref l]=[some (.ref l),none] from rfl]
  try dsimp only[cC,bI]
  obtain⟨aX,aL,aY⟩:=zsix T;have gK:=Old.mk (M:=[]) hl nm0;have jM:=ji.mk tp;have F:SH H [] H [] []:=SH.nil
  repeat k_meth
  refine k_ (xs:=ys) (λi σ' H'=>∃o1:Option V,σ'=[some (.ref l),o1]/\SH H [] H' [] [.tps ys (au ts)]) ⟨_,rfl,F.bQ tp⟩ ?_ ?_ ?_
  ·clear F;rintro i σ' H' hi ⟨_,rfl,F⟩;exact SqA.e
  ·clear F;rintro i v σ' H' hv ⟨_,rfl,F⟩;obtain⟨w,q,e1,rfl,e2⟩:=fV (H:=H') (ws:=ts) TpA.e hv;replace F:=F.DQ e2
   repeat k_meth
   rw[show isW (V.int (w.1:Nat))=true from rfl]
   repeat k_meth
   rw[show isW (V.int (w.2:Nat))=true from rfl]
   repeat k_meth
   exact⟨_,rfl,F.sub SbC.s SbI.s⟩
  ·clear F;rintro σ' H' ⟨_,rfl,F⟩
   repeat k_meth
   exact k _ F.sm
theorem qT(T:Txt K mg c R CP CV CB aG ak):Def P w K mg base CX0 2 "_law_many" ["_law_cell_here"] NP:=by
 have gD:=gD (P:=P) (w:=w) (base:=base) T;refine bM T.GK Bl (λvs H Q E h=>?_) (λ_ _ _ _ _ _=>el1 λ_=>rfl) (λf cdv A outer s H vs Q E hr h=>?_)
 ·obtain⟨cl,rfl,_⟩:=h
  rfl
 ·obtain⟨cl,rfl,k⟩:=h;have nd:=Bl.nd;refine⟨_,(aq (Df (aK gD hr (aj (pv 0) (aj aC ao))) (Tp rfl (dX (bL (i:=1) nd rfl (Or.inl rfl)) (dX (bL (i:=2) nd rfl (Or.inl rfl)) kW))))
   (aq (bZ (bw Rg (aV dF (pv 1) aC) aC (bD _)) (aD (aM (aV cJ aC (aV dF (pv 2) aC)))) bA)
   (aD (aM (aV cJ aC (aV dF (pv 2) aC)))))),?_⟩
  clear nd gD;rw[show start ["_law_cell_here","_law_first","_law_second"] [.int cl]=[some (.int cl),none,none] from rfl]
  try dsimp only[cC,bI]
  obtain⟨aX,aL,aY⟩:=zsix T;have F:SH H [] H [] []:=SH.nil
  repeat k_meth
  refine⟨cl,2,rfl,by decide,λds p H1 hl hd n1=>?_⟩;obtain⟨a,b,rfl⟩:∃a b,ds=[a,b]:=match ds,hl with|[a,b],_=>⟨a,b,rfl⟩
  have ha:=hd a (by simp);have hb:=hd b (by simp);replace F:=F.newL n1
  repeat k_meth
  refine Wl (a:=.int a) (b:=.int b) (σ':=[some (.int cl),some (.int a),some (.int b)]) (SqL.of n1.e) rfl ?_
  repeat k_meth
  refine fB (λh=>?_) (λh=>?_)
  ·repeat k_meth
   rw[show (16:Int)+b % 49=((16+b % 49).toNat:Int) by lia];exact k _ _ (by lia) (by lia) F.sm
  ·repeat k_meth
   rw[show (16:Int)+b % 225=((16+b % 225).toNat:Int) by lia];exact k _ _ (by lia) (by lia) F.sm
theorem fX(T:Txt K mg c R CP CV CB aG ak):Def P w K mg base CX0 1 "_law_power" ["_law_size_here"] (xO):=by
 refine bM T.BW wk (λvs H Q E h=>?_) (λ_ _ _ _ _ _=>el1 λ_=>rfl) (λf cdv A outer s H vs Q E hr h=>?_)
 ·obtain⟨i,rfl,_⟩:=h
  rfl
 ·obtain⟨i,rfl,i1,i2,k⟩:=h;have nd:=wk.nd;refine⟨_,(aq (bC (i:=1) nd rfl (Or.inl rfl) aC)
   (aq (jd PassesOwn.never (bw pX (pv 1) (pv 0) (bD _)) (aD (bC (i:=1) nd rfl (Or.inl rfl) (aV cJ (pv 1) (pv 1)))))
   (aD (aM (pv 1))))),?_⟩
  clear nd ;rw[show start ["_law_size_here","_law_power_here"] [.int (i:Nat)]=[some (.int (i:Nat)),none] from rfl]
  try dsimp only[cC,bI]
  obtain⟨aX,aL,aY⟩:=zsix T;have F:SH H [] H [] []:=SH.nil
  repeat k_meth
  refine lG (λm σ' H'=>∃j:Nat,σ'=[some (.int (i:Nat)),some (.int ((2 ^ j:Nat):Int))]/\m=2*i-2 ^ j/\(j=0\/2 ^ (j-1)<i)/\H=H') ⟨_,0,rfl,rfl,.inl rfl,rfl⟩ ?_;clear F;rintro m σ' _ ⟨j,rfl,rfl,hj,rfl⟩;have F:SH H [] H [] []:=SH.nil;have pj:=pos2 j;have jle:2 ^ j<=2*i:=by
   rcases hj with rfl|hj
   ·lia
   ·cases j with
    | zero=>lia
    | succ j=>have:=eO j;simp only[Nat.add_sub_cancel] at hj;lia
  have dbl:((2 ^ j:Nat):Int)+((2 ^ j:Nat):Int)=((2 ^ (j+1):Nat):Int):=by have:=eO j;lia
  have d2:=eO j;have fin:¬ (2 ^ j<i)->2 ^ j=cG i:=λh=>mY i1 ⟨j,rfl,by lia,hj⟩
  generalize hw:(2 ^ j:Nat)=wj at *
  repeat k_meth
  refine fB (λh=>?_) (λh=>?_)
  ·refine⟨λσ' H'=>∃m',m'<_/\_,λσ' H' h=>h,?_⟩
   repeat k_meth
   rw[dbl];exact⟨2*i-2 ^ (j+1),by lia,j+1,rfl,rfl,.inr (by simp only[Nat.add_sub_cancel];lia),rfl⟩
  ·repeat k_meth
   rw[fin (by lia)];exact k
end
open M44
def clF(tk:Nat->Bool)(n:Nat):List Int:=(List.range n).map λc=>if tk c=true then 1 else 0
theorem qU(tk:Nat->Bool)(n:Nat):(clF tk n).length=n:=by simp[clF]
theorem kI{tk:Nat->Bool}{n c:Nat}(h:c<n):(clF tk n)[c]?=some (if tk c=true then 1 else 0):=by
 unfold clF;rw[vE,List.getElem?_range h]
 rfl
theorem NT(n:Nat):(clF (λ_=>false) n).map V.int=List.replicate n (V.int 0):=by
 unfold clF;rw[List.map_map]
 apply List.ext_getElem
 ·simp
 ·intro i h1 h2;simp
theorem QT{tk:Nat->Bool}{n a b:Nat}(h:a+b<=n):((clF tk n).map V.int).take a++List.replicate b (V.int 1)++((clF tk n).map V.int).drop (a+b)=(clF (λc=>tk c || (decide (a<=c) && decide (c<a+b))) n).map V.int:=by
 apply List.ext_getElem?
 intro c;have ll:=qU tk n;by_cases hc:c<n
 ·rw[vE,kI hc,Option.map_some];by_cases h1:c<a
  ·rw[jI,wP (by rw[nE,wS,ll];lia),List.getElem?_take,yB h1,vE,kI hc,Option.map_some,uA (by lia),Bool.false_and,Bool.or_false]
  ·by_cases h2:c<a+b
   ·rw[jI,nK (by rw[nE,wS,ll];lia),nE,wS,ll,wP (by rw[zzB];lia),List.getElem?_replicate,yB (by lia),uB (by lia),uB h2,Bool.true_and,Bool.or_true,yB rfl]
   ·rw[nK (by rw[yY,nE,zzB,wS,ll];lia),yY,nE,zzB,wS,ll,List.getElem?_drop,vE,show a+b+(c-(min a n+b))=c by lia,kI hc,Option.map_some,uA (p:=c<a+b) h2,Bool.and_false,Bool.or_false]
 ·rw[zzC (by rw[yY,yY,nE,zzB,zzH,wS,ll];lia),zzC (by rw[wS,qU];lia)]
theorem NZ:∀(xs:List Int),(∀x∈xs,0<=x)->0<=xs.sum/\(xs.sum=0 ↔ ∀x∈xs,x=0)
 | [],_=>by simp
 | x::xs,h=>by
  obtain⟨a,b⟩:=NZ xs λy hy=>h y (zD _ hy)
  have c:=h x zC;rw[List.sum_cons];refine⟨by lia,λe y hy=>?_,λe=>?_⟩
  ·rcases jS.mp hy with rfl|hy
   ·lia
   ·exact b.mp (by lia) y hy
  ·have:=e x zC;have:=b.mpr λy hy=>e y (zD _ hy)
   lia
theorem N5{tk:Nat->Bool}{n p z:Nat}:∀x∈((clF tk n).drop p).take z,0<=x/\x<=1:=λx hx=>by
 have hx:=oQ (oP hx);unfold clF at hx;obtain⟨c,_,rfl⟩:=qA.mp hx;split <;> decide
theorem QV{tk:Nat->Bool}{n p z:Nat}(h:p+z<=n):(((clF tk n).drop p).take z).sum=0 ↔ ∀c,p<=c->c<p+z->tk c=false:=by
 rw[(NZ _ λx hx=>(N5 x hx).1).2]
 constructor
 ·intro hx c h1 h2;have e:(((clF tk n).drop p).take z)[c-p]?=some (if tk c=true then 1 else 0):=by
   rw[List.getElem?_take,yB (by lia),List.getElem?_drop,show p+(c-p)=c by lia,kI (by lia)]
  have:=hx _ (wE e);cases ht:tk c with
  | false=>rfl
  | true=>rw[ht,yB rfl] at this;cases this
 ·intro hc x hx;obtain⟨i,hi,e⟩:=List.getElem_of_mem hx;have hl:i<z:=by rw[nE] at hi;lia
  have e2:(((clF tk n).drop p).take z)[i]?=some x:=by rw[<- e];exact qS hi
  rw[List.getElem?_take,yB hl,List.getElem?_drop,kI (by lia),hc (p+i) (by lia) (by lia)] at e2;simpa using e2.symm
theorem QW{xs:List V}{a b:Nat}(h:a<=b)(hb:b<=xs.length):rE xs (some (a:Int)) (some (b:Int))=(xs.drop a).take (b-a):=by
 unfold rE;rw[HT.Ew,HT.Ew,show min a xs.length=a by lia,show min b xs.length=b by lia]
theorem QX{ts:xD}{i:Nat}{w:Nat×Nat}(e:ts[i]?=some w):(λc=>tkF (ts.take i) c || (decide (w.1<=c) && decide (c<w.1+w.2)))=tkF (ts.take (i+1)):=by
 funext c
 unfold tkF;exact(NQ _ ts i w e).symm
def Dd:Sp:=λvs H Q _=>∃(n:Nat)(l:Addr)(ys:List V)(ts:xD),vs=[.int (n:Nat),.ref l]/\16<=n/\n<=240/\H l=some (.lst ys)/\aB H ys (au ts)/\(∀t∈ts,Pc n t.1 t.2)/\∀p zs H',New H H' p (.lst zs)->aB H' zs (au (frF (whF n 0 n) ts))->Q (.ref p) H'
section
variable{P:Program}{w:World}{K:W.Frag}{mg:xC}{base:Heap}{c:Nat->Addr}{aG ak R CP CV CB:Addr}
theorem iU(T:Txt K mg c R CP CV CB aG ak):Def P w K mg base CX0 1 "_law_free" ["_law_many_here","_law_taken"] Dd:=by
 refine bM T.GP Bo (λvs H Q E h=>?_) (λ_ _ _ _ _ _=>el2 λ_ _=>rfl) (λf cdv A outer s H vs Q E hr h=>?_)
 ·obtain⟨n,l,ys,ts,rfl,_⟩:=h
  rfl
 ·obtain⟨n,l,ys,ts,rfl,n1,n2,hl,tp,hp,k⟩:=h;have nd:=Bo.nd;refine⟨_,(aq (bC (i:=2) nd rfl (Or.inl rfl) (aV Fj (bB (aj aC ao)) (pv 0)))
   (aq (jQ PassesOwn.never rfl (cM (pv 1)) (xW rfl (dX (bL (i:=3) nd rfl (Or.inl rfl)) (dX (bL (i:=4) nd rfl (Or.inl rfl)) kW))) (aD (Df (aV Fj (bB (aj aC ao)) (pv 4)) (Qi (pv 2) (pv 3) (aV cJ (pv 3) (pv 4))))))
   (aq (bC (i:=5) nd rfl (Or.inl rfl) (bB ao))
   (aq (bC (i:=6) nd rfl (Or.inl rfl) aC)
   (aq (jd PassesOwn.never (bw pX (pv 6) (pv 0) (bD _)) (aq (bC (i:=4) nd rfl (Or.inl rfl) aC)
    (aq (jd PassesOwn.never (PW.pt (xU (bw jF (aV dF (pv 6) (aV jx aC (pv 4))) aC (bD _)) (xU (bw zG (aV cJ (pv 6) (aV jx aC (pv 4))) (pv 0) (bD _)) (xT (bw jF (bN (oX rfl) rfl T.GX boot_sum (aj (zJ zW (pv 2) (qH (pv 6)) (qH (aV cJ (pv 6) (aV jx aC (pv 4))))) ao)) aC (bD _)))))) (aD (bC (i:=4) nd rfl (Or.inl rfl) (aV jx aC (pv 4)))))
    (aq (bZ (bw jF (bJ d9 (pv 2) (pv 6) (λ_ _=>rfl)) aC (bD _)) (aD (cL (dG (pv 5) (bK (aj (pv 6) (aj (pv 4) ao)))))) bA)
    (aD (bC (i:=6) nd rfl (Or.inl rfl) (aV cJ (pv 6) (pv 4))))))))
   (aD (aM (pv 5)))))))),?_⟩
  clear nd ;rw[show start ["_law_many_here","_law_taken","_law_cells","_law_start","_law_size_here","_law_found","_law_place"] [.int (n:Nat),.ref l]=[some (.int (n:Nat)),some (.ref l),none,none,none,none,none] from rfl]
  try dsimp only[cC,bI]
  obtain⟨aX,aL,aY⟩:=zsix T;have gK:=Old.mk (M:=[]) hl nm0;have jM:=ji.mk tp;have F:SH H [] H [] []:=SH.nil;have yl:=aA tp
  repeat k_meth
  obtain⟨cp,e_⟩:∃q,q=p_:=⟨_,rfl⟩;subst e_;rw[<- NT,show (λ_:Nat=>false)=tkF (ts.take 0) from rfl] at F;refine k_ (xs:=ys) (λi σ' H'=>∃o3 o4:Option V,σ'=[some (.int (n:Nat)),some (.ref l),some (.ref cp),o3,o4,none,none]/\SH H [] H' [(cp,.lst ((clF (tkF (ts.take i)) n).map V.int))] [.tps ys (au ts)]) ⟨_,_,rfl,(F.bQ (tp.same F.sm)).sub SbC.s SbI.s⟩ ?_ ?_ ?_
  ·clear F;rintro i σ' H' hi ⟨_,_,rfl,F⟩;exact SqA.e
  ·clear F;rintro i v σ' H' hv ⟨_,_,rfl,F⟩;obtain⟨w,q,e1,rfl,e2⟩:=fV (H:=H') (ws:=ts) TpA.e hv;obtain⟨kk,y1,y2,y3⟩:=hp w (wE e1);have le1:w.1+w.2<=n:=by rw[y1];exact y3
   have ll:((clF (tkF (ts.take i)) n).map V.int).length=n:=by rw[wS,qU]
   have lr:(List.replicate w.2 (V.int 1)).length=w.2:=zzB;replace F:=F.DQ e2
   repeat k_meth
   rw[Int.toNat_natCast,show ((w.1:Int)+(w.2:Int)).toNat=w.1+w.2 by lia,QT le1,QX e1] at F;exact⟨_,_,rfl,F.sub SbC.s SbI.s⟩
  ·clear F;rintro σ' H' ⟨_,_,rfl,F⟩;rw[yl,List.take_length] at F
   repeat k_meth
   obtain⟨fd,e_⟩:∃q,q=p_:=⟨_,rfl⟩;subst e_;refine lG (λm σ' H'=>∃(o3 o4:Option V)(pl:Nat)(L:xD)(zs:List V),σ'=[some (.int (n:Nat)),some (.ref l),some (.ref cp),o3,o4,some (.ref fd),some (.int (pl:Nat))]/\n-pl=m/\pl<=n/\L.length<=pl/\zs.length=L.length/\(∀l',Gr (tkF ts) n pl l'->Gr (tkF ts) n 0 (L++l'))/\SH H [] H' [(fd,.lst zs),(cp,.lst ((clF (tkF ts) n).map V.int))] [.tps zs (au L)]) ⟨n,_,_,0,[],[],rfl,rfl,by lia,by simp,rfl,λl' h=>h,(F.bQ (ys:=[]) (rs:=au []) aB.nil).sub SbC.s SbI.s⟩ ?_;clear F;rintro m σ' H' ⟨_,_,pl,L,zs,rfl,rfl,g1,g2,g3,g4,F⟩
   repeat k_meth
   refine fB (λh=>?_) (λh=>?_)
   ·refine⟨λσ' H'=>∃m',m'<_/\_,λσ' H' h=>h,?_⟩
    repeat k_meth
    rename_i o3_ _;refine lG (λm σ' H'=>∃(k2:Nat),σ'=[some (.int (n:Nat)),some (.ref l),some (.ref cp),o3_,some (.int ((2 ^ k2:Nat):Int)),some (.ref fd),some (.int (pl:Nat))]/\n-2 ^ k2=m/\2 ^ k2<=n/\(k2=0\/C (tkF ts) n pl k2)/\SH H [] H' [(fd,.lst zs),(cp,.lst ((clF (tkF ts) n).map V.int))] [.tps zs (au L)]) ⟨_,0,rfl,rfl,by simp only[Nat.pow_zero];lia,.inl rfl,F⟩ ?_;clear F;rintro m2 σ' H' ⟨k2,rfl,rfl,hk1,hk,F⟩;have pk:=pos2 k2;have sk:=eO k2;have ll:((clF (tkF ts) n).map V.int).length=n:=by rw[wS,qU]
    repeat k_meth
    refine fB (λh1=>?_) (λh1=>?_)
    ·repeat k_meth
     refine fB (λh2=>?_) (λh2=>?_)
     ·repeat k_meth
      rw[show (pl:Int)+2*((2 ^ k2:Nat):Int)=((pl+2 ^ (k2+1):Nat):Int) by lia,QW (by lia) (by rw[ll];lia),show pl+2 ^ (k2+1)-pl=2 ^ (k2+1) by lia,<- List.map_drop,<- List.map_take] at F;refine⟨p_,((clF (tkF ts) n).drop pl).take (2 ^ (k2+1)),rfl,SqA.e,λx hx=>by have:=N5 x hx;lia,by rw[nE];lia,?_⟩
      repeat k_meth
      have sz:=QV (tk:=tkF ts) (n:=n) (p:=pl) (z:=2 ^ (k2+1)) (by lia);refine fB (λh3=>?_) (λh3=>?_)
      ·refine⟨λσ' H'=>∃m',m'<_/\_,λσ' H' h=>h,?_⟩
       repeat k_meth
       rw[show 2*((2 ^ k2:Nat):Int)=((2 ^ (k2+1):Nat):Int) by lia];exact⟨n-2 ^ (k2+1),by lia,k2+1,rfl,rfl,by lia,.inr ⟨by rw[show 2*((2 ^ k2:Nat):Int)=((2 ^ (k2+1):Nat):Int) by lia] at h1;lia,by lia,sz.mp h3⟩,F.sub SbC.s SbI.s⟩
      ·have nC:¬ C (tkF ts) n pl (k2+1):=λz=>h3 (sz.mpr z.2.2)
       repeat k_meth
       have a1:AtI ((clF (tkF ts) n).map V.int) (pl:Int) (.int (if tkF ts pl=true then 1 else 0)):=⟨gO (by rw[vE,kI (by lia)];rfl)⟩;cases ht:tkF ts pl with
       | true =>
        rw[ht,yB rfl] at a1;have k0:k2=0:=by
         rcases hk with h9|h9
         ·exact h9
         ·have:=h9.2.2 pl (rS _) (by lia);rw[ht] at this;cases this
        subst k0
        repeat k_meth
        rw[show (pl:Int)+((2 ^ 0:Nat):Int)=((pl+1:Nat):Int) by simp];exact⟨n-(pl+1),by lia,_,_,pl+1,L,zs,rfl,rfl,by lia,by lia,g3,λl' h'=>g4 l' (.skip (by lia) ht h'),F.sub SbC.s SbI.s⟩
       | false =>
        rw[ht,yT (by decide)] at a1;have hC:C (tkF ts) n pl k2:=by
         rcases hk with rfl|h9
         ·exact⟨Nat.mod_one _,by simp only[Nat.pow_zero];lia,λc c1 c2=>by rw[show c=pl by simp only[Nat.pow_zero] at c2;lia];exact ht⟩
         ·exact h9
        have le2:=hC.2.1;have zl2:zs.length<sizeLine:=by rw[sizeLine_eq];lia
        repeat k_meth
        rw[show (pl:Int)+((2 ^ k2:Nat):Int)=((pl+2 ^ k2:Nat):Int) by lia];have tt:aB H_ (zs++[.ref p_]) (au (L++[(pl,2 ^ k2)])):=by
         rw[eZ];exact aB.snoc TpA.e aZ
        exact⟨n-(pl+2 ^ k2),by lia,_,_,pl+2 ^ k2,L++[(pl,2 ^ k2)],zs++[.ref p_],rfl,rfl,by lia,by rw[List.length_append];simp only[List.length_cons,List.length_nil];lia,by rw[List.length_append,List.length_append,g3];rfl,λl' h'=>by rw[List.append_assoc];exact g4 _ (.out (by lia) hC nC h'),(F.bQ tt).sub SbC.s SbI.s⟩
     ·have nC:¬ C (tkF ts) n pl (k2+1):=λz=>by have:=z.2.1;lia
      repeat k_meth
      have a1:AtI ((clF (tkF ts) n).map V.int) (pl:Int) (.int (if tkF ts pl=true then 1 else 0)):=⟨gO (by rw[vE,kI (by lia)];rfl)⟩;cases ht:tkF ts pl with
      | true =>
       rw[ht,yB rfl] at a1;have k0:k2=0:=by
        rcases hk with h9|h9
        ·exact h9
        ·have:=h9.2.2 pl (rS _) (by lia);rw[ht] at this;cases this
       subst k0
       repeat k_meth
       rw[show (pl:Int)+((2 ^ 0:Nat):Int)=((pl+1:Nat):Int) by simp];exact⟨n-(pl+1),by lia,_,_,pl+1,L,zs,rfl,rfl,by lia,by lia,g3,λl' h'=>g4 l' (.skip (by lia) ht h'),F.sub SbC.s SbI.s⟩
      | false =>
       rw[ht,yT (by decide)] at a1;have hC:C (tkF ts) n pl k2:=by
        rcases hk with rfl|h9
        ·exact⟨Nat.mod_one _,by simp only[Nat.pow_zero];lia,λc c1 c2=>by rw[show c=pl by simp only[Nat.pow_zero] at c2;lia];exact ht⟩
        ·exact h9
       have le2:=hC.2.1;have zl2:zs.length<sizeLine:=by rw[sizeLine_eq];lia
       repeat k_meth
       rw[show (pl:Int)+((2 ^ k2:Nat):Int)=((pl+2 ^ k2:Nat):Int) by lia];have tt:aB H_ (zs++[.ref p_]) (au (L++[(pl,2 ^ k2)])):=by
        rw[eZ];exact aB.snoc TpA.e aZ
       exact⟨n-(pl+2 ^ k2),by lia,_,_,pl+2 ^ k2,L++[(pl,2 ^ k2)],zs++[.ref p_],rfl,rfl,by lia,by rw[List.length_append];simp only[List.length_cons,List.length_nil];lia,by rw[List.length_append,List.length_append,g3];rfl,λl' h'=>by rw[List.append_assoc];exact g4 _ (.out (by lia) hC nC h'),(F.bQ tt).sub SbC.s SbI.s⟩
    ·have nC:¬ C (tkF ts) n pl (k2+1):=λz=>h1 (by
      have:=z.1;rw[show 2*((2 ^ k2:Nat):Int)=((2 ^ (k2+1):Nat):Int) by lia]
      lia)
     repeat k_meth
     have a1:AtI ((clF (tkF ts) n).map V.int) (pl:Int) (.int (if tkF ts pl=true then 1 else 0)):=⟨gO (by rw[vE,kI (by lia)];rfl)⟩;cases ht:tkF ts pl with
     | true =>
      rw[ht,yB rfl] at a1;have k0:k2=0:=by
       rcases hk with h9|h9
       ·exact h9
       ·have:=h9.2.2 pl (rS _) (by lia);rw[ht] at this;cases this
      subst k0
      repeat k_meth
      rw[show (pl:Int)+((2 ^ 0:Nat):Int)=((pl+1:Nat):Int) by simp];exact⟨n-(pl+1),by lia,_,_,pl+1,L,zs,rfl,rfl,by lia,by lia,g3,λl' h'=>g4 l' (.skip (by lia) ht h'),F.sub SbC.s SbI.s⟩
     | false =>
      rw[ht,yT (by decide)] at a1;have hC:C (tkF ts) n pl k2:=by
       rcases hk with rfl|h9
       ·exact⟨Nat.mod_one _,by simp only[Nat.pow_zero];lia,λc c1 c2=>by rw[show c=pl by simp only[Nat.pow_zero] at c2;lia];exact ht⟩
       ·exact h9
      have le2:=hC.2.1;have zl2:zs.length<sizeLine:=by rw[sizeLine_eq];lia
      repeat k_meth
      rw[show (pl:Int)+((2 ^ k2:Nat):Int)=((pl+2 ^ k2:Nat):Int) by lia];have tt:aB H_ (zs++[.ref p_]) (au (L++[(pl,2 ^ k2)])):=by
       rw[eZ];exact aB.snoc TpA.e aZ
      exact⟨n-(pl+2 ^ k2),by lia,_,_,pl+2 ^ k2,L++[(pl,2 ^ k2)],zs++[.ref p_],rfl,rfl,by lia,by rw[List.length_append];simp only[List.length_cons,List.length_nil];lia,by rw[List.length_append,List.length_append,g3];rfl,λl' h'=>by rw[List.append_assoc];exact g4 _ (.out (by lia) hC nC h'),(F.bQ tt).sub SbC.s SbI.s⟩
   ·have ge:=g4 [] (.done (by lia));rw[mP] at ge;have ef:=QF hp (lH n2) ge
    repeat k_meth
    have t9:aB H' zs (au L):=TpA.e;rw[ef] at t9;exact k _ zs _ SH.nwC t9
end
open M22 M44
section
variable{H0 H:Hp}{M:List Addr}{L L':List (Addr×HO)}{I:List Im}{P:Addr}{pos:Pos}{qual:Str}{ps:xI}{C q l:Addr}{th:THd}{D:Ends}{σ:L2.St}{gs:List (Str×V)}{Q:VK}{E:XK}{ys:List V}{ts:xD}
instance U0[F:SH H0 M H L I][u:LkU L P (.tbl ps) L']:Go (∀d H',Kp P H H'->H' P=some (.tbl ps)->TabOk pos qual ps H'->H' d=some (jf d gs)->tEX th D σ (.ref C) (some d) H') (∀(H':Hp)(a dx:Addr),SH H0 M H' L' (jC pos qual ps::I)->mG H' a C gs->th D C a (some dx) σ H'):=⟨λk d H' f e t e2=>⟨C,rfl,λa ha=>k _ a d (((F.kp f e u.u rfl).nO t).same (Same.new ha)) (mG.mk e2 ha)⟩⟩
instance R8:NeS "largest" "size":=⟨by decide⟩
instance Zh{K:W.Frag}{H:Hp}{Q:VK}{p q:Addr}{xs ys:List V}{ts:xD}[h:Hat H p (.lst xs)][h2:Hat H q (.lst ys)][t:TpA H xs (au ts)][t2:TpA H ys (au ts)]:Go (P_ K (.ref p) (.ref q) H Q) (Q (.bl false) H):=⟨z8 (rT (SqL.of h.e) t.e (DP _)) (rT (SqL.of h2.e) t2.e (DP _)) (oC (vR _) (by decide))⟩
instance VL{H:Hp}{Q:VK}{E:XK}{l:Addr}{ys:List V}{ts:xD}[h:Hat H l (.lst ys)][t:TpA H ys (au ts)]:Go (Dc [.ref l] H Q E) (Sd (ts.length<=1000) (∀H',Same H H'->Q (.bl true) H')):=⟨λk=>⟨l,ys,ts,rfl,h.e,t.e,k.1,k.2⟩⟩
end
theorem N6{K:W.Frag}{H:Hp}{tq q:Addr}{i:Int}{zs:List V}{ws:xD}(h:H tq=some (.tup [.int i,.ref q]))(hq:H q=some (.lst zs))(tp:aB H zs (au ws)):Rep K H (.tup [.int i,.lst ((au ws).map qe)]) (.ref tq):=by
 have hr:Rep K H (.lst ((au ws).map qe)) (.ref q):=rT (SqL.of hq) tp (DP _);rw[Rep];refine⟨tq,_,rfl,SqT.of h,?_⟩;simp only[cU];exact⟨_,_,rfl,by simp[Rep],_,_,rfl,hr,rfl⟩
theorem U3{i:Int}{ws:xD}:fM (.tup [.int i,.lst ((au ws).map qe)])<=100:=by
 have:=vR (au ws);simp only[fM,fO] at *
 lia
section
variable{K:W.Frag}{H:Hp}{Q:VK}{tq tq2 q q2:Addr}{i j:Int}{zs zs2:List V}{ws:xD}
instance Zi[h:Hat H tq (.tup [.int i,.ref q])][h2:Hat H tq2 (.tup [.int i,.ref q2])][a:Hat H q (.lst zs)][b:Hat H q2 (.lst zs2)][t:TpA H zs (au ws)][t2:TpA H zs2 (au ws)]:Go (KC K (.ref tq) (.ref tq2) H Q) (Q (.bl true) H):=⟨z9 (N6 h.e a.e t.e) (N6 h2.e b.e t2.e) U3⟩
theorem qW{p:Addr}(h:H p=some (.tup [.int i,.int j])):Rep K H (.tup [.int i,.int j]) (.ref p):=by
 simp only[Rep];exact⟨p,_,rfl,SqT.of h,by simp[cU,Rep]⟩
theorem Ho:fM (.tup [.int i,.int j])<=100:=by
 simp only[fM,fO]
 decide
instance aaU[h:Hat H tq (.tup [.int i,.int j])][h2:Hat H tq2 (.tup [.int i,.int j])]:Go (KC K (.ref tq) (.ref tq2) H Q) (Q (.bl true) H):=⟨z9 (qW h.e) (qW h2.e) Ho⟩
instance aaV[h:Hat H tq (.tup [.int i,.int j])][h2:Hat H tq2 (.tup [.int i,.int j])]:Go (P_ K (.ref tq) (.ref tq2) H Q) (Q (.bl false) H):=⟨z8 (qW h.e) (qW h2.e) Ho⟩
end
def qx(CV CP P:Addr)(pos:Pos)(qual:Str):Sp:=λvs H Q _=>∃(y dy x l dx:Addr)(n z:Nat)(ys:List V)(ts:xD)(ps:xI)(wy:Int),vs=[.ref y,.int (z:Nat),.int (fH 0 (bO (frP n ts))),.int wy]/\Hv CV CP H y dy x l dx n ys ts/\(1<=z/\z<=1000000000000000000000000000000000)/\H P=some (.tbl ps)/\TabOk pos qual ps H/\qF (bF (frP n ts)) (cG z:Nat)/\∀ps' H',Kp P H H'->H' P=some (.tbl ps')->TabOk pos qual ps' H'->Q (.bl true) H'
def uK(CV CP P:Addr)(pos:Pos)(qual:Str):Sp:=λvs H Q _=>∃(y dy x l dx tq q:Addr)(n z:Nat)(ys zs:List V)(ts:xD)(w:Nat×Nat)(ps:xI),vs=[.ref y,.int (z:Nat),.ref tq]/\Hv CV CP H y dy x l dx n ys ts/\(1<=z/\z<=1000000000000000000000000000000000)/\H P=some (.tbl ps)/\TabOk pos qual ps H/\pQ (bF (frP n ts)) (cG z:Nat) w /\
 H tq=some (.tup [.int (w.1:Nat),.ref q])/\H q=some (.lst zs)/\aB H zs (au (kE (bF (frP n ts)) (cG z:Nat)))/\∀ps' H',Kp P H H'->H' P=some (.tbl ps')->TabOk pos qual ps' H'->Q (.bl true) H'
section
variable{P:Program}{w:World}{K:W.Frag}{mg:xC}{base:Heap}{c:Nat->Addr}{aG ak R CP CV CB:Addr}
theorem lV(T:Txt K mg c R CP CV CB aG ak):Uw P w K mg base "_law_whole" ["_law_thing"] (jX K):=by
 refine Qx T.uw lE (λvs H Q E h=>?_) (λ_ _ _ _ _ _=>el1 λ_=>rfl) (λf cdv A outer s H vs Q h=>?_)
 ·obtain⟨x,n,rfl,_⟩:=h
  rfl
 ·obtain⟨x,n,rfl,ty,k⟩:=h;have nd:=lE.nd;refine⟨_,(aD (aM (fJ (bN fP rfl T.cD boot_isinstance (aj (pv 0) (aj (m_ (T := "int") rfl T.GR boot_int) ao))) (gG (xV (bN fP rfl T.cD boot_isinstance (aj (pv 0) (aj (m_ (T := "bool") rfl T.za boot_bool) ao)))))))),?_⟩;clear nd ;rw[show start ["_law_thing"] [x]=[some (x)] from rfl]
  try dsimp only[cC,bI]
  obtain⟨aX,aL,aY⟩:=zsix T;have F:SH H [] H [] []:=SH.nil;have o_x:DY K H [] x n:=⟨ty,λ_ _ z=>by cases z⟩
  repeat k_meth
  cases x with
  | int i =>
   rw[show yg (.int i)=true from rfl]
   repeat k_meth
   exact k
  | bl b =>
   rw[show yg (.bl b)=true from rfl]
   repeat k_meth
   exact k
  | _ =>
   first|rw[show yg _=false from rfl]|skip
   repeat k_meth
   exact k
theorem iz(T:Txt K mg c R CP CV CB aG ak)(B:Bm mg base):Def P w K mg base CX0 21 "_law_refused" ["_law_rule","_law_size_here","_law_largest","_law_way"] (qx CV CP ak cY cF):=by
 have cR:=cR (P:=P) (w:=w) (base:=base) T B;have fG:=fG (P:=P) (w:=w) (base:=base) T B;have lV:=lV (P:=P) (w:=w) (base:=base) T;refine bM T.ux ql (λvs H Q E h=>?_) (λ_ _ _ _ _ _=>el4 λ_ _ _ _=>rfl) (λf cdv A outer s H vs Q E hr h=>?_)
 ·obtain⟨y,dy,x,l,dx,n,z,ys,ts,ps,wy,rfl,_⟩:=h
  rfl
 ·obtain⟨y,dy,x,l,dx,n,z,ys,ts,ps,wy,rfl,nx,side,hP,tk,f0,k⟩:=h;have nd:=ql.nd;refine⟨_,(aq (Tj (λpins EX=>(aD (bZ (bw jF (pv 3) aC (bD _)) (aD (cL (Gf (pv 0) T.clV cR hr (aj (pv 1) ao)))) (aD (cL (Gf (pv 0) T.clV fG hr (aj (pv 1) ao))))))) (Wh (i:=4) T.dR.gl (λa=>(aD (aM (fJ (Qy lV hr rfl (aj (yr T.dR.I.g T.eG (pv 4)) ao)) (fJ (fK (MF hr rfl) (bK (aj (yr T.dR.I.g T.i_ (pv 4)) (aj (yr T.dR.I.g T.eG (pv 4)) ao))) (bK (aj (pv 1) (aj (pv 2) ao))) (bD _)) (gG (bN Ig rfl T.cD boot_isinstance (aj (pv 4) (aj (zL (v:=.ref R) ⟨_,T.g_R,rfl⟩) ao))))))))) Ti nd rfl rfl))
   (aD (aM iB))),?_⟩
  clear nd cR fG lV;rw[show start ["_law_rule","_law_size_here","_law_largest","_law_way","e"] [.ref y,.int (z:Nat),.int (fH 0 (bO (frP n ts))),.int wy]=[some (.ref y),some (.int (z:Nat)),some (.int (fH 0 (bO (frP n ts)))),some (.int wy),none] from rfl]
  try dsimp only[cC,bI]
  obtain⟨hy,pk⟩:=nx;obtain⟨hx,hl,tp,gt⟩:=id pk;obtain⟨n1,n2,gd,tl⟩:=id gt;have yl:=aA tp;obtain⟨aX,aL,aY⟩:=zsix T;have VN:ExM K (c 0) (c 0) true:=⟨Ke T.dR.I⟩;have VP:ExM K (c 0) R true:=⟨Tn T.dR.I T.c_R T.t_R T.m_R⟩;obtain⟨z1,z2⟩:=id side;have fl:=eF n2 gd;have tln:=gw (frP n ts);have nxP:x≠ak:=λe=>by rw[e,hP] at hx;cases hx
  have nyP:y≠ak:=λe=>by rw[e,hP] at hy;cases hy
  have nlP:l≠ak:=λe=>by rw[e,hP] at hl;cases hl
  have F:SH H [ak] H [(ak,.tbl ps)] [.tps ys (au ts),jC cY cF ps]:=((SH.nil.jh List.mem_cons_self hP rfl (by simp)).nO tk).bQ tp;have kj:=Old.mk (M:=[ak]) hx (nm1 nxP);have pP:=Old.mk (M:=[ak]) hy (nm1 nyP);have gK:=Old.mk (M:=[ak]) hl (nm1 nlP)
  repeat k_meth
  refine fB (λh=>?_) (λh=>?_)
  ·repeat k_meth
   intro ps2
   repeat k_meth
   rw[show isW (V.int (fH 0 (bO (frP n ts))))=true from rfl];have F0:=F;clear F;have F:SH H_ [] H_ [] []:=SH.nil
   repeat k_meth
   refine⟨a_,_,_,R,_,true,rfl,exA_.e.same F.sm,T.dR.I,zU T.dR.I T.c_R T.t_R,?_⟩
   repeat k_meth
   replace F0:=F0.same F.sm;clear F;exact k ps2 _ F0.kpo aZ SH.tab
  ·repeat k_meth
   intro ps2
   repeat k_meth
   rw[show isW (V.int (fH 0 (bO (frP n ts))))=true from rfl];have F0:=F;clear F;have F:SH H_ [] H_ [] []:=SH.nil
   repeat k_meth
   refine⟨a_,_,_,R,_,true,rfl,exA_.e.same F.sm,T.dR.I,zU T.dR.I T.c_R T.t_R,?_⟩
   repeat k_meth
   replace F0:=F0.same F.sm;clear F;exact k ps2 _ F0.kpo aZ SH.tab
theorem lY(T:Txt K mg c R CP CV CB aG ak)(B:Bm mg base):Def P w K mg base CX0 20 "_law_looked" ["_law_rule","_law_size_here","_law_due"] (uK CV CP ak cY cF):=by
 have cR:=cR (P:=P) (w:=w) (base:=base) T B;have b_:=b_ (P:=P) (w:=w) (base:=base) T;have iT:=iT (P:=P) (w:=w) (base:=base) T;refine bM T.wW tU (λvs H Q E h=>?_) (λ_ _ _ _ _ _=>el3 λ_ _ _=>rfl) (λf cdv A outer s H vs Q E hr h=>?_)
 ·obtain⟨y,dy,x,l,dx,tq,q,n,z,ys,zs,ts,w,ps,rfl,_⟩:=h
  rfl
 ·obtain⟨y,dy,x,l,dx,tq,q,n,z,ys,zs,ts,w,ps,rfl,nx,side,hP,tk,f0,ht,hq,tz,k⟩:=h;have nd:=tU.nd;refine⟨_,(aq (bC (i:=3) nd rfl (Or.inl rfl) (g8 (pv 0) T.clV cR hr (aj (pv 1) ao) (hx:=Du)))
   (aq (bZ (PW.pt (iC (cT (cu (bN fP rfl T.cD boot_isinstance (aj (pv 3) (aj (m_ (T := "tuple") rfl T.zf boot_tuple) ao))))) (iC (bw Jt (bN jg rfl T.wX boot_len (aj (pv 3) ao)) aC (bD _)) (iC (cT (cu (aK b_ hr (aj (bJ bH (pv 3) aC (λ_ _=>rfl)) ao)))) (jN (cT (cu (aK iT hr (aj (bJ bH (pv 3) aC (λ_ _=>rfl)) ao))))))))) (aD (aM iB)) bA)
   (aq (bC (i:=4) nd rfl (Or.inl rfl) (fK (zX hr) (pv 3) (pv 2) (bD _)))
   (aq (cL (dG (bJ bH (pv 3) aC (λ_ _=>rfl)) (bK (aj aC (aj aC ao)))))
   (aD (aM (fJ (pv 4) (gG (fK (zX hr) (g8 (pv 0) T.clV cR hr (aj (pv 1) ao) (hx:=Du)) (pv 2) (bD _)))))))))),?_⟩
  clear nd cR b_ iT;rw[show start ["_law_rule","_law_size_here","_law_due","_law_told","_law_fine"] [.ref y,.int (z:Nat),.ref tq]=[some (.ref y),some (.int (z:Nat)),some (.ref tq),none,none] from rfl]
  try dsimp only[cC,bI]
  obtain⟨hy,pk⟩:=nx;obtain⟨hx,hl,tp,gt⟩:=id pk;obtain⟨n1,n2,gd,tl⟩:=id gt;have yl:=aA tp;obtain⟨aX,aL,aY⟩:=zsix T;obtain⟨z1,z2⟩:=id side;have fl:=eF n2 gd;have tln:=gw (frP n ts);have nxP:x≠ak:=λe=>by rw[e,hP] at hx;cases hx
  have nyP:y≠ak:=λe=>by rw[e,hP] at hy;cases hy
  have nlP:l≠ak:=λe=>by rw[e,hP] at hl;cases hl
  have F:SH H [ak] H [(ak,.tbl ps)] [.tps ys (au ts),jC cY cF ps]:=((SH.nil.jh List.mem_cons_self hP rfl (by simp)).nO tk).bQ tp;have kj:=Old.mk (M:=[ak]) hx (nm1 nxP);have pP:=Old.mk (M:=[ak]) hy (nm1 nyP);have gK:=Old.mk (M:=[ak]) hl (nm1 nlP);have ntP:tq≠ak:=λe=>by rw[e,hP] at ht;cases ht
  have nqP:q≠ak:=λe=>by rw[e,hP] at hq;cases hq
  have abZ:=Old.mk (M:=[ak]) ht (nm1 ntP);have uY:=Old.mk (M:=[ak]) hq (nm1 nqP);replace F:=F.bQ tz
  repeat k_meth
  intro ps2
  repeat k_meth
  intro q2 zs2;have pl:=Nz (bF (frP n ts)) (cG z:Nat)
  repeat k_meth
  rw[show isW (V.int (w.1:Nat))=true from rfl];have zl2:zs2.length<sizeLine:=by
   have:=aA (TpA.e:aB H_ zs2 (au (kE (bF (frP n ts)) (cG z:Nat))));rw[sizeLine_eq]
   lia
  repeat k_meth
  intro ps3
  repeat k_meth
  intro q3 zs3
  repeat k_meth
  exact k ps3 _ F.kpo aZ SH.tab
end
open M22 M44
def xP(CV CP P:Addr)(pos:Pos)(qual:Str):Sp:=λvs H Q _=>∃(y dy x l dx l2:Addr)(n:Nat)(ys ys2:List V)(ts:xD)(ps:xI)(wy:Int),vs=[.ref y,.int (n:Nat),.ref l2,.int wy]/\Hv CV CP H y dy x l dx n ys ts/\H P=some (.tbl ps)/\TabOk pos qual ps H/\H l2=some (.lst ys2)/\aB H ys2 (au ts)/\∀ps' H',Kp P H H'->H' P=some (.tbl ps')->TabOk pos qual ps' H'->Q (.bl true) H'
def NV(wy:Int)(i:Nat)(j:Int):Prop:=∀k:Nat,k<i->((k:Int)+wy) % 3≠j
theorem N7{wy j:Int}{i:Nat}(h:((i:Int)+wy) % 3=j)(hi:i<3):NV wy i j:=λk hk=>by lia
theorem NV.dn{wy j:Int}{i:Nat}(h:NV wy (i+1) j):NV wy i j:=λk hk=>h k (by lia)
theorem N8(ws:xD):(kh ws).length=ws.length:=(pO ws).length_eq
section
variable{H:Hp}{Q:VK}{E:XK}{n:Nat}{l:Addr}{ys:List V}{ts:xD}
instance XS[h:Hat H l (.lst ys)][t:TpA H ys (au ts)][g:GtA n ts]:Go (Dd [.int (n:Nat),.ref l] H Q E) (∀p zs H',New H H' p (.lst zs)->aB H' zs (au (frP n ts))->Q (.ref p) H'):=⟨λk=>⟨n,l,ys,ts,rfl,g.lo,g.hi,h.e,t.e,g.gd.pc,k⟩⟩
end
section
variable{P:Program}{w:World}{K:W.Frag}{mg:xC}{base:Heap}{c:Nat->Addr}{aG ak R CP CV CB:Addr}
theorem uL(T:Txt K mg c R CP CV CB aG ak):Ms K mg "_law_by_size":=HasDef.sw T.wV rfl ⟨rfl,rfl,rfl,by decide +kernel,by decide +kernel,by decide⟩ (λ_ _ _ _ _ _=>el1 λ_=>rfl)
theorem kJ(T:Txt K mg c R CP CV CB aG ak)(B:Bm mg base):Def P w K mg base CX0 19 "_law_state" ["_law_rule","_law_many_here","_law_taken","_law_way"] (xP CV CP ak cY cF):=by
 have iU:=iU (P:=P) (w:=w) (base:=base) T;have fD:=fD (P:=P) (w:=w) (base:=base) T B;have bV:=bV (P:=P) (w:=w) (base:=base) T;have lO:=lO (P:=P) (w:=w) (base:=base) T;have b_:=b_ (P:=P) (w:=w) (base:=base) T;have eV:=eV (P:=P) (w:=w) (base:=base) T;have bW:=bW (P:=P) (w:=w) (base:=base) T;have jt:=jt (P:=P) (w:=w) (base:=base) T;have oK:=oK (P:=P) (w:=w) (base:=base) T;have iT:=iT (P:=P) (w:=w) (base:=base) T;refine bM T.BX wB (λvs H Q E h=>?_) (λ_ _ _ _ _ _=>el4 λ_ _ _ _=>rfl) (λf cdv A outer s H vs Q E hr h=>?_)
 ·obtain⟨y,dy,x,l,dx,l2,n,ys,ys2,ts,ps,wy,rfl,_⟩:=h
  rfl
 ·obtain⟨y,dy,x,l,dx,l2,n,ys,ys2,ts,ps,wy,rfl,nx,hP,tk,hl2,tp2,k⟩:=h;have nd:=wB.nd;refine⟨_,(aq (bC (i:=4) nd rfl (Or.inl rfl) (aK iU hr (aj (pv 1) (aj (pv 2) ao))))
   (aq (gP (i:=5) nd rfl (Or.inl rfl) (N:=["_law_start","_law_size_here"]) (nt:=2) (fr:=[]) (cM (pv 4)) (λ_ _ _ _=>(FJ (K:=K) (n:=2) rfl rfl (dX (bL (i:=0) (show (["_law_start","_law_size_here"]:List Str).Nodup from by decide +kernel) rfl (Or.inl rfl)) (dX (bL (i:=1) (show (["_law_start","_law_size_here"]:List Str).Nodup from by decide +kernel) rfl (Or.inl rfl)) kW)))) (λ_ _ _ _=>kZ) (λ_ _ _ _=>(pv 1)))
   (aq (bC (i:=6) nd rfl (Or.inl rfl) (bB (aj (dW (pv 0) T.clV fD hr) (aj (dW (pv 0) T.clV bV hr) (aj (dW (pv 0) T.clV lO hr) ao)))))
   (aq (bC (i:=7) nd rfl (Or.inl rfl) (bB (aj (vY (uL T) rfl hr rfl T.jq (aj (pv 4) ao)) (aj (pv 4) (aj (bN qg rfl T.jq boot_sorted (aj (pv 2) ao)) ao)))))
   (aq (jQ PassesOwn.never rfl (u_ rfl T.zj (aj aC ao)) (bL (i:=8) nd rfl (Or.inl rfl)) (aq (bC (i:=9) nd rfl (Or.inl rfl) (bJ d9 (pv 6) (aV dF (aV cJ (pv 8) (pv 3)) aC) (λ_ _=>rfl)))
    (aq (bZ (PW.pt (iC (cT (cu (aK iT hr (aj (pv 9) ao)))) (jN (bw (zY hr) (pv 9) (bJ d9 (pv 7) (aV dF (aV cJ (pv 8) (pv 3)) aC) (λ_ _=>rfl)) (bD _))))) (aD (aM iB)) bA)
    (aD (cL (dG (pv 9) (bK (aj aC (aj (pv 1) ao)))))))))
   (aq (bZ (bw (zY hr) (bK (aj (dW (pv 0) T.clV eV hr) (aj (dW (pv 0) T.clV bW hr) ao))) (bK (aj (bN (oX rfl) rfl T.GX boot_sum (aj (pv 5) ao)) (aj (yt (oY rfl) rfl T.B_ boot_max (aj (pv 5) ao) aC) ao))) (bD _)) (aD (aM iB)) bA)
   (aD (aM (fJ (aK b_ hr (aj (dW (pv 0) T.clV jt hr) ao)) (fJ (fK jF (dW (pv 0) T.clV jt hr) aC (bD _)) (gG (fK jF (dW (pv 0) T.clV oK hr) Jh (bD _))))))))))))),?_⟩
  clear nd iU fD bV lO b_ eV bW jt oK iT;rw[show start ["_law_rule","_law_many_here","_law_taken","_law_way","_law_holes","_law_sizes","_law_orders","_law_dues","_law_k","_law_told"] [.ref y,.int (n:Nat),.ref l2,.int wy]=[some (.ref y),some (.int (n:Nat)),some (.ref l2),some (.int wy),none,none,none,none,none,none] from rfl]
  try dsimp only[cC,bI]
  obtain⟨hy,pk⟩:=nx;obtain⟨hx,hl,tp,gt⟩:=id pk;obtain⟨n1,n2,gd,tl⟩:=id gt;have yl:=aA tp;obtain⟨aX,aL,aY⟩:=zsix T;have fl:=eF n2 gd;have tln:=gw (frP n ts);have nxP:x≠ak:=λe=>by rw[e,hP] at hx;cases hx
  have nyP:y≠ak:=λe=>by rw[e,hP] at hy;cases hy
  have nlP:l≠ak:=λe=>by rw[e,hP] at hl;cases hl
  have F:SH H [ak] H [(ak,.tbl ps)] [.tps ys (au ts),jC cY cF ps]:=((SH.nil.jh List.mem_cons_self hP rfl (by simp)).nO tk).bQ tp;have kj:=Old.mk (M:=[ak]) hx (nm1 nxP);have pP:=Old.mk (M:=[ak]) hy (nm1 nyP);have gK:=Old.mk (M:=[ak]) hl (nm1 nlP);have U4:l2≠ak:=λe=>by rw[e,hP] at hl2;cases hl2
  have abp:=Old.mk (M:=[ak]) hl2 (nm1 U4);replace F:=F.bQ tp2;have yl2:=aA tp2;have sd1:(frP n ts).length<=1000/\(frP n ts).Nodup/\∀w∈frP n ts,w.1<1000000:=⟨by have:=eF n2 gd;lia,lD n2 gd,λw hw=>by have:=gU n2 gd hw;lia⟩;have e7:(au (frP n ts)).map (λr=>r.getD 1 V.non)=(bO (frP n ts)).map V.int:=by simp[au,bO]
  have e8:(bO (frP n ts)).length=(frP n ts).length:=by simp[bO]
  have side:ts.length<=1000/\ts.Nodup/\∀w∈ts,w.2<1000000:=⟨by lia,gd.nodup,λw hw=>by have:=gd.len hw;lia⟩
  repeat k_meth
  obtain⟨hA,e⟩:∃x,x=p_:=⟨_,rfl⟩;subst e;obtain⟨zh,e⟩:∃x,x=ys_:=⟨_,rfl⟩;subst e;have zl_:=aA (TpA.e:aB H_ zh (au (frP n ts)));refine su (F:=λr=>r.getD 1 .non) aZ TpA.e rfl (λr hr=>by obtain⟨w,_,rfl⟩:=qA.mp hr;exact⟨_,_,rfl⟩) (by lia) rfl (λa b H7 R hr s7 kk=>?_) ?_
  ·clear F
   repeat k_meth
   exact kk _ (Same.refl _)
  rw[e7]
  repeat k_meth
  obtain⟨sA,e⟩:∃x,x=p_:=⟨_,rfl⟩;subst e;intro ps2
  repeat k_meth
  intro qs hq;have eq:=uH hq.1 hq.2;subst eq
  repeat k_meth
  intro qs hq2;have eq:=Hi hq2.1 hq2.2;subst eq
  repeat k_meth
  obtain⟨dq,e⟩:∃x,x=p_:=⟨_,rfl⟩;subst e;obtain⟨d3,e⟩:∃x,x=p_:=⟨_,rfl⟩;subst e;obtain⟨d1,e⟩:∃x,x=p_:=⟨_,rfl⟩;subst e;obtain⟨oq,e⟩:∃x,x=p_:=⟨_,rfl⟩;subst e;obtain⟨o3,e⟩:∃x,x=p_:=⟨_,rfl⟩;subst e;obtain⟨o2,e⟩:∃x,x=p_:=⟨_,rfl⟩;subst e;obtain⟨o1,e⟩:∃x,x=p_:=⟨_,rfl⟩;subst e;obtain⟨zd3,e⟩:∃x,x=ys_:=⟨_,rfl⟩;subst e;obtain⟨zd1,e⟩:∃x,x=ys_:=⟨_,rfl⟩;subst e;obtain⟨zo3,e⟩:∃x,x=ys_:=⟨_,rfl⟩;subst e;obtain⟨zo2,e⟩:∃x,x=ys_:=⟨_,rfl⟩;subst e;obtain⟨zo1,e⟩:∃x,x=ys_:=⟨_,rfl⟩;subst e;have rln:=N8 ts;have l1:zo1.length<sizeLine:=by have:=aA (TpA.e:aB H_ zo1 (au (bF (frP n ts))));rw[sizeLine_eq];lia
  have l2_:zo2.length<sizeLine:=by have:=aA (TpA.e:aB H_ zo2 (au (frP n ts)));rw[sizeLine_eq];lia
  have l3:zo3.length<sizeLine:=by have:=aA (TpA.e:aB H_ zo3 (au (kh ts)));rw[sizeLine_eq];lia
  refine Ae (λi σ' H'=>∃(w8 w9:Option V)(c1 c2 c3:List V),σ'=[some (.ref y),some (.int (n:Nat)),some (.ref l2),some (.int wy),some (.ref hA),some (.ref sA),some (.ref oq),some (.ref dq),w8,w9]/\(NV wy i 0->c1=zo1)/\(NV wy i 1->c2=zo2)/\(NV wy i 2->c3=zo3)/\SH H [ak] H' [(oq,.lst [.ref o1,.ref o2,.ref o3]),(dq,.lst [.ref d1,.ref hA,.ref d3]),(o1,.lst c1),(o2,.lst c2),(o3,.lst c3),(d1,.lst zd1),(d3,.lst zd3),(sA,.lst ((bO (frP n ts)).map V.int)),(hA,.lst zh),(ak,.tbl ps2)] [.tps zo1 (au (bF (frP n ts))),.tps zo2 (au (frP n ts)),.tps zo3 (au (kh ts)),.tps zd1 (au (bF (frP n ts))),.tps zd3 (au (kh ts)),.tps zh (au (frP n ts)),.tps ys (au ts),jC cY cF ps2]) ⟨_,_,zo1,zo2,zo3,rfl,λ_=>rfl,λ_=>rfl,λ_=>rfl,F.sub SbC.s SbI.s⟩ ?_ ?_
  ·clear F;rintro i σ' H' hi ⟨_,_,c1,c2,c3,rfl,n1_,n2_,n3_,F⟩;have hi:i<3:=hi;have hj3:((i:Int)+wy) % 3=0\/((i:Int)+wy) % 3=1\/((i:Int)+wy) % 3=2:=by lia
   repeat k_meth
   rcases hj3 with hj|hj|hj
   ·obtain rfl:zo1=c1:=(n1_ (N7 hj hi)).symm;rw[hj]
    repeat k_meth
    rw[hj]
    repeat k_meth
    exact⟨_,_,zo1++[.ref p_],c2,c3,rfl,λh=>gS hj (h i (by lia)),λh=>n2_ h.dn,λh=>n3_ h.dn,F.sub SbC.s SbI.s⟩
   ·obtain rfl:zo2=c2:=(n2_ (N7 hj hi)).symm;rw[hj]
    repeat k_meth
    rw[hj]
    repeat k_meth
    exact⟨_,_,c1,zo2++[.ref p_],c3,rfl,λh=>n1_ h.dn,λh=>gS hj (h i (by lia)),λh=>n3_ h.dn,F.sub SbC.s SbI.s⟩
   ·obtain rfl:zo3=c3:=(n3_ (N7 hj hi)).symm;rw[hj]
    repeat k_meth
    rw[hj]
    repeat k_meth
    exact⟨_,_,c1,c2,zo3++[.ref p_],rfl,λh=>n1_ h.dn,λh=>n2_ h.dn,λh=>gS hj (h i (by lia)),F.sub SbC.s SbI.s⟩
  ·clear F;rintro σ' H' ⟨_,_,c1,c2,c3,rfl,_,_,_,F⟩
   repeat k_meth
   refine w_sumL (ns:=bO (frP n ts)) SqA.e (λn hn=>by obtain⟨w,hw,rfl⟩:=qA.mp hn;have:=gU n2 gd hw;lia) (by lia) ?_
   repeat k_meth
   refine DK (ns:=bO (frP n ts)) SqA.e (λn hn=>by obtain⟨w,hw,rfl⟩:=qA.mp hn;lia) ?_
   repeat k_meth
   rw[show isW (V.int 0)=true from rfl]
   repeat k_meth
   exact k ps2 _ F.kpo aZ SH.tab
end
open M22 M44
theorem IW{l l':List Int}(p:l.Perm l'):∀d,fH d l=fH d l':=by
 unfold fH
 induction p with
 | nil=>exact λd=>rfl
 | cons x _ ih=>exact λd=>ih (max d x)
 | swap x y l=>exact λd=>by rw[List.foldl_cons,List.foldl_cons,List.foldl_cons,List.foldl_cons,show max (max d y) x=max (max d x) y by lia]
 | trans _ _ h1 h2=>exact λd=>(h1 d).trans (h2 d)
theorem X3:(10:Int) ^ Int.toNat 29=100000000000000000000000000000:=by decide +kernel
theorem I_(ws:xD):fH 0 (bO (bF ws))=fH 0 (bO ws):=IW ((iy ws).map _) 0
theorem N_{ws:xD}{i:Nat}{w:Nat×Nat}(e:ws[i]?=some w):au (ws.take (i+1))=au (ws.take i)++[[V.int (w.1:Nat),V.int (w.2:Nat)]]:=by
 rw[gL,e];unfold au;rw[List.map_append]
 rfl
theorem xQ{H H':Hp}{P l l2:Addr}{pos:Pos}{qual:Str}{ps':xI}{ys ys2 ys' Ja:List V}{rs:List (List V)}{R:Prop}(hl:H l=some (.lst ys))(hl2:H l2=some (.lst ys2))(ne:l≠l2)(fr:∀b u,b≠P->b≠l->b≠l2->H b=some u->H' b=some u)(eP:H' P=some (.tbl ps'))(tk:TabOk pos qual ps' H')(el:H' l=some (.lst ys'))(el2:H' l2=some (.lst Ja))(t1:aB H' ys' rs)
  (k:∀H1,Kp P H H1->H1 P=some (.tbl ps')->TabOk pos qual ps' H1->∀H2,Kp l H1 H2->H2 l=some (.lst ys')->aB H2 ys' rs->Kp l2 H2 H'->R):R:=by
 let H2:Hp:=λb=>if b=l2 then some (.lst ys2) else H' b
 have h2l:H2 l2=some (.lst ys2):=yB rfl;have h2n:∀{b:Addr},b≠l2->H2 b=H' b:=λn=>yT n
 have tk2:TabOk pos qual ps' H2:=by
  rcases tk with h|⟨c',oc,vs,t,e,e1,e2⟩
  ·exact .inl h
  ·refine .inr ⟨c',oc,vs,t,e,?_,e2⟩;rw[h2n (λz=>by rw[z,el2] at e1;cases e1)];exact e1
 refine two_tabL (H':=H2) hl (λb u n1 n2 e=>?_) (by rw[h2n (λz=>by rw[z,el2] at eP;cases eP)];exact eP) tk2 (by rw[h2n ne];exact el) λH1 a1 a2 a3 a4=>k H1 a1 a2 a3 H2 a4 (by rw[h2n ne];exact el) ⟨t1.1,λj r e=>?_⟩ (λb u nb e=>by rw[<- h2n nb];exact e)
 ·by_cases hb:b=l2
  ·rw[hb,h2l,<- hl2,<- hb];exact e
  ·rw[h2n hb];exact fr b u n1 n2 hb e
 ·obtain⟨q,e1,e2⟩:=t1.2 j r e;exact⟨q,e1,by rw[h2n (λz=>by rw[z,el2] at e2;cases e2)];exact e2⟩
def Jb(CV CP P:Addr)(pos:Pos)(qual:Str):Sp:=λvs H Q _=>∃(y dy x l dx l2:Addr)(n z:Nat)(ys ys2:List V)(ts:xD)(ps:xI)(wy:Int),vs=[.ref y,.int (n:Nat),.ref l2,.int (z:Nat),.int wy]/\Hv CV CP H y dy x l dx n ys ts/\(1<=z/\z<=1000000000000000000000000000000000)/\H P=some (.tbl ps)/\TabOk pos qual ps H/\H l2=some (.lst ys2)/\aB H ys2 (au ts)/\l≠l2 /\
 ((∃w,pQ (bF (frP n ts)) (cG z:Nat) w/\∀ps' H1,Kp P H H1->H1 P=some (.tbl ps')->TabOk pos qual ps' H1->∀ys' H2,Kp l H1 H2->H2 l=some (.lst ys')->aB H2 ys' (au (ts++[(w.1,cG z)]))->∀Ja H3,Kp l2 H2 H3->H3 l2=some (.lst Ja)->aB H3 Ja (au (ts++[(w.1,cG z)]))->Q (.bl true) H3)\/(qF (bF (frP n ts)) (cG z:Nat)/\∀ps' H',Kp P H H'->H' P=some (.tbl ps')->TabOk pos qual ps' H'->Q (.bl true) H'))
def Oa:Sp:=λvs H Q _=>∃(n:Nat)(cl:Int)(d:Addr)(ds:List Int),vs=[.int (n:Nat),.int cl,.ref d]/\n<=240/\H d=some (.lst (ds.map V.int))/\ds.length=5/\(∀e∈ds,0<=e/\e<10 ^ 6)/\∀(z:Nat) H',1<=z->z<=1000000000000000000000000000000000->Same H H'->Q (.int (z:Nat)) H'
section
variable{CV CP y dy x dx l q tq P:Addr}{n z:Nat}{ys zs:List V}{ts:xD}{w:Nat×Nat}{H:Hp}{Q:VK}{E:XK}{H0:Hp}{M:List Addr}{L:List (Addr×HO)}{I:List Im}{pos:Pos}{qual:Str}{ps:xI}{wy:Int}
instance U5[F:SH H0 M H L I][h:HvA CV CP H y dy x l dx n ys ts][e:LkL L P (.tbl ps)][tb:nQ I pos qual ps][f:pQ (bF (frP n ts)) (cG z:Nat) w][ht:Hat H tq (.tup [.int (w.1:Nat),.ref q])][hq:Hat H q (.lst zs)][tz:TpA H zs (au (kE (bF (frP n ts)) (cG z:Nat)))]:Go (uK CV CP P pos qual [.ref y,.int (z:Nat),.ref tq] H Q E) (Sd (1<=z/\z<=1000000000000000000000000000000000) (∀ps' H',Kp P H H'->H' P=some (.tbl ps')->TabOk pos qual ps' H'->Q (.bl true) H')):=⟨λk=>⟨y,dy,x,l,dx,tq,q,n,z,ys,zs,ts,w,ps,rfl,h.e,k.1,F.raw e.m,F.im _ tb.m,f,ht.e,hq.e,tz.e,k.2⟩⟩
instance R9[F:SH H0 M H L I][h:HvA CV CP H y dy x l dx n ys ts][e:LkL L P (.tbl ps)][tb:nQ I pos qual ps][f:qF (bF (frP n ts)) (cG z:Nat)]:Go (qx CV CP P pos qual [.ref y,.int (z:Nat),.int (fH 0 (bO (frP n ts))),.int wy] H Q E) (Sd (1<=z/\z<=1000000000000000000000000000000000) (∀ps' H',Kp P H H'->H' P=some (.tbl ps')->TabOk pos qual ps' H'->Q (.bl true) H')):=⟨λk=>⟨y,dy,x,l,dx,n,z,ys,ts,ps,wy,rfl,h.e,k.1,F.raw e.m,F.im _ tb.m,f,k.2⟩⟩
end
section
variable{P:Program}{w:World}{K:W.Frag}{mg:xC}{base:Heap}{c:Nat->Addr}{aG ak R CP CV CB:Addr}
theorem oO(T:Txt K mg c R CP CV CB aG ak)(B:Bm mg base):Def P w K mg base CX0 22 "_law_asked" ["_law_rule","_law_many_here","_law_taken","_law_size_here","_law_way"] (Jb CV CP ak cY cF):=by
 have iU:=iU (P:=P) (w:=w) (base:=base) T;have iz:=iz (P:=P) (w:=w) (base:=base) T B;have fX:=fX (P:=P) (w:=w) (base:=base) T;have fG:=fG (P:=P) (w:=w) (base:=base) T B;have b_:=b_ (P:=P) (w:=w) (base:=base) T;have lY:=lY (P:=P) (w:=w) (base:=base) T B;refine bM T.BZ wC (λvs H Q E h=>?_) (λ_ _ _ _ _ _=>el5 λ_ _ _ _ _=>rfl) (λf cdv A outer s H vs Q E hr h=>?_)
 ·obtain⟨y,dy,x,l,dx,l2,n,z,ys,ys2,ts,ps,wy,rfl,_⟩:=h
  rfl
 ·obtain⟨y,dy,x,l,dx,l2,n,z,ys,ys2,ts,ps,wy,rfl,nx,side,hP,tk,hl2,tp2,nll,kk⟩:=h;have nd:=wC.nd;refine⟨_,(aq (bC (i:=5) nd rfl (Or.inl rfl) (bB ao))
   (aq (jQ PassesOwn.never rfl (cM (vY (uL T) rfl hr rfl T.jq (aj (aK iU hr (aj (pv 1) (aj (pv 2) ao))) ao))) (xW rfl (dX (bL (i:=6) nd rfl (Or.inl rfl)) (dX (bL (i:=7) nd rfl (Or.inl rfl)) kW))) (aq (bZ (bw Ju (pv 7) (aK fX hr (aj (pv 3) ao)) (bD _)) (aq (bZ (PW.pt (xU (bw jF (aV dF (pv 4) aC) aC (bD _)) (xT (cT (cu (aK lY hr (aj (pv 0) (aj (pv 3) (aj (bK (aj (pv 6) (aj (pv 5) ao))) ao))))))))) (aD (aM iB)) bA)
     (aq (bC (i:=8) nd rfl (Or.inl rfl) (g8 (pv 0) T.clV fG hr (aj (pv 3) ao) (hx:=Du)))
     (aq (cL (dG (pv 2) (bK (aj (pv 6) (aj (aK fX hr (aj (pv 3) ao)) ao)))))
     (aD (aM (fJ (aK b_ hr (aj (pv 8) ao)) (gG (fK jF (pv 8) (pv 6) (bD _))))))))) bA)
    (aD (cL (dG (pv 5) (bK (aj (pv 6) (aj (pv 7) ao))))))))
   (aq (bC (i:=9) nd rfl (Or.inl rfl) (yt (oY rfl) rfl T.B_ boot_max (aj (nq (N:=["_law_start","_law_wide"]) (nt:=2) (fr:=[]) (cM (pv 5)) (λ_ _ _ _=>(FJ (K:=K) (n:=2) rfl rfl (dX (bL (i:=0) (show (["_law_start","_law_wide"]:List Str).Nodup from by decide +kernel) rfl (Or.inl rfl)) (dX (bL (i:=1) (show (["_law_start","_law_wide"]:List Str).Nodup from by decide +kernel) rfl (Or.inl rfl)) kW)))) (λ_ _ _ _=>kZ) (λ_ _ _ _=>(pv 1))) ao) aC))
   (aD (aM (fJ (aK iz hr (aj (pv 0) (aj (pv 3) (aj (pv 9) (aj (aV dF (pv 4) aC) ao))))) (gG (aK iz hr (aj (pv 0) (aj (pv 3) (aj (pv 9) (aj (aV dF (aV cJ (pv 4) aC) aC) ao)))))))))))),?_⟩
  clear nd iU iz fX fG b_ lY;rw[show start ["_law_rule","_law_many_here","_law_taken","_law_size_here","_law_way","_law_passed","_law_start","_law_wide","_law_told","_law_largest"] [.ref y,.int (n:Nat),.ref l2,.int (z:Nat),.int wy]=[some (.ref y),some (.int (n:Nat)),some (.ref l2),some (.int (z:Nat)),some (.int wy),none,none,none,none,none] from rfl]
  try dsimp only[cC,bI]
  obtain⟨hy,pk⟩:=nx;obtain⟨hx,hl,tp,gt⟩:=id pk;obtain⟨n1,n2,gd,tl⟩:=id gt;have yl:=aA tp;have nxl:x≠l:=λe=>by rw[e,hl] at hx;cases hx
  have nyl:y≠l:=λe=>by rw[e,hl] at hy;cases hy
  obtain⟨aX,aL,aY⟩:=zsix T;obtain⟨z1,z2⟩:=id side;have fl:=eF n2 gd;have tln:=gw (frP n ts);have nxP:x≠ak:=λe=>by rw[e,hP] at hx;cases hx
  have nyP:y≠ak:=λe=>by rw[e,hP] at hy;cases hy
  have nlP:l≠ak:=λe=>by rw[e,hP] at hl;cases hl
  have sd1:(frP n ts).length<=1000/\(frP n ts).Nodup/\∀w∈frP n ts,w.1<1000000:=⟨by have:=eF n2 gd;lia,lD n2 gd,λw hw=>by have:=gU n2 gd hw;lia⟩;have U4:l2≠ak:=λe=>by rw[e,hP] at hl2;cases hl2
  have aaW:x≠l2:=λe=>by rw[e,hl2] at hx;cases hx
  have aaX:y≠l2:=λe=>by rw[e,hl2] at hy;cases hy
  have yl2:=aA tp2;have F:SH H [ak,l,l2] H [(ak,.tbl ps),(l,.lst ys),(l2,.lst ys2)] [.tps ys2 (au ts),.tps ys (au ts),jC cY cF ps]:=(((((SH.nil.jh (by simp) hl2 rfl (by simp)).jh (by simp) hl rfl (by simpa using λe=>nll e.symm)).jh (by simp) hP rfl (by simp[nlP,U4]))).nO tk).bQ tp |>.bQ tp2;have kj:=Old.mk (M:=[ak,l,l2]) hx (by simp[nxP,nxl,aaW]);have pP:=Old.mk (M:=[ak,l,l2]) hy (by simp[nyP,nyl,aaX])
  repeat k_meth
  obtain⟨hA,e⟩:∃x,x=p_:=⟨_,rfl⟩;subst e;obtain⟨pa,e⟩:∃x,x=p_:=⟨_,rfl⟩;subst e;intro qs hq;have eq:=uH hq.1 hq.2;subst eq
  repeat k_meth
  obtain⟨sA,e⟩:∃x,x=p_:=⟨_,rfl⟩;subst e;obtain⟨zs,e⟩:∃x,x=ys_:=⟨_,rfl⟩;subst e;obtain⟨zh,e⟩:∃x,x=ys_:=⟨_,rfl⟩;subst e;have zl:=aA (TpA.e:aB H_ zs (au (bF (frP n ts))));refine k_ (xs:=zs) (λi σ' H'=>∃(w6 w7:Option V)(zp:List V),σ'=[some (.ref y),some (.int (n:Nat)),some (.ref l2),some (.int (z:Nat)),some (.int wy),some (.ref pa),w6,w7,none,none]/\zp.length=i/\(∀w∈(bF (frP n ts)).take i,¬ ((cG z:Nat):Int)<=(w.2:Int))/\SH H [ak,l,l2] H' [(pa,.lst zp),(sA,.lst zs),(ak,.tbl ps),(l,.lst ys),(l2,.lst ys2)] [.tps zp (au ((bF (frP n ts)).take i)),.tps zs (au (bF (frP n ts))),.tps ys2 (au ts),.tps ys (au ts),jC cY cF ps]) ⟨_,_,[],rfl,rfl,by simp,(F.bQ (ys:=[]) (rs:=au ((bF (frP n ts)).take 0)) (by rw[List.take_zero];exact aB.nil)).sub SbC.s SbI.s⟩ ?_ ?_ ?_
  ·clear F;rintro i σ' H' _ ⟨_,_,zp,rfl,zpl,hn,F⟩;exact SqA.e
  ·clear F;rintro i v σ' H' hv ⟨_,_,zp,rfl,zpl,hn,F⟩;have hi:=(qE.mp hv).1;obtain⟨w,q1,e1,rfl,e2⟩:=fV (H:=H') (ws:=bF (frP n ts)) TpA.e hv;replace F:=F.DQ e2;by_cases hs:((cG z:Nat):Int)<=(w.2:Int)
   ·rcases kk with⟨w',f,k⟩|⟨f,k⟩
    ·have hw:w'=w:=by
      have h2:=zx e1 (p:=λw=>decide (((cG z:Nat):Int)<=(w.2:Int))) (by simpa using hs) (λz hz=>by simpa using hn z hz);rw[f.e] at h2;exact nS h2
     subst hw;rw[<- zy e1 hs hn] at F
     repeat k_meth
     refine fB (λh2=>?_) (λh2=>?_)
     ·repeat k_meth
      intro ps2
      repeat k_meth
      intro ps3
      repeat k_meth
      intro ys'
      repeat k_meth
      rw[show isW (V.int (w'.1:Nat))=true from rfl]
      repeat k_meth
      rw[uB rfl];exact xQ hl hl2 nll (λb u n1 n2 n3 e=>F.fr b u (by simp[n1,n2,n3]) e) aZ SH.tab aZ aZ TpA.e λH1 a1 a2 a3 H2 a4 a5 a6 a7=>k _ H1 a1 a2 a3 _ H2 a4 a5 a6 _ _ a7 aZ (by rw[eZ];exact aB.snoc TpA.e aZ)
     ·repeat k_meth
      intro ps3
      repeat k_meth
      intro ys'
      repeat k_meth
      rw[show isW (V.int (w'.1:Nat))=true from rfl]
      repeat k_meth
      rw[uB rfl];exact xQ hl hl2 nll (λb u n1 n2 n3 e=>F.fr b u (by simp[n1,n2,n3]) e) aZ SH.tab aZ aZ TpA.e λH1 a1 a2 a3 H2 a4 a5 a6 a7=>k _ H1 a1 a2 a3 _ H2 a4 a5 a6 _ _ a7 aZ (by rw[eZ];exact aB.snoc TpA.e aZ)
    ·exact absurd (by simpa using List.find?_eq_none.mp f.e w (List.mem_of_getElem? e1)) (by simpa using hs)
   ·have al:zp.length<sizeLine:=qV (m:=2000) (by lia) (cO (by lia))
    repeat k_meth
    have F2:=SH.app (ys:=zp) (rs:=au ((bF (frP n ts)).take i)) (q:=p_) (r:=[V.int (w.1:Nat),V.int (w.2:Nat)]) F (LkP.m) (LkI.m);refine⟨_,_,zp++[.ref p_],rfl,by rw[yY,zpl];rfl,λv hv=>?_,by rw[N_ e1];exact F2.sub SbC.s SbI.s⟩;rw[gL,e1] at hv;rcases wT.mp hv with hv|hv
    ·exact hn v hv
    ·simp at hv;rw[hv];exact hs
  ·clear F;rintro σ' H' ⟨_,_,zp,rfl,zpl,hn,F⟩;rw[zl,List.take_length] at hn F;rcases kk with⟨w',f,k⟩|⟨f,k⟩
   ·exact absurd (List.find?_some f.e) (by simpa using hn w' (List.mem_of_find?_eq_some f.e))
   ·have e7:(au (bF (frP n ts))).map (λr=>r.getD 1 V.non)=(bO (bF (frP n ts))).map V.int:=by simp[au,bO]
    repeat k_meth
    refine su (F:=λr=>r.getD 1 .non) aZ TpA.e rfl (λr hr=>by obtain⟨w,_,rfl⟩:=qA.mp hr;exact⟨_,_,rfl⟩) (by lia) rfl (λa b H7 R hr s7 kk=>?_) ?_
    ·clear F
     repeat k_meth
     exact kk _ (Same.refl _)
    rw[e7]
    repeat k_meth
    refine DK (ns:=bO (bF (frP n ts))) SqA.e (λn hn=>by obtain⟨w,hw,rfl⟩:=qA.mp hn;lia) ?_;rw[I_]
    repeat k_meth
    intro ps2
    repeat k_meth
    intro ps3
    repeat k_meth
    refine k ps3 _ (λb u nb e=>?_) aZ SH.tab;by_cases h1:b=l
    ·rw[h1,hl] at e;cases e;rw[h1];exact aZ
    ·by_cases h2:b=l2
     ·rw[h2,hl2] at e;cases e;rw[h2];exact aZ
     ·exact F.fr b u (by simp[nb,h1,h2]) e
theorem qX(T:Txt K mg c R CP CV CB aG ak):Def P w K mg base CX0 1 "_law_size" ["_law_many_here","_law_cell_here","_law_draws_here"] Oa:=by
 refine bM T.GQ Bp (λvs H Q E h=>?_) (λ_ _ _ _ _ _=>el3 λ_ _ _=>rfl) (λf cdv A outer s H vs Q E hr h=>?_)
 ·obtain⟨n,cl,d,ds,rfl,_⟩:=h
  rfl
 ·obtain⟨n,cl,d,ds,rfl,n2,hd,dl,db,k⟩:=h;have nd:=Bp.nd;refine⟨_,(aq (bZ (bw jF (aV dF (bJ d9 (pv 2) aC (λ_ _=>rfl)) aC) aC (bD _)) (aD (aM (aV cJ (aV cJ (pv 0) aC) (aV dF (pv 1) (aV rB aC aC))))) bA)
   (aD (aM (aV cJ aC (aV dF (bJ d9 (pv 2) aC (λ_ _=>rfl)) (bJ d9 (bB (aj aC (aj aC (aj aC (aj (aV cJ (pv 0) aC) (aj aC ao)))))) (aV dF (aV eU (bJ d9 (pv 2) aC (λ_ _=>rfl)) aC) aC) (λ_ _=>rfl))))))),?_⟩
  clear nd ;rw[show start ["_law_many_here","_law_cell_here","_law_draws_here"] [.int (n:Nat),.int cl,.ref d]=[some (.int (n:Nat)),some (.int cl),some (.ref d)] from rfl]
  try dsimp only[cC,bI]
  obtain⟨aX,aL,aY⟩:=zsix T;have F:SH H [] H [] []:=SH.nil;obtain⟨a,b,c,e,g,rfl⟩:∃a b c e g,ds=[a,b,c,e,g]:=match ds,dl with|[a,b,c,e,g],_=>⟨a,b,c,e,g,rfl⟩
  have ha:=db a (by simp);have hb:=db b (by simp);have hd2:H d=some (.lst [.int a,.int b,.int c,.int e,.int g]):=hd;have ab1:=Old.mk (M:=[]) hd2 nm0
  repeat k_meth
  refine fB (λh=>?_) (λh=>?_)
  ·repeat k_meth
   rw[X3];have r1:=Int.emod_nonneg cl (show (100000000000000000000000000000:Int)≠0 by decide);have r2:=Int.emod_lt_of_pos cl (show (0:Int)<100000000000000000000000000000 by decide)
   generalize cl % 100000000000000000000000000000=r at *
   rw[show (n:Int)+1+r=(((n:Int)+1+r).toNat:Int) by lia];exact k _ _ (by lia) (by lia) F.sm
  ·repeat k_meth
   refine Wy SqA.e (by lia) (by simp only[List.length_cons,List.length_nil];lia) λv hv=>?_
   obtain⟨m,rfl,hm1,hm2⟩:∃m:Int,v=.int m/\1<=m/\m<=260:=by
    simp only[List.mem_cons,List.not_mem_nil,or_false] at hv;rcases hv with rfl|rfl|rfl|rfl|rfl <;> exact⟨_,rfl,by lia,by lia⟩
   repeat k_meth
   have r1:=Int.emod_nonneg b (show m≠0 by lia);have r2:=Int.emod_lt_of_pos b (show 0<m by lia)
   generalize b % m=r at *
   rw[show 1+r=((1+r).toNat:Int) by lia];exact k _ _ (by lia) (by lia) F.sm
end
end K45
namespace K45
open PySem L2 PyProof.Rows
local macro_rules|`(tactic| k_room)=>`(tactic| first
 | with_reducible assumption
 | with_unfolding_all exact rfl
 | with_unfolding_all exact Nat.le_of_ble_eq_true rfl
 | lia
 | (with_reducible refine cO ?_;first|lia|(simp only[List.length_cons,List.length_nil,List.length_map,List.length_append,List.length_replicate,aA,List.length_take,List.length_drop,List.length_set];lia))
 | (with_reducible refine rW ?_;first|lia|(simp only[List.length_cons,List.length_nil,List.length_map,List.length_append,List.length_replicate,aA,List.length_take,List.length_drop,List.length_set];lia))
 | (simp only[List.length_cons,List.length_nil,List.length_map,List.length_append,List.length_replicate,aA,List.length_take,List.length_drop,List.length_set];lia)
 | decide)
local macro_rules|`(tactic| k_mem)=>`(tactic| first
 | with_reducible assumption
 | decide
 | lia
 | (simp only[List.length_cons,List.length_nil,List.length_map,List.length_append,List.length_replicate,aA,List.length_take,List.length_drop,List.length_set];lia))
set_option hygiene false in
local macro_rules|`(tactic| k_meth)=>`(tactic| first
 | (with_reducible refine Gs e_ ?_;try clear e_ D_)
 | (with_reducible refine aay ?_;intro D_ (e_:EnT _ _ _))
 | with_reducible refine go1 ?_
 | (clear F;intro H_ a_ dx_ (F:SH _ _ _ _ _) (ex_:mG _ _ _ _);have exA_:=ExA.mk ex_)
 | (clear F;intro H_ (F:SH _ _ _ _ _))
 | (clear F;intro H_ p_ (F:SH _ _ _ _ _))
 | (clear F;intro H_ x_ dx_ (F:SH _ _ _ _ _))
 | (clear F;intro H_ p_ ys_ l_ (F:SH _ _ _ _ _))
 | with_reducible refine sd (by k_room) ?_
 | (intro (r_:Int) (x_:Int) (y_:Int) (z_:Int) lo_ hi_)
 | (intro (x_:Int) (y_:Int))
 | (intro (c_:Int))
 | with_reducible refine Kw (by k_mem) ?_
 | with_reducible refine Ky (by k_mem) ?_
 | with_reducible refine Dw (by k_mem) ?_
 | with_reducible refine Ni (by k_mem) ?_)
open M22 M44
theorem Jc{ts:xD}{w:Nat×Nat}{j:Nat}(nd:ts.Nodup)(e:ts[j]?=some w):ts.erase w=ts.eraseIdx j:=by
 obtain⟨i,h1,h2,h3,h4⟩:=sU (wE e);have hj:=(qE.mp e).1;have:i=j:=by
  have a:=(qE.mp h2).2;have b:=(qE.mp e).2;exact(List.getElem_inj nd).mp (a.trans b.symm)
 rw[h4,this]
def zB(P:Addr)(K:W.Frag):Sp:=λvs H Q _=>∃(a:Addr)(ns:List Int),vs=[.ref a]/\SqL K H a (ns.map V.int)/\ns.length<=63/\H P=some (.tbl #[])/\a≠P/\∀H',Q (.bl true) H'
theorem Jd{n:Nat}{w:Nat×Nat}{d:Int}(pc:Pc n w.1 w.2)(n2:n<=240):∃z:Nat,(w.2:Int)-d % max 1 ((w.2:Int) / 2)=(z:Nat)/\1<=z/\z<=240/\cG z=w.2:=by
 obtain⟨k,e,_,h⟩:=pc;have pk:=pos2 k;have hm:(0:Int)<max 1 ((w.2:Int) / 2):=by lia
 have r1:=Int.emod_nonneg d (Int.ne_of_gt hm);have r2:=Int.emod_lt_of_pos d hm
 generalize d % max 1 ((w.2:Int) / 2)=r at *
 refine⟨((w.2:Int)-r).toNat,by lia,by lia,by lia,?_⟩;rw[e];cases k with
 | zero=>exact Nv (by lia) (by lia) (.inl rfl)
 | succ k =>
  have:=eO k;exact Nv (by lia) (by lia) (.inr (by simp only[Nat.add_sub_cancel];lia))
section
variable{CV CP y dy x dx l l2 P:Addr}{n:Nat}{ys ys2:List V}{ts:xD}{H:Hp}{Q:VK}{E:XK}{H0:Hp}{M:List Addr}{L:List (Addr×HO)}{I:List Im}{pos:Pos}{qual:Str}{ps:xI}{wy:Int}
instance VR[F:SH H0 M H L I][h:HvA CV CP H y dy x l dx n ys ts][e:LkL L P (.tbl ps)][tb:nQ I pos qual ps][h2:Hat H l2 (.lst ys2)][t2:TpA H ys2 (au ts)]:Go (xP CV CP P pos qual [.ref y,.int (n:Nat),.ref l2,.int wy] H Q E) (∀ps' H',Kp P H H'->H' P=some (.tbl ps')->TabOk pos qual ps' H'->Q (.bl true) H'):=⟨λk=>⟨y,dy,x,l,dx,l2,n,ys,ys2,ts,ps,wy,rfl,h.e,F.raw e.m,F.im _ tb.m,h2.e,t2.e,k⟩⟩
end
section
variable{P:Program}{w:World}{K:W.Frag}{mg:xC}{base:Heap}{c:Nat->Addr}{aG ak R CP CV CB:Addr}
theorem U6(T:Txt K mg c R CP CV CB aG ak)(B:Bm mg base){f:Addr}{fd:FuncData}(F:Fun K "law" "law" oh f fd):f9 P w K mg base CX0 23 f fd ["_law_script"] (zB ak K):=by
 have qT:=qT (P:=P) (w:=w) (base:=base) T;have oJ:=oJ (P:=P) (w:=w) (base:=base) T;have kJ:=kJ (P:=P) (w:=w) (base:=base) T B;have qQ:=qQ (P:=P) (w:=w) (base:=base) T;have gD:=gD (P:=P) (w:=w) (base:=base) T;have qX:=qX (P:=P) (w:=w) (base:=base) T;have dU:=dU (P:=P) (w:=w) (base:=base) T;have lQ:=lQ (P:=P) (w:=w) (base:=base) T;have oO:=oO (P:=P) (w:=w) (base:=base) T B;have b_:=b_ (P:=P) (w:=w) (base:=base) T;have fX:=fX (P:=P) (w:=w) (base:=base) T;refine Px F M_ (λvs H Q E h=>?_) (λcdv A outer s H vs Q E hr h=>?_)
 ·obtain⟨a,ns,rfl,_⟩:=h
  rfl
 ·obtain⟨a,ns,rfl,hs,hn,hP,nP,k⟩:=h;have nd:=M_.nd;refine⟨_,(aq (bC (i:=1) nd rfl (Or.inl rfl) (aK qT hr (aj (aK qQ hr (aj (pv 0) (aj aC ao))) ao)))
   (aq (bC (i:=2) nd rfl (Or.inl rfl) (FT oJ hr (aj (pv 1) ao)))
   (aq (bC (i:=3) nd rfl (Or.inl rfl) (bB ao))
   (aq (jQ PassesOwn.never rfl (cM (zJ zW (pv 0) (qH aC) (qH aC))) (bL (i:=4) nd rfl (Or.inl rfl)) (aq (bC (i:=5) nd rfl (Or.inl rfl) (aK gD hr (aj (pv 4) (aj aC ao))))
    (aq (bZ (PW.pt (xU (bw jF (aV dF (bJ d9 (pv 5) aC (λ_ _=>rfl)) aC) aC (bD _)) (xT (bw (Ug hr) (pv 3) (bB ao) (bD _))))) (aq (Df (Qk (pv 3) (aV dF (bJ d9 (pv 5) aC (λ_ _=>rfl)) (bN jg rfl T.wX boot_len (aj (pv 3) ao)))) (xW rfl (dX (bL (i:=6) nd rfl (Or.inl rfl)) (dX (bL (i:=7) nd rfl (Or.inl rfl)) kW))))
     (aD (cL (g8 (pv 2) T.clV lQ hr (aj (pv 6) (aj (aV Dh (pv 7) (aV dF (bJ d9 (pv 5) aC (λ_ _=>rfl)) (bN (Ii rfl) rfl T.B_ boot_max (aj aC (aj (aV eU (pv 7) aC) ao))))) ao)))))) bA)
    (aq (bZ (cT (cu (aK kJ hr (aj (pv 2) (aj (pv 1) (aj (pv 3) (aj (bJ d9 (pv 5) aC (λ_ _=>rfl)) ao))))))) (aD (aM iB)) bA)
    (aq (bC (i:=7) nd rfl (Or.inl rfl) (aK qX hr (aj (pv 1) (aj (pv 4) (aj (pv 5) ao)))))
    (aq (bC (i:=8) nd rfl (Or.inl rfl) (g8 (pv 2) T.clV dU hr (aj (pv 7) ao)))
    (aq (bZ (PW.pt (iC (cT (cu (aK b_ hr (aj (pv 8) ao)))) (jN (bw Jt (pv 8) (aK fX hr (aj (pv 7) ao)) (bD _))))) (aD (aM iB)) bA)
    (aD (bZ (cT (cu (aK oO hr (aj (pv 2) (aj (pv 1) (aj (pv 3) (aj (pv 7) (aj (bJ d9 (pv 5) aC (λ_ _=>rfl)) ao)))))))) (aD (aM iB)) bA)))))))))
   (aD (aM (aK kJ hr (aj (pv 2) (aj (pv 1) (aj (pv 3) (aj (bN jg rfl T.wX boot_len (aj (pv 0) ao)) ao))))))))))),?_⟩
  clear nd qT oJ kJ qQ gD qX dU lQ oO b_ fX;rw[show start ["_law_script","_law_many_here","_law_rule","_law_taken","_law_cell_here","_law_draws_here","_law_start","_law_size_here","_law_used"] [.ref a]=[some (.ref a),none,none,none,none,none,none,none,none] from rfl]
  try dsimp only[cC,bI]
  obtain⟨aX,aL,aY⟩:=zsix T;have F:SH H [ak] H [(ak,.tbl #[])] [jC cY cF #[]]:=(SH.nil.jh List.mem_cons_self hP rfl (by simp)).nO (.inl rfl);have ab2:=TV.mk (M:=[ak]) hs (nm1 nP);have nl:(ns.map V.int).length=ns.length:=wS ..
  repeat k_meth
  refine⟨a,ns,0,rfl,SqA.e,λc0=>?_⟩
  repeat k_meth
  refine⟨c0,rfl,λn H1 n1 n2 s1=>?_⟩;replace F:=F.same s1
  repeat k_meth
  obtain⟨sl,e⟩:∃x,x=p_:=⟨_,rfl⟩;subst e;obtain⟨l2,e⟩:∃x,x=p_:=⟨_,rfl⟩;subst e;obtain⟨l,e⟩:∃x,x=p_:=⟨_,rfl⟩;subst e;obtain⟨x,e⟩:∃x,x=x_:=⟨_,rfl⟩;subst e;obtain⟨y,e⟩:∃x,x=x_:=⟨_,rfl⟩;subst e;obtain⟨dx,e⟩:∃x,x=dx_:=⟨_,rfl⟩;subst e;obtain⟨dy,e⟩:∃x,x=dx_:=⟨_,rfl⟩;subst e;have cl:=pY (ns.map V.int) (some 1) (some 63);rw[wS] at cl;have ci:∀v∈rE (ns.map V.int) (some 1) (some 63),∃z:Int,v=.int z:=λv hv=>by
   obtain⟨z,_,rfl⟩:=qA.mp (oQ (oP hv));exact⟨z,rfl⟩
  generalize rE (ns.map V.int) (some 1) (some 63)=xs at *
  refine k_ (xs:=xs) (λi σ' H'=>∃(w4 w5 w6 w7 w8:Option V)(ts:xD)(ys ys2:List V)(ps:xI),σ'=[some (.ref a),some (.int (n:Nat)),some (.ref y),some (.ref l2),w4,w5,w6,w7,w8]/\Gd n ts/\ts.length<=i/\SH H [ak] H' [(y,.ins CV dy (vF x)),(x,.ins CP dx (pF n l)),(l,.lst ys),(l2,.lst ys2),(sl,.lst xs),(ak,.tbl ps)] [.tps ys (au ts),.tps ys2 (au ts),jC cY cF ps]) ⟨_,_,_,_,_,[],[],[],#[],rfl,Gd.nil,rS _,((F.bQ (ys:=[]) (rs:=au []) aB.nil).bQ (ys:=[]) (rs:=au []) aB.nil).sub SbC.s SbI.s⟩ ?_ ?_ ?_
  ·clear F;rintro i σ' H' hi ⟨_,_,_,_,_,ts,ys,ys2,ps,rfl,gd,tl,F⟩;exact SqA.e
  ·clear F;rintro i v σ' H' hv ⟨_,_,_,_,_,ts,ys,ys2,ps,rfl,gd,tl,F⟩;obtain⟨cl_,rfl⟩:=ci v (wE hv);have il:=(qE.mp hv).1;have gt:GtA n ts:=⟨n1,n2,gd,by lia⟩
   repeat k_meth
   refine⟨cl_,5,rfl,by decide,λds dA H2 hl hd nw=>?_⟩;obtain⟨d0,d1,d2,d3,d4,rfl⟩:∃a b c e g,ds=[a,b,c,e,g]:=match ds,hl with|[a,b,c,e,g],_=>⟨a,b,c,e,g,rfl⟩
   replace nw:New _ H2 dA (.lst [.int d0,.int d1,.int d2,.int d3,.int d4]):=nw;replace F:=F.newL nw
   repeat k_meth
   have rest:∀σ' H',(∃(w6 w7 w8:Option V)(ts:xD)(ys ys2:List V),σ'=[some (.ref a),some (.int (n:Nat)),some (.ref y),some (.ref l2),some (.int cl_),some (.ref dA),w6,w7,w8]/\Gd n ts/\ts.length<=i/\SH H [ak] H' [(dA,.lst [.int d0,.int d1,.int d2,.int d3,.int d4]),(y,.ins CV dy (vF x)),(x,.ins CP dx (pF n l)),(l,.lst ys),(l2,.lst ys2),(sl,.lst xs),(ak,.tbl ps)] [.tps ys (au ts),.tps ys2 (au ts),jC cY cF ps])->Ends.nx D_ σ' H':=by
    clear F gt gd tl;rintro σ' H' ⟨_,_,_,ts,ys,ys2,rfl,gd,tl,F⟩;have gt:GtA n ts:=⟨n1,n2,gd,by lia⟩;refine Gs e_ ?_
    repeat k_meth
    intro ps2
    repeat k_meth
    refine⟨n,cl_,dA,[d0,d1,d2,d3,d4],rfl,n2,aZ,rfl,hd,λz H3 z1 z2 s3=>?_⟩;replace F:=F.same s3
    repeat k_meth
    rw[show isW (V.int (cG z:Nat))=true from rfl]
    repeat k_meth
    have nll:l≠l2:=SH.neC (F:=F);rcases UW (bF (frP n ts)) ((cG z:Nat):Int) with⟨w,f⟩|f
    ·refine⟨y,dy,x,l,dx,l2,n,z,ys,ys2,ts,_,_,rfl,HvA.e,⟨z1,z2⟩,aZ,SH.tab,aZ,TpA.e,nll,.inl ⟨w,f,λps3=>?_⟩⟩
     repeat k_meth
     intro ys'
     repeat k_meth
     intro Ja
     repeat k_meth
     obtain⟨fa,_,_⟩:=C_ n2 gd z1 z2 f;exact⟨_,_,_,_,_,ts++[(w.1,cG z)],ys',Ja,ps3,rfl,gd.snoc fa.pc fa.ap,by rw[List.length_append];simp only[List.length_cons,List.length_nil];lia,F.sub SbC.s SbI.s⟩
    ·refine⟨y,dy,x,l,dx,l2,n,z,ys,ys2,ts,_,_,rfl,HvA.e,⟨z1,z2⟩,aZ,SH.tab,aZ,TpA.e,nll,.inr ⟨f,λps3=>?_⟩⟩
     repeat k_meth
     exact⟨_,_,_,_,_,ts,ys,ys2,ps3,rfl,gd,by lia,F.sub SbC.s SbI.s⟩
   clear e_;rcases D_ with⟨nx_,rt_,bk_,ct_⟩;dsimp only at rest;refine fB (λh1=>?_) (λh1=>?_)
   ·repeat k_meth
    by_cases e0:ys2=[]
    ·rw[uB e0]
     repeat k_meth
     exact rest _ _ ⟨_,_,_,ts,ys,ys2,rfl,gd,tl,F.sub SbC.s SbI.s⟩
    ·rw[uA e0];have tp2:aB H_ ys2 (au ts):=TpA.e;have yl2:=aA tp2;have y0:(0:Int)<(ys2.length:Int):=by have:=List.length_pos_iff.mpr e0;lia
     have sp:0<=d3 % (ys2.length:Int)/\d3 % (ys2.length:Int)<(ys2.length:Int)/\ys2.length<=1000000:=⟨Int.emod_nonneg d3 (Int.ne_of_gt y0),Int.emod_lt_of_pos d3 y0,by lia⟩
     repeat k_meth
     intro v hv;obtain⟨w,q,e1,rfl,e2⟩:=fV tp2 hv;have hm:=wE e1;have td:aB H_ (ys2.eraseIdx (d3 % (ys2.length:Int)).toNat) (au (ts.erase (w.1,w.2))):=by
      rw[show ts.erase (w.1,w.2)=_ from Jc gd.nodup e1,show ∀j,au (ts.eraseIdx j)=(au ts).eraseIdx j from λj=>by unfold au;exact yI _ ts j];exact Ay tp2 _
     replace F:=(F.DQ e2).bQ td
     repeat k_meth
     obtain⟨z,ez,z1,z2,rz⟩:=Jd (d:=d4) (gd.pc w hm) n2;rw[ez];have tka:TkA w.1 z ts:=⟨z1,by lia,by rw[rz];exact hm⟩
     repeat k_meth
     intro ys'
     repeat k_meth
     rw[rz] at F;exact rest _ _ ⟨_,_,_,ts.erase (w.1,w.2),ys',ys2.eraseIdx (d3 % (ys2.length:Int)).toNat,rfl,gd.erase,oC List.erase_sublist.length_le tl,F.sub SbC.s SbI.s⟩
   ·repeat k_meth
    exact rest _ _ ⟨_,_,_,ts,ys,ys2,rfl,gd,tl,F.sub SbC.s SbI.s⟩
  ·clear F;rintro σ' H' ⟨_,_,_,_,_,ts,ys,ys2,ps,rfl,gd,tl,F⟩;have gt:GtA n ts:=⟨n1,n2,gd,by lia⟩
   repeat k_meth
   intro ps2
   repeat k_meth
   exact k _
end
end K45
namespace K45
open PySem L2 PyProof.Rows
abbrev LkH(K:W.Frag)(g:Addr)(m q:Str)(st:Stmt)(xd xn:xL)(xs:Array (Option Value))(xo xk xe xp xc xt:Value):Prop:=K.lookup g=some ⟨xo,xd,.func (W.fnOf m q (dw st) (cj st) (aF st) .none xk xe xp xn xc xt),xs⟩/\W.codeIn K xc q=true/\W.keepIn K (.ref g)=true
abbrev DfH(K:W.Frag)(m:Str)(st:Stmt):Prop:=∃g xd xn xs xo xk xe xp xc xt,W.nsIn K mainGlobals m=some (some (.ref g))/\LkH K g m m st xd xn xs xo xk xe xp xc xt
abbrev MeH(K:W.Frag)(C:Addr)(m q:Str)(st:Stmt):Prop:=∃g xd xn xs xo xk xe xp xc xt,W.findIn K (.ref C) m=some (some (.ref g))/\W.isFn K (.ref g)=true/\LkH K g m q st xd xn xs xo xk xe xp xc xt
abbrev CdH(K:W.Frag)(C:Addr)(m q:Str)(st:Stmt):Prop:=∃g xd xn xs xo xk xe xp xc xt,W.specialIn K (.ref C) "__getattribute__" = some (some (.builtin "type.__getattribute__"))/\W.readsIn K C (.type "type")=true/\W.findCls K (.ref C) (.type "type") m=some (.val (.ref g))/\LkH K g m q st xd xn xs xo xk xe xp xc xt
abbrev ClH(K:W.Frag)(C:Addr):Prop:=W.plainGet K C Str.empty=true/\W.hasDictIn K C=true/\W.plainOver K C=true/\W.findIn K (.ref C) "__setattr__" = some (some (.builtin "object.__setattr__"))/\W.makesIn K C=true/\W.keepIn K (.ref C)=true
section
variable{K:W.Frag}{h:Heap}{mg:xC}{C:Addr}{m q:Str}{st:Stmt}
theorem DfH.has(d:DfH K m st)(X:K.In h)(G:h.Ns mainGlobals mg):HasDef K mg m st:=let ⟨_,_,_,_,_,_,_,_,_,_,a,l,c,k⟩:=d;HasDef.mk (W.mg_of X G a) l c k
theorem MeH.me(d:MeH K C m q st):∃f,FnAt K m q st f/\Meth K C m f:=let ⟨g,_,_,_,_,_,_,_,_,_,a,f,l,c,k⟩:=d;⟨g,⟨_,mD (st:=st) l c k⟩,⟨a,f,k⟩⟩
theorem MeH.mk(d:MeH K C "__init__" q st)(c:ClH K C):∃f,FnAt K "__init__" q st f/\Mk K C f:=let ⟨g,_,_,_,_,_,_,_,_,_,a,f,l,cd,k⟩:=d;⟨g,⟨_,mD (st:=st) l cd k⟩,⟨c.2.2.2.2.1,a,f,c.2.2.2.2.2⟩⟩
theorem CdH.cd(d:CdH K C m q st):∃f,FnAt K m q st f/\vN K C m f:=let ⟨g,_,_,_,_,_,_,_,_,_,a,r,f,l,c,k⟩:=d;⟨g,⟨_,mD (st:=st) l c k⟩,⟨a,r,f,by rfl,k⟩⟩
end
theorem all_mk{aG ak:Addr}{l:W.OpenLaw}{w:World}{K:W.Frag}{h:Heap}{mg:xC}{fa g8_ g31_:Addr}(X:K.In h)(G:h.Ns mainGlobals mg)(hfa:mg "law" = some (.ref fa))
  {R:Addr}
  (eR:W.nsIn K mainGlobals "RoomError" = some (some (.ref R)))
  (eh:W.specialIn K (.builtin "object.__class__") "__get__" = some (some (.builtin "getset_descriptor.__get__")))
  (et:W.takesIn K (.builtin "object.__class__")=some true)
  {C0 N0 x0:Addr} {nm0 q0:Str} {bs0:xF} {sn0:List Str} {aaY:xF} {ab0:Bool} {aaZ:Option Bool} {dd0:xL} {k00_ k10_ k20_ k30_ k50_:Option Value}
  (ea0:W.nsIn K mainGlobals "NoHole" = some (some (.ref C0)))
  (el0:K.lookup C0=some (excClassObj nm0 q0 C0 N0 bs0 [.ref R,.type "ValueError", .type "Exception", .type "BaseException", .type "object"] true sn0 aaY ab0 aaZ dd0 k00_ k10_ k20_ k30_ k50_ "ValueError.__new__"))
  {xd0 xn0:xL} {xs0:Array (Option Value)} {xk0 xo0 xp0 xc0 xt0:Value}
  (ei0:W.findIn K (.ref C0) "__init__" = some (some (.ref x0)))
  (ef0:K.lookup x0=some ⟨.type "function", xd0,.func (W.fnOf "__init__" "NoHole.__init__" (dw jo) (cj jo) (aF jo) .none xk0 xo0 xp0 xn0 xc0 xt0),xs0⟩)
  (ec0:W.codeIn K xc0 "NoHole.__init__" = true) (ek0:W.keepIn K (.ref x0)=true) (es0:W.findIn K (.ref C0) "__setattr__" = some (some (.builtin "object.__setattr__")))
  (em0:W.keepIn K (.ref C0)=true) (eg0:W.findIn K (.ref C0) "__getattribute__" = some (some (.builtin "BaseException.__getattribute__"))) (eb0:W.findIn K (.ref C0) "__getattr__" = some none) (ej0:W.findIn K (.ref C0) "__class__" = some (some (.builtin "object.__class__")))
  (X4:W.findIn K (.ref C0) "size" = some none)
  (X5:W.findIn K (.ref C0) "largest" = some none)
  {od8_ an8_:xL} {sl8_:Array (Option Value)} {oc8_ kV8_ dc8_ pm8_ ct8_:Value}
  {od31_ an31_:xL} {sl31_:Array (Option Value)} {oc31_ kV31_ dc31_ pm31_ cd31_ ct31_:Value}
  (d0_:DfH K "is_whole" mH)
  (d1_:DfH K "is_from" pC)
  (d2_:DfH K "is_within" j5)
  (d3_:DfH K "is_many" pD)
  (d4_:DfH K "end_of" sY)
  (d5_:DfH K "share_cells" yJ)
  (d6_:DfH K "largest_size" pG)
  (d7_:DfH K "all_sizes" yK)
  (a8_:W.nsIn K mainGlobals "by_size" = some (some (.ref g8_))) (l8_:K.lookup g8_=some ⟨oc8_,od8_,.func (W.fnOf "by_size" "by_size" (dw j6) (cj j6) (aF j6) .none kV8_ dc8_ pm8_ an8_ (.ref aG) ct8_),sl8_⟩) (c8_:W.codeIn K (.ref aG) "by_size" = true) (k8_:W.keepIn K (.ref g8_)=true) (tb_bysize:W.codeHdIn K aG ak=true) (tn_bysize:K.lookup ak=none)
  (d9_:DfH K "found_in" pH)
  (d10_:DfH K "rounded" pI)
  (d11_:DfH K "greatest_power" Eh)
  (d12_:DfH K "wholes_of" tG)
  (d13_:DfH K "is_cut_from" M8)
  (d14_:DfH K "is_piece" yL)
  (d15_:DfH K "is_free_piece" tH)
  (d16_:DfH K "free_within" pJ)
  (d17_:DfH K "free_pieces" pK)
  (d18_:DfH K "_law_cell" yM)
  (d19_:DfH K "_law_draws" tL)
  (d20_:DfH K "_law_whole" tM)
  (d21_:DfH K "_law_rows" yN)
  (d22_:DfH K "_law_many" yO)
  (d23_:DfH K "_law_power" tO)
  (d24_:DfH K "_law_free" yP)
  (d25_:DfH K "_law_by_size" wA)
  (d26_:DfH K "_law_refused" mJ)
  (d27_:DfH K "_law_state" tQ)
  (d28_:DfH K "_law_looked" pL)
  (d29_:DfH K "_law_asked" tV)
  (d30_:DfH K "_law_size" yQ)
  (a31_:W.nsIn K mainGlobals "law" = some (some (.ref g31_))) (l31_:K.lookup g31_=some ⟨oc31_,od31_,.func (W.fnOf "law" "law" (dw oh) (cj oh) (aF oh) .none kV31_ dc31_ pm31_ an31_ cd31_ ct31_),sl31_⟩) (c31_:W.codeIn K cd31_ "law" = true) (k31_:W.keepIn K (.ref g31_)=true)
  (nb0:W.nsIn K mainGlobals "isinstance" = some none)
  (nb1:W.nsIn K mainGlobals "int" = some none)
  (nb2:W.nsIn K mainGlobals "bool" = some none)
  (nb3:W.nsIn K mainGlobals "list" = some none)
  (nb4:W.nsIn K mainGlobals "tuple" = some none)
  (nb5:W.nsIn K mainGlobals "len" = some none)
  (nb6:W.nsIn K mainGlobals "any" = some none)
  (nb7:W.nsIn K mainGlobals "range" = some none)
  (nb8:W.nsIn K mainGlobals "max" = some none)
  (nb9:W.nsIn K mainGlobals "sum" = some none)
  (aa0:W.nsIn K mainGlobals "sorted" = some none)
  {tk0:Tok} (aa1:W.nsIn K mainGlobals "FEWEST_CELLS" = some (some (.int 16 tk0)))
  {tk1:Tok} (aa2:W.nsIn K mainGlobals "MOST_CELLS" = some (some (.int 240 tk1)))
  {nmR qR:Str} {NR:Addr} {bsR bmR:xF} {hdR:Bool} {snR:List Str} {aa3:xF} {abR:Bool} {aa4:Option Bool} {ddR:xL} {k0R k1R k2R k3R k5R:Option Value} {newR:String}
  (zc:K.lookup R=some (excClassObj nmR qR R NR bsR bmR hdR snR aa3 abR aa4 ddR k0R k1R k2R k3R k5R newR)) (zt:W.typeIn K (.ref R)=some (.type "type")) (zm:W.mroIn K R (.type "BaseException")=some true)
  {CP CV CB:Addr}
  (aCP:W.nsIn K mainGlobals "Pieces" = some (some (.ref CP)))
  (Ob:ClH K CP)
  (Oc:W.findIn K (.ref CP) "many" = some none)
  (El:W.findIn K (.ref CP) "pieces" = some none)
  (aCV:W.nsIn K mainGlobals "Halves" = some (some (.ref CV)))
  (Od:ClH K CV)
  (Oe:W.findIn K (.ref CV) "book" = some none)
  (aCB:W.nsIn K mainGlobals "Rule" = some (some (.ref CB)))
  (QZ:ClH K CB)
  (Q0:MeH K CP "__init__" "Pieces.__init__" yR)
  (Q5:MeH K CP "told" "Pieces.told" yS)
  (Og:MeH K CP "taken" "Pieces.taken" tW)
  (Q6:MeH K CP "take" "Pieces.take" yU)
  (Q8:MeH K CP "give" "Pieces.give" yV)
  (Oh:CdH K CB "__init__" "Rule.__init__" tZ)
  (Oi:MeH K CV "mark" "Rule.mark" t_)
  (uZ:MeH K CV "turn_mark" "Rule.turn_mark" iZ)
  (Je:MeH K CV "holes" "Rule.holes" pN)
  (pR:MeH K CV "largest_hole" "Rule.largest_hole" gq)
  (uM:MeH K CV "free_cells" "Rule.free_cells" iw)
  (Oj:MeH K CV "look" "Rule.look" ud)
  (Ol:MeH K CV "take" "Rule.take" uf)
  (Q9:MeH K CV "put" "Rule.put" yW)
  (Om:MeH K CV "give" "Rule.give" ug)
  (Q_:MeH K CV "__init__" "Halves.__init__" yX)
  (Ra:MeH K CV "rule_word" "Halves.rule_word" yZ)
  (Oo:MeH K CV "order" "Halves.order" uh)
  (Em:MeH K CV "used_by" "Halves.used_by" mK)
  (Oq:MeH K CV "taken" "Halves.taken" uo)
  : (∀p∈[ak],K.lookup p=none/\∃c,W.codeHdIn K c p=true)/\∃fd:FuncData,(∀(s:Shared)(v:Value),BindsTo s fd ⟨[v],[]⟩ [("_law_script", v)])/\∀base:Heap,K.In base->base.Ns mainGlobals mg->Bm mg base->f9 l.prog w K mg base CX0 23 fa fd ["_law_script"] (zB ak K):=by
 have e:=hfa.symm.trans (W.mg_of X G a31_);cases e;have T:Txt K mg (λi=>([C0]:List Addr).getD i 0) R CP CV CB aG ak:={
  dR:=rN.mk1 (W.mg_of X G ea0) el0 ei0 ef0 ec0 ek0 em0 (PJ el0 es0) (PK el0 eg0 eb0 ej0 eh et)
  Bx:=⟨_,_,_,_,_,_,_,_,_,_,_,_,_,_,_,el0⟩
  i_:=X4
  eG:=X5
  uq:=d0_.has X G
  wM:=d1_.has X G
  qp:=d2_.has X G
  wN:=d3_.has X G
  BJ:=d4_.has X G
  Gz:=d5_.has X G
  wO:=d6_.has X G
  GC:=d7_.has X G
  ur:=tb_bysize
  BK:=⟨_,_,mD l8_ c8_ k8_,rfl,W.mg_of X G a8_⟩
  wQ:=d9_.has X G
  wR:=d10_.has X G
  Nf:=d11_.has X G
  BL:=d12_.has X G
  R4:=d13_.has X G
  GD:=d14_.has X G
  BP:=d15_.has X G
  dZ:=d16_.has X G
  wU:=d17_.has X G
  GF:=d18_.has X G
  BR:=d19_.has X G
  uw:=d20_.has X G
  GJ:=d21_.has X G
  GK:=d22_.has X G
  BW:=d23_.has X G
  GP:=d24_.has X G
  wV:=d25_.has X G
  ux:=d26_.has X G
  BX:=d27_.has X G
  wW:=d28_.has X G
  BZ:=d29_.has X G
  GQ:=d30_.has X G
  cD:=W.mg_none_of X G nb0
  GR:=W.mg_none_of X G nb1
  za:=W.mg_none_of X G nb2
  Ng:=W.mg_none_of X G nb3
  zf:=W.mg_none_of X G nb4
  wX:=W.mg_none_of X G nb5
  Nh:=W.mg_none_of X G nb6
  zj:=W.mg_none_of X G nb7
  B_:=W.mg_none_of X G nb8
  GX:=W.mg_none_of X G nb9
  jq:=W.mg_none_of X G aa0
  j8:=⟨_,W.mg_of X G aa1,⟨_,rfl⟩⟩
  ou:=⟨_,W.mg_of X G aa2,⟨_,rfl⟩⟩
  g_R:=W.mg_of X G eR
  c_R:=by unfold W.clsIn;rw[zc];rfl
  t_R:=zt
  m_R:=zm
  clP:=⟨Ob.1,Ob.2.1,Ob.2.2.1,Ob.2.2.2.1⟩
  wY:=W.mg_of X G aCP
  aR:=Oc
  aJ:=El
  clV:=⟨Od.1,Od.2.1,Od.2.2.1,Od.2.2.2.1⟩
  wZ:=W.mg_of X G aCV
  aU:=Oe
  clB:=⟨QZ.1,QZ.2.1,QZ.2.2.1,QZ.2.2.2.1⟩
  GZ:=W.mg_of X G aCB
  G3:=Q0.mk Ob
  G4:=Q5.me
  Ca:=Og.me
  G5:=Q6.me
  G6:=Q8.me
  Cd:=Oh.cd
  Ce:=Oi.me
  mz:=uZ.me
  xg:=Je.me
  jr:=pR.me
  j9:=uM.me
  Cg:=Oj.me
  Ci:=Ol.me
  G7:=Q9.me
  Cj:=Om.me
  G8:=Q_.mk Od
  G9:=Ra.me
  Ck:=Oo.me
  uz:=Em.me
  Cm:=Oq.me }
 refine⟨λp hp=>?_,W.fnOf "law" "law" (dw oh) (cj oh) (aF oh) .none kV31_ dc31_ pm31_ an31_ cd31_ ct31_,λs v=>.of_eq rfl,λbase _ _ Bb=>?_⟩
 ·simp only[List.mem_cons,List.not_mem_nil,or_false] at hp;rcases hp with rfl
  ·exact⟨tn_bysize,_,tb_bysize⟩
 exact U6 T Bb (mD (st:=oh) l31_ c31_ k31_)
theorem walk{l:W.OpenLaw}{q:Program}{loose:List Str}{XP:(Str->Option Value)->Heap->Prop}{YP:World->Heap->Prop}{d:DefRec}{K:Params->W.Frag}{ak:Addr}(hn:l.most=some 63)(hdf:d.params.defaults=[])
  (hY:∀(w:World)(h:Heap),YP w h->(K w.params).In h/\∀p∈[ak],h.get? p=some (W.tabObj #[]))
  (F:∀(w:World)(mg:xC)(fa:Addr)(h:Heap),(K w.params).In h->h.Ns mainGlobals mg->mg d.name=some (.ref fa)->(∀p∈[ak],(K w.params).lookup p=none/\∃c,W.codeHdIn (K w.params) c p=true) /\ 
   ∃fd:FuncData,(∀(s:Shared)(u:Value),BindsTo s fd ⟨[u],[]⟩ [("_law_script", u)])/\∀base:Heap,(K w.params).In base->base.Ns mainGlobals mg->Bm mg base->f9 l.prog w (K w.params) mg base CX0 23 fa fd ["_law_script"] (zB ak (K w.params))) :
  W.WalkO q loose XP YP l.row.toRowW d [] (λf vs=>PySem.call f vs) :=
 L2.Lg (ts:=[ak]) (n:=63) (k:=23) (x := "_law_script") (CX:=λ_=>CX0) (sp:=λw=>zB ak (K w.params)) hn (by decide) hdf ⟨rfl,by decide,by decide,rfl⟩ hY F (λ_ _ a ns hl hO hn hS=>⟨a,ns,rfl,hS,hl,hO.1 ak (by simp),(λz=>hn (by simp[z])),λ_=>rfl⟩) λ_ _ _ _ _ z=>z
end K45
namespace PySem.W.Fast
def tw10494724178253603721:=0
def tw3201751523319665022:=0
def tw6236543860308030134:=0
def tw100391116113875448:=0
def tw1015311230639151533:=0
def tw10169052742340271786:=0
def tw10173585434575336649:=0
def tw10190882743115012623:=0
def tw10250143596366891131:=0
def tw10280463766248078717:=0
def tw10296195901829935703:=0
def tw10334975136714394613:=0
def tw10383522832066267944:=0
def tw10390281809360406112:=0
def tw10398249332644460507:=0
def tw10417097980215163857:=0
def tw10417284995609346670:=0
def tw10420844924659759472:=0
def tw10460369592825690832:=0
def tw10546042113801400971:=0
def tw10560824949875389678:=0
def tw10566895563286493200:=0
def tw10634092601123339762:=0
def tw10641834169168327588:=0
def tw10813651159643166303:=0
def tw10831794449604514202:=0
def tw10862424154192462719:=0
def tw10864305926061554207:=0
def tw10871440665620609814:=0
def tw1089636643673893186:=0
def tw10911980218215587355:=0
def tw11016400027037547068:=0
def tw11061864554621885127:=0
def tw11121509681374460416:=0
def tw11194810276035320977:=0
def tw11199678277219257875:=0
def tw11239239013922985475:=0
def tw11292008692948405230:=0
def tw11321643681360627210:=0
def tw11331351518470924404:=0
def tw11377389028943065738:=0
def tw11416111177831694862:=0
def tw11468514554285025614:=0
def tw11532770598126885958:=0
def tw11596025492391407614:=0
def tw11621460697280712863:=0
def tw11661151332031690329:=0
def tw11697116955592131683:=0
def tw11697380731414193150:=0
def tw1172525843639693244:=0
def tw11828339663274761360:=0
def tw11864847560826684027:=0
def tw11877052656480042266:=0
def tw11894100046231363013:=0
def tw11928696109835095770:=0
def tw11950390236895434066:=0
def tw11985938664036055509:=0
def tw12014470845478952463:=0
def tw12022497665682163742:=0
def tw12038614982591819282:=0
def tw12125252950089144819:=0
def tw1216315941657288984:=0
def tw12169244061321300372:=0
def tw12271852300956527077:=0
def tw12273608051096214306:=0
def tw12313508465123036661:=0
def tw12315260717092593301:=0
def tw12322611031082298422:=0
def tw12374717278648608248:=0
def tw12375048164192121880:=0
def tw12514016920853899258:=0
def tw12535238104751139394:=0
def tw12535344801847472029:=0
def tw12562983856444031326:=0
def tw12572828016138252133:=0
def tw12577449292744151295:=0
def tw12605763797520006460:=0
def tw12663991584421765625:=0
def tw12676702363580658757:=0
def tw12731718335076779642:=0
def tw12734251486283807755:=0
def tw12744213300088012543:=0
def tw12818126551997998942:=0
def tw12864981485502544779:=0
def tw12908564329242384479:=0
def tw12938016705597335587:=0
def tw12946120776208450097:=0
def tw12969001200287045083:=0
def tw12984768527843350849:=0
def tw13069349293289201407:=0
def tw13145773733097141081:=0
def tw13160488273714260370:=0
def tw13197324734170980507:=0
def tw13212969399197431226:=0
def tw13260077524275998600:=0
def tw13312863196587422863:=0
def tw13393007998296299494:=0
def tw1340756494214157852:=0
def tw13420384445241971804:=0
def tw13466921648546494049:=0
def tw13468140586675376118:=0
def tw13507511886080741294:=0
def tw13507724370296958765:=0
def tw1359271237657155247:=0
def tw13602663719031629733:=0
def tw13672561523089342539:=0
def tw13677764379788292147:=0
def tw1369295690930407272:=0
def tw13700791477903393086:=0
def tw13725949021695120188:=0
def tw13745185880191409402:=0
def tw13799447680220785691:=0
def tw13817699133619547526:=0
def tw13828040631065358537:=0
def tw13921047795002331407:=0
def tw1397289370437031105:=0
def tw13990011031859949988:=0
def tw14023138083968117502:=0
def tw14029554228722131308:=0
def tw14070903919125759684:=0
def tw1410816221817680090:=0
def tw14148224261141704270:=0
def tw14157345544752299944:=0
def tw14241438395211444535:=0
def tw14275409038866486875:=0
def tw14300142958986517301:=0
def tw14300819718845055888:=0
def tw14357767942895753790:=0
def tw14374910853214570469:=0
def tw14380915336211118037:=0
def tw14449971021017163636:=0
def tw14491703340706186818:=0
def tw14496854331808001597:=0
def tw14513915467114400150:=0
def tw14533656171364482700:=0
def tw14607525376819657701:=0
def tw14619571340015317576:=0
def tw14744999696201315359:=0
def tw14862675900624788656:=0
def tw14941577252038410122:=0
def tw14961126164470161651:=0
def tw15007635308867082982:=0
def tw15024471469107888644:=0
def tw15024703229920356072:=0
def tw15054060533691460641:=0
def tw15057850995040934242:=0
def tw15077736786300312394:=0
def tw1509210255018296951:=0
def tw15101029661971871765:=0
def tw15143392494643640295:=0
def tw15353075981151644501:=0
def tw15390383812884980755:=0
def tw15428218773079612614:=0
def tw15468108600383440332:=0
def tw15522252907661636455:=0
def tw15611063160940495887:=0
def tw15652089749780042363:=0
def tw15665372845197999512:=0
def tw15674797853750720183:=0
def tw15708294522872064492:=0
def tw15711137480306348488:=0
def tw15778540511623360894:=0
def tw15788307415949596390:=0
def tw15834880545622890848:=0
def tw15855444653175535423:=0
def tw15858226261987220739:=0
def tw15926900307269361454:=0
def tw16012511136842731465:=0
def tw16051505949983400845:=0
def tw16056810474175801562:=0
def tw1614089040303354785:=0
def tw16154518121308695708:=0
def tw16168691382347637468:=0
def tw16208659697312819716:=0
def tw16221854176349029248:=0
def tw16238010211762635050:=0
def tw16252361496577825184:=0
def tw16262165403090188096:=0
def tw16314593894991297345:=0
def tw16315516141210955562:=0
def tw16330507188245759467:=0
def tw16342343062435427522:=0
def tw16379961478570890529:=0
def tw16381927570026298251:=0
def tw16427895002355988420:=0
def tw16435961015267932480:=0
def tw1646790172946913573:=0
def tw16470746992048342286:=0
def tw16494793018514539807:=0
def tw16503617646161972672:=0
def tw16508727959309329172:=0
def tw16517389934606552083:=0
def tw16540505050430419114:=0
def tw16608819098944218084:=0
def tw16651023243447500130:=0
def tw16678760169927992028:=0
def tw16690046640073304435:=0
def tw16692231322639425622:=0
def tw16703896277523667742:=0
def tw16711106767816561862:=0
def tw16711389185620029395:=0
def tw16729061399195888990:=0
def tw16729882143779705727:=0
def tw16771271255949179442:=0
def tw16826832296769885371:=0
def tw1687493225023407968:=0
def tw16945484641557169407:=0
def tw16946874292043125563:=0
def tw17008434397715830777:=0
def tw17020811961182061093:=0
def tw17035106185850578462:=0
def tw17064716839705505027:=0
def tw17105779222930104458:=0
def tw17155587615250977927:=0
def tw17169706207031100682:=0
def tw17194641128293055503:=0
def tw17253424627019396466:=0
def tw17330753812071535160:=0
def tw17335460713933939491:=0
def tw17353025478611830183:=0
def tw17356217330963654512:=0
def tw17369455340470500668:=0
def tw17378605634658460255:=0
def tw17513291363386855390:=0
def tw17559455460054454374:=0
def tw17565695267888535587:=0
def tw17582055898378523755:=0
def tw17582931238036724376:=0
def tw17619815372848551427:=0
def tw17634688602892366115:=0
def tw1764317405342945829:=0
def tw1767796211659145633:=0
def tw17702165791667736512:=0
def tw17726159098780306629:=0
def tw17730164920232243071:=0
def tw17738789142992183896:=0
def tw17768966817162570680:=0
def tw17776929990185296078:=0
def tw17803871637545306380:=0
def tw17808240179308300959:=0
def tw17819009228429584556:=0
def tw17849559785492822582:=0
def tw17851921656316661742:=0
def tw17985164531173754819:=0
def tw18009859429544211661:=0
def tw18021230221121326727:=0
def tw1803517570787034909:=0
def tw18052264013675388725:=0
def tw18096652893372550590:=0
def tw18113072460070188938:=0
def tw18123054192014095870:=0
def tw1817392057405415296:=0
def tw18187708520946604189:=0
def tw18198905950282286750:=0
def tw18202946473782031716:=0
def tw1821780237958604148:=0
def tw18224372472176742355:=0
def tw1822980528857760533:=0
def tw18283057555031556659:=0
def tw18301635091726363648:=0
def tw18312037024691782157:=0
def tw18359426645090572801:=0
def tw18435599321148202653:=0
def tw1896535044616568547:=0
def tw1969997751125959487:=0
def tw1980191935407127699:=0
def tw199844335500325501:=0
def tw1998817751478640235:=0
def tw2027983055367098222:=0
def tw2037948420558989252:=0
def tw2085095259620112405:=0
def tw2194737426518829481:=0
def tw2230369363596323896:=0
def tw2246277914240503635:=0
def tw2291373051018945512:=0
def tw2374079834053456476:=0
def tw2404265037642705031:=0
def tw2405674614761870818:=0
def tw2408479899966473490:=0
def tw2429423475632881378:=0
def tw2459621759044568567:=0
def tw2487637341335553203:=0
def tw2524444584951845026:=0
def tw2528495347377685869:=0
def tw2549515308120520595:=0
def tw2568557857253721489:=0
def tw2598071965371354640:=0
def tw2644043553452776283:=0
def tw2649657603876279689:=0
def tw2661355495275078897:=0
def tw2701134043916109306:=0
def tw274087815131264463:=0
def tw2767961406144230653:=0
def tw2789697209476373178:=0
def tw2798685862342738585:=0
def tw2857974042635518214:=0
def tw2935270664974334707:=0
def tw2945066130137664748:=0
def tw2969284258472482091:=0
def tw3032442185700502492:=0
def tw3033303146072950748:=0
def tw3097512487656246880:=0
def tw3109067529924650566:=0
def tw3126178648955339149:=0
def tw3163688216145540076:=0
def tw3195530531146480895:=0
def tw3217284543404080395:=0
def tw3221575946761901909:=0
def tw3222981818644093003:=0
def tw323574302823241651:=0
def tw3290400766059295617:=0
def tw3293701366672479174:=0
def tw3346616825211009185:=0
def tw3348525494785825774:=0
def tw3363154190919878105:=0
def tw3434569340748007750:=0
def tw3438159937275866752:=0
def tw3452653484471674660:=0
def tw3481837576906573584:=0
def tw3532411397661410999:=0
def tw360796122260338408:=0
def tw3640353509714341267:=0
def tw3641700452305668682:=0
def tw3648737600934480932:=0
def tw3690370103785167051:=0
def tw3745841193121509881:=0
def tw3753643455557951860:=0
def tw3810594216102540120:=0
def tw3813327442621693605:=0
def tw3858564270540411899:=0
def tw3858746283079589411:=0
def tw3865575263692424249:=0
def tw3899553418515943614:=0
def tw3904034106908138790:=0
def tw3909326035686839550:=0
def tw397779843879082549:=0
def tw4048427727570203090:=0
def tw4054317057286053954:=0
def tw4059286052088545943:=0
def tw405958159455101042:=0
def tw4088737505816122475:=0
def tw4100540673180321658:=0
def tw4103014595894969008:=0
def tw4104409169260764900:=0
def tw4145533249652039077:=0
def tw4149825548518694335:=0
def tw4176876898172459519:=0
def tw4224173705636046558:=0
def tw4252373483752243979:=0
def tw425256605748996329:=0
def tw4338919808064301413:=0
def tw4379275034655461771:=0
def tw4410421481555630968:=0
def tw4463018865817062572:=0
def tw4507455561467562300:=0
def tw4555286551887305964:=0
def tw4567088806280043591:=0
def tw4659877276963808920:=0
def tw4720171980745832371:=0
def tw4758682653147627745:=0
def tw4759995231158534828:=0
def tw4776748798773430375:=0
def tw4838189681270214026:=0
def tw4886742622548021629:=0
def tw4897134081699336694:=0
def tw4907318869668521241:=0
def tw4918308646421255616:=0
def tw492300455417458326:=0
def tw4929381192409417917:=0
def tw4947757077404814166:=0
def tw4948880418884519806:=0
def tw5027655890300900753:=0
def tw5035394199235743296:=0
def tw5038890782413852354:=0
def tw5044246130296117091:=0
def tw5065871376031076329:=0
def tw5140635712199403685:=0
def tw5187342702846573134:=0
def tw5189017392807424009:=0
def tw5195052733005424416:=0
def tw5213654942036483846:=0
def tw5256988678889258716:=0
def tw5267243008335140083:=0
def tw5295885135152229062:=0
def tw5310242410445388786:=0
def tw5322192925458165609:=0
def tw5325972538047739907:=0
def tw5349184384009953900:=0
def tw5362491819080891955:=0
def tw5458689972598952255:=0
def tw5479341375646419654:=0
def tw5491426402603484180:=0
def tw5509151188018290836:=0
def tw5842205219238724011:=0
def tw5935782574043752758:=0
def tw5981618993977259652:=0
def tw6073697411198712176:=0
def tw6081676962008719425:=0
def tw6122587950278244525:=0
def tw6123789219733176421:=0
def tw6174145690680056548:=0
def tw6174837697052638315:=0
def tw6179975225583622786:=0
def tw6195565078919980790:=0
def tw6227175219451735472:=0
def tw622962856516040538:=0
def tw6238893152316101645:=0
def tw624560227313283739:=0
def tw6263108950767605598:=0
def tw6343236380352940954:=0
def tw6345493030793701619:=0
def tw6352193734462661856:=0
def tw6361253940495288428:=0
def tw6366915688805645819:=0
def tw6407068764821855939:=0
def tw6474646338777343819:=0
def tw647746639257388122:=0
def tw6490156589772634683:=0
def tw6586678100831928498:=0
def tw6611778318550196625:=0
def tw6627199363578536876:=0
def tw6674490680915357066:=0
def tw6703873935846753685:=0
def tw6708861227095132306:=0
def tw6731155878750905092:=0
def tw6751183039887454670:=0
def tw6770117007198334355:=0
def tw6777092754522936378:=0
def tw6831732845562543326:=0
def tw685087096724911221:=0
def tw6853709306132281089:=0
def tw688299634116875375:=0
def tw691536988622934925:=0
def tw6917707578730606760:=0
def tw6927523009382867463:=0
def tw6964616188367182904:=0
def tw6965757454341409471:=0
def tw6984034535695119217:=0
def tw6987392700467652421:=0
def tw7006870209833313938:=0
def tw7010815807429686514:=0
def tw7074798713925083786:=0
def tw7095738966997686075:=0
def tw7105108687834189541:=0
def tw7152805541031514949:=0
def tw7159500951432551824:=0
def tw7168174508620809665:=0
def tw7170930788614618389:=0
def tw7179650590224529705:=0
def tw7194746464269122986:=0
def tw7203672929899210148:=0
def tw7238497234617165517:=0
def tw7259461666577652138:=0
def tw7316601708952459949:=0
def tw7319583820544954982:=0
def tw734189084246268818:=0
def tw7362385739765903635:=0
def tw7429761832662136811:=0
def tw7431161552415522067:=0
def tw743198118593041482:=0
def tw7440870648411101121:=0
def tw7458826023042916413:=0
def tw747938445041151442:=0
def tw7538944108886664147:=0
def tw7558961632610463837:=0
def tw7564315840217431728:=0
def tw7599831175471308410:=0
def tw761310424148737614:=0
def tw7663603278213891799:=0
def tw7668594756485332583:=0
def tw7680113322594494714:=0
def tw7745598480868295835:=0
def tw77547979574776544:=0
def tw778571653604382481:=0
def tw7830055000344483538:=0
def tw7861449155711679952:=0
def tw7930411914217068226:=0
def tw8023277939182640620:=0
def tw8040394933032438351:=0
def tw8044736390096521985:=0
def tw8065405171406106056:=0
def tw8070696908476138507:=0
def tw8133568383241483281:=0
def tw8147353815810203383:=0
def tw8150321773783396568:=0
def tw8152967776326038536:=0
def tw8276039833301891765:=0
def tw830821065362261033:=0
def tw8317180559691821276:=0
def tw8319939255555645645:=0
def tw8328581620826010993:=0
def tw8385576375512809875:=0
def tw8392375526613130137:=0
def tw846716631670758989:=0
def tw8482889228026988046:=0
def tw8499166222898136488:=0
def tw8593372310990962242:=0
def tw862144524073961356:=0
def tw8638934709569155876:=0
def tw8639174532623773303:=0
def tw8646034249629346033:=0
def tw8663952403979885605:=0
def tw8700256867067382699:=0
def tw8704814375836359713:=0
def tw8739391189615018390:=0
def tw8761567703791545693:=0
def tw8829717550987418484:=0
def tw8854389042509891564:=0
def tw8856562397092284277:=0
def tw8896991531901580158:=0
def tw8931434731266641988:=0
def tw8951111427620937810:=0
def tw8988182033300236571:=0
def tw8988438531765509897:=0
def tw9023652122743360727:=0
def tw9027585781278221916:=0
def tw9061912443162547576:=0
def tw9073001356002470432:=0
def tw9078683272251784321:=0
def tw9092201457144916462:=0
def tw9095400762850761786:=0
def tw9152661580500572578:=0
def tw917765233330440933:=0
def tw9180302704282859795:=0
def tw9193242126814702491:=0
def tw921996170195257109:=0
def tw9314497361853556802:=0
def tw9318980631547422254:=0
def tw9393100270664312258:=0
def tw9514382682424026168:=0
def tw9579343230348054188:=0
def tw9673479598012780855:=0
def tw9687448041003801181:=0
def tw9705402499625384758:=0
def tw9715980102325764473:=0
def tw9738079053354716481:=0
def tw9782595440948797514:=0
def tw9897869137150308586:=0
def tw9904785892823975719:=0
def tw9920370279432604466:=0
def tw9923102447964053485:=0
def tw9928686317887810960:=0
def tw9980045720589892787:=0
def tw9980106150878224546:=0
def tw10022198848492172250:=0
def tw10891437056550858286:=0
def tw11498533501735645638:=0
def tw11823792361379316506:=0
def tw14741946429746997588:=0
def tw15356505789144174282:=0
def tw15863943839696851478:=0
def tw17198045974552257519:=0
def tw17519150201241361854:=0
def tw18008001972691505723:=0
def tw8656626057218389884:=0
def tw8805558219904715152:=0
def tw9914963717847193023:=0
def tw11287329172310742271:=0
def tw15567456771962118620:=0
def tw17909238029508901372:=0
def tw2262489465989137588:=0
def tw240636835911054849:=0
def tw3066709647223674793:=0
def tw391753953140893183:=0
def tw416704076639620615:=0
def tw4448890492930663344:=0
def tw5420287179799316921:=0
def tw614438618052979337:=0
def tw775669522575595125:=0
def tw8372138544456871041:=0
def tw8789019820016380224:=0
def tw7652654089696868867:=0
def tw16735400688629495368:=0
def tw8581215633444795262:=0
def tw8994629149998463027:=0
end PySem.W.Fast
open PySem PySem.W PyProof.Rows
set_option maxRecDepth 100000 in
set_option maxHeartbeats 0 in
theorem PySem.Challenge.cw_slideroom_k45_halves_looked_at_holds : PySem.Challenge.rw_slideroom_k45_halves_looked_at.Holds := by
 w_on;o_law;k_head;(case hw=>w_witness2)
 k_fill
 refine K45.walk (l:=PySem.Challenge.rw_slideroom_k45_halves_looked_at) rfl rfl (fun w h Y=>⟨PySem.W.km_in_of Y,PySem.W.km_tabs_of Y⟩) ?F
 case F =>
  intro w mg fa h KX G hmg
  refine' K45.all_mk KX G hmg ?_ ?_ ?_ ?_ ?_ ?_ ?_ ?_ ?_ ?_ ?_ ?_ ?_ ?_ ?_ ?_ ?_ ?_ ?_ ?_ ?_ ?_ ?_ ?_ ?_ ?_ ?_ ?_ ?tb_bysize ?tn_bysize ?_ ?_ ?_ ?_ ?_ ?_ ?_ ?_ ?_ ?_ ?_ ?_ ?_ ?_ ?_ ?_ ?_ ?_ ?_ ?_ ?_ ?_ ?_ ?_ ?_ ?_ ?_ ?_ ?_ ?_ ?_ ?_ ?_ ?_ ?_ ?_ ?_ ?_ ?_ ?_ ?_ ?_ ?_ ?_ ?_ ?_ ?_ ?_ ?_ ?_ ?_ ?_ ?_ ?_ ?_ ?_ ?_ ?_ ?_ ?_ ?_ ?_ ?_ ?_ ?_ ?_ ?_ ?_ ?_ ?_ ?_
  all_goals try first
   | k_is
   | exact ⟨_,_,_,_,_,_,_,_,_,_,by k_is,by k_is,by k_is,by k_is⟩
   | exact ⟨_,_,_,_,_,_,_,_,_,_,by k_is,by k_is,by k_is,by k_is,by k_is⟩
   | exact ⟨_,_,_,_,_,_,_,_,_,_,by k_is,by k_is,by k_is,by k_is,by k_is,by k_is⟩
   | exact ⟨by k_is,by k_is,by k_is,by k_is,by k_is,by k_is⟩
  (case tb_bysize=>kernel_rfl)
  (case tn_bysize=>kernel_rfl)

import PyProof.Rows.All
import Wide.All
import OpenK.AllK
import Wide.FinOn
import Lean
import PyProof.EqAt
import PyProof.EqKinds
import PyProof.TupleCall
import PyProof.NeKinds
import PyProof.ExcInit
import PyProof.StationsW
import PyProof.ExcBaseAll.ValueError
import PyProof.ExcArgs
import KE.KIsAll
import PyProof.ReprRoads
import PyProof.CallFns
import PyProof.ExcClass3
import PyProof.StrBlock2
import PyProof.FitsInt
import PyProof.StrLawsRepr
import KE.KTryMore
import PyProof.RulesAs
import KE.KIntText
import PyProof.StrLawsChain
import PyProof.StrCalls2
import PyProof.ZipIter
import PyProof.Conv_bool
import PyProof.CallStr
import PyProof.TupleIter
import KE.KEqDict
import PyProof.AutoListH
import PyProof.FactsAll.range_2
import KE.IntTextLaws
import PyProof.StrCalls
import PySem.Challenge.RW_slideroom_k32_looks_told
-- CHANGE: your row's module here, as the last of these rows
set_option compiler.extract_closed false
set_option Elab.async false
set_option linter.all false
set_option maxRecDepth 100000
section
open PySem PySem.Spec PyProof.Rows PySem.SeqAt
abbrev xA:=Unit->Shared->Prop
abbrev xB:=Value->Shared->Prop
abbrev xC:=Str->Option Value
abbrev xD:=List (Nat×Nat)
abbrev xE:=Array Keyed
abbrev xF:=List Value
abbrev xI:=List Bool
abbrev xL:=Array Value
abbrev xN:=Option Addr
def zC:=@List.mem_cons_self
def zD:=@List.mem_cons_of_mem
def zI:=@wpAny_bind
def zS:=@wpS_bind
def yA:=@wpS_pure
def yB:=@if_pos
def yT:=@if_neg
def yY:=@List.length_append
def wE:=@List.mem_of_getElem?
def wP:=@List.getElem?_append_left
def wS:=@List.length_map
def wT:=@List.mem_append
def vE:=@List.getElem?_map
def vF:=@List.not_mem_nil
def vS:=@Bool.false_ne_true
def vT:=@List.append_assoc
def jI:=@List.mem_cons
def jS:=@List.mem_map
def qA:=@List.take_append_drop
def qB:=@List.getElem?_eq_some_iff
def qE:=@List.getElem?_eq_getElem
def qS:=@Nat.lt_of_lt_of_le
def qV:=@Nat.ne_of_lt
def gE:=@Nat.lt_irrefl
def gI:=@List.take_succ
def gL:=@congrArg
def gN:=@absurd
def gS:=@eq_of_beq
def gX:=@decide_eq_false
def uA:=@decide_eq_true
def uB:=@Heap.lt_size
def uC:=@Heap.get?_push_of_some
def uS:=@Nat.le_refl
def rS:=@List.mem_singleton
def rV:=@List.mem_append_right
def rX:=@wpAny_pure
def oB:=@Nat.le_trans
def oC:=@List.mem_of_mem_take
def oP:=@List.mem_of_mem_drop
def oQ:=@Heap.get?_push_size
def oS:=@List.getD_eq_getElem?_getD
def nE:=@List.length_take
def nI:=@List.map_cons
def nK:=@List.getElem?_append_right
def nS:=@Option.some.inj
def nV:=@Nat.lt_succ_of_lt
def nX:=@List.size_toArray
def mB:=@Heap.get?_update_other
def mE:=@List.take_of_length_le
def mI:=@wpAny_holding
def mM:=@wpAny_mono
def mN:=@List.mem_append_left
def mP:=@List.append_nil
def mS:=@Array.length_toList
def mT:=@Array.toList_append
def zzA:=@List.pairwise_append
def zzB:=@List.length_replicate
def zzC:=@List.getElem?_eq_none
def zzD:=@List.length_cons
def zzE:=@Nat.le_of_lt
def zzF:=@Heap.get?_update_ne
def zzG:=@Heap.get?_push_ne
def zzH:=@List.length_drop
end
namespace L2
open PySem PySem.Spec PyProof.Rows
abbrev Key:=Sum Int Str
def Tz:Key->Value->Bool
 | .inl k,v=>Value.isInt k v
 | .inr x,v=>Value.isStrOf x v
def aa6(w:World):Key->Int
 | .inl k=>hashInt k
 | .inr x=>hashStr w x
theorem dN:∀{k:Key} {v:Value},Tz k v=true->(∃i t,k=Sum.inl i/\v=Value.int i t)\/(∃x t,k=Sum.inr x/\v=Value.str x t)
 | .inl i,v,h=>by
  obtain⟨t,e⟩:=Value.isInt_shape (k:=i) (v:=v) h;exact .inl ⟨i,t,rfl,e⟩
 | .inr x,v,h=>by
  obtain⟨t,e⟩:=Value.isStrOf_shape (x:=x) (v:=v) h;exact .inr ⟨x,t,rfl,e⟩
theorem Uv(a b:Int):decide ((Sum.inl a:Key)=Sum.inl b)=(a==b):=by
 by_cases e:a=b
 ·subst e;simp
 ·have h:¬ (Sum.inl a:Key)=Sum.inl b:=λq=>e (Sum.inl.inj q)
  rw[gX h];exact(beq_eq_false_iff_ne.mpr e).symm
theorem Uw(a b:Str):decide ((Sum.inr a:Key)=Sum.inr b)=decide (a=b):=by
 by_cases e:a=b
 ·subst e;simp
 ·have h:¬ (Sum.inr a:Key)=Sum.inr b:=λq=>e (Sum.inr.inj q)
  rw[gX h,gX e]
theorem Ux(a:Int)(b:Str):decide ((Sum.inl a:Key)=Sum.inr b)=false:=gX (λq=>nomatch q)
theorem Uy(a:Str)(b:Int):decide ((Sum.inr a:Key)=Sum.inl b)=false:=gX (λq=>nomatch q)
def G_(prog:Program)(w:World):PySem.KeyKind prog w Key where
 is:=Tz
 hash:=aa6 w
 inj:=λv a b ha hb=>by
  rcases dN ha with⟨i,t,rfl,rfl⟩|⟨x,t,rfl,rfl⟩
  ·rcases dN hb with⟨j,u,rfl,e⟩|⟨y,u,rfl,e⟩
   ·injection e with e1 _;rw[e1]
   ·exact nomatch e
  ·rcases dN hb with⟨j,u,rfl,e⟩|⟨y,u,rfl,e⟩
   ·exact nomatch e
   ·injection e with e1 _;rw[e1]
 byValue:=λk v h=>by
  rcases dN h with⟨i,t,rfl,rfl⟩|⟨x,t,rfl,rfl⟩ <;> rfl
 pyHash:=λhv h=>by
  rcases dN hv with⟨i,t,rfl,rfl⟩|⟨x,t,rfl,rfl⟩
  ·exact wpAny_pyHash_int h
  ·exact wpAny_pyHash_str h
 eqBool:=λhu hv h=>by
  rcases dN hu with⟨i,t,rfl,rfl⟩|⟨x,t,rfl,rfl⟩
  ·rcases dN hv with⟨j,u,rfl,rfl⟩|⟨y,u,rfl,rfl⟩
   ·rw[Uv] at h;exact wpAny_eqBool_int h
   ·rw[Ux] at h;exact SeqAt.EqAt.int_str i t y u _ _ _ _ h
  ·rcases dN hv with⟨j,u,rfl,rfl⟩|⟨y,u,rfl,rfl⟩
   ·rw[Uy] at h;exact SeqAt.EqAt.str_int x t j u _ _ _ _ h
   ·rw[Uw] at h;exact wpAny_eqBool_str h
 «strs»:=λk x t v h=>by
  rcases dN h with⟨i,u,rfl,e⟩|⟨y,u,rfl,e⟩
  ·exact nomatch e
  ·injection e with e1 _
   subst e1;cases v <;> rfl
inductive V where
 | non|bl (b:Bool)|int (i:Int)|str (x:Str)|byt (b:Array UInt8)|flt (b:UInt64)|ref (a:Addr)|ty (n:String)
 deriving DecidableEq
def RelV:V->Value->Prop
 | .non,u=>u=Value.none
 | .bl b,u=>u=Value.bool b
 | .int i,u=>∃t,u=Value.int i t
 | .str x,u=>∃t,u=Value.str x t
 | .byt b,u=>∃t,u=Value.bytes b t
 | .flt b,u=>∃t,u=Value.float b t
 | .ref a,u=>u=Value.ref a
 | .ty n,u=>u=Value.type n
abbrev Vals:List V->List Value->Prop:=Paired RelV
theorem Vals.length{xs:List V}{us:xF}(r:Vals xs us):xs.length=us.length:=Paired.length r
theorem Vals.get:∀{xs:List V} {us:xF} {i:Nat} {x:V},Vals xs us->xs[i]?=some x->∃u,us[i]?=some u/\RelV x u
 | _,_,_,_,.nil,e=>by simp at e
 | _,_,0,_,.cons r _,e=>by simp at e;subst e;exact⟨_,rfl,r⟩
 | _,_,i+1,x,.cons _ t,e=>by
  obtain⟨u,h1,h2⟩:=Vals.get (i:=i) (x:=x) t (by simpa using e);exact⟨u,by simpa using h1,h2⟩
theorem Vals.set{x:V}{u:Value}(r:RelV x u):∀{xs:List V} {us:xF} (i:Nat),Vals xs us->Vals (xs.set i x) (us.set i u)
 | _,_,_,.nil=>.nil
 | _,_,0,.cons _ t=>.cons r t
 | _,_,i+1,.cons q t=>.cons q (Vals.set r i t)
theorem Vals.append:∀{xs ys:List V} {us ws:xF},Vals xs us->Vals ys ws->Vals (xs++ys) (us++ws)
 | _,_,_,_,.nil,s=>s
 | _,_,_,_,.cons r t,s=>.cons r (Vals.append t s)
theorem Vals.take:∀{xs:List V} {us:xF} (n:Nat),Vals xs us->Vals (xs.take n) (us.take n)
 | _,_,0,_=>.nil
 | _,_,_+1,.nil=>.nil
 | _,_,n+1,.cons r t=>.cons r (Vals.take n t)
theorem Vals.drop:∀{xs:List V} {us:xF} (n:Nat),Vals xs us->Vals (xs.drop n) (us.drop n)
 | _,_,0,r=>r
 | _,_,_+1,.nil=>.nil
 | _,_,n+1,.cons _ t=>Vals.drop n t
def jK:Option V->Option Value->Prop
 | some v,some u=>RelV v u
 | none,none=>True
 | _,_=>False
def KV{κ:Type}:List (κ×V)->List (κ×Value)->Prop:=Paired λ(p:κ×V) (q:κ×Value)=>p.1=q.1/\RelV p.2 q.2
def kV:Key->V
 | .inl i=>.int i
 | .inr x=>.str x
inductive HO where
 /-- a list -/
 | lst (xs:List V)
 /-- a tuple (never changes) -/
 | tup (xs:List V)
 /-- a dict whose keys are ints and texts; one whose keys are tuples of ints and texts (the empty one is both) -/
 | dK (kvs:List (Key×V))|dT (kvs:List (List Key×V))
 /-- a set of ints: its members, its size -/
 | set (S:Int->Bool) (n:Nat)
 /-- an instance of the class at C, its dict at dx, its attributes -/
 | ins (C dx:Addr) (fs:List (Str×V))
 /-- the dict of the instance at x -/
 | own (x:Addr)
 /-- the dict of an exception -/
 | xd (fs:List (Str×V))
 /-- a bound method, f of x -/
 | met (f x:Addr)
 /-- a range object lo, lo + 1, .. below hi -/
 | rng (lo hi:Int)
 /-- a thing that is known to the object (the script; a dict while a loop walks it): read, never written while it is so -/
 | frz (o:Obj) (u:HO)
 /-- a code object's table -/
 | tbl (ps:xL)
 /-- any other thing, by what is true of its one object (a def of one's own: acD a S n := HO.ext fun h => ..) -/
 | ext (φ:Heap->Prop)
abbrev Hp:=Addr->Option HO
def upd(H:Hp)(a:Addr)(o:HO):Hp:=λb=>if b=a then some o else H b
theorem bG{H:Hp}{a:Addr}{o:HO}:upd H a o a=some o:=by unfold upd;rw[if_pos rfl]
theorem aR{H:Hp}{a b:Addr}{o:HO}(h:b≠a):upd H a o b=H b:=by unfold upd;rw[if_neg h]
theorem XS{H:Hp}{a b:Addr}{o u:HO}(h:H a=some o)(h':H b=some u)(d:o≠u):a≠b:=by
 intro e;subst e;rw[h] at h';exact d (nS h')
theorem aN{H:Hp}{a b:Addr}{o:HO}(h:H a=some o)(h':H b=none):a≠b:=by
 intro e;subst e;rw[h] at h';cases h'
section
variable(P:Program)(w:World)
def cU(H:Hp)(h:Heap)(a:Addr):HO->Prop
 | .lst xs=>xs.length<=sizeLine/\∃(its:xF)(n:Nat),Vals xs its/\h.get? a=some { cls:=.type "list", data:=.seq its.toArray n }
 | .tup xs=>xs.length<=sizeLine/\∃its:List Value,Vals xs its/\IsTup h a its.toArray
 | .dK kvs=>kvs.length<=sizeLine/\(a==sysModules)=false/\∃vs,KV kvs vs/\h.DictOf (G_ P w) a vs
 | .dT kvs=>kvs.length<=sizeLine/\(a==sysModules)=false/\∃xs:List (List Key×Addr×Value),
   Paired (λ(p:List Key×V) (q:List Key×Addr×Value)=>p.1=q.1/\H q.2.1=some (.tup (p.1.map kV))/\RelV p.2 q.2.2) kvs xs /\
   ∃o es ep,h.get? a=some o/\o.ExactDict/\o.data=.dict es ep/\es.toList=xs.map (entryOfKey (tupleKind (G_ P w)))/\(xs.map (·.1)).Nodup
 | .set S n=>h.SetOf (intKind P w) a S n
 | .ins C dx fs=>H dx=some (.own a)/\fs.length<=1000/\dx≠a/\h.get? a=some (W.instObj C dx) /\
   ∃mA,h.Ns1 dx mA/\(∀f,jK (fs.lookup f) (mA f))/\PySem.Within mA (fs.map (·.1))
 | .own _=>∃o,h.get? a=some o
 | .xd fs=>∃mA,h.Ns1 a mA/\∀f,jK (fs.lookup f) (mA f)
 | .rng lo hi=>∃t u v,h.get? a=some { cls:=.type "range", data:=.fields #[.int lo t,.int hi u,.int 1 v] }
 | .frz o u=>h.get? a=some o/\cU H h a u
 | .tbl ps=>h.get? a=some { cls:=.none,data:=.fields ps }
 | .met f x=>h.get? a=some (W.methodObj (.ref f) (.ref x))
 | .ext φ=>φ h/\(∃o,h.get? a=some o)/\∀h1 h2:Heap,φ h1->(∀o,h1.get? a=some o->h2.get? a=some o)->φ h2
def HOk(H:Hp)(h:Heap):Prop:=∀a o,H a=some o->cU P w H h a o
end
section
variable{P:Program}{w:World}{H H':Hp}{h h':Heap}{a:Addr}{o:HO}
theorem cU.lt(x:cU P w H h a o):a<h.objs.size:=by
 cases o with
 | lst xs=>obtain⟨_,_,_,_,e⟩:=x;exact uB e
 | tup xs=>obtain⟨_,_,_,p⟩:=x;exact p.lt
 | dK kvs=>obtain⟨_,_,_,_,o,_,_,e,_⟩:=x;exact uB e
 | dT kvs=>obtain⟨_,_,_,_,o,_,_,e,_⟩:=x;exact uB e
 | set S n=>obtain⟨o,_,_,_,e,_⟩:=x;exact uB e
 | ins C dx fs=>obtain⟨_,_,_,e,_⟩:=x;exact uB e
 | own y=>obtain⟨_,e⟩:=x;exact uB e
 | xd fs=>obtain⟨_,⟨_,_,_,e,_⟩,_⟩:=x;exact uB e
 | rng lo hi=>obtain⟨_,_,_,e⟩:=x;exact uB e
 | frz ob u=>obtain⟨e,_⟩:=x;exact uB e
 | tbl ps=>exact uB (show h.get? a=some _ from x)
 | met f y=>exact uB (show h.get? a=some _ from x)
 | ext φ=>obtain⟨_,⟨_,e⟩,_⟩:=x;exact uB e
theorem Paired.X3{α β:Type}{F G:α->β->Prop}:∀{l₁:List α} {l₂:List β},Paired F l₁ l₂->(∀a b,F a b->G a b)->Paired G l₁ l₂
 | _,_,.nil,_=>.nil
 | _,_,.cons r t,f=>.cons (f _ _ r) (Paired.X3 t f)
theorem cU.stay(x:cU P w H h a o)(k:∀b u,(b=a\/H b=some (.own a))->h.get? b=some u->h'.get? b=some u)
  (ho:∀b,H b=some (.own a)->H' b=some (.own a)) (ht:∀b xs,H b=some (.tup xs)->H' b=some (.tup xs)):cU P w H' h' a o:=by
 induction o with
 | lst xs=>obtain⟨z,its,n,r,e⟩:=x;exact⟨z,its,n,r,k _ _ (.inl rfl) e⟩
 | tup xs=>obtain⟨z,its,r,ob,e,c⟩:=x;exact⟨z,its,r,ob,k _ _ (.inl rfl) e,c⟩
 | dK kvs=>obtain⟨z,y,vs,r,ob,es,ep,e,c⟩:=x;exact⟨z,y,vs,r,ob,es,ep,k _ _ (.inl rfl) e,c⟩
 | dT kvs =>
  obtain⟨z,y,xs,r,ob,es,ep,e,c⟩:=x;exact⟨z,y,xs,Paired.X3 r λp q z=>⟨z.1,ht _ _ z.2.1,z.2.2⟩,ob,es,ep,k _ _ (.inl rfl) e,c⟩
 | set S n=>obtain⟨ob,es,ep,t,e,c⟩:=x;exact⟨ob,es,ep,t,k _ _ (.inl rfl) e,c⟩
 | ins C dx fs =>
  obtain⟨d,z,ne,e,mA,⟨od,es,ep,e2,c⟩,r⟩:=x;exact⟨ho _ d,z,ne,k _ _ (.inl rfl) e,mA,⟨od,es,ep,k _ _ (.inr d) e2,c⟩,r⟩
 | own y=>obtain⟨ob,e⟩:=x;exact⟨ob,k _ _ (.inl rfl) e⟩
 | xd fs=>obtain⟨mA,⟨od,es,ep,e,c⟩,r⟩:=x;exact⟨mA,⟨od,es,ep,k _ _ (.inl rfl) e,c⟩,r⟩
 | rng lo hi=>obtain⟨t,u,v,e⟩:=x;exact⟨t,u,v,k _ _ (.inl rfl) e⟩
 | frz ob u ih=>obtain⟨e,q⟩:=x;exact⟨k _ _ (.inl rfl) e,ih q⟩
 | tbl ps =>
  have e:h.get? a=some { cls:=.none,data:=.fields ps }:=x;show h'.get? a=some { cls:=.none,data:=.fields ps };exact k a _ (.inl rfl) e
 | met f y =>
  have e:h.get? a=some (W.methodObj (.ref f) (.ref y)):=x;show h'.get? a=some (W.methodObj (.ref f) (.ref y));exact k a _ (.inl rfl) e
 | ext φ=>obtain⟨p,⟨o,e⟩,st⟩:=x;exact⟨st _ _ p λo q=>k _ _ (.inl rfl) q,⟨o,k _ _ (.inl rfl) e⟩,st⟩
theorem HOk.lt(x:HOk P w H h)(e:H a=some o):a<h.objs.size:=(x a o e).lt
theorem HOk.fresh(x:HOk P w H h)(e:h.objs.size<=a):H a=none:=by
 cases q:H a with
 | none=>rfl
 | some u=>exact gN (qS (x.lt q) e) (gE _)
theorem HOk.kept(x:HOk P w H h)(k:∀b u,h.get? b=some u->h'.get? b=some u):HOk P w H h':=λa o e =>
 (x a o e).stay (λb u _ q=>k b u q) (λ_ q=>q) λ_ _ q=>q
theorem HOk.laid(x:HOk P w H h)(k:∀b u,h.get? b=some u->h'.get? b=some u)(hp:h.objs.size<=a)(new:cU P w (upd H a o) h' a o):HOk P w (upd H a o) h':=λb u e=>by
 have hn:=x.fresh hp;by_cases hb:b=a
 ·subst hb;rw[bG] at e;cases e;exact new
 ·rw[aR hb] at e;exact(x b u e).stay (λc v _ q=>k c v q) (λc q=>by rw[aR (aN q hn)];exact q) λc xs q=>by rw[aR (aN q hn)];exact q
end
def Rd(H:Hp)(a:Addr)(u:HO):Prop:=H a=some u\/∃o,H a=some (.frz o u)
theorem Rd.of{H:Hp}{a:Addr}{u:HO}(h:H a=some u):Rd H a u:=.inl h
theorem Rd.ok{P:Program}{w:World}{H:Hp}{h:Heap}{a:Addr}{u:HO}(r:Rd H a u)(x:HOk P w H h):cU P w H h a u:=by
 rcases r with r|⟨o,r⟩
 ·exact x a u r
 ·obtain⟨_,q⟩:=x a _ r;exact q
def Mut:Option HO->Prop
 | some (.lst _)=>True
 | some (.dK _)=>True
 | some (.dT _)=>True
 | some (.set _ _)=>True
 | some (.ins _ _ _)=>True
 | some (.ext _)=>True
 | _=>False
section
variable{P:Program}{w:World}{H:Hp}{h h':Heap}{x e:Addr}{o':HO}
theorem HOk.write(ok:HOk P w H h)(mu:Mut (H x))(he:e=x\/H e=some (.own x))(k:∀b u,b≠e->h.get? b=some u->h'.get? b=some u)(heo:∃u,h'.get? e=some u)
  (new:cU P w (upd H x o') h' x o'):HOk P w (upd H x o') h':=λb u q=>by
 have X4:∀c y,H c=some (.own y)->c≠x:=λc y r z=>by subst z;rw[r] at mu;exact mu
 have aa7:∀c xs,H c=some (.tup xs)->c≠x:=λc xs r z=>by subst z;rw[r] at mu;exact mu
 by_cases hb:b=x
 ·subst hb;rw[bG] at q;cases q;exact new
 ·rw[aR hb] at q;by_cases hbe:b=e
  ·have q':H b=some (.own x):=by
    rcases he with z|z
    ·exact gN (hbe.trans z) hb
    ·rw[hbe];exact z
   rw[q] at q';cases q';obtain⟨v,hv⟩:=heo;exact⟨v,by rw[hbe];exact hv⟩
  ·refine(ok b u q).stay (λc v hc r=>k c v ?_ r) (λc r=>by rw[aR (X4 c b r)];exact r) λc xs r=>by rw[aR (aa7 c xs r)];exact r
   rcases hc with rfl|hc
   ·exact hbe
   ·rintro rfl;rcases he with z|z
    ·exact X4 c b hc z
    ·rw[hc] at z;cases z;exact hb rfl
end
structure Un(fs ex:List Addr)(H H':Hp)(h h':Heap):Prop where
 keep:∀b o,h.get? b=some o->H b=none->b ∉ fs->b ∉ ex->h'.get? b=some o
 slot:∀b o,h.get? b=some o->H b=none->b∈fs->b ∉ ex->∃sl,h'.get? b=some { o with slots:=sl }
 free:∀b o,h.get? b=some o->H b=none->b ∉ ex->H' b=none
 there:∀b o,h.get? b=some o->b ∉ ex->∃o',h'.get? b=some o'
 tups:∀b xs,H b=some (.tup xs)->H' b=some (.tup xs)
 j6:∀b o u,H b=some (.frz o u)->H' b=some (.frz o u)
 j7:∀b ps,H b=some (.tbl ps)->∃more,H' b=some (.tbl (ps++more))
section
variable{fs fs' ex ex':List Addr}{H H1 H2:Hp}{h h1 h2 h':Heap}{a x e:Addr}{o:HO}
theorem Un.any(u:Un fs ex H H1 h h1){b:Addr}{ob:Obj}(q:h.get? b=some ob)(n:H b=none)(hx:b ∉ ex):∃sl,h1.get? b=some { ob with slots:=sl }:=by
 by_cases hb:b∈fs
 ·exact u.slot b ob q n hb hx
 ·exact⟨ob.slots,u.keep b ob q n hb hx⟩
theorem Un.trans(a:Un fs ex H H1 h h1)(b:Un fs ex H1 H2 h1 h2):Un fs ex H H2 h h2 where
 keep:=λc ob q n hc hx=>b.keep c ob (a.keep c ob q n hc hx) (a.free c ob q n hx) hc hx
 slot:=λc ob q n hc hx=>by
  obtain⟨sl,e1⟩:=a.slot c ob q n hc hx;obtain⟨sl',e2⟩:=b.slot c _ e1 (a.free c ob q n hx) hc hx;exact⟨sl',e2⟩
 free:=λc ob q n hx=>by
  obtain⟨o',e1⟩:=a.there c ob q hx;exact b.free c o' e1 (a.free c ob q n hx) hx
 there:=λc ob q hx=>by
  obtain⟨o',e1⟩:=a.there c ob q hx;exact b.there c o' e1 hx
 tups:=λc xs q=>b.tups c xs (a.tups c xs q)
 j6:=λc ob xs q=>b.j6 c ob xs (a.j6 c ob xs q)
 j7:=λc ps q=>by
  obtain⟨m1,e1⟩:=a.j7 c ps q;obtain⟨m2,e2⟩:=b.j7 c _ e1;exact⟨m1++m2,by rw[e2,Array.append_assoc]⟩
theorem Un.kept(k:∀b u,h.get? b=some u->h'.get? b=some u):Un fs ex H H h h' :=
 ⟨λb ob q _ _ _=>k b ob q,λb ob q _ _ _=>⟨ob.slots,k b ob q⟩,λ_ _ _ n _=>n,λb ob q _=>⟨ob,k b ob q⟩,λ_ _ q=>q,λ_ _ _ q=>q,λ_ ps q=>⟨#[],by rw[q];simp⟩⟩
theorem Un.refl:Un fs ex H H h h:=Un.kept λ_ _ q=>q
theorem Un.laid(k:∀b u,h.get? b=some u->h'.get? b=some u)(hp:h.objs.size<=a)(hn:H a=none):Un fs ex H (upd H a o) h h' where
 keep:=λb u q _ _ _=>k b u q
 slot:=λb u q _ _ _=>⟨u.slots,k b u q⟩
 free:=λb u q n _=>by rw[aR (qV (qS (uB q) hp))];exact n
 there:=λb u q _=>⟨u,k b u q⟩
 tups:=λb xs q=>by rw[aR (aN q hn)];exact q
 j6:=λb u xs q=>by rw[aR (aN q hn)];exact q
 j7:=λb ps q=>⟨#[],by rw[aR (aN q hn),q];simp⟩
theorem Un.write(mu:Mut (H x))(he:e=x\/H e=some (.own x))(k:∀b u,b≠e->h.get? b=some u->h'.get? b=some u)(heo:∃u,h'.get? e=some u):Un fs ex H (upd H x o) h h':=by
 have hx:∀b,H b=none->b≠x:=λb n z=>by subst z;rw[n] at mu;exact mu
 have hb:∀b,H b=none->b≠e:=λb n z=>by
  subst z;rcases he with r|r
  ·exact hx b n r
  ·rw[n] at r;cases r
 have hm:∀b u,H b=some u->¬ Mut (some u)->b≠x:=λb u q nm z=>by subst z;rw[q] at mu;exact nm mu
 refine⟨λb u q n _ _=>k b u (hb b n) q,λb u q n _ _=>⟨u.slots,k b u (hb b n) q⟩,λb u q n _=>by rw[aR (hx b n)];exact n,λb u q _=>?_,
  λb xs q=>by rw[aR (hm b _ q λz=>z)];exact q,λb u xs q=>by rw[aR (hm b _ q λz=>z)];exact q,λb ps q=>⟨#[],by rw[aR (hm b _ q λz=>z),q];simp⟩⟩
 by_cases hbe:b=e
 ·subst hbe;exact heo
 ·exact⟨u,k b u hbe q⟩
theorem Un.mono(u:Un fs ex H H1 h h1)(hs:∀b∈fs,b∈fs')(hx:∀b∈ex,b∈ex'):Un fs' ex' H H1 h h1 :=
 ⟨λb ob q n hb he=>u.keep b ob q n (λz=>hb (hs b z)) λz=>he (hx b z),λ_ _ q n _ he=>u.any q n λz=>he (hx _ z),λb ob q n he=>u.free b ob q n λz=>he (hx b z),λb ob q he=>u.there b ob q λz=>he (hx b z),u.tups,u.j6,u.j7⟩
end
def trk(h:Heap)(H:Hp):List Addr:=(List.range h.objs.size).filter λa=>(H a).isSome
def wF(h:Heap)(H:Hp):Heap:=W.hideAll h (trk h H)
theorem JH(h:Heap)(H:Hp):(wF h H).objs.size=h.objs.size:=W.hideAll_size _ _
theorem Bp{h:Heap}{H:Hp}{b:Addr}{o:Obj}(e:h.get? b=some o)(n:H b=none):(wF h H).get? b=some o :=
 W.hideAll_get _ e λhm=>by
  have q:(H b).isSome=true:=(List.mem_filter.mp hm).2;rw[n] at q;simp at q
theorem Q6{h:Heap}{H:Hp}{b:Addr}{o:Obj}(e:(wF h H).get? b=some o):h.get? b=some o/\H b=none:=by
 have e':h.get? b=some o:=W.of_hideAll (trk h H) e;refine⟨e',?_⟩;cases q:H b with
 | none=>rfl
 | some x =>
  have hm:b∈trk h H:=List.mem_filter.mpr ⟨List.mem_range.mpr (Heap.lt_size e'),by simp[q]⟩;have z:(wF h H).get? b=none:=W.hideAll_none (trk h H) hm;rw[z] at e;cases e
structure Mod(K:W.Frag)(mg:xC)(base:Heap):Prop where
 kin:K.In base
 glob:base.Ns mainGlobals mg
 blt:∃mb,base.Ns builtinsNs mb/\∀x:Str,x ≠ "__name__" -> mb x=bootBuiltins x
 nolimit:base.NoLimit
/-- the context: a def's body (or a comprehension's block) running. base: fixed through the whole law; s₀, H₀: the entry; outer: the frames whose slots others may change (a def's callers); stack: all frames that run;
   ex: iterators that were made ahead of the entry and are walked here (a comprehension's);fn: the names whose cells were made at the entry (a def: all;a comprehension's block: its own);calm: not within an except suite;pn: pins that every state bears;xe: what is wanted of an exception that leaves the code -/
structure Cx where
 prog:Program
 w:World
 K:W.Frag
 mg:Str->Option Value
 base:Heap
 A:Around
 N:List Str
 s₀:Shared
 H₀:Hp
 env:Env
 outer:List Env
 stack:List Env
 ex:List Addr
 fn:Str->Bool
 calm:Bool
 pn:List (Addr×Obj)
 xe:Value->Shared->Prop
def frs(l:List Env):List Addr:=l.filterMap (·.frame)
abbrev Cx.fs(X:Cx):List Addr:=frs X.outer
def Vis(sc:Scope)(x:Str):Prop:=sc.names.lookup x=some .local\/sc.names.lookup x=some .cell\/sc.names.lookup x=some .free
def Loc(sc:Scope)(x:Str):Prop:=sc.names.lookup x=some .local\/sc.names.lookup x=some .cell
def Look(env:Env)(h:Heap)(m:xC)(x:Str)(u:Value):Prop :=
 (env.kindOf x=some .local/\m x=some u)\/((env.kindOf x=some .cell\/env.kindOf x=some .free)/\∃c,env.cells.lookup x=some c/\h.IsCell c (some u))
structure Cx.Ok(X:Cx):Prop where
 mod:Mod X.K X.mg X.base
 kind:X.env.scope.kind=.function
 glob:X.env.globals=mainGlobals
 blt:X.env.builtins=builtinsNs
 above:X.s₀.heap.objs.size<=X.env.locals
 inj:∀x y c,X.env.cells.lookup x=some c->X.env.cells.lookup y=some c->x=y
 has:∀x,(X.env.kindOf x=some .cell\/X.env.kindOf x=some .free)->∃c,X.env.cells.lookup x=some c
 cab:∀x c,X.fn x=true->X.env.cells.lookup x=some c->X.s₀.heap.objs.size<=c
 hd:X.calm=true->X.A.handled=none
 frames:X.A.frames=some X.stack
 stk:X.stack=X.outer\/(X.stack=X.env::X.outer/\X.env.frame=some X.env.locals)
 exf:∀b∈X.ex,b≠X.env.locals/\∀x c,X.env.cells.lookup x=some c->c≠b
 bs:∀b o,X.base.get? b=some o->X.s₀.heap.get? b=some o/\X.H₀ b=none
 bsz:X.base.objs.size<=X.s₀.heap.objs.size
 yW:∀b o,X.base.get? b=some o->b ∉ X.ex
 Bq:∀b∈X.ex,b ∉ X.fs
 m_:X.s₀.heap.FunFrames X.base X.outer
 frf:∀b∈X.fs,X.H₀ b=none
structure Inv(X:Cx)(pins:List (Addr×Obj))(σ:List (Option V))(H:Hp)(s:Shared):Prop where
 ok:X.Ok
 os:s.os=X.s₀.os
 bare:AllBare s.gens
 base:Un X.fs X.ex X.H₀ H X.s₀.heap s.heap
 loc:∃m,s.heap.Ns X.env.locals m/\∀(i:Nat)(x:Str)(v:V),X.N[i]?=some x->σ[i]?=some (some v)->Vis X.env.scope x->∃u,RelV v u/\Look X.env s.heap m x u
 cell:∀x c,X.env.cells.lookup x=some c->∃v,s.heap.IsCell c v
 free:H X.env.locals=none
 iu:∀x c,X.env.cells.lookup x=some c->H c=none
 pin:∀p∈X.pn++pins,s.heap.get? p.1=some p.2/\H p.1=none/\p.1≠X.env.locals/\p.1 ∉ X.fs/\∀v,p.2.data≠.cell v
 hok:HOk X.prog X.w H s.heap
 len:σ.length=X.N.length
section
variable{X:Cx}{pins:List (Addr×Obj)}{σ:List (Option V)}{H H':Hp}{s:Shared}{h':Heap}
theorem Cx.Ok.aa8(ok:X.Ok){b:Addr}{o:Obj}(e:X.base.get? b=some o):b ∉ X.fs:=λhb=>by
 have:=(ok.m_.mem hb).1;rw[e] at this;cases this
theorem Inv.bs(I:Inv X pins σ H s):∀b o,X.base.get? b=some o->s.heap.get? b=some o/\H b=none:=λb o e =>
 ⟨I.base.keep b o (I.ok.bs b o e).1 (I.ok.bs b o e).2 (I.ok.aa8 e) (I.ok.yW b o e),I.base.free b o (I.ok.bs b o e).1 (I.ok.bs b o e).2 (I.ok.yW b o e)⟩
theorem Inv.bk(I:Inv X pins σ H s):∀b o,X.base.get? b=some o->s.heap.get? b=some o:=λb o e=>(I.bs b o e).1
theorem Inv.mod(I:Inv X pins σ H s):Mod X.K X.mg X.base:=I.ok.mod
theorem Inv.kIn(I:Inv X pins σ H s):X.K.In s.heap:=I.ok.mod.kin.keeps I.bk
theorem Inv.fr(I:Inv X pins σ H s):∃m,Fr X.base X.env.locals s.heap m :=
 let ⟨m,hn,_⟩:=I.loc
 ⟨m,hn,I.bk,oB I.ok.bsz I.ok.above⟩
theorem Inv.lt(I:Inv X pins σ H s):X.env.locals<s.heap.objs.size:=let ⟨_,hn,_⟩:=I.loc;hn.lt
theorem Inv.sz(I:Inv X pins σ H s):X.s₀.heap.objs.size<=s.heap.objs.size:=oB I.ok.above (zzE I.lt)
theorem Inv.aa9(I:Inv X pins σ H s){a:Addr}(h:s.heap.objs.size<=a):a ∉ X.fs:=λhb=>by
 obtain⟨_,o,ho,_⟩:=I.ok.m_.mem hb;exact gN (qS (uB ho) (oB I.sz h)) (gE _)
theorem Inv.cne(I:Inv X pins σ H s):∀x c,X.env.cells.lookup x=some c->c≠X.env.locals:=λx c e z=>by
 obtain⟨v,o,ho,hd⟩:=I.cell x c e;obtain⟨m,⟨o',es,ep,ho',hd',_⟩,_⟩:=I.loc;rw[z,ho'] at ho;cases ho;rw[hd'] at hd;cases hd
theorem Inv.m_(I:Inv X pins σ H s):s.heap.FunFrames X.base X.outer:=by
 have all:∀(l:List Env),(∀b∈frs l,b∈X.fs)->X.s₀.heap.FunFrames X.base l->s.heap.FunFrames X.base l:=by
  intro l
  induction l with
  | nil=>intro _ _;trivial
  | cons env r ih =>
   intro hs hl;obtain⟨hk,⟨L,o,hf,hn,ho,hd⟩,hr⟩:=hl;have hL:L∈X.fs:=hs L (by unfold frs;rw[List.filterMap_cons,hf];exact List.mem_cons_self);obtain⟨sl,e⟩:=I.base.slot L o ho (I.ok.frf L hL) hL λz=>I.ok.Bq L z hL
   exact⟨hk,⟨L,_,hf,hn,e,hd⟩,ih (λb hb=>hs b (by unfold frs;rw[List.filterMap_cons,hf];exact List.mem_cons_of_mem _ hb)) hr⟩
 exact all X.outer (λ_ hb=>hb) I.ok.m_
theorem Inv.stack(I:Inv X pins σ H s):s.heap.FunFrames X.base X.stack:=by
 rcases I.ok.stk with e|⟨e,hf⟩
 ·rw[e];exact I.m_
 ·rw[e];obtain⟨m,hn,_⟩:=I.loc;refine .cons (by rw[I.ok.kind];decide) hf hn ?_ I.m_;exact Heap.get?_none_of_le (oB I.ok.bsz I.ok.above)
theorem Inv.tO(I:Inv X pins σ H s):∀b∈frs X.stack,b∈X.env.locals::X.fs:=λb hb=>by
 rcases I.ok.stk with e|⟨e,hf⟩
 ·rw[e] at hb;exact zD _ hb
 ·rw[e] at hb;unfold frs at hb;rw[List.filterMap_cons,hf] at hb;exact hb
theorem Inv.sG(I:Inv X pins σ H s):∀b∈frs X.stack,H b=none:=λb hb=>by
 rcases jI.mp (I.tO b hb) with e|hb
 ·rw[e];exact I.free
 ·obtain⟨_,o,ho,_⟩:=I.ok.m_.mem hb;exact I.base.free b o ho (I.ok.frf b hb) λz=>I.ok.Bq b z hb
theorem Inv.step{g':Array GenState}{t':Nat}{d':Drawn}{ch:List Addr}(I:Inv X pins σ H s)
  (hch:∀b∈ch,(b∈X.ex\/X.s₀.heap.objs.size<=b)/\b≠X.env.locals/\(∀x c,X.env.cells.lookup x=some c->c≠b)/\∀p∈X.pn++pins,p.1≠b)
  (keep:∀b o,b≠X.env.locals->b ∉ X.fs->b ∉ ch->s.heap.get? b=some o->H b=none->h'.get? b=some o)
  (slot:∀b o,b≠X.env.locals->b∈X.fs->b ∉ ch->s.heap.get? b=some o->H b=none->∃sl,h'.get? b=some { o with slots:=sl }) (free:∀b o,b ∉ ch->s.heap.get? b=some o->H b=none->H' b=none)
  (there:∀b o,b ∉ ch->s.heap.get? b=some o->∃o',h'.get? b=some o')
  (tups:∀b xs,H b=some (.tup xs)->H' b=some (.tup xs)) (j6:∀b o u,H b=some (.frz o u)->H' b=some (.frz o u)) (j7:∀b ps,H b=some (.tbl ps)->∃more,H' b=some (.tbl (ps++more)))
  (ns:∀m,s.heap.Ns X.env.locals m->h'.Ns X.env.locals m) (hok:HOk X.prog X.w H' h') (hg:AllBare g') :
  Inv X pins σ H' { s with heap:=h',gens:=g',drawn:=d',toks:=t' }:=by
 have neL:∀b o,X.s₀.heap.get? b=some o->b≠X.env.locals:=λb o e=>qV (qS (uB e) I.ok.above)
 have neC:∀b o,X.s₀.heap.get? b=some o->b ∉ X.ex->b ∉ ch:=λb o e hx hb=>by
  rcases(hch b hb).1 with z|z
  ·exact hx z
  ·exact gN (qS (uB e) z) (gE _)
 have cellK:∀x c,X.env.cells.lookup x=some c->∀v,s.heap.IsCell c v->h'.IsCell c v:=λx c e v ⟨o,ho,hd⟩=>by
  have nch:c ∉ ch:=λz=>(hch c z).2.2.1 x c e rfl
  by_cases hc:c∈X.fs
  ·obtain⟨sl,q⟩:=slot c o (I.cne x c e) hc nch ho (I.iu x c e);exact⟨_,q,hd⟩
  ·exact⟨o,keep c o (I.cne x c e) hc nch ho (I.iu x c e),hd⟩
 refine⟨I.ok,I.os,hg,⟨λb o e n hb hx=>?_,λb o e n hb hx=>?_,λb o e n hx=>?_,λb o e hx=>?_,λb xs e=>tups b xs (I.base.tups b xs e),λb o xs e=>j6 b o xs (I.base.j6 b o xs e),λb ps e=>?_⟩,?_,λx c e=>?_,?_,λx c e=>?_,λp hp=>?_,hok,I.len⟩
 ·exact keep b o (neL b o e) hb (neC b o e hx) (I.base.keep b o e n hb hx) (I.base.free b o e n hx)
 ·obtain⟨sl,e1⟩:=I.base.slot b o e n hb hx;obtain⟨sl',e2⟩:=slot b _ (neL b o e) hb (neC b o e hx) e1 (I.base.free b o e n hx);exact⟨sl',e2⟩
 ·obtain⟨o',e1⟩:=I.base.there b o e hx;exact free b o' (neC b o e hx) e1 (I.base.free b o e n hx)
 ·obtain⟨o',e1⟩:=I.base.there b o e hx;exact there b o' (neC b o e hx) e1
 ·obtain⟨m1,e1⟩:=I.base.j7 b ps e;obtain⟨m2,e2⟩:=j7 b _ e1;exact⟨m1++m2,by rw[e2,Array.append_assoc]⟩
 ·obtain⟨m,hn,hl⟩:=I.loc;refine⟨m,ns m hn,λi x v e1 e2 e3=>?_⟩;obtain⟨u,r,l⟩:=hl i x v e1 e2 e3;refine⟨u,r,?_⟩;rcases l with l|⟨k,c,e,z⟩
  ·exact .inl l
  ·exact .inr ⟨k,c,e,cellK x c e _ z⟩
 ·obtain⟨v,z⟩:=I.cell x c e;exact⟨v,cellK x c e v z⟩
 ·obtain⟨m,⟨o,_,_,ho,_⟩,_⟩:=I.loc;exact free _ o (λz=>(hch _ z).2.1 rfl) ho I.free
 ·obtain⟨v,o,ho,hd⟩:=I.cell x c e;exact free c o (λz=>(hch c z).2.2.1 x c e rfl) ho (I.iu x c e)
 ·obtain⟨e,n,ne,nf,d⟩:=I.pin p hp;have nch:p.1 ∉ ch:=λz=>(hch p.1 z).2.2.2 p hp rfl
  exact⟨keep p.1 p.2 ne nf nch e n,free p.1 p.2 nch e n,ne,nf,d⟩
theorem Inv.un{t':Nat}(I:Inv X pins σ H s)(u:Un X.fs [] H H' s.heap h')(hok:HOk X.prog X.w H' h'):Inv X pins σ H' { s with heap:=h',toks:=t' }:=by
 obtain⟨m,⟨o,es,ep,ho,r⟩,_⟩:=id I.loc;obtain⟨sl,hL⟩:=u.any ho I.free (by simp);exact I.step (g':=s.gens) (d':=s.drawn) (ch:=[]) (λ_ z=>nomatch z) (λb o _ hb _ e n=>u.keep b o e n hb (by simp)) (λb o _ hb _ e n=>u.slot b o e n hb (by simp)) (λb o _ e n=>u.free b o e n (by simp)) (λb o _ e=>u.there b o e (by simp)) u.tups u.j6 u.j7 (λm' hm=>by
  obtain⟨o',es',ep',ho',r'⟩:=hm;rw[ho] at ho';cases ho';exact⟨_,es',ep',hL,r'⟩) hok I.bare
theorem Inv.call{g':Array GenState}{t':Nat}{d':Drawn}{ch:List Addr}(I:Inv X pins σ H s)(u:Un (frs X.stack) ch H H' s.heap h')(hok:HOk X.prog X.w H' h')(hg:AllBare g')
  (hch:∀b∈ch,(b∈X.ex\/X.s₀.heap.objs.size<=b)/\b≠X.env.locals/\(∀x c,X.env.cells.lookup x=some c->c≠b)/\∀p∈X.pn++pins,p.1≠b) :
  Inv X pins σ H' { s with heap:=h',gens:=g',drawn:=d',toks:=t' }:=by
 obtain⟨m,⟨o,es,ep,ho,r⟩,_⟩:=id I.loc;obtain⟨sl,hL⟩:=u.any ho I.free λz=>(hch _ z).2.1 rfl
 exact I.step (ch:=ch) hch (λb o hL hb hc e n=>u.keep b o e n (λz=>(jI.mp (I.tO b z)).elim hL hb) hc) (λb o _ _ hc e n=>u.any e n hc) (λb o hc e n=>u.free b o e n hc) (λb o hc e=>u.there b o e hc) u.tups u.j6 u.j7 (λm' hm=>by
  obtain⟨o',es',ep',ho',r'⟩:=hm;rw[ho] at ho';cases ho';exact⟨_,es',ep',hL,r'⟩) hok hg
theorem Inv.turned{t':Nat}{it:Addr}(I:Inv X pins σ H s)(k:∀b o,b≠it->s.heap.get? b=some o->h'.get? b=some o)(hn:H it=none)(hL:it≠X.env.locals)
  (h1:it∈X.ex\/X.s₀.heap.objs.size<=it) (h2:∀x c,X.env.cells.lookup x=some c->c≠it) (h3:∀p∈X.pn++pins,p.1≠it):Inv X pins σ H { s with heap:=h',toks:=t' }:=by
 have nit:∀b u,H b=some u->b≠it:=λb u e z=>by rw[z,hn] at e;cases e
 refine I.step (g':=s.gens) (d':=s.drawn) (ch:=[it]) (λb hb=>?_) (λb o _ _ hc e _=>k b o (λz=>hc (by simp[z])) e) (λb o _ _ hc e _=>⟨o.slots,k b o (λz=>hc (by simp[z])) e⟩) (λ_ _ _ _ n=>n)
  (λb o hc e=>⟨o,k b o (λz=>hc (by simp[z])) e⟩) (λ_ _ e=>e) (λ_ _ _ e=>e) (λb ps e=>⟨#[],by rw[e];simp⟩) (λm hm=>?_) (λb u e=>?_) I.bare
 ·have e:b=it:=by simpa using hb
  subst e;exact⟨h1,hL,h2,h3⟩
 ·obtain⟨o,es,ep,ho,r⟩:=hm;exact⟨o,es,ep,k _ o (Ne.symm hL) ho,r⟩
 ·refine(I.hok b u e).stay (λc v hc q=>k c v ?_ q) (λ_ q=>q) λ_ _ q=>q
  rcases hc with z|z
  ·rw[z];exact nit b u e
  ·exact nit c _ z
theorem Inv.tok(I:Inv X pins σ H s)(t:Nat):Inv X pins σ H { s with toks:=t }:=I.un (h':=s.heap) (t':=t) Un.refl I.hok
theorem Inv.kept{t':Nat}(I:Inv X pins σ H s)(k:∀b u,s.heap.get? b=some u->h'.get? b=some u):Inv X pins σ H { s with heap:=h',toks:=t' }:=I.un (Un.kept k) (I.hok.kept k)
theorem Inv.laid{a:Addr}{o:HO}{t':Nat}(I:Inv X pins σ H s)(k:∀b u,s.heap.get? b=some u->h'.get? b=some u)(hp:s.heap.objs.size<=a)(new:cU X.prog X.w (upd H a o) h' a o) :
  Inv X pins σ (upd H a o) { s with heap:=h',toks:=t' }:=I.un (Un.laid k hp (I.hok.fresh hp)) (I.hok.laid k hp new)
theorem Inv.write{x e:Addr}{o:HO}{t':Nat}(I:Inv X pins σ H s)(mu:Mut (H x))(he:e=x\/H e=some (.own x))(k:∀b u,b≠e->s.heap.get? b=some u->h'.get? b=some u)(heo:∃u,h'.get? e=some u)
  (new:cU X.prog X.w (upd H x o) h' x o):Inv X pins σ (upd H x o) { s with heap:=h',toks:=t' }:=I.un (Un.write mu he k heo) (I.hok.write mu he k heo new)
theorem Inv.Hf{gC:List (Addr×Obj)}(I:Inv X pins σ H s)(h:∀p∈gC,s.heap.get? p.1=some p.2/\H p.1=none/\p.1≠X.env.locals/\p.1 ∉ X.fs/\∀v,p.2.data≠.cell v):Inv X gC σ H s :=
 ⟨I.ok,I.os,I.bare,I.base,I.loc,I.cell,I.free,I.iu,λp hp=>(wT.mp hp).elim (λz=>I.pin p (mN _ z)) (h p),I.hok,I.len⟩
theorem tQ{N:List Str}(hN:N.Nodup){i j:Nat}{x:Str}(a:N[i]?=some x)(b:N[j]?=some x):i=j:=by
 obtain⟨h1,e1⟩:=qB.mp a;obtain⟨h2,e2⟩:=qB.mp b;exact(List.getElem_inj hN).mp (e1.trans e2.symm)
theorem JK{M:Model}{A:Around}{E:xB}{i:Nat}{x:Str}{v:V}{u:Value}{Q:xA}(I:Inv X pins σ H s)(hN:X.N.Nodup)(hi:X.N[i]?=some x)(hx:Loc X.env.scope x)(r:RelV v u)
  (h:∀s',Inv X pins (σ.set i (some v)) H s'->(∃a,Heap.SameBut a s.heap s'.heap/\(a=X.env.locals\/X.env.cells.lookup x=some a))->Q () s') (hf:X.fn x=true\/X.env.scope.names.lookup x=some .local:=by first|exact .inl rfl|exact .inr rfl|assumption):wpAny M A (storeName X.env x u) Q E s:=by
 obtain⟨m,hn,hl⟩:=id I.loc;have hcls:(X.env.scope.kind==.class || (X.env.scope.kind==.module && X.env.locals != X.env.globals))=false:=by rw[I.ok.kind];rfl
 have hiσ:i<σ.length:=by rw[I.len];exact(qB.mp hi).1
 have cne:=I.cne;have tracked:∀{a:Addr} {h':Heap},(∃o,s.heap.get? a=some o/\H a=none)->Heap.SameBut a s.heap h'->HOk X.prog X.w H h':=λ{a h'} ha hs b ob e=>by
  obtain⟨_,_,hfree⟩:=ha;refine(I.hok b ob e).stay (λc w' hc q=>(hs.2 c ?_).trans q) (λ_ q=>q) λ_ _ q=>q
  rintro rfl;rcases hc with rfl|hc
  ·rw[hfree] at e;cases e
  ·rw[hfree] at hc;cases hc
 rcases hx with hk|hk
 ·refine wpAny_storeName_local hk hn (λh' hn' hs=>?_) hcls;obtain⟨oL,_,_,hoL,_⟩:=id hn;refine h _ ⟨I.ok,I.os,I.bare,⟨λb o e n hb hx=>?_,λb o e n hb hx=>?_,I.base.free,λb o e hx=>?_,I.base.tups,I.base.j6,I.base.j7⟩,⟨_,hn',λj y v' e1 e2 e3=>?_⟩,λy c e=>?_,I.free,I.iu,λp hp=>?_,tracked ⟨oL,hoL,I.free⟩ hs,by simpa using I.len⟩ ⟨_,hs,.inl rfl⟩
  ·exact(hs.2 b (qV (qS (uB e) I.ok.above))).trans (I.base.keep b o e n hb hx)
  ·obtain⟨sl,e1⟩:=I.base.slot b o e n hb hx;exact⟨sl,(hs.2 b (qV (qS (uB e) I.ok.above))).trans e1⟩
  ·obtain⟨o',e1⟩:=I.base.there b o e hx;exact⟨o',(hs.2 b (qV (qS (uB e) I.ok.above))).trans e1⟩
  ·by_cases hj:j=i
   ·subst hj;rw[hi] at e1;cases e1;rw[List.getElem?_set_self hiσ] at e2;cases e2;exact⟨u,r,.inl ⟨hk,by simp⟩⟩
   ·rw[List.getElem?_set_ne (Ne.symm hj)] at e2;obtain⟨u',r',q⟩:=hl j y v' e1 e2 e3;refine⟨u',r',?_⟩;rcases q with⟨k,e⟩|⟨k,c,e,z⟩
    ·refine .inl ⟨k,?_⟩;have:y≠x:=λe=>hj (tQ hN e1 (e▸hi))
     simp[this,e]
    ·exact .inr ⟨k,c,e,z.sameBut hs (cne y c e)⟩
  ·obtain⟨w',z⟩:=I.cell y c e;exact⟨w',z.sameBut hs (cne y c e)⟩
  ·obtain⟨e,n,ne,nf,d⟩:=I.pin p hp;exact⟨(hs.2 p.1 ne).trans e,n,ne,nf,d⟩
 ·have hfn:X.fn x=true:=by
   rcases hf with z|z
   ·exact z
   ·rw[z] at hk;cases hk
  obtain⟨c,hc⟩:=I.ok.has x (.inl hk);obtain⟨w',z⟩:=I.cell x c hc;refine wpAny_storeName_cell I.ok.kind hk hc z (λh' hc' hs=>?_);obtain⟨oc,hoc,aa_⟩:=id z;refine h { s with heap:=h' } ⟨I.ok,I.os,I.bare,⟨λb o e n hb hx=>?_,λb o e n hb hx=>?_,I.base.free,λb o e hx=>?_,I.base.tups,I.base.j6,I.base.j7⟩,⟨m,hn.sameBut hs (Ne.symm (cne x c hc)),λj y v' e1 e2 e3=>?_⟩,λy c' e=>?_,I.free,I.iu,λp hp=>?_,tracked ⟨oc,hoc,I.iu x c hc⟩ hs,by simpa using I.len⟩ ⟨c,hs,.inr hc⟩
  ·exact(hs.2 b (qV (qS (uB e) (I.ok.cab x c hfn hc)))).trans (I.base.keep b o e n hb hx)
  ·obtain⟨sl,e1⟩:=I.base.slot b o e n hb hx;exact⟨sl,(hs.2 b (qV (qS (uB e) (I.ok.cab x c hfn hc)))).trans e1⟩
  ·obtain⟨o',e1⟩:=I.base.there b o e hx;exact⟨o',(hs.2 b (qV (qS (uB e) (I.ok.cab x c hfn hc)))).trans e1⟩
  ·by_cases hj:j=i
   ·subst hj;rw[hi] at e1;cases e1;rw[List.getElem?_set_self hiσ] at e2;cases e2;exact⟨u,r,.inr ⟨.inl hk,c,hc,hc'⟩⟩
   ·rw[List.getElem?_set_ne (Ne.symm hj)] at e2;obtain⟨u',r',q⟩:=hl j y v' e1 e2 e3;refine⟨u',r',?_⟩;rcases q with q|⟨k,c',e,z'⟩
    ·exact .inl q
    ·refine .inr ⟨k,c',e,z'.sameBut hs ?_⟩;rintro rfl;exact hj (tQ hN e1 (I.ok.inj _ _ _ e hc▸hi))
  ·by_cases hcc:c'=c
   ·subst hcc;exact⟨_,hc'⟩
   ·obtain⟨w2,z2⟩:=I.cell y c' e;exact⟨w2,z2.sameBut hs hcc⟩
  ·obtain⟨e,n,ne,nf,d⟩:=I.pin p hp;refine⟨(hs.2 p.1 ?_).trans e,n,ne,nf,d⟩;intro q;rw[q,hoc] at e;have q':oc=p.2:=nS e;exact d w' (by rw[<- q'];exact aa_)
theorem kj{M:Model}{A:Around}{E:xB}{i:Nat}{x:Str}{v:V}{u:Value}{Q:xA}(I:Inv X pins σ H s)(hN:X.N.Nodup)(hi:X.N[i]?=some x)(hx:Loc X.env.scope x)(r:RelV v u)
  (h:∀s',Inv X pins (σ.set i (some v)) H s'->Q () s') (hf:X.fn x=true\/X.env.scope.names.lookup x=some .local:=by first|exact .inl rfl|exact .inr rfl|assumption):wpAny M A (storeName X.env x u) Q E s :=
 JK I hN hi hx r (λs' I' _=>h s' I') hf
theorem Inv.call'{s':Shared}{ch:List Addr}(I:Inv X pins σ H s)(ho:s'.os=s.os)(u:Un (frs X.stack) ch H H' s.heap s'.heap)(hok:HOk X.prog X.w H' s'.heap)(hg:AllBare s'.gens)
  (hch:∀b∈ch,(b∈X.ex\/X.s₀.heap.objs.size<=b)/\b≠X.env.locals/\(∀x c,X.env.cells.lookup x=some c->c≠b)/\∀p∈X.pn++pins,p.1≠b):Inv X pins σ H' s':=by
 obtain⟨h',g',d',t',o'⟩:=s';have e:o'=s.os:=ho;subst e;exact I.call (g':=g') (t':=t') (d':=d') u hok hg hch
end
abbrev XK:=Value->Option Addr->Hp->Prop
abbrev St:=List (Option V)
abbrev VK:=V->Hp->Prop
abbrev TE:=St->Hp->VK->Prop
abbrev TT:=St->Hp->(Bool->Hp->Prop)->Prop
abbrev TA:=St->Hp->(List V->Hp->Prop)->Prop
structure Ends where
 nx:St->Hp->Prop
 rt:VK
 bk:St->Hp->Prop:=λ_ _=>False
 ct:St->Hp->Prop:=λ_ _=>False
abbrev TS:=Ends->St->Hp->Prop
def EP(X:Cx)(pins:List (Addr×Obj))(σ:St)(Q:VK)(u:Value)(s':Shared):Prop:=∃v H',Inv X pins σ H' s'/\RelV v u/\Q v H'
def TP(X:Cx)(pins:List (Addr×Obj))(σ:St)(Q:Bool->Hp->Prop)(b:Bool)(s':Shared):Prop:=∃H',Inv X pins σ H' s'/\Q b H'
def AP(X:Cx)(pins:List (Addr×Obj))(σ:St)(Q:List V->Hp->Prop)(us:xF)(s':Shared):Prop:=∃vs H',Inv X pins σ H' s'/\Vals vs us/\Q vs H'
def SP(X:Cx)(pins:List (Addr×Obj))(D:Ends)(f:Flow)(s':Shared):Prop :=
 match f with
 | .next=>∃σ' H',Inv X pins σ' H' s'/\D.nx σ' H'
 | .brk=>∃σ' H',Inv X pins σ' H' s'/\D.bk σ' H'
 | .cont=>∃σ' H',Inv X pins σ' H' s'/\D.ct σ' H'
 | .ret u=>∃v σ' H',Inv X pins σ' H' s'/\RelV v u/\D.rt v H'
def PE(X:Cx)(e:Expr)(t:TE):Prop :=
 ∀(pins:List (Addr×Obj)) (s:Shared) (σ:St) (H:Hp) (Q:VK),Inv X pins σ H s->t σ H Q->wpAny (model X.prog X.w) X.A (eval e X.env) (EP X pins σ Q) X.xe s
def PT(X:Cx)(e:Expr)(t:TT):Prop :=
 ∀(pins:List (Addr×Obj)) (s:Shared) (σ:St) (H:Hp) (Q:Bool->Hp->Prop),Inv X pins σ H s->t σ H Q->wpAny (model X.prog X.w) X.A (isTrue e X.env (eval e X.env)) (TP X pins σ Q) X.xe s
def PW(X:Cx)(e:Expr)(t:TT):Prop :=
 ∀(whole:Sem Value) (pins:List (Addr×Obj)) (s:Shared) (σ:St) (H:Hp) (Q:Bool->Hp->Prop),Inv X pins σ H s->t σ H Q->wpAny (model X.prog X.w) X.A (isTrue e X.env whole) (TP X pins σ Q) X.xe s
theorem PW.pt{X:Cx}{e:Expr}{t:TT}(h:PW X e t):PT X e t:=h _
def PA(X:Cx)(es:List Expr)(t:TA):Prop :=
 ∀(pos:Pos) (pins:List (Addr×Obj)) (s:Shared) (σ:St) (H:Hp) (Q:List V->Hp->Prop),Inv X pins σ H s->t σ H Q->wpAny (model X.prog X.w) X.A (spliced (backTo pos (starEach es X.env))) (AP X pins σ Q) X.xe s
def PS(X:Cx)(st:Stmt)(t:TS):Prop :=
 ∀(pins:List (Addr×Obj)) (s:Shared) (σ:St) (H:Hp) (D:Ends),Inv X pins σ H s->t D σ H->wpAny (model X.prog X.w) X.A (exec st X.env) (SP X pins D) X.xe s
def PSs(X:Cx)(st:List Stmt)(t:TS):Prop :=
 ∀(pins:List (Addr×Obj)) (s:Shared) (σ:St) (H:Hp) (D:Ends),Inv X pins σ H s->t D σ H->wpAny (model X.prog X.w) X.A (execs st X.env) (SP X pins D) X.xe s
theorem thn{α:Type}{t:Sem α}{Q Q':α->Shared->Prop}{M:Model}{A:Around}{E:xB}{s:Shared}(h:wpAny M A t Q E s)(hQ:∀a s,Q a s->Q' a s):wpAny M A t Q' E s:=mM h hQ λ_ _ x=>x
section
variable{X:Cx}
def fZ(i:Nat):TE:=λσ H Q=>∃v,σ[i]?=some (some v)/\Q v H
def tC(v:V):TE:=λ_ H Q=>Q v H
theorem Uz{i:Nat}{x:Str}{pos:Pos}(hN:X.N[i]?=some x)(hv:Vis X.env.scope x)(hd:(x==("__debug__" : Str))=false:=by decide)(hcd:(x==("__classdict__" : Str))=false:=by decide):PE X (.Name x pos) (fZ i):=by
 intro pins s σ H Q I h;obtain⟨v,e,h⟩:=h;obtain⟨m,hn,hl⟩:=I.loc;obtain⟨u,r,l⟩:=hl i x v hN e hv;have fin:EP X pins σ Q u s:=⟨v,H,I,r,h⟩;rcases l with⟨hk,hm⟩|⟨hk,c,hc,hcell⟩
 ·exact wpAny_Name (wpAny_loadName_local I.ok.kind hk hn hm fin) hd
 ·rcases hk with hk|hk
  ·exact wpAny_Name (wpAny_loadName_cell I.ok.kind hk hc hcell fin) hd
  ·exact wpAny_Name (wpAny_loadName_free I.ok.kind hk hc hcell fin hcd) hd
theorem aA{i j pos}:PE X (.Constant (.int i) j pos) (tC (.int i)):=λ_ _ _ H _ I h=>wpAny_Constant_int ⟨.int i,H,I.tok _,⟨_,rfl⟩,h⟩
theorem fC{b j pos}:PE X (.Constant (.bool b) j pos) (tC (.bl b)):=λ_ _ _ H _ I h=>Constant_bool ⟨.bl b,H,I,rfl,h⟩
theorem nH{j pos}:PE X (.Constant .none j pos) (tC .non):=λ_ _ _ H _ I h=>Constant_none ⟨.non,H,I,rfl,h⟩
theorem dF{x j pos}:PE X (.Constant (.str x) j pos) (tC (.str x)):=λ_ _ _ H _ I h=>Calls.Constant_str ⟨.str x,H,I.tok _,⟨_,rfl⟩,h⟩
def Gl(X:Cx)(x:Str):Prop:=X.env.kindOf x=some .globalImplicit
theorem lZ{E:xB}{pins:List (Addr×Obj)}{s:Shared}{σ:St}{H:Hp}{x:Str}{u:Value}{pos:Pos}{Q:xB}(I:Inv X pins σ H s)(hg:Gl X x)(hm:X.mg x=some u)(h:Q u s)
  (hd:(x==("__debug__" : Str))=false:=by decide):wpAny (model X.prog X.w) X.A (eval (.Name x pos) X.env) Q E s :=
 Calls.Name_function_global I.ok.kind hg (Calls.loadGlobal_global (by rw[I.ok.glob];exact I.mod.glob.keeps I.bk) hm h) hd
theorem qt{E:xB}{pins:List (Addr×Obj)}{s:Shared}{σ:St}{H:Hp}{x:Str}{u:Value}{pos:Pos}{Q:xB}(I:Inv X pins σ H s)(hg:Gl X x)(hm:X.mg x=none)(hv:bootBuiltins x=some u)(h:Q u s)
  (hn:x ≠ "__name__":=by decide) (hd:(x==("__debug__" : Str))=false:=by decide):wpAny (model X.prog X.w) X.A (eval (.Name x pos) X.env) Q E s:=by
 obtain⟨mb,h1,h2⟩:=I.mod.blt;exact Calls.Name_function_global I.ok.kind hg (Calls.loadGlobal_builtin (by rw[I.ok.glob];exact I.mod.glob.keeps I.bk) hm (by rw[I.ok.blt];exact h1.keeps I.bk) ((h2 x hn).trans hv) h) hd
theorem Q8{x:Str}{v:V}{u:Value}{pos:Pos}(hg:Gl X x)(hm:X.mg x=some u)(r:RelV v u)(hd:(x==("__debug__" : Str))=false:=by decide):PE X (.Name x pos) (tC v) :=
 λ_ _ _ H _ I h=>lZ I hg hm ⟨v,H,I,r,h⟩ hd
theorem Q9{x:Str}{v:V}{u:Value}{pos:Pos}(hg:Gl X x)(hm:X.mg x=none)(hv:bootBuiltins x=some u)(r:RelV v u)(hn:x ≠ "__name__":=by decide)(hd:(x==("__debug__" : Str))=false:=by decide):PE X (.Name x pos) (tC v) :=
 λ_ _ _ H _ I h=>qt I hg hm hv ⟨v,H,I,r,h⟩ hn hd
variable{a b:Expr}{ta tb:TE}{pos:Pos}
def tB(t:TE):TT:=λσ H Q=>t σ H λx H1=>∃c,x=.bl c/\Q c H1
theorem cG{e:Expr}{t:TE}(h:PE X e t)(he:∀whole,isTrue e X.env whole=(do let v <- whole;standAt e.pos;holding [v] (truthy v)):=by intro _;rfl):PT X e (tB t):=by
 intro pins s σ H Q I hw;refine isTrue_plain (thn (h pins s σ H _ I hw) λv s1 ⟨x,H1,I1,r1,q1⟩=>?_) (he _);obtain⟨d,rfl,q⟩:=q1;cases r1;exact wpAny_truthy_bool ⟨H1,I1,q⟩
variable{tA tB':TT}{rest:List Expr}
def tOr(t u:TT):TT:=λσ H Q=>t σ H λc H1=>if c=true then Q true H1 else u σ H1 Q
def UG(t:TT):TT:=λσ H Q=>t σ H λc H1=>Q (!c) H1
theorem fG(ha:PT X a tA):PW X (.BoolOp .Or [a] pos) tA:=by
 intro wh pins s σ H Q I h;refine isTrue_or (thn (ha pins s σ H Q I h) λc s1 e=>?_);cases c with
 | false=>exact isTrue_or_nil e
 | true=>exact e
theorem fH(ha:PT X a tA)(hb:PW X (.BoolOp .Or (b::rest) pos) tB'):PW X (.BoolOp .Or (a::b::rest) pos) (tOr tA tB'):=by
 intro wh pins s σ H Q I h;refine isTrue_or (thn (ha pins s σ H _ I h) λc s1 ⟨H1,I1,q1⟩=>?_);cases c with
 | true=>exact⟨H1,I1,q1⟩
 | false=>exact hb wh pins s1 σ H1 Q I1 q1
theorem cH(ha:PT X a tA):PT X (.UnaryOp .Not a pos) (UG tA):=by
 intro pins s σ H Q I h;exact isTrue_not (ha pins s σ H (λc H1=>Q (!c) H1) I h)
def K5(ta tb:TE):TE:=λσ H Q=>ta σ H λx H1=>∃c,x=.bl c/\if c=true then tb σ H1 Q else Q (.bl false) H1
def K6(ta:TE):TE:=λσ H Q=>ta σ H λx H1=>∃c,x=.bl c/\Q (.bl (!c)) H1
theorem jt{op}{t:TE}(h:PE X a t):PE X (.BoolOp op [a] pos) t:=λpins s σ H Q I hw=>BoolOp_one (h pins s σ H Q I hw)
theorem ju(ha:PE X a ta)(hb:PE X (.BoolOp .And (b::rest) pos) tb):PE X (.BoolOp .And (a::b::rest) pos) (K5 ta tb):=by
 intro pins s σ H Q I h;refine BoolOp_and (thn (ha pins s σ H _ I h) λv s1 ⟨x,H1,I1,r1,q1⟩=>?_);obtain⟨c,rfl,q1⟩:=q1;cases r1;refine wpAny_truthy_bool ?_;cases c with
 | true=>exact hb pins s1 σ H1 Q I1 q1
 | false=>exact⟨.bl false,H1,I1,rfl,q1⟩
theorem K7(ha:PE X a ta):PE X (.UnaryOp .Not a pos) (K6 ta):=by
 intro pins s σ H Q I h;refine UnaryOp_ (thn (ha pins s σ H _ I h) λv s1 ⟨x,H1,I1,r1,q1⟩=>?_);obtain⟨c,rfl,q1⟩:=q1;cases r1;exact not_of (wpAny_truthy_bool ⟨.bl (!c),H1,I1,rfl,q1⟩)
end
def SqL(K:W.Frag)(H:Hp)(a:Addr)(xs:List V):Prop :=
 Rd H a (.lst xs) \/
  ∃(o:Obj)(its:xL)(n:Nat),K.lookup a=some o/\o.cls=.type "list" /\ o.dict=none/\o.data=.seq its n/\its.size<=sizeLine/\Vals xs its.toList
def SqT(K:W.Frag)(H:Hp)(a:Addr)(xs:List V):Prop :=
 Rd H a (.tup xs) \/
  ∃(o:Obj)(its:xL)(n:Nat),K.lookup a=some o/\o.cls=.type "tuple" /\ o.data=.seq its n/\its.size<=sizeLine/\Vals xs its.toList
def abb:Value->Option V
 | .none=>some .non
 | .bool b=>some (.bl b)
 | .int i _=>some (.int i)
 | .str x _=>some (.str x)
 | .bytes b _=>some (.byt b)
 | .float b _=>some (.flt b)
 | .ref a=>some (.ref a)
 | .type n=>some (.ty n)
 | _=>none
theorem RelV.abs{x:V}{u:Value}(r:RelV x u):abb u=some x:=by
 cases x with
 | non=>cases r;rfl
 | bl _=>cases r;rfl
 | int _=>obtain⟨t,rfl⟩:=r;rfl
 | str _=>obtain⟨t,rfl⟩:=r;rfl
 | byt _=>obtain⟨t,rfl⟩:=r;rfl
 | flt _=>obtain⟨t,rfl⟩:=r;rfl
 | ref _=>cases r;rfl
 | ty _=>cases r;rfl
theorem RelV.inj{x y:V}{u:Value}(r:RelV x u)(q:RelV y u):x=y:=nS (r.abs.symm.trans q.abs)
theorem Vals.inj:∀{xs ys:List V} {us:xF},Vals xs us->Vals ys us->xs=ys
 | _,_,_,.nil,.nil=>rfl
 | _,_,_,.cons r t,.cons r' t'=>by rw[r.inj r',Vals.inj t t']
section
variable{X:Cx}{pins:List (Addr×Obj)}{σ:St}{H:Hp}{s:Shared}{a:Addr}{xs ys:List V}
theorem SqL.of{K:W.Frag}(h:H a=some (.lst xs)):SqL K H a xs:=.inl (.inl h)
theorem SqT.of{K:W.Frag}(h:H a=some (.tup xs)):SqT K H a xs:=.inl (.inl h)
theorem Inv.list(I:Inv X pins σ H s)(h:SqL X.K H a xs):∃its:List Value,Vals xs its/\PlainL s.heap a its.toArray/\xs.length<=sizeLine:=by
 rcases h with h|⟨o,its,n,hk,hc,hd,hs,hz,r⟩
 ·obtain⟨z,its,n,r,e⟩:=h.ok I.hok;exact⟨its,r,⟨_,n,e,rfl,rfl,rfl⟩,z⟩
 ·refine⟨its.toList,r,⟨o,n,I.kIn a o hk,hc,hd,by simpa using hs⟩,?_⟩;have e:=r.length;simp only[Array.length_toList] at e
  lia
theorem Inv.tuple(I:Inv X pins σ H s)(h:SqT X.K H a xs):∃its:List Value,Vals xs its/\IsTup s.heap a its.toArray/\xs.length<=sizeLine:=by
 rcases h with h|⟨o,its,n,hk,hc,hs,hz,r⟩
 ·obtain⟨z,its,r,p⟩:=h.ok I.hok;exact⟨its,r,p,z⟩
 ·refine⟨its.toList,r,⟨o,I.kIn a o hk,hc,n,by simpa using hs⟩,?_⟩;have e:=r.length;simp only[Array.length_toList] at e
  lia
theorem Inv.tU(I:Inv X pins σ H s)(h:SqL X.K H a xs)(h':SqL X.K H a ys):xs=ys:=by
 obtain⟨its,r,⟨o,n,e,_,_,d⟩,_⟩:=I.list h;obtain⟨its',r',⟨o',n',e',_,_,d'⟩,_⟩:=I.list h';rw[e] at e';cases e';rw[d] at d';injection d' with d1 _
 have:its=its':=by simpa using congrArg Array.toList d1
 subst this;exact r.inj r'
theorem Inv.wN(I:Inv X pins σ H s)(h:SqT X.K H a xs)(h':SqT X.K H a ys):xs=ys:=by
 obtain⟨its,r,⟨o,e,_,n,d⟩,_⟩:=I.tuple h;obtain⟨its',r',⟨o',e',_,n',d'⟩,_⟩:=I.tuple h';rw[e] at e';cases e';rw[d] at d';injection d' with d1 _
 have:its=its':=by simpa using congrArg Array.toList d1
 subst this;exact r.inj r'
end
abbrev Cx.wish(X:Cx)(E:xB):Cx:={ X with xe:=E }
abbrev Cx.nox(X:Cx):Cx:=X.wish λ_ _=>False
theorem Cx.Ok.wish{X:Cx}(ok:X.Ok)(E:xB):(X.wish E).Ok :=
 ⟨ok.mod,ok.kind,ok.glob,ok.blt,ok.above,ok.inj,ok.has,ok.cab,ok.hd,ok.frames,ok.stk,ok.exf,ok.bs,ok.bsz,ok.yW,ok.Bq,ok.m_,ok.frf⟩
theorem Cx.Ok.gk{X:Cx}{E:xB}(ok:(X.wish E).Ok):X.Ok :=
 ⟨ok.mod,ok.kind,ok.glob,ok.blt,ok.above,ok.inj,ok.has,ok.cab,ok.hd,ok.frames,ok.stk,ok.exf,ok.bs,ok.bsz,ok.yW,ok.Bq,ok.m_,ok.frf⟩
section
variable{X:Cx}{pins:List (Addr×Obj)}{σ:St}{H:Hp}{s:Shared}{E:xB}
theorem Inv.wish(I:Inv X pins σ H s)(E:xB):Inv (X.wish E) pins σ H s:=⟨I.ok.wish E,I.os,I.bare,I.base,I.loc,I.cell,I.free,I.iu,I.pin,I.hok,I.len⟩
theorem Inv.gk(I:Inv (X.wish E) pins σ H s):Inv X pins σ H s:=⟨I.ok.gk,I.os,I.bare,I.base,I.loc,I.cell,I.free,I.iu,I.pin,I.hok,I.len⟩
theorem SP.gk{D:Ends}{f:Flow}{s':Shared}(h:SP (X.wish E) pins D f s'):SP X pins D f s':=by
 cases f with
 | next=>obtain⟨σ',H',I,q⟩:=h;exact⟨σ',H',I.gk,q⟩
 | brk=>obtain⟨σ',H',I,q⟩:=h;exact⟨σ',H',I.gk,q⟩
 | cont=>obtain⟨σ',H',I,q⟩:=h;exact⟨σ',H',I.gk,q⟩
 | ret u=>obtain⟨v,σ',H',I,r,q⟩:=h;exact⟨v,σ',H',I.gk,r,q⟩
theorem PE.nox{e:Expr}{t:TE}(h:PE X.nox e t):PE X e t:=λpins s σ H Q I hw =>
 mM (h pins s σ H Q (I.wish _) hw) (λ_ _ ⟨v,H',I',r,q⟩=>⟨v,H',I'.gk,r,q⟩) λ_ _ z=>False.elim z
theorem PT.nox{e:Expr}{t:TT}(h:PT X.nox e t):PT X e t:=λpins s σ H Q I hw =>
 mM (h pins s σ H Q (I.wish _) hw) (λ_ _ ⟨H',I',q⟩=>⟨H',I'.gk,q⟩) λ_ _ z=>False.elim z
theorem PSs.nox{st:List Stmt}{t:TS}(h:PSs X.nox st t):PSs X st t:=λpins s σ H D I hw =>
 mM (h pins s σ H D (I.wish _) hw) (λ_ _ q=>q.gk) λ_ _ z=>False.elim z
end
section
variable{X:Cx}{st:Stmt}{rest:List Stmt}{t u:TS}{e:Expr}{te:TE}{pos:Pos}
def Hg:TS:=λD σ H=>D.nx σ H
def Q_(t u:TS):TS:=λD σ H=>t { D with nx:=u D } σ H
theorem bK:PSs X [] Hg:=λ_ _ σ H _ I h=>wpAny_execs_nil ⟨σ,H,I,h⟩
theorem aC(h1:PS X st t)(h2:PSs X rest u):PSs X (st::rest) (Q_ t u):=by
 intro pins s σ H D I h;refine wpAny_execs_cons (thn (h1 pins s σ H { D with nx:=u D } I h) λf s1 q=>?_)
 cases f with
 | next =>
  obtain⟨σ',H',I',q⟩:=q;exact h2 pins s1 σ' H' D I' q
 | ret v=>exact q
 | brk=>exact q
 | cont=>exact q
theorem aB(h1:PS X st t):PSs X [st] t:=by
 intro pins s σ H D I h;refine wpAny_execs_cons (thn (h1 pins s σ H D I h) λf s1 q=>?_);cases f with
 | next=>exact wpAny_execs_nil q
 | ret v=>exact q
 | brk=>exact q
 | cont=>exact q
theorem Inv.quiet{pins:List (Addr×Obj)}{σ:St}{H:Hp}{s:Shared}(I:Inv X pins σ H s):interactive X.env=false:=by simp[interactive,I.ok.kind]
def K8(te:TE):TS:=λD σ H=>te σ H λ_ H1=>D.nx σ H1
theorem cV(he:PE X e te)(hs:swapsWith e none pos.line X.env=pure false:=by rfl):PS X (.Expr e pos) (K8 te):=by
 intro pins s σ H D I h;exact wpAny_Expr_any (thn (he pins s σ H _ I h) λv s1 ⟨x,H1,I1,r1,q1⟩=>⟨σ,H1,I1,q1⟩) I.quiet hs
def UJ(te:TE):TS:=λD σ H=>te σ H D.rt
theorem aP(he:PE X e te):PS X (.Return (some e) pos) (UJ te):=by
 intro pins s σ H D I h;exact wpAny_Return_some (thn (he pins s σ H _ I h) λv s1 ⟨x,H1,I1,r1,q1⟩=>⟨x,σ,H1,I1,r1,q1⟩)
def UL(c:TT)(t u:TS):TS:=λD σ H=>c σ H λb H1=>if b=true then t D σ H1 else u D σ H1
theorem cB{c:Expr}{a b:List Stmt}{tc:TT}(hc:PT X c tc)(ha:PSs X a t)(hb:PSs X b u):PS X (.If c a b pos) (UL tc t u):=by
 intro pins s σ H D I h;refine wpAny_If (thn (hc pins s σ H _ I h) λd s1 ⟨H1,I1,q1⟩=>?_);cases d with
 | true=>exact ha pins s1 σ H1 D I1 q1
 | false=>exact hb pins s1 σ H1 D I1 q1
def UW:TS:=λ_ _ _=>False
theorem iI{sts:List Stmt}:PSs X sts UW:=λ_ _ _ _ _ _ h=>h.elim
end
abbrev TG:=V->St->Hp->(St->Hp->Prop)->Prop
abbrev TGs:=List V->St->Hp->(St->Hp->Prop)->Prop
def PG(X:Cx)(target:Expr)(t:TG):Prop :=
 ∀(pins:List (Addr×Obj)) (s:Shared) (σ:St) (H:Hp) (v:V) (u:Value) (Q:St->Hp->Prop),Inv X pins σ H s->RelV v u->t v σ H Q ->
  wpAny (model X.prog X.w) X.A (assign target X.env u) (λ_ s'=>∃σ' H',Inv X pins σ' H' s'/\Q σ' H') X.xe s
def PGs(X:Cx)(ts:List Expr)(t:TGs):Prop :=
 ∀(pins:List (Addr×Obj)) (s:Shared) (σ:St) (H:Hp) (vs:List V) (us:xF) (Q:St->Hp->Prop),Inv X pins σ H s->Vals vs us->t vs σ H Q ->
  wpAny (model X.prog X.w) X.A (assignInOrder ((assignEach ts X.env).map (·.2)) us) (λ_ s'=>∃σ' H',Inv X pins σ' H' s'/\Q σ' H') X.xe s
abbrev Ra:=V->V->V->Hp->(Hp->Prop)->Prop
def U0(X:Cx)(t:Ra):Prop :=
 ∀(pins:List (Addr×Obj)) (s:Shared) (σ:St) (H:Hp) (o i v:V) (ov iv u:Value) (Q:Hp->Prop),Inv X pins σ H s->RelV o ov->RelV i iv->RelV v u->t o i v H Q ->
  wpAny (model X.prog X.w) X.A (setItem ov iv u) (λ_ s'=>∃H',Inv X pins σ H' s'/\Q H') X.xe s
abbrev TIp:=V->V->Hp->VK->Prop
def PIp(X:Cx)(op:Operator)(t:TIp):Prop :=
 ∀(pins:List (Addr×Obj)) (s:Shared) (σ:St) (H:Hp) (x y:V) (v u:Value) (Q:VK),Inv X pins σ H s->RelV x v->RelV y u->t x y H Q ->
  wpAny (model X.prog X.w) X.A (inplaceOp op v u) (EP X pins σ Q) X.xe s
section
variable{X:Cx}{pos:Pos}
def bL(i:Nat):TG:=λv σ H Q=>Q (σ.set i (some v)) H
theorem bQ{i:Nat}{x:Str}(hN:X.N.Nodup)(hi:X.N[i]?=some x)(hx:Loc X.env.scope x)(hf:X.fn x=true\/X.env.scope.names.lookup x=some .local:=by first|exact .inl rfl|exact .inr rfl|assumption):PG X (.Name x pos) (bL i):=by
 intro pins s σ H v u Q I r h;exact wpAny_assign_Name (kj I hN hi hx r (λs' I'=>⟨_,H,I',h⟩) hf)
def Br:TGs:=λvs σ H Q=>vs=[]/\Q σ H
def iw(t:TG)(u:TGs):TGs:=λvs σ H Q=>∃v r,vs=v::r/\t v σ H λσ' H'=>u r σ' H' Q
theorem jL:PGs X [] Br:=by
 intro pins s σ H vs us Q I r h;obtain⟨e,h⟩:=h;subst e;cases r;exact assignInOrder_nil ⟨σ,H,I,h⟩
theorem dj{e:Expr}{es:List Expr}{t:TG}{u:TGs}(h1:PG X e t)(h2:PGs X es u)
  (hs:(assignEach (e::es) X.env).map (·.2)=assign e X.env::(assignEach es X.env).map (·.2):=by rfl):PGs X (e::es) (iw t u):=by
 intro pins s σ H vs us Q I r h;obtain⟨v,vr,e1,h⟩:=h;subst e1;cases r with
 | cons r rr =>
  rw[hs];refine assignInOrder_cons (thn (h1 pins s σ H _ _ _ I r h) λ_ s1 ⟨σ1,H1,I1,q1⟩=>?_);exact h2 pins s1 σ1 H1 _ _ Q I1 rr q1
def yX(K:W.Frag)(n:Nat)(t:TGs):TG:=λv σ H Q=>∃a xs,v=.ref a/\SqT K H a xs/\xs.length=n/\t xs σ H Q
theorem tV{es:List Expr}{k:Nat}{t:TGs}{n:Nat}(hc:X.calm=true)(h:PGs X es t)
  (hn:(assignEach es X.env).length=n:=by rfl) (hst:(assignEach es X.env).findIdx? (·.1)=none:=by rfl):PG X (.Tuple es k pos) (yX X.K n t):=by
 intro pins s σ H v u Q I r hw;obtain⟨a,xs,e1,hq,hl,hw⟩:=hw;subst e1;cases r;obtain⟨its,rv,ht,hz⟩:=I.tuple hq;refine assign_Tuple_tuple (I.ok.hd hc) ht (by simp[hn,<- hl,rv.length]) hst λh' hx=>?_
 have I1:Inv X pins σ H { s with heap:=h' }:=I.kept (t':=s.toks) λb o e=>hx b o (qV (uB e)) e
 exact h pins _ σ H xs _ Q I1 (by simpa using rv) hw
def X5(to ti:TE)(t:Ra):TG:=λv σ H Q=>to σ H λo H1=>ti σ H1 λi H2=>t o i v H2 λH3=>Q σ H3
theorem Et{o i:Expr}{to ti:TE}{t:Ra}(ho:PE X o to)(hi:PE X i ti)(hs:U0 X t)
  (ha:∀v,assign (.Subscript o i pos) X.env v=(do
   let ov <- holding [v] (eval o X.env)
   let iv <- holding [v,ov] (eval i X.env)
   standAt pos
   holding [v,ov,iv] (setItem ov iv v)
   release [v,ov,iv] []):=by intro _;rfl):PG X (.Subscript o i pos) (X5 to ti t):=by
 intro pins s σ H v u Q I r h;rw[ha];refine zI (mI (thn (ho pins s σ H _ I h) λov s1 ⟨x,H1,I1,r1,q1⟩=>?_));refine zI (mI (thn (hi pins s1 σ H1 _ I1 q1) λiv s2 ⟨y,H2,I2,r2,q2⟩=>?_));refine zI (wpAny_standAt (zI (mI (thn (hs pins s2 σ H2 x y v ov iv u _ I2 r1 r2 r q2) λ_ s3 ⟨H3,I3,q3⟩=>?_))));exact wpAny_release ⟨σ,H3,I3,q3⟩
def Rb(te:TE)(g:TG):TS:=λD σ H=>te σ H λx H1=>g x σ H1 D.nx
theorem yZ{tg e:Expr}{te:TE}{g:TG}(he:PE X e te)(hg:PG X tg g)(hs:swapsWithSole [tg] e pos.line X.env=pure false:=by rfl)(hw:swappedStores [tg] e X.env=pure none:=by rfl)
  (h1:(assignEach [tg] X.env).map (·.2)=[assign tg X.env]:=by rfl):PS X (.Assign [tg] e pos) (Rb te g):=by
 intro pins s σ H D I h;refine wpAny_Assign_stores (thn (he pins s σ H _ I h) λv s1 ⟨x,H1,I1,r1,q1⟩=>?_) hs hw;rw[h1];exact thn (hg pins s1 σ H1 x v _ I1 r1 q1) λ_ s2 q=>q
theorem aU{i:Nat}{x:Str}{e:Expr}{te:TE}{pos':Pos}(hN:X.N.Nodup)(hi:X.N[i]?=some x)(hx:Loc X.env.scope x)(he:PE X e te)(hs:swapsWith e (some (.Name x pos')) pos.line X.env=pure false:=by rfl)(hf:X.fn x=true\/X.env.scope.names.lookup x=some .local:=by first|exact .inl rfl|exact .inr rfl|assumption) :
  PS X (.Assign [.Name x pos'] e pos) (Rb te (bL i)):=by
 intro pins s σ H D I h;refine wpAny_Assign_Name (thn (he pins s σ H _ I h) λv s1 ⟨y,H1,I1,r1,q1⟩=>?_) hs;exact kj I1 hN hi hx r1 (λs2 I2=>⟨_,H1,I2,q1⟩) hf
def X6(i:Nat)(te:TE)(ti:TIp):TS:=λD σ H=>∃x,σ[i]?=some (some x)/\te σ H λy H1=>ti x y H1 λz H2=>D.nx (σ.set i (some z)) H2
theorem U3{i:Nat}{x:Str}{e:Expr}{te:TE}{op:Operator}{ti:TIp}{pos':Pos}(hN:X.N.Nodup)(hi:X.N[i]?=some x)(hx:Loc X.env.scope x)(he:PE X e te)(ho:PIp X op ti)(hf:X.fn x=true\/X.env.scope.names.lookup x=some .local:=by first|exact .inl rfl|exact .inr rfl|assumption) :
  PS X (.AugAssign (.Name x pos') op e pos) (X6 i te ti):=by
 intro pins s σ H D I h;obtain⟨v,e1,h⟩:=h;obtain⟨m,hn,hl⟩:=I.loc;have vis:Vis X.env.scope x:=by rcases hx with k|k;exact .inl k;exact .inr (.inl k)
 obtain⟨u,r,l⟩:=hl i x v hi e1 vis;refine wpAny_AugAssign_Name ?_;have go:wpAny (model X.prog X.w) X.A (eval e X.env) (λw s₂=>wpAny (model X.prog X.w) X.A (inplaceOp op u w) (λr s₃=>wpAny (model X.prog X.w) X.A (storeName X.env x r) (λ_=>SP X pins D .next) X.xe s₃) X.xe s₂) X.xe s:=by
  refine thn (he pins s σ H _ I h) λw s1 ⟨y,H1,I1,r1,q1⟩=>?_
  refine thn (ho pins s1 σ H1 v y u w _ I1 r r1 q1) λz s2 ⟨zv,H2,I2,r2,q2⟩=>?_
  exact kj I2 hN hi hx r2 (λs3 I3=>⟨_,H2,I3,q2⟩) hf
 rcases l with⟨hk,hm⟩|⟨hk,c,hc,hcell⟩
 ·exact wpAny_loadName_local I.ok.kind hk hn hm go
 ·rcases hk with hk|hk
  ·exact wpAny_loadName_cell I.ok.kind hk hc hcell go
  ·rcases hx with k|k
   ·have:X.env.scope.names.lookup x=some .free:=hk;rw[k] at this;cases this
   ·have:X.env.scope.names.lookup x=some .free:=hk;rw[k] at this;cases this
end
structure It where
 go:Nat->Hp->Prop
 yld:Nat->Hp->V->Hp->Prop
 stop:Nat->Hp->Prop
def ni(X:Cx)(pins:List (Addr×Obj))(H:Hp)(b:Addr):Prop :=
 H b=none/\b≠X.env.locals/\b ∉ X.fs/\(b∈X.ex\/X.s₀.heap.objs.size<=b)/\(∀x c,X.env.cells.lookup x=some c->c≠b)/\∀p∈X.pn++pins,p.1≠b
theorem Inv.Rf{X:Cx}{pins:List (Addr×Obj)}{σ:St}{H H':Hp}{s:Shared}{b:Addr}(I:Inv X pins σ H s)(hb:s.heap.objs.size<=b)(hn:H' b=none):ni X pins H' b:=by
 refine⟨hn,Nat.ne_of_gt (qS I.lt hb),I.aa9 hb,.inr (oB I.sz hb),λx c e z=>?_,λp hp z=>?_⟩
 ·obtain⟨v,q⟩:=I.cell x c e;exact gN (qS q.lt (by rw[z];exact hb)) (gE _)
 ·exact gN (qS (uB (I.pin p hp).1) (by rw[z];exact hb)) (gE _)
structure Turn(P:Program)(w:World)(K:W.Frag)(tg:Expr)(J:It)(fp:List Addr)(it:Addr)(tn:Nat->Heap->Prop):Prop where
 mem:it∈fp
 obj:∀i h,tn i h->∀b∈fp,∃o,h.get? b=some o/\∀v,o.data≠.cell v
 keep:∀i h h',tn i h->(∀b∈fp,∀o,h.get? b=some o->h'.get? b=some o)->tn i h'
 item:∀(X:Cx),X.prog=P->X.w=w->X.K=K->X.calm=true->∀(i:Nat) (pins:List (Addr×Obj)) (s:Shared) (σ:St) (H:Hp) (E:xB),Inv X pins σ H s->(∀b∈fp,ni X pins H b)->tn i s.heap->J.go i H ->
  wpAny (model P w) X.A (pyNext (.ref it)) (λr s1=>∃u,r=some u /\
   wpAny (model P w) X.A (letOwnedTupleGo tg (.ref it) u) (λ_ s2=>∃x H',Inv X pins σ H' s2/\RelV x u/\J.yld i H x H'/\tn (i+1) s2.heap/\∀b∈fp,H' b=none) E s1) E s
 done:∀(X:Cx),X.prog=P->X.w=w->X.K=K->X.calm=true->∀(i:Nat) (pins:List (Addr×Obj)) (s:Shared) (σ:St) (H:Hp) (E:xB),Inv X pins σ H s->(∀b∈fp,ni X pins H b)->tn i s.heap->J.stop i H ->
  wpAny (model P w) X.A (pyNext (.ref it)) (λr s1=>r=none/\Inv X pins σ H s1) E s
 self:∀(A:Around)(i:Nat)(s:Shared)(Q:xB)(E:xB),tn i s.heap->Q (.ref it) s->wpAny (model P w) A (pyIter (.ref it)) Q E s
abbrev TI:=St->Hp->(It->Hp->Prop)->Prop
def PIE(X:Cx)(pins:List (Addr×Obj))(σ:St)(tg:Expr)(R:It->Hp->Prop)(itv:Value)(s2:Shared):Prop :=
 ∃(it:Addr)(fp:List Addr)(tn:Nat->Heap->Prop)(J:It)(H':Hp),itv=.ref it/\Inv X pins σ H' s2/\Turn X.prog X.w X.K tg J fp it tn/\tn 0 s2.heap/\(∀b∈fp,ni X pins H' b)/\R J H'
def PI(X:Cx)(tg iter:Expr)(wi:TI):Prop :=
 ∀(pins:List (Addr×Obj)) (s:Shared) (σ:St) (H:Hp) (R:It->Hp->Prop),Inv X pins σ H s->wi σ H R ->
  wpAny (model X.prog X.w) X.A (eval iter X.env) (λv s1=>wpAny (model X.prog X.w) X.A (pyIter v) (PIE X pins σ tg R) X.xe s1) X.xe s
theorem TF{M:Model}{A:Around}{E:xB}{s:Shared}{tg:Expr}{it:Addr}{u:Value}{o:Obj}{n:String}{vs:xL}{Q:xA}(ho:s.heap.get? it=some o)(hc:o.cls=.type n)(hd:o.data=.fields vs)
  (hn:["enumerate","zip","dict_itemiterator","dict_reverseitemiterator","odict_iterator","itertools.zip_longest","itertools.pairwise"].contains n=false) (hQ:Q () s):wpAny M A (letOwnedTupleGo tg (.ref it) u) Q E s:=by
 unfold letOwnedTupleGo;cases tg <;> first
  | exact wpAny_pure hQ
  | (cases u <;> first
    | exact rX hQ
    | (refine zI (wpAny_load ho ?_)
       rw[hc,hd];show wpAny M A (if (["enumerate","zip","dict_itemiterator","dict_reverseitemiterator","odict_iterator","itertools.zip_longest","itertools.pairwise"].contains n && vs[0]? == some (rawInt _))=true then _ else _) Q E s;rw[yT (by intro h;rw[hn,Bool.false_and] at h;cases h)];exact rX hQ))
def Itl(K:W.Frag)(a:Addr):It :=
 ⟨λi H=>∃xs x,SqL K H a xs/\xs[i]?=some x,λi H x H'=>H'=H/\∀xs,SqL K H a xs->xs[i]?=some x,λi H=>∃xs,SqL K H a xs/\xs.length<=i⟩
def Itr(lo:Int)(n:Nat):It:=⟨λi _=>i<n,λi H x H'=>H'=H/\x=.int (lo+i),λi _=>n<=i⟩
theorem JL{P:Program}{w:World}{K:W.Frag}{tg:Expr}(a it:Addr):Turn P w K tg (Itl K a) [it] it (λi h=>h.IsListIter it a i) where
 mem:=by simp
 obj:=λi h st b hb=>by
  have e:b=it:=by simpa using hb
  subst e;obtain⟨o,e,c,d⟩:=st;exact⟨o,e,λv z=>by rw[d] at z;cases z⟩
 keep:=λi h h' st k=>st.at λo e=>k it (by simp) o e
 item:=by
  intro X hP hw hK hc i pins s σ H E I hf st hg;subst hP hw hK;obtain⟨xs,x,hq,hx⟩:=hg;obtain⟨its,rv,p,hz⟩:=I.list hq;obtain⟨u,hu,ru⟩:=rv.get hx;obtain⟨f0,f1,f2,f3,f4,f5⟩:=hf it (by simp);refine wpAny_pyNext_list_item st p.isList (x:=u) (by simpa using hu) λh' st' sb=>?_
  have I1:Inv X pins σ H { s with heap:=h' }:=I.turned (t':=s.toks) (λb o hb e=>(sb.2 b hb).trans e) f0 f1 f3 f4 f5
  obtain⟨o,e,c,d⟩:=id st';exact⟨u,rfl,TF (s:={ s with heap:=h' }) e c d (by decide) ⟨x,H,I1,ru,⟨rfl,λys hy=>by rw[I.tU hy hq];exact hx⟩,st',λb hb=>(hf b hb).1⟩⟩
 done:=by
  intro X hP hw hK hc i pins s σ H E I hf st hg;subst hP hw hK;obtain⟨xs,hq,hx⟩:=hg;obtain⟨its,rv,p,hz⟩:=I.list hq;obtain⟨f0,f1,f2,f3,f4,f5⟩:=hf it (by simp);have hl:=rv.length;exact wpAny_pyNext_list_end (I.ok.hd hc) st p.isList (by simp;lia) λh' eb=>⟨rfl,I.turned (t':=s.toks) (λb o hb e=>eb b o hb e) f0 f1 f3 f4 f5⟩
 self:=λ_ _ _ _ _ st h=>wpAny_pyIter_listiter st h
theorem Eu{P:Program}{w:World}{K:PySem.W.Frag}{tg:Expr}(it:Addr)(lo:Int)(n:Nat):Turn P w K tg (Itr lo n) [it] it (λi h=>IsRangeIter h it (lo+(i:Nat)*1) ((n:Int)-(i:Nat)) 1) where
 mem:=by simp
 obj:=λi h st b hb=>by
  have e:b=it:=by simpa using hb
  subst e;exact⟨_,st,λv z=>by
   have z':Data.fields _=Data.cell v:=z;cases z'⟩
 keep:=λi h h' st k=>k it (by simp) _ st
 item:=by
  intro X hP hw hK hc i pins s σ H E I hf st hg;subst hP hw hK;obtain⟨f0,f1,f2,f3,f4,f5⟩:=hf it (by simp);have W:=Walks.range (prog:=X.prog) (w:=X.w) (I.ok.hd hc) it lo 1 n;refine W.item i s _ _ hg st λv h' tk hv st' kk=>?_
  obtain⟨t,rfl⟩:=hv;have I1:Inv X pins σ H { s with heap:=h',toks:=tk }:=I.turned (λb o hb e=>kk b o (by simpa using hb) e) f0 f1 f3 f4 f5
  refine⟨_,rfl,TF (s:={ s with heap:=h',toks:=tk }) (n := "range_iterator") st' rfl rfl (by decide) ⟨.int (lo+i),H,I1,⟨t,?_⟩,⟨rfl,rfl⟩,st',λb hb=>(hf b hb).1⟩⟩
  rw[Int.mul_one]
 done:=by
  intro X hP hw hK hc i pins s σ H E I hf st hg;subst hP hw hK;obtain⟨f0,f1,f2,f3,f4,f5⟩:=hf it (by simp);exact wpAny_pyNext_range_end (I.ok.hd hc) st (by have:n<=i:=hg;lia) λh' eb=>⟨rfl,I.turned (t':=s.toks) (λb o hb e=>eb b o hb e) f0 f1 f3 f4 f5⟩
 self:=λ_ _ _ _ _ st h=>wpAny_pyIter_rangeiter st h
section
variable{X:Cx}{tg:Expr}
def Bs(K:W.Frag)(tl:TE):TI:=λσ H R=>tl σ H λx H1=>∃a,x=.ref a/\(∃xs,SqL K H1 a xs)/\R (Itl K a) H1
theorem dO{l:Expr}{tl:TE}(hl:PE X l tl):PI X tg l (Bs X.K tl):=by
 intro pins s σ H R I h;refine thn (hl pins s σ H _ I h) λv s1 ⟨x,H1,I1,r1,q1⟩=>?_
 obtain⟨a,e,⟨xs,hq⟩,q⟩:=q1;subst e;cases r1;obtain⟨its,rv,p,hz⟩:=I1.list hq;refine wpAny_pyIter_list p.isList ?_;refine⟨s1.heap.objs.size,[s1.heap.objs.size],_,_,H1,rfl,I1.kept (t':=s1.toks) λb o e=>uC _ e,JL a _,⟨_,oQ _ rfl,rfl,rfl⟩,λb hb=>?_,q⟩;have e:b=s1.heap.objs.size:=by simpa using hb
 subst e;exact I1.Rf (uS _) (I1.hok.fresh (uS _))
theorem Bt{pins:List (Addr×Obj)}{σ:St}{H:Hp}{s:Shared}{R:It->Hp->Prop}{E:xB}{lo hi:Int}{t u v:Tok}{tk:Nat}(I:Inv X pins σ H s)(h1:-(2 ^ 62)<=lo)(h2:lo<2 ^ 62)(h3:-(2 ^ 62)<=hi)(h4:hi<2 ^ 62)
  (q:R (Itr lo (hi-lo).toNat) H):wpAny (model X.prog X.w) X.A (pyIter (.ref s.heap.objs.size)) (PIE X pins σ tg R) E { s with heap:=s.heap.push { cls:=.type "range", data:=.fields #[.int lo t,.int hi u,.int 1 v] },toks:=tk }:=by
 refine wpAny_pyIter_range (IsRange.new ..) (small_one h1 h2 h3 h4) ?_;have I1:Inv X pins σ H { s with heap:=s.heap.push { cls:=.type "range", data:=.fields #[.int lo t,.int hi u,.int 1 v] },toks:=tk }:=I.kept λb o e=>uC _ e
 refine⟨(s.heap.push { cls:=.type "range", data:=.fields #[.int lo t,.int hi u,.int 1 v] }).objs.size,[(s.heap.push { cls:=.type "range", data:=.fields #[.int lo t,.int hi u,.int 1 v] }).objs.size],_,_,H,rfl,
  I1.kept (t':=tk) λb o e=>uC _ e,Eu _ lo (hi-lo).toNat,?_,λb hb=>?_,q⟩
 ·have e1:lo+((0:Nat):Int)*1=lo:=by simp
  have e2:(((hi-lo).toNat:Nat):Int)-((0:Nat):Int)=Builtin.Range.rangeSize lo hi 1:=by rw[rangeSize_one];split <;> lia
  show IsRangeIter _ _ (lo+((0:Nat):Int)*1) ((((hi-lo).toNat:Nat):Int)-((0:Nat):Int)) 1;rw[e1,e2];exact oQ _ rfl
 ·have e:b=(s.heap.push { cls:=.type "range", data:=.fields #[.int lo t,.int hi u,.int 1 v] }).objs.size:=by simpa using hb
  subst e;exact I1.Rf (uS _) (I1.hok.fresh (uS _))
def K9(ta:TA):TI:=λσ H R=>ta σ H λvs H1=>∃j:Int,vs=[.int j]/\-(2 ^ 62)<=j/\j<2 ^ 62/\R (Itr 0 j.toNat) H1
def TJ(ta:TA):TI:=λσ H R=>ta σ H λvs H1=>∃i j:Int,vs=[.int i,.int j]/\(-(2 ^ 62)<=i/\i<2 ^ 62/\-(2 ^ 62)<=j/\j<2 ^ 62)/\R (Itr i (j-i).toNat) H1
theorem iJ{a:Expr}{ta:TA}{p pos:Pos}(hg:Gl X "range")(hm:X.mg "range" = none)(ha:PA X [a] ta)(hs:starEach [a] X.env=[(false,eval a X.env)]:=by rfl):PI X tg (.Call (.Name "range" p) [a] [] pos) (K9 ta):=by
 intro pins s σ H R I h;refine Call_ (qt I hg hm boot_range (PyProof.Rows.callWith_type1 (thn (ha pos pins s σ H _ I h) λus s1 ⟨vs,H1,I1,r1,q1⟩=>?_) hs rfl));obtain⟨j,e,q1,q2,q⟩:=q1;subst e;cases r1 with
 | cons r rr =>
  cases rr;obtain⟨t,rfl⟩:=r;exact call_range_1 (Bt I1 (by lia) (by lia) q1 q2 (by simpa using q))
theorem JM{a b:Expr}{ta:TA}{p pos:Pos}(hg:Gl X "range")(hm:X.mg "range" = none)(ha:PA X [a,b] ta)(hs:starEach [a,b] X.env=[(false,eval a X.env),(false,eval b X.env)]:=by rfl)(hs2:starEach [b] X.env=[(false,eval b X.env)]:=by rfl) :
  PI X tg (.Call (.Name "range" p) [a,b] [] pos) (TJ ta):=by
 intro pins s σ H R I h;refine Call_ (qt I hg hm boot_range (PyProof.Rows.callWith_type1 (thn (ha pos pins s σ H _ I h) λus s1 ⟨vs,H1,I1,r1,q1⟩=>?_) (by rw[hs,hs2]) (by rw[hs2];rfl)));obtain⟨i,j,e,⟨q1,q2,q3,q4⟩,q⟩:=q1;subst e;cases r1 with
 | cons r rr =>
  cases rr with
  | cons r' rr =>
   cases rr;obtain⟨t,rfl⟩:=r;obtain⟨t',rfl⟩:=r';exact call_range_2 (Bt I1 q1 q2 q3 q4 q)
def Ew(wi:TI)(g:TG)(tb:TS):TS:=λD σ H=>wi σ H λJ H1=>∃W:Nat->Nat->St->Hp->Prop,(∃m,W 0 m σ H1)/\∀i m σ H,W i m σ H ->
 (J.stop i H/\D.nx σ H)\/(J.go i H/\∃N:St->Hp->Prop,(∀σ' H',N σ' H'->∃m',m'<m/\W (i+1) m' σ' H')/\∀x H',J.yld i H x H'->g x σ H' λσ2 H2=>tb { D with nx:=N,ct:=N,bk:=D.nx } σ2 H2)
def tW(fp:List Addr)(h:Heap):List (Addr×Obj):=fp.filterMap λb=>(h.get? b).map λo=>(b,o)
theorem jM{fp:List Addr}{h:Heap}{b:Addr}{o:Obj}(hb:b∈fp)(e:h.get? b=some o):(b,o)∈tW fp h:=List.mem_filterMap.mpr ⟨b,hb,by rw[e];rfl⟩
theorem JN{fp:List Addr}{h:Heap}{p:Addr×Obj}(hp:p∈tW fp h):p.1∈fp/\h.get? p.1=some p.2:=by
 obtain⟨b,hb,e⟩:=List.mem_filterMap.mp hp;cases q:h.get? b with
 | none=>rw[q] at e;cases e
 | some o =>
  rw[q] at e;have e':(b,o)=p:=nS e;subst e';exact⟨hb,q⟩
theorem Inv.pinned{pins:List (Addr×Obj)}{σ:St}{H:Hp}{s:Shared}{fp:List Addr}(I:Inv X pins σ H s)(hf:∀b∈fp,ni X pins H b)(ho:∀b∈fp,∃o,s.heap.get? b=some o/\∀v,o.data≠.cell v):Inv X (pins++tW fp s.heap) σ H s :=
 I.Hf λp hp=>(wT.mp hp).elim (λz=>I.pin p (rV _ z)) λz=>by
  obtain⟨hb,e⟩:=JN z;obtain⟨f0,f1,f2,_⟩:=hf p.1 hb;obtain⟨o,e',d⟩:=ho p.1 hb;rw[e] at e';cases e';exact⟨e,f0,f1,f2,d⟩
theorem Inv.kE{pins pl:List (Addr×Obj)}{σ:St}{H:Hp}{s:Shared}(I:Inv X (pins++pl) σ H s):Inv X pins σ H s:=I.Hf λp hp=>I.pin p (rV _ (mN _ hp))
theorem gK{iter:Expr}{body:List Stmt}{wi:TI}{g:TG}{tb:TS}{pos:Pos}(hp:PassesOwn (model X.prog X.w) X.A X.env X.xe)(hc:X.calm=true)(hi:PI X tg iter wi)(hg:PG X tg g)(hb:PSs X body tb)
  (hs:∀x,foldedSetIterable iter X.env x=pure x:=by intro _;rfl):PS X (.For tg iter body [] pos) (Ew wi g tb):=by
 intro pins s σ H D I h;refine wpAny_For (thn (hi pins s σ H _ I h) λv s1 h1=>thn h1 λitv s2 h2=>?_) hs;obtain⟨it,fp,tn,J,H2,e,I2,T,st2,f2,W,⟨m0,w0⟩,turn⟩:=h2;subst e
 -- what stays true of the iterator's objects through the loop
 have stat:∀{H':Hp},(∀b∈fp,H' b=none)->∀b∈fp,ni X pins H' b:=λhn b hb=>⟨hn b hb,(f2 b hb).2⟩
 refine codeAny_forLoop_any (λn s'=>∃i σ' H',Inv X pins σ' H' s'/\tn i s'.heap/\(∀b∈fp,H' b=none)/\W i n σ' H') ?_ m0 ⟨0,σ,H2,I2,st2,λb hb=>(f2 b hb).1,w0⟩;rintro n s3 ⟨i,σ3,H3,I3,st3,fr3,w3⟩;rcases turn i n σ3 H3 w3 with⟨stop,qn⟩|⟨go,N,hN,step⟩
 ·refine wpAny_passesOwn hp (thn (T.done X rfl rfl rfl hc i pins s3 σ3 H3 X.xe I3 (stat fr3) st3 stop) λr s4 ⟨hr,I4⟩=>?_);subst hr;exact wpAny_execs_nil ⟨σ3,H3,I4,qn⟩
 ·refine wpAny_passesOwn hp (thn (T.item X rfl rfl rfl hc i pins s3 σ3 H3 X.xe I3 (stat fr3) st3 go) λr s4 ⟨u,hr,h4⟩=>?_);subst hr;refine wpAny_passesOwn hp (thn h4 λ_ s5 ⟨x,H5,I5,r5,y5,st5,fr5⟩=>?_);have I5':=I5.pinned (stat fr5) (T.obj _ _ st5);refine wpAny_passesOwn hp (thn (hg _ s5 σ3 H5 x u _ I5' r5 (step x H5 y5)) λ_ s6 ⟨σ6,H6,I6,q6⟩=>?_);refine wpAny_passesOwn hp (thn (hb _ s6 σ6 H6 _ I6 q6) λf s7 q7=>?_);have again:∀{σ7:St} {H7:Hp},Inv X (pins++tW fp s5.heap) σ7 H7 s7->N σ7 H7->∃m,m<n/\∃i σ' H',Inv X pins σ' H' s7/\tn i s7.heap/\(∀b∈fp,H' b=none)/\W i m σ' H':=λ{σ7 H7} I7 n7=>by
   obtain⟨m',hm,w7⟩:=hN σ7 H7 n7;refine⟨m',hm,i+1,σ7,H7,I7.kE,T.keep _ _ _ st5 λb hb o e=>(I7.pin (b,o) (rV _ (rV _ (jM hb e)))).1,λb hb=>?_,w7⟩;obtain⟨o,e,d⟩:=T.obj _ _ st5 b hb;exact(I7.pin (b,o) (rV _ (rV _ (jM hb e)))).2.1
  cases f with
  | next=>obtain⟨σ7,H7,I7,n7⟩:=q7;exact again I7 n7
  | cont=>obtain⟨σ7,H7,I7,n7⟩:=q7;exact again I7 n7
  | brk=>obtain⟨σ7,H7,I7,q7⟩:=q7;exact⟨σ7,H7,I7.kE,q7⟩
  | ret v=>obtain⟨x7,σ7,H7,I7,r7,q7⟩:=q7;exact⟨x7,σ7,H7,I7.kE,r7,q7⟩
end
theorem K_{K:PySem.W.Frag}{a:Addr}{xs:List V}{g:TG}{tb:TS}{D:Ends}{σ:St}{H:Hp}(Pv:Nat->St->Hp->Prop)(h0:Pv 0 σ H)(hl:∀i σ H,i<=xs.length->Pv i σ H->SqL K H a xs)
  (hs:∀i x σ H,xs[i]?=some x->Pv i σ H->g x σ H λσ2 H2=>tb { D with nx:=Pv (i+1),ct:=Pv (i+1),bk:=D.nx } σ2 H2) (hd:∀σ H,Pv xs.length σ H->D.nx σ H) :
  ∃W:Nat->Nat->St->Hp->Prop,(∃m,W 0 m σ H)/\∀i m σ H,W i m σ H ->
   ((Itl K a).stop i H/\D.nx σ H)\/((Itl K a).go i H/\∃N:St->Hp->Prop,(∀σ' H',N σ' H'->∃m',m'<m/\W (i+1) m' σ' H')/\∀x H',(Itl K a).yld i H x H'->g x σ H' λσ2 H2=>tb { D with nx:=N,ct:=N,bk:=D.nx } σ2 H2):=by
 refine⟨λi m σ H=>m=xs.length-i/\i<=xs.length/\Pv i σ H,⟨xs.length,by simp,Nat.zero_le _,h0⟩,?_⟩;rintro i m σ H ⟨rfl,hi,p⟩;have q:=hl i σ H hi p;by_cases hlt:i<xs.length
 ·refine .inr ⟨⟨xs,xs[i],q,by simp[hlt]⟩,Pv (i+1),λσ' H' p'=>⟨xs.length-(i+1),by lia,rfl,hlt,p'⟩,λx H' y=>?_⟩;obtain⟨e,y⟩:=y;subst e;exact hs i x σ _ (y xs q) p
 ·have e:i=xs.length:=by lia
  subst e;exact .inl ⟨⟨xs,q,uS _⟩,hd σ H p⟩
theorem wO{lo:Int}{n:Nat}{g:TG}{tb:TS}{D:Ends}{σ:St}{H:Hp}(Pv:Nat->St->Hp->Prop)(h0:Pv 0 σ H)
  (hs:∀i σ H,i<n->Pv i σ H->g (.int (lo+i)) σ H λσ2 H2=>tb { D with nx:=Pv (i+1),ct:=Pv (i+1),bk:=D.nx } σ2 H2) (hd:∀σ H,Pv n σ H->D.nx σ H) :
  ∃W:Nat->Nat->St->Hp->Prop,(∃m,W 0 m σ H)/\∀i m σ H,W i m σ H ->
   ((Itr lo n).stop i H/\D.nx σ H)\/((Itr lo n).go i H/\∃N:St->Hp->Prop,(∀σ' H',N σ' H'->∃m',m'<m/\W (i+1) m' σ' H')/\∀x H',(Itr lo n).yld i H x H'->g x σ H' λσ2 H2=>tb { D with nx:=N,ct:=N,bk:=D.nx } σ2 H2):=by
 refine⟨λi m σ H=>m=n-i/\i<=n/\Pv i σ H,⟨n,by simp,Nat.zero_le _,h0⟩,?_⟩;rintro i m σ H ⟨rfl,hi,p⟩;by_cases hlt:i<n
 ·refine .inr ⟨hlt,Pv (i+1),λσ' H' p'=>⟨n-(i+1),by lia,rfl,hlt,p'⟩,λx H' y=>?_⟩;obtain⟨e,y⟩:=y;subst e y;exact hs i σ _ hlt p
 ·have e:i=n:=by lia
  subst e;exact .inl ⟨uS _,hd σ H p⟩
abbrev R2:=V->V->Hp->VK->Prop
def OpR(X:Cx)(f:Value->Value->Sem Value)(r:R2):Prop :=
 ∀(pins:List (Addr×Obj)) (s:Shared) (σ:St) (H:Hp) (x y:V) (v u:Value) (Q:VK),Inv X pins σ H s->RelV x v->RelV y u->r x y H Q ->
  wpAny (model X.prog X.w) X.A (f v u) (EP X pins σ Q) X.xe s
def iy(X:Cx)(f:Value)(r:List V->Hp->VK->Prop):Prop :=
 ∀(pins:List (Addr×Obj)) (s:Shared) (σ:St) (H:Hp) (xs:List V) (us:xF) (Q:VK),Inv X pins σ H s->Vals xs us->r xs H Q ->
  wpAny (model X.prog X.w) X.A (call f us) (EP X pins σ Q) X.xe s
def tOp(r:R2)(ta tb:TE):TE:=λσ H Q=>ta σ H λx H1=>tb σ H1 λy H2=>r x y H2 Q
def rI(C:Int->Int->Prop)(g:Int->Int->V):R2:=λx y H Q=>∃i j,x=.int i/\y=.int j/\C i j/\Q (g i j) H
def rI0(g:Int->Int->V):R2:=λx y H Q=>∃i j,x=.int i/\y=.int j/\Q (g i j) H
section
variable{X:Cx}{a b:Expr}{ta tb:TE}{pos:Pos}
theorem U4(ha:PE X a ta)(hb:PE X b tb){pins:List (Addr×Obj)}{s:Shared}{σ:St}{H:Hp}{R:V->V->Hp->Prop}(I:Inv X pins σ H s)
  (h:ta σ H λx H1=>tb σ H1 λy H2=>R x y H2) {Q:xB} {f:Value->Value->Sem Value}
  (hf:∀v u s2 x y H2,Inv X pins σ H2 s2->RelV x v->RelV y u->R x y H2->wpAny (model X.prog X.w) X.A (f v u) Q X.xe s2) :
  wpAny (model X.prog X.w) X.A (eval a X.env) (λv s₁=>wpAny (model X.prog X.w) X.A (eval b X.env) (λu s₂=>wpAny (model X.prog X.w) X.A (f v u) Q X.xe s₂) X.xe s₁) X.xe s:=by
 refine thn (ha pins s σ H _ I h) λv s1 ⟨x,H1,I1,r1,q1⟩=>?_
 refine thn (hb pins s1 σ H1 _ I1 q1) λu s2 ⟨y,H2,I2,r2,q2⟩=>?_
 exact hf v u s2 x y H2 I2 r1 r2 q2
theorem bT{op:Operator}{r:R2}(ho:OpR X (binaryOp op) r)(ha:PE X a ta)(hb:PE X b tb):PE X (.BinOp a op b pos) (tOp r ta tb):=by
 intro pins s σ H Q I h;exact wpAny_BinOp (U4 ha hb I h λv u s2 x y H2 I2 rx ry q=>ho pins s2 σ H2 x y v u Q I2 rx ry q)
theorem opI{f:Value->Value->Sem Value}{C:Int->Int->Prop}{g:Int->Int->Int}
  (rule:∀(i j:Int)(t u:Tok)(s:Shared)(Q:xB)(E:xB),C i j->Q (.int (g i j) s.toks) { s with toks:=s.toks+1 }->wpAny (model X.prog X.w) X.A (f (.int i t) (.int j u)) Q E s) :
  OpR X f (rI C λi j=>.int (g i j)):=by
 intro pins s σ H x y v u Q I rx ry h;obtain⟨i,j,rfl,rfl,hc,q⟩:=h;obtain⟨t,rfl⟩:=rx;obtain⟨t',rfl⟩:=ry;exact rule i j t t' s _ _ hc ⟨.int (g i j),H,I.tok _,⟨_,rfl⟩,q⟩
theorem U5{f:Value->Value->Sem Value}{g:Int->Int->Int}
  (rule:∀(i j:Int)(t u:Tok)(s:Shared)(Q:xB)(E:xB),Q (.int (g i j) s.toks) { s with toks:=s.toks+1 }->wpAny (model X.prog X.w) X.A (f (.int i t) (.int j u)) Q E s) :
  OpR X f (rI0 λi j=>.int (g i j)):=by
 intro pins s σ H x y v u Q I rx ry h;obtain⟨i,j,rfl,rfl,q⟩:=h;obtain⟨t,rfl⟩:=rx;obtain⟨t',rfl⟩:=ry;exact rule i j t t' s _ _ ⟨.int (g i j),H,I.tok _,⟨_,rfl⟩,q⟩
theorem Rg{f:Value->Value->Sem Value}{g:Int->Int->Bool}
  (rule:∀(i j:Int)(t u:Tok)(s:Shared)(Q:xB)(E:xB),Q (.bool (g i j)) s->wpAny (model X.prog X.w) X.A (f (.int i t) (.int j u)) Q E s) :
  OpR X f (rI0 λi j=>.bl (g i j)):=by
 intro pins s σ H x y v u Q I rx ry h;obtain⟨i,j,rfl,rfl,q⟩:=h;obtain⟨t,rfl⟩:=rx;obtain⟨t',rfl⟩:=ry;exact rule i j t t' s _ _ ⟨.bl (g i j),H,I,rfl,q⟩
def U6(i j:Int):Prop:=0<j/\j<1073741824
def U7(i j:Int):Prop:=0<=j/\j<=1000000/\i.natAbs<2 ^ 64
def La(i j:Int):Prop:=(-(2 ^ 64)<i/\i<2 ^ 64)\/(-(2 ^ 64)<j/\j<2 ^ 64)
theorem La.ok{i j:Int}(h:La i j):IntMulOk i j:=by
 rcases h with⟨h1,h2⟩|⟨h1,h2⟩
 ·exact .of_left (intBits_le_64 h1 h2)
 ·exact .of_right (intBits_le_64 h1 h2)
theorem dh:OpR X (binaryOp .Add) (rI0 λi j=>.int (i+j)):=U5 λ_ _ _ _ _ _ _ q=>add_int q
theorem za:OpR X (binaryOp .Sub) (rI0 λi j=>.int (i-j)):=U5 λ_ _ _ _ _ _ _ q=>sub_int q
theorem qx:OpR X (binaryOp .Mult) (rI La λi j=>.int (i*j)):=opI λ_ _ _ _ _ _ _ hc q=>mul_int q hc.ok
theorem Hh:OpR X (binaryOp .FloorDiv) (rI U6 λi j=>.int (i / j)):=opI λi j _ _ _ _ _ hc q=>by
 have h1:(0:Int)<j:=hc.1;have h2:j<1073741824:=hc.2;exact floordiv_int (by lia) (by rw[Int.fdiv_eq_ediv_of_nonneg i (by lia)];exact q) (.inl (PyProof.noPylong_small (by lia)))
theorem nJ:OpR X (binaryOp .Mod) (rI (λ_ j=>0<j) λi j=>.int (i % j)):=opI λi j _ _ _ _ _ hc q=>by
 have h1:(0:Int)<j:=hc;exact mod_int' (by lia) (by rw[Int.fmod_eq_emod_of_nonneg i (by lia)];exact q)
theorem Lb:OpR X (binaryOp .Pow) (rI U7 λi j=>.int (i ^ j.toNat)):=opI λ_ _ _ _ _ _ _ hc q=>pow_int_small hc.1 hc.2.1 hc.2.2 q
theorem Rh:OpR X (inplaceOp .Add) (rI0 λi j=>.int (i+j)):=U5 λ_ _ _ _ _ _ _ q=>iadd_int q
end
def X7:V->V->Bool
 | .non,.non=>true|.non,.int _=>true|.int _,.non=>true|.non,.bl _=>true|.bl _,.non=>true|.non,.str _=>true|.str _,.non=>true
 | .int _,.int _=>true|.bl _,.bl _=>true|.str _,.str _=>true|.byt _,.byt _=>true
 | .int _,.str _=>true|.str _,.int _=>true|.bl _,.str _=>true|.str _,.bl _=>true
 | _,_=>false
def rEq:R2:=λx y H Q=>X7 x y=true/\Q (.bl (decide (x=y))) H
def rNe:R2:=λx y H Q=>X7 x y=true/\Q (.bl (!decide (x=y))) H
theorem Hi{i j:Int}:decide (V.int i=V.int j)=(i==j):=by
 rw[Bool.eq_iff_iff];simp
theorem Ld{i j:Bool}:decide (V.bl i=V.bl j)=(i==j):=by
 rw[Bool.eq_iff_iff];simp
theorem Hj{i j:Str}:decide (V.str i=V.str j)=(i==j):=by
 rw[Bool.eq_iff_iff];simp
theorem Hl{i j:Array UInt8}:decide (V.byt i=V.byt j)=(i.toList==j.toList):=by
 rw[Bool.eq_iff_iff];cases i;cases j;simp
section
variable{X:Cx}{a b c:Expr}{ta tb tc:TE}{pos:Pos}
theorem cI{pins:List (Addr×Obj)}{σ:St}{H:Hp}{s:Shared}{Q:VK}{k k':Bool}(I:Inv X pins σ H s)(q:Q (.bl k) H)(e:k=k'):EP X pins σ Q (.bool k') s:=by
 subst e;exact⟨.bl k,H,I,rfl,q⟩
theorem nj:OpR X (compareOp .Eq) rEq:=by
 intro pins s σ H x y v u Q I rx ry h;obtain⟨hs,q⟩:=h;cases x with
 | non =>
  cases rx;cases y with
  | non=>cases ry;exact PySem.EqNone.eq_none_none (cI I q (by simp))
  | bl j=>cases ry;exact PySem.EqNone.eq_none_bool (cI I q (by simp))
  | int j=>obtain⟨t',rfl⟩:=ry;exact PySem.EqNone.eq_none_int (cI I q (by simp))
  | str j=>obtain⟨t',rfl⟩:=ry;exact PySem.EqNone.eq_none_str (cI I q (by simp))
  | _=>exact gN (show false=true from hs) vS
 | bl i =>
  cases rx;cases y with
  | non=>cases ry;exact PySem.EqNone.eq_bool_none (cI I q (by simp))
  | bl j=>cases ry;exact eq_bool (cI I q Ld)
  | str j=>obtain⟨t',rfl⟩:=ry;exact PySem.EqMixed.eq_bool_str (cI I q (by simp))
  | _=>exact gN (show false=true from hs) vS
 | int i =>
  obtain⟨t,rfl⟩:=rx;cases y with
  | non=>cases ry;exact PySem.EqNone.eq_int_none (cI I q (by simp))
  | int j=>obtain⟨t',rfl⟩:=ry;exact eq_int (cI I q Hi)
  | str j=>obtain⟨t',rfl⟩:=ry;exact PySem.EqMixed.eq_int_str (cI I q (by simp))
  | _=>exact gN (show false=true from hs) vS
 | str i =>
  obtain⟨t,rfl⟩:=rx;cases y with
  | non=>cases ry;exact PySem.EqNone.eq_str_none (cI I q (by simp))
  | bl j=>cases ry;exact PySem.EqMixed.eq_str_bool (cI I q (by simp))
  | int j=>obtain⟨t',rfl⟩:=ry;exact PySem.EqMixed.eq_str_int (cI I q (by simp))
  | str j=>obtain⟨t',rfl⟩:=ry;exact eq_str (cI I q Hj)
  | _=>exact gN (show false=true from hs) vS
 | byt i =>
  obtain⟨t,rfl⟩:=rx;cases y with
  | byt j=>obtain⟨t',rfl⟩:=ry;exact W.eq_bytes (cI I q Hl)
  | _=>exact gN (show false=true from hs) vS
 | _=>cases y <;> exact gN (show false=true from hs) vS
theorem tZ:OpR X (compareOp .NotEq) rNe:=by
 intro pins s σ H x y v u Q I rx ry h;obtain⟨hs,q⟩:=h;cases x with
 | non =>
  cases rx;cases y with
  | non=>cases ry;exact PySem.EqNone.ne_none_none (cI I q (by simp))
  | bl j=>cases ry;exact PySem.EqNone.ne_none_bool (cI I q (by simp))
  | int j=>obtain⟨t',rfl⟩:=ry;exact PySem.EqNone.ne_none_int (cI I q (by simp))
  | str j=>obtain⟨t',rfl⟩:=ry;exact PySem.EqNone.ne_none_str (cI I q (by simp))
  | _=>exact gN (show false=true from hs) vS
 | bl i =>
  cases rx;cases y with
  | non=>cases ry;exact PySem.EqNone.ne_bool_none (cI I q (by simp))
  | bl j=>cases ry;exact ne_bool (cI I q (gL not Ld))
  | str j=>obtain⟨t',rfl⟩:=ry;exact PySem.EqMixed.ne_bool_str (cI I q (by simp))
  | _=>exact gN (show false=true from hs) vS
 | int i =>
  obtain⟨t,rfl⟩:=rx;cases y with
  | non=>cases ry;exact PySem.EqNone.ne_int_none (cI I q (by simp))
  | int j=>obtain⟨t',rfl⟩:=ry;exact ne_int (cI I q (gL not Hi))
  | str j=>obtain⟨t',rfl⟩:=ry;exact PySem.EqMixed.ne_int_str (cI I q (by simp))
  | _=>exact gN (show false=true from hs) vS
 | str i =>
  obtain⟨t,rfl⟩:=rx;cases y with
  | non=>cases ry;exact PySem.EqNone.ne_str_none (cI I q (by simp))
  | bl j=>cases ry;exact PySem.EqMixed.ne_str_bool (cI I q (by simp))
  | int j=>obtain⟨t',rfl⟩:=ry;exact PySem.EqMixed.ne_str_int (cI I q (by simp))
  | str j=>obtain⟨t',rfl⟩:=ry;exact ne_str (cI I q (gL not Hj))
  | _=>exact gN (show false=true from hs) vS
 | byt i =>
  obtain⟨t,rfl⟩:=rx;cases y with
  | byt j=>obtain⟨t',rfl⟩:=ry;exact W.ne_bytes (cI I q (gL not Hl))
  | _=>exact gN (show false=true from hs) vS
 | _=>cases y <;> exact gN (show false=true from hs) vS
theorem Ho:OpR X (compareOp .Lt) (rI0 λi j=>.bl (decide (i<j))):=Rg λ_ _ _ _ _ _ _ q=>lt_int q
theorem Hq:OpR X (compareOp .LtE) (rI0 λi j=>.bl (decide (i<=j))):=Rg λ_ _ _ _ _ _ _ q=>le_int q
theorem TQ:OpR X (compareOp .Gt) (rI0 λi j=>.bl (decide (j<i))):=Rg λ_ _ _ _ _ _ _ q=>gt_int q
theorem Bu:OpR X (compareOp .GtE) (rI0 λi j=>.bl (decide (j<=i))):=Rg λ_ _ _ _ _ _ _ q=>ge_int q
theorem U8:OpR X (compareOp .Is) (λx y H Q=>y=.non/\Q (.bl (decide (x=.non))) H):=by
 intro pins s σ H x y v u Q I rx ry h;obtain⟨rfl,q⟩:=h;cases ry;refine is_none_gen (cI I q ?_);cases x <;> first
  | (cases rx;rfl)
  | (obtain⟨t,rfl⟩:=rx;rfl)
theorem OpR.or{f:Value->Value->Sem Value}{r r':R2}(h:OpR X f r)(h':OpR X f r'):OpR X f (λx y H Q=>r x y H Q\/r' x y H Q):=by
 intro pins s σ H x y v u Q I rx ry q;rcases q with q|q
 ·exact h pins s σ H x y v u Q I rx ry q
 ·exact h' pins s σ H x y v u Q I rx ry q
theorem bJ(b:Expr){op:CmpOp}(h:op≠.In:=by decide)(h2:op≠.NotIn:=by decide):behindInMarks op b=false:=by
 have e1:(op==CmpOp.In)=false:=by cases op <;> first|rfl|exact gN rfl h
 have e2:(op==CmpOp.NotIn)=false:=by cases op <;> first|rfl|exact gN rfl h2
 cases b <;> simp[behindInMarks,e1,e2]
theorem n_{op:CmpOp}{r:R2}(ho:OpR X (compareOp op) r)(ha:PE X a ta)(hb:PE X b tb)(hm:behindInMarks op b=false):PE X (.Compare a [op] [b] pos) (tOp r ta tb):=by
 intro pins s σ H Q I h;exact wpAny_Compare1 (U4 ha hb I h λv u s2 x y H2 I2 rx ry q=>ho pins s2 σ H2 x y v u Q I2 rx ry q) hm
def Le(t:TE):TT:=λσ H Q=>t σ H λx H'=>∃k,x=.bl k/\Q k H'
theorem bw{op:CmpOp}{r:R2}(ho:OpR X (compareOp op) r)(ha:PE X a ta)(hb:PE X b tb)(hm:behindInMarks op b=false):PT X (.Compare a [op] [b] pos) (Le (tOp r ta tb)):=by
 intro pins s σ H Q I h;refine wpAny_isTrue_Compare1 (thn (ha pins s σ H _ I h) λv s1 ⟨x,H1,I1,r1,q1⟩=>thn (hb pins s1 σ H1 _ I1 q1) λu s2 ⟨y,H2,I2,r2,q2⟩ =>
  thn (ho pins s2 σ H2 x y v u _ I2 r1 r2 q2) λc s3 ⟨z,H3,I3,r3,k,e,q3⟩=>?_) hm
 subst e;cases r3;exact wpAny_truthy_bool ⟨H3,I3,q3⟩
def Lf(r r':R2)(ta tb tc:TE):TE:=λσ H Q=>ta σ H λx H1=>tb σ H1 λy H2=>r x y H2 λz H3=>∃k,z=.bl k /\
 (if k=true then tc σ H3 λw' H4=>r' y w' H4 Q else Q (.bl false) H3)
theorem Lg{op op':CmpOp}{r r':R2}(ho:OpR X (compareOp op) r)(ho':OpR X (compareOp op') r')(ha:PE X a ta)(hb:PE X b tb)(hc:PE X c tc)
  (hm:lastMarks [op,op'] [b,c]=false:=by with_unfolding_all rfl):PE X (.Compare a [op,op'] [b,c] pos) (Lf r r' ta tb tc):=by
 intro pins s σ H Q I h;refine Compare_chain (thn (ha pins s σ H _ I h) λv s1 ⟨x,H1,I1,r1,q1⟩=>chain_link (thn (hb pins s1 σ H1 _ I1 q1) λu s2 ⟨y,H2,I2,r2,q2⟩ =>
  thn (ho pins s2 σ H2 x y v u _ I2 r1 r2 q2) λd s3 ⟨z,H3,I3,r3,k,e,q3⟩=>?_)) hm
 subst e;cases r3;refine wpAny_truthy_bool ?_;cases k with
 | false=>exact ite_ff ⟨.bl false,H3,I3,rfl,q3⟩
 | true=>exact ite_tt (chain_last (thn (hc pins s3 σ H3 _ I3 q3) λw' s4 ⟨z',H4,I4,r4,q4⟩=>ho' pins s4 σ H4 y z' u w' Q I4 r2 r4 q4))
theorem zf:(sizeLine:Nat)<2 ^ 63:=by rw[sizeLine_eq];decide
theorem vals1{x:V}{us:xF}(r:Vals [x] us):∃u,us=[u]/\RelV x u:=by
 cases r with
 | cons r1 r2=>cases r2;exact⟨_,rfl,r1⟩
theorem vals2{x y:V}{us:xF}(r:Vals [x,y] us):∃u w',us=[u,w']/\RelV x u/\RelV y w':=by
 cases r with
 | cons r1 r2 =>
  cases r2 with
  | cons r3 r4=>cases r4;exact⟨_,_,rfl,r1,r3⟩
theorem JQ(hc:X.calm=true):iy X (.builtin "max") (λxs H Q=>∃i j,xs=[.int i,.int j]/\Q (.int (if j > i then j else i)) H):=by
 intro pins s σ H xs us Q I r h;obtain⟨i,j,rfl,q⟩:=h;obtain⟨u,w',rfl,⟨t,rfl⟩,⟨t',rfl⟩⟩:=vals2 r;refine max_two_ints (I.ok.hd hc) λh' tk k=>⟨_,H,I.kept k,?_,q⟩
 by_cases hj:j > i
 ·rw[yB hj,yB hj];exact⟨_,rfl⟩
 ·rw[yT hj,yT hj];exact⟨_,rfl⟩
theorem JR(hc:X.calm=true):iy X (.builtin "min") (λxs H Q=>∃i j,xs=[.int i,.int j]/\Q (.int (if j<i then j else i)) H):=by
 intro pins s σ H xs us Q I r h;obtain⟨i,j,rfl,q⟩:=h;obtain⟨u,w',rfl,⟨t,rfl⟩,⟨t',rfl⟩⟩:=vals2 r;refine min_two_ints (I.ok.hd hc) λh' tk k=>⟨_,H,I.kept k,?_,q⟩
 by_cases hj:j<i
 ·rw[yB hj,yB hj];exact⟨_,rfl⟩
 ·rw[yT hj,yT hj];exact⟨_,rfl⟩
def X8(K:W.Frag)(x:V)(H:Hp)(n:Nat):Prop :=
 match x with
 | .str y=>y.length<=sizeLine/\n=y.length
 | .byt y=>y.size<=sizeLine/\n=y.size
 | .ref p=>(∃xs,SqL K H p xs/\n=xs.length)\/∃xs,SqT K H p xs/\n=xs.length
 | _=>False
theorem Lh:iy X (.builtin "len") (λxs H Q=>∃x n,xs=[x]/\X8 X.K x H n/\Q (.int n) H):=by
 intro pins s σ H xs us Q I r h;obtain⟨x,n,rfl,e,q⟩:=h;obtain⟨u,rfl,rx⟩:=vals1 r;have hl:=zf;have hs:sizeLine=16777216:=sizeLine_eq;cases x with
 | str y =>
  obtain⟨t,rfl⟩:=rx;obtain⟨hy,e'⟩:y.length<=sizeLine/\n=y.length:=e;subst e';exact len_str (by lia) ⟨.int _,H,I.tok _,⟨_,rfl⟩,q⟩
 | byt y =>
  obtain⟨t,rfl⟩:=rx;obtain⟨hy,e'⟩:y.size<=sizeLine/\n=y.size:=e;subst e';exact W.len_bytes (by lia) ⟨.int _,H,I.tok _,⟨_,rfl⟩,q⟩
 | ref p =>
  cases rx;have e':(∃xs,SqL X.K H p xs/\n=xs.length)\/∃xs,SqT X.K H p xs/\n=xs.length:=e;rcases e' with⟨xs,hx,e'⟩|⟨xs,hx,e'⟩
  ·subst e';obtain⟨its,r',pl,hz⟩:=I.list hx;have hlen:=r'.length;exact Calls.call_len_list pl.isList (by simp only[List.size_toArray];lia) ⟨.int xs.length,H,I.tok _,⟨_,by simp only[List.size_toArray];rw[hlen]⟩,q⟩
  ·subst e';obtain⟨its,r',pl,hz⟩:=I.tuple hx;have hlen:=r'.length;exact len_tuple pl (by simp only[List.size_toArray];lia) ⟨.int xs.length,H,I.tok _,⟨_,by simp only[List.size_toArray];rw[hlen]⟩,q⟩
 | _=>exact(show False from e).elim
end
structure Ey(h:Heap)(x dx C:Addr)(mA:xC):Prop where
 obj:h.get? x=some (W.instObj C dx)
 ns:h.Ns1 dx mA
 ne:dx≠x
theorem qy{h:Heap}{dx:Addr}{mA:xC}(n:h.Ns1 dx mA):∃od,h.get? dx=some od/\∀name,W.lookIn name od=some (mA name):=by
 obtain⟨o,es,ep,ho,hd,hk,_,hm⟩:=n;refine⟨o,ho,λname=>?_⟩;have e:=hm name;unfold nsFind findBy at e;rw[<- Array.find?_toList] at e;unfold W.lookIn;rw[hd];dsimp only;split
 ·rename_i y q;rw[q] at e;exact gL some e
 ·rename_i q;rw[q] at e;have a:es.toList.any (·.refKey)=false:=by
   rw[List.any_eq_false];intro y hy;obtain⟨z,t,hkey⟩:=hk y (Array.mem_toList_iff.mp hy);simp[DictEntry.refKey,hkey]
  have a':¬ es.toList.any (·.refKey)=true:=by rw[a];exact vS
  rw[yT a'];exact gL some e
theorem Ey.look{h:Heap}{x dx C:Addr}{mA:xC}(I:Ey h x dx C mA):∃od,W.InstAt h x (W.instObj C dx) C (some od)/\∀name,W.lookIn name od=some (mA name) :=
 let ⟨od,ho,hl⟩:=qy I.ns
 ⟨od,⟨I.obj,rfl,rfl,ho⟩,hl⟩
section
variable{prog:Program}{w:World}{A:Around}{E:xB}{s:Shared}{K:W.Frag}{x dx C f:Addr}{mA:xC}{name:Str}{v:Value}
theorem get_map{expr:Bool}{Q:xB}(X:K.In s.heap)(I:Ey s.heap x dx C mA)(hg:W.plainGet K C name=true)(hh:W.hasDictIn K C=true)
  (ha:W.findIn K (.ref C) name=some none) (hv:mA name=some v) (hv':W.handedIn v=true) (h:Q v { s with toks:=s.toks+1 }) :
  wpAny (model prog w) A (getAttr (.ref x) name expr) Q E s:=by
 obtain⟨od,J,hl⟩:=I.look;exact W.get_value X J (W.plainGet_of hg).1 (W.findObj_own hh ha rfl (by rw[hl,hv])) hv' h
theorem Li{pl:Sem Bool}{Q:Value×List Value->Shared->Prop}(X:K.In s.heap)(I:Ey s.heap x dx C mA)(hg:W.plainGet K C name=true)
  (hf:W.findIn K (.ref C) name=some (some (.ref f))) (ht:W.isFn K (.ref f)=true) (hv:mA name=none) (h:Q (.ref f,[.ref x]) s) :
  wpAny (model prog w) A (getMethod (.ref x) name pl) Q E s:=by
 obtain⟨od,J,hl⟩:=I.look;exact W.method_fn X J (W.plainGet_of hg).1 (W.plainGet_of hg).2 hf (beq_iff_eq.mp ht) (by show (W.lookIn name od).map (·.isSome)=some false;rw[hl,hv];rfl) h
theorem Ri{ns:List Str}{Q:xA}(X:K.In s.heap)(I:Ey s.heap x dx C mA)
  (hs:W.findIn K (.ref C) "__setattr__" = some (some (.builtin "object.__setattr__"))) (hp:W.plainOver K C=true) (ht:W.takerIn K C name=some none) (hh:W.hasDictIn K C=true)
  (hw:PySem.Within mA ns) (hsz:ns.length<=sizeLine)
  (h:∀h',Ey h' x dx C (λy=>if y=name then some v else mA y)->Heap.SameBut dx s.heap h'->Q () { s with heap:=h',toks:=s.toks+2 }) :
  wpAny (model prog w) A (setAttr (.ref x) name v) Q E s:=by
 obtain⟨od,J,hl⟩:=I.look;refine W.set_plain X J hs (W.osa_open (s:={ s with toks:=s.toks+1 }) (r:=none) X J hp ht λb=>?_)
 obtain⟨cd,hc,hd'⟩:=W.any_some hh;have hx:s.heap.get? x=some ⟨.ref C,some dx,.plain,#[]⟩:=I.obj;refine zI (rX (zI (zI (wpAny_loadPart hx (zI (W.Looks.here (s:={ s with toks:=s.toks+1 }) (W.looks_clsIn X hc) ?_))))))
 rw[hd'];refine rX (a:=some dx) (zI (rX (zI ?_)));refine wpAny_nsSet1 (s:={ s with toks:=s.toks+1 }) I.ns λh' hn2 hs2=>?_
 obtain⟨oD,esD,epD,hoD,hdD,hcD⟩:=hn2.count (PySem.Within.cons name v hw);refine zI (wpAny_lookBehind hoD (by rw[hdD];exact pastItsLine_dict (oB hcD (by rw[zzD];lia))) ?_);exact rX (h _ ⟨(hs2.2 _ (Ne.symm I.ne)).trans I.obj,hn2,I.ne⟩ hs2)
theorem Lj{R:Result->Shared->Prop}{vs:xF}{kw:List (Str×Value)}(X:K.In s.heap)(hm:W.makesIn K C=true)
  (hi:W.findIn K (.ref C) "__init__" = some (some (.ref f))) (hf:W.typeIn K (.ref f)=some (.type "function"))
  (h:codeAny (model prog w) (A.under (.builtin "type.__call__" ⟨.ref C::vs,kw⟩)) (.call (.ref f) ⟨.ref (s.heap.objs.size+1)::vs,kw⟩) (W.InitBack (s.heap.objs.size+1) R)
   { s with heap:=(s.heap.push W.emptyDict).push (W.instObj C s.heap.objs.size) }) :
  codeAny (model prog w) A (.call (.ref C) ⟨vs,kw⟩) R s:=by
 obtain⟨hh,g,d,t,os⟩:=s;exact W.make_core (W.makes_of X hm) (W.looks_findIn X hi) (λself=>W.bind_fn X self hf) (.inl rfl) h
end
def fQ(f:Str)(v:V):List (Str×V)->List (Str×V)
 | []=>[(f,v)]
 | (g,x)::r=>if g=f then (g,v)::r else (g,x)::fQ f v r
theorem cA(f g:Str)(v:V):∀fs:List (Str×V),(fQ f v fs).lookup g=if g=f then some v else fs.lookup g
 | []=>by
  show List.lookup g [(f,v)]=_;by_cases h:g=f
  ·have hb:(g==f)=true:=beq_iff_eq.mpr h;simp only[List.lookup,hb,if_pos h]
  ·have hb:(g==f)=false:=beq_eq_false_iff_ne.mpr h;simp only[List.lookup,hb,if_neg h]
 | (k,x)::r=>by
  have ih:=cA f g v r;rw[show fQ f v ((k,x)::r)=(if k=f then (k,v)::r else (k,x)::fQ f v r) from rfl];by_cases hk:k=f
  ·rw[yB hk];by_cases h:g=k
   ·have hb:(g==k)=true:=beq_iff_eq.mpr h;simp only[List.lookup,hb,if_pos (h.trans hk)]
   ·have hb:(g==k)=false:=beq_eq_false_iff_ne.mpr h;simp only[List.lookup,hb,if_neg (λe:g=f=>h (e.trans hk.symm))]
  ·rw[yT hk];by_cases h:g=k
   ·have hb:(g==k)=true:=beq_iff_eq.mpr h;simp only[List.lookup,hb,if_neg (λe:g=f=>hk (h.symm.trans e))]
   ·have hb:(g==k)=false:=beq_eq_false_iff_ne.mpr h;simp only[List.lookup,hb];exact ih
theorem jC(f:Str)(v:V):∀fs:List (Str×V),f∈(fQ f v fs).map (·.1)/\∀g,g∈fs.map (·.1)->g∈(fQ f v fs).map (·.1)
 | []=>⟨by simp[fQ],λg h=>by simp at h⟩
 | (k,x)::r=>by
  obtain⟨i1,i2⟩:=jC f v r;rw[show fQ f v ((k,x)::r)=(if k=f then (k,v)::r else (k,x)::fQ f v r) from rfl];by_cases hk:k=f
  ·rw[yB hk];subst hk;exact⟨by simp,λg h=>by simpa using h⟩
  ·rw[yT hk];refine⟨?_,λg h=>?_⟩
   ·rw[nI];exact zD _ i1
   ·rw[nI] at h ⊢;rcases jI.mp h with e|e
    ·exact jI.mpr (.inl e)
    ·exact zD _ (i2 g e)
theorem jd(f:Str)(v:V):∀fs:List (Str×V),(fQ f v fs).length<=fs.length+1
 | []=>by simp[fQ]
 | (k,x)::r=>by
  have ih:=jd f v r;rw[show fQ f v ((k,x)::r)=(if k=f then (k,v)::r else (k,x)::fQ f v r) from rfl];by_cases hk:k=f
  ·rw[yB hk,zzD,zzD];lia
  ·rw[yT hk,zzD,zzD];lia
theorem jK.some_of{v:V}{o:Option Value}(r:jK (some v) o):∃u,o=some u/\RelV v u:=by
 cases o with
 | none=>exact(show False from r).elim
 | some u=>exact⟨u,rfl,r⟩
theorem jK.none_of{o:Option Value}(r:jK none o):o=none:=by
 cases o with
 | none=>rfl
 | some u=>exact(show False from r).elim
theorem wQ{v:V}{u:Value}(r:RelV v u):W.handedIn u=true:=by
 cases v with
 | non=>cases (show u=Value.none from r);rfl
 | bl b=>cases (show u=Value.bool b from r);rfl
 | int i=>obtain⟨t,e⟩:=(show ∃t,u=Value.int i t from r);cases e;rfl
 | str x=>obtain⟨t,e⟩:=(show ∃t,u=Value.str x t from r);cases e;rfl
 | byt b=>obtain⟨t,e⟩:=(show ∃t,u=Value.bytes b t from r);cases e;rfl
 | flt b=>obtain⟨t,e⟩:=(show ∃t,u=Value.float b t from r);cases e;rfl
 | ref a=>cases (show u=Value.ref a from r);rfl
 | ty n=>cases (show u=Value.type n from r);rfl
section
variable{P:Program}{w:World}{H:Hp}{h:Heap}{a C dx:Addr}{fs:List (Str×V)}
theorem sH(hok:HOk P w H h)(e:H a=some (.ins C dx fs)):∃mA,Ey h a dx C mA/\(∀f,jK (fs.lookup f) (mA f))/\PySem.Within mA (fs.map (·.1))/\fs.length<=1000/\H dx=some (.own a):=by
 obtain⟨d,z,ne,ob,mA,n,r,q⟩:=(show cU P w H h a (.ins C dx fs) from hok a _ e);exact⟨mA,⟨ob,n,ne⟩,r,q,z,d⟩
end
structure Cls(K:W.Frag)(C:Addr):Prop where
 pg:W.plainGet K C Str.empty=true
 hd:W.hasDictIn K C=true
 po:W.plainOver K C=true
 sa:W.findIn K (.ref C) "__setattr__" = some (some (.builtin "object.__setattr__"))
theorem Cls.get{K:W.Frag}{C:Addr}(c:Cls K C)(f:Str):W.plainGet K C f=true:=c.pg
def cZ(K:W.Frag)(C:Addr)(f:Str):Prop:=W.findIn K (.ref C) f=some none
theorem cZ.taker{K:W.Frag}{C:Addr}{f:Str}(n:cZ K C f):W.takerIn K C f=some none:=by
 unfold W.takerIn;rw[show W.findIn K (.ref C) f=some none from n]
 rfl
structure Meth(K:W.Frag)(C:Addr)(m:Str)(f:Addr):Prop where
 at_:W.findIn K (.ref C) m=some (some (.ref f))
 fn:W.isFn K (.ref f)=true
 kp:W.keepIn K (.ref f)=true
section
variable{X:Cx}{pins:List (Addr×Obj)}{σ:St}{H:Hp}{s:Shared}{a C dx:Addr}{fs:List (Str×V)}{f:Str}{v:V}{A:Around}{E:xB}
theorem Ez{b:Bool}{Q:xB}(I:Inv X pins σ H s)(e:H a=some (.ins C dx fs))(c:Cls X.K C)(n:cZ X.K C f)(l:fs.lookup f=some v)
  (h:∀u s',Inv X pins σ H s'->RelV v u->Q u s'):wpAny (model X.prog X.w) A (getAttr (.ref a) f b) Q E s:=by
 obtain⟨mA,O,r,_,_,_⟩:=sH I.hok e;obtain⟨u,hu,ru⟩:=jK.some_of (v:=v) (o:=mA f) (by rw[<- l];exact r f);exact get_map I.kIn O (c.get f) c.hd n hu (wQ ru) (h u _ (I.tok _) ru)
theorem nM{m:Str}{g:Addr}{pl:Sem Bool}{Q:Value×List Value->Shared->Prop}(I:Inv X pins σ H s)(e:H a=some (.ins C dx fs))(c:Cls X.K C)(k:Meth X.K C m g)(l:fs.lookup m=none)
  (h:Q (.ref g,[.ref a]) s):wpAny (model X.prog X.w) A (getMethod (.ref a) m pl) Q E s:=by
 obtain⟨mA,O,r,_,_,_⟩:=sH I.hok e;have hn:mA m=none:=jK.none_of (by rw[<- l];exact r m);exact Li I.kIn O (c.get m) k.at_ k.fn hn h
theorem EY{y:V}{u:Value}{Q:xA}(I:Inv X pins σ H s)(e:H a=some (.ins C dx fs))(c:Cls X.K C)(n:cZ X.K C f)(hl:fs.length<1000)(ry:RelV y u)
  (h:∀s',Inv X pins σ (upd H a (.ins C dx (fQ f y fs))) s'->Q () s'):wpAny (model X.prog X.w) A (setAttr (.ref a) f u) Q E s:=by
 obtain⟨mA,O,r,wi,_,ho⟩:=sH I.hok e;have hz:(fs.map (·.1)).length<=sizeLine:=by rw[wS,sizeLine_eq];lia
 refine Ri I.kIn O c.sa c.po n.taker c.hd wi hz λh' O' sb=>h _ ?_
 have hd:∃o,h'.get? dx=some o:=let ⟨o,_,_,e',_⟩:=O'.ns;⟨o,e'⟩
 refine I.write (x:=a) (e:=dx) (by rw[e];exact True.intro) (.inr ho) (λb q hb z=>(sb.2 b hb).trans z) hd ?_;refine⟨by rw[aR O.ne];exact ho,?_,O.ne,O'.obj,_,O'.ns,λg=>?_,λg hg=>?_⟩
 ·have:=jd f y fs;lia
 ·show jK ((fQ f y fs).lookup g) (if g=f then some u else mA g);rw[cA];by_cases q:g=f
  ·rw[yB q,yB q];exact ry
  ·rw[yT q,yT q];exact r g
 ·by_cases q:g=f
  ·rw[q];exact(jC f y fs).1
  ·refine(jC f y fs).2 g (wi g λz=>hg ?_);show (if g=f then some u else mA g)=none;rw[yT q];exact z
theorem Inv.made(I:Inv X pins σ H s):Inv X pins σ (upd (upd H s.heap.objs.size (.own (s.heap.objs.size+1))) (s.heap.objs.size+1) (.ins C s.heap.objs.size []))
  { s with heap:=(s.heap.push W.emptyDict).push (W.instObj C s.heap.objs.size) }:=by
 have e1:(s.heap.push W.emptyDict).get? s.heap.objs.size=some W.emptyDict:=oQ s.heap rfl;have e2:((s.heap.push W.emptyDict).push (W.instObj C s.heap.objs.size)).get? (s.heap.objs.size+1)=some (W.instObj C s.heap.objs.size):=by
  have:=oQ (s.heap.push W.emptyDict) (o:=W.instObj C s.heap.objs.size) rfl
  rwa [Heap.size_push] at this
 have e3:(s.heap.push W.emptyDict).Ns s.heap.objs.size (λ_=>none):=⟨W.emptyDict,#[],_,e1,rfl,(λe he=>absurd he (by simp)),λ_=>rfl⟩;have I1:=I.laid (a:=s.heap.objs.size) (o:=.own (s.heap.objs.size+1)) (h':=s.heap.push W.emptyDict) (t':=s.toks) (λb u q=>uC _ q) (uS _) ⟨_,e1⟩;refine I1.laid (a:=s.heap.objs.size+1) (o:=.ins C s.heap.objs.size []) (t':=s.toks) (λb u q=>uC _ q) (Nat.le_of_eq (Heap.size_push _ _)) ?_;have ne:s.heap.objs.size≠s.heap.objs.size+1:=qV (Nat.lt_succ_self _);refine⟨by rw[aR ne,bG],Nat.zero_le _,ne,e2,λ_=>none,(Heap.Ns1.of_empty e3).at λo q=>uC _ q,λ_=>True.intro,λy hy=>gN rfl hy⟩
theorem Hr{prog:Program}{w:World}{env:Env}{e:Expr}{f:Str}{pos:Pos}{s:Shared}{Q:xB}(hb:attributeBase e f env (eval e env)=eval e env)
  (h:wpAny (model prog w) A (eval e env) (λo s₁=>wpAny (model prog w) A (getAttr o f true) Q E s₁) E s):wpAny (model prog w) A (eval (.Attribute e f pos) env) Q E s :=
 Attribute_any_ h (by rw[arm_eval_Attribute,hb])
end
def U9(K:W.Frag)(ta:TE)(f:Str):TE:=λσ H Q=>ta σ H λx H1=>∃a C dx fs v,x=.ref a/\H1 a=some (.ins C dx fs)/\Cls K C/\cZ K C f/\fs.lookup f=some v/\Q v H1
def U_(K:W.Frag)(ta tv:TE)(f:Str):TS:=λD σ H=>tv σ H λy H1=>ta σ H1 λx H2=>∃a C dx fs,x=.ref a/\H2 a=some (.ins C dx fs)/\Cls K C/\cZ K C f/\fs.length<1000 /\
 D.nx σ (upd H2 a (.ins C dx (fQ f y fs)))
section
variable{X:Cx}{o e value:Expr}{f:Str}{pos pos':Pos}{ta tv:TE}
theorem iR(he:PE X e ta)(hb:attributeBase e f X.env (eval e X.env)=eval e X.env):PE X (.Attribute e f pos) (U9 X.K ta f):=by
 intro pins s σ H Q I h;refine Hr hb (thn (he pins s σ H _ I h) λu s1 ⟨x,H1,I1,rx,a,C,dx,fs,v,ex,ea,c,n,l,q⟩=>?_);subst ex;obtain rfl:u=Value.ref a:=rx;exact Ez I1 ea c n l λu' s2 I2 ru=>⟨v,H1,I2,ru,q⟩
theorem qz(ha:PE X o ta)(hv:PE X value tv)(hs:swapsWith value (some (.Attribute o f pos')) pos.line X.env=pure false):PS X (.Assign [.Attribute o f pos'] value pos) (U_ X.K ta tv f):=by
 intro pins s σ H D I h;refine plainObj_wpAny_Assign_Attribute (thn (hv pins s σ H _ I h) λu s1 ⟨y,H1,I1,ry,q⟩=>thn (ha pins s1 σ H1 _ I1 q) λov s2 ⟨x,H2,I2,rx,a,C,dx,fs,ex,ea,c,n,l,q2⟩=>?_) hs;subst ex;obtain rfl:ov=Value.ref a:=rx;exact EY I2 ea c n l ry λs3 I3=>⟨σ,_,I3,q2⟩
end
section
variable{X:Cx}{pins:List (Addr×Obj)}{σ:St}{H:Hp}{s:Shared}{A:Around}{E:xB}{Q:xB}{c:Value}{b:Bool}
inductive eX(K:W.Frag)(H:Hp):V->Value->Prop where
 | non:eX K H .non (.type "NoneType")
 | bl (x:Bool):eX K H (.bl x) (.type "bool")
 | int (i:Int):eX K H (.int i) (.type "int")
 | str (x:Str):eX K H (.str x) (.type "str")
 | flt (x:UInt64):eX K H (.flt x) (.type "float")
 | lst {a:Addr} {xs:List V} (e:H a=some (.lst xs)):eX K H (.ref a) (.type "list")
 | frz {a:Addr} {o:Obj} {xs:List V} (e:H a=some (.frz o (.lst xs))):eX K H (.ref a) (.type "list")
 | tup {a:Addr} {xs:List V} (e:H a=some (.tup xs)):eX K H (.ref a) (.type "tuple")
 | dK {a:Addr} {kvs:List (Key×V)} (e:H a=some (.dK kvs)):eX K H (.ref a) (.type "dict")
 | dT {a:Addr} {kvs:List (List Key×V)} (e:H a=some (.dT kvs)):eX K H (.ref a) (.type "dict")
 | ins {a C dx:Addr} {fs:List (Str×V)} (e:H a=some (.ins C dx fs)) (cl:Cls K C) (ha:W.findIn K (.ref C) "__class__" = some (some (.builtin "object.__class__")))
   (hn:W.specialIn K (.builtin "object.__class__") "__get__" = some (some (.builtin "getset_descriptor.__get__"))) (htk:W.takesIn K (.builtin "object.__class__")=some true)
   (hm:W.mroIn K C (.type "object")=some true):eX K H (.ref a) (.ref C)
theorem wR{x:V}{u t:Value}(I:Inv X pins σ H s)(rx:RelV x u)(ty:eX X.K H x t)(e:W.kitOne X.K t c=some b)(h:∀tk,Q (.bool b) { s with toks:=tk }) :
  wpAny (model X.prog X.w) A (call (.builtin "isinstance") [u,c]) Q E s:=by
 cases ty with
 | non=>cases (show u=Value.none from rx);exact W.kia_one W.kitx_none I.kIn True.intro e (λz=>nomatch z) h
 | bl y=>cases (show u=Value.bool y from rx);exact W.kia_one W.kitx_bool I.kIn True.intro e (λz=>nomatch z) h
 | int i=>obtain⟨t,q⟩:=(show ∃t,u=Value.int i t from rx);cases q;exact W.kia_one W.kitx_int I.kIn True.intro e (λz=>nomatch z) h
 | str y=>obtain⟨t,q⟩:=(show ∃t,u=Value.str y t from rx);cases q;exact W.kia_one W.kitx_str I.kIn True.intro e (λz=>nomatch z) h
 | flt y=>obtain⟨t,q⟩:=(show ∃t,u=Value.float y t from rx);cases q;exact W.kia_one W.kitx_float I.kIn True.intro e (λz=>nomatch z) h
 | @lst a xs ea =>
  cases (show u=Value.ref a from rx);obtain⟨_,_,n,_,h1⟩:=(show cU X.prog X.w H s.heap a (.lst xs) from I.hok a _ ea);exact W.kia_one W.kitx_list I.kIn ⟨_,h1,rfl⟩ e (λz=>nomatch z) h
 | @frz a ob xs ea =>
  cases (show u=Value.ref a from rx);obtain⟨_,_,_,n,_,h1⟩:=(show cU X.prog X.w H s.heap a (.frz ob (.lst xs)) from I.hok a _ ea);exact W.kia_one W.kitx_list I.kIn ⟨_,h1,rfl⟩ e (λz=>nomatch z) h
 | @tup a xs ea =>
  cases (show u=Value.ref a from rx);obtain⟨_,_,_,p⟩:=(show cU X.prog X.w H s.heap a (.tup xs) from I.hok a _ ea);obtain⟨o,h1,h2,_⟩:=p;exact W.kia_one W.kitx_tuple I.kIn ⟨o,h1,h2⟩ e (λz=>nomatch z) h
 | @dK a kvs ea =>
  cases (show u=Value.ref a from rx);obtain⟨_,_,vs,_,p⟩:=(show cU X.prog X.w H s.heap a (.dK kvs) from I.hok a _ ea);obtain⟨o,es,ep,h1,h2,_⟩:=p;exact W.kia_one W.kitx_dict I.kIn ⟨o,h1,h2.1⟩ e (λz=>nomatch z) h
 | @dT a kvs ea =>
  cases (show u=Value.ref a from rx);obtain⟨_,_,xs,_,o,es,ep,h1,h2,_⟩:=(show cU X.prog X.w H s.heap a (.dT kvs) from I.hok a _ ea);exact W.kia_one W.kitx_dict I.kIn ⟨o,h1,h2.1⟩ e (λz=>nomatch z) h
 | @ins a C dx fs ea cl ha hn htk hm =>
  cases (show u=Value.ref a from rx);obtain⟨mA,O,_⟩:=sH I.hok ea;obtain⟨od,J,_⟩:=O.look;exact W.kia_one (W.kitx_own (cl.get _) cl.hd ha hn htk hm) I.kIn J e (λz=>nomatch z) h
end
structure Room(k:Nat)(A:Around):Prop where
 hd:A.handled=none
 dp:A.depth+3*k+5<recursionLimit
 un:A.units+16*k+200<cLine
 gd:A.guards=some []
theorem Room.mono{j k:Nat}{A:Around}(r:Room k A)(h:j<=k):Room j A:=⟨r.hd,by have:=r.dp;lia,by have:=r.un;lia,r.gd⟩
theorem Room.deeper{k:Nat}{A:Around}(r:Room (k+1) A)(env:Env):Room k (A.deeper env) :=
 ⟨r.hd,by have:=r.dp;show A.depth+1+3*k+5<_;lia,by have:=r.un;show A.units+3+16*k+200<_;lia,r.gd⟩
theorem E_{A:Around}{C:Addr}{us:xF}{kw:List (Str×Value)}:(A.under (.builtin "type.__call__" ⟨.ref C::us,kw⟩)).depth=A.depth+1:=by
 first|rfl|simp[Around.under,Code.weight,Code.isCreation,Code.isGuard,Code.isCaller,Code.frames,Code.isFrame,guardIds]
theorem Fb{A:Around}{C:Addr}{us:xF}{kw:List (Str×Value)}:(A.under (.builtin "type.__call__" ⟨.ref C::us,kw⟩)).units=A.units+1:=by
 first|rfl|simp[Around.under,Code.cUnits,Code.frames,Code.isFrame]
theorem Room.make{k:Nat}{A:Around}(r:Room (k+1) A)(C:Addr)(us:xF)(kw:List (Str×Value)):Room k (A.under (.builtin "type.__call__" ⟨.ref C::us,kw⟩)) :=
 ⟨r.hd,by have:=r.dp;rw[E_];lia,by have:=r.un;rw[Fb];lia,by first|exact r.gd|(simp[Around.under,Code.guards,Code.isGuard,guardIds,pushGuards];exact r.gd)⟩
theorem Room.depth{k:Nat}{A:Around}(r:Room k A):A.depth<recursionLimit:=by have:=r.dp;lia
def JT:TA:=λ_ H Q=>Q [] H
def Ht(ta:TE)(tr:TA):TA:=λσ H Q=>ta σ H λx H1=>tr σ H1 λxs H2=>Q (x::xs) H2
section
variable{X:Cx}{e:Expr}{es:List Expr}{te:TE}{t:TA}{pos:Pos}
theorem aq:PA X [] JT:=λ_ _ _ _ H Q I h=>Calls.spliced_nil ⟨[],H,I,.nil,h⟩
theorem aj(ha:PE X e te)(hr:PA X es t)(hs:starEach (e::es) X.env=(false,eval e X.env)::starEach es X.env:=by rfl):PA X (e::es) (Ht te t):=by
 intro pos pins s σ H Q I h;rw[hs];show wpAny _ _ (spliced ((false,eval e X.env)::backTo pos (starEach es X.env))) _ _ s;refine Calls.spliced_cons (thn (ha pins s σ H _ I h) λu s1 ⟨x,H1,I1,r1,q1⟩=>?_);exact thn (hr pos pins s1 σ H1 _ I1 q1) λus s2 ⟨xs,H2,I2,r2,q2⟩=>⟨x::xs,H2,I2,.cons r1 r2,q2⟩
end
abbrev Sp:=List V->Hp->VK->XK->Prop
abbrev CXT:=List Env->Hp->Shared->XK->Value->Shared->Prop
structure Fd(P:Program)(w:World)(K:W.Frag)(mg:xC)(base:Heap)(A:Around)(outer:List Env)(s:Shared)(H:Hp):Prop where
 frames:A.frames=some outer
 mod:Mod K mg base
 bs:∀b o,base.get? b=some o->s.heap.get? b=some o/\H b=none
 bsz:base.objs.size<=s.heap.objs.size
 m_:s.heap.FunFrames base outer
 frf:∀b∈frs outer,H b=none
 hok:HOk P w H s.heap
 bare:AllBare s.gens
def CE(outer:List Env)(P:Program)(w:World)(H:Hp)(s:Shared)(Q:VK)(u:Value)(s':Shared):Prop :=
 ∃v H',s'.os=s.os/\AllBare s'.gens/\Un (frs outer) [] H H' s.heap s'.heap/\HOk P w H' s'.heap/\RelV v u/\Q v H'
def CR(CX:CXT)(outer:List Env)(P:Program)(w:World)(H:Hp)(s:Shared)(Q:VK)(E:XK)(r:Result)(s':Shared):Prop :=
 match r with
 | .ok (.ret u)=>CE outer P w H s Q u s'
 | .ok _=>False
 | .error e=>CX outer H s E e s'
structure gq(P:Program)(w:World)(K:W.Frag)(mg:xC)(base:Heap)(CX:CXT)(k:Nat)(f:Addr)(fd:FuncData)(ps:List Str)(sp:Sp):Prop where
 len:∀vs H Q E,sp vs H Q E->vs.length=ps.length
 run:∀(A:Around)(outer:List Env)(s:Shared)(H:Hp)(args:Args)(us:xF)(vs:List V)(Q:VK)(E:XK),Room k A->Fd P w K mg base A outer s H->BindsTo s fd args (ps.zip us)->Vals vs us->sp vs H Q E ->
  codeAny (model P w) A (.call (.ref f) args) (CR CX outer P w H s Q E) s
theorem gq.mono{P:Program}{w:World}{K:W.Frag}{mg:xC}{base:Heap}{CX:CXT}{j k:Nat}{f:Addr}{fd:FuncData}{ps:List Str}{sp:Sp}(F:gq P w K mg base CX j f fd ps sp)(h:j<=k) :
  gq P w K mg base CX k f fd ps sp:=⟨F.len,λA outer s H args us vs Q E hr=>F.run A outer s H args us vs Q E (hr.mono h)⟩
theorem gq.imp{P:Program}{w:World}{K:W.Frag}{mg:xC}{base:Heap}{CX:CXT}{k:Nat}{f:Addr}{fd:FuncData}{ps:List Str}{sp sp':Sp}(F:gq P w K mg base CX k f fd ps sp)
  (h:∀vs H Q E,sp' vs H Q E->sp vs H Q E):gq P w K mg base CX k f fd ps sp' :=
 ⟨λvs H Q E q=>F.len vs H Q E (h _ _ _ _ q),λA outer s H args us vs Q E hr he hb hv hs=>F.run A outer s H args us vs Q E hr he hb hv (h _ _ _ _ hs)⟩
theorem Fd.make{P:Program}{w:World}{K:W.Frag}{mg:xC}{base:Heap}{A:Around}{outer:List Env}{s:Shared}{H:Hp}(e:Fd P w K mg base A outer s H)(C:Addr)(us:xF)(kw:List (Str×Value)) :
  Fd P w K mg base (A.under (.builtin "type.__call__" ⟨.ref C::us,kw⟩)) outer s H:=⟨by first|exact e.frames|(simpa[Around.under,Code.envs,Code.isFrame,pushEnvs] using e.frames),e.mod,e.bs,e.bsz,e.m_,e.frf,e.hok,e.bare⟩
section
variable{X:Cx}{pins:List (Addr×Obj)}{σ:St}{H:Hp}{s s':Shared}
theorem Inv.env0(I:Inv X pins σ H s):Fd X.prog X.w X.K X.mg X.base X.A X.stack s H :=
 ⟨I.ok.frames,I.ok.mod,I.bs,oB I.ok.bsz I.sz,I.stack,I.sG,I.hok,I.bare⟩
theorem Inv.after{Q:VK}{u:Value}(I:Inv X pins σ H s)(h:CE X.stack X.prog X.w H s Q u s'):EP X pins σ Q u s':=by
 obtain⟨v,H',os,bare,un,hok,r,q⟩:=h;obtain⟨hh,g,d,t,os'⟩:=s';obtain rfl:os'=s.os:=os;exact⟨v,H',I.call (h':=hh) (g':=g) (d':=d) (t':=t) (ch:=[]) un hok bare (λb z=>absurd z (by simp)),r,q⟩
end
def wU(sp:Sp)(dvs:List V)(E:XK)(t:TA):TE:=λσ H Q=>t σ H λvs H1=>sp (vs++dvs) H1 Q E
def wV(C:Addr)(m:Str)(sp:Sp)(dvs:List V)(E:XK)(ta:TE)(t:TA):TE:=λσ H Q=>ta σ H λx H1=>∃a dx fs,x=.ref a/\H1 a=some (.ins C dx fs)/\fs.lookup m=none /\
 t σ H1 λvs H2=>sp (x::(vs++dvs)) H2 Q E
def Binds(K:W.Frag)(fd:FuncData)(ps:List Str)(ds:xF):Prop :=
 ∀(s:Shared)(us:xF),K.In s.heap->(us++ds).length=ps.length->BindsTo s fd ⟨us,[]⟩ (ps.zip (us++ds))
theorem Binds.all{K:W.Frag}{fd:FuncData}{ps:List Str}(h:∀us:List Value,us.length=ps.length->bindArgs fd ⟨us,[]⟩=pure (ps.zip us)):Binds K fd ps []:=λs us _ hl=>by
 rw[mP] at hl ⊢;exact .of_eq (h us hl)
def Passes(CX:CXT)(X:Cx)(E:XK):Prop:=∀(pins:List (Addr×Obj)) (σ:St) (H:Hp) (s:Shared) (e:Value) (s':Shared),Inv X pins σ H s->CX X.stack H s E e s'->X.xe e s'
section
variable{X:Cx}{CX:CXT}{k:Nat}{f C:Addr}{fd:FuncData}{ps:List Str}{sp:Sp}{dvs:List V}{ds:xF}{E:XK}{x m:Str}{p pos apos:Pos}{e o:Expr}{es:List Expr}{ta:TE}{t:TA}
theorem zj{pins:List (Addr×Obj)}{σ:St}{H:Hp}{s:Shared}{Q:VK}{us:xF}{vs:List V}(F:gq X.prog X.w X.K X.mg X.base CX k f fd ps sp)(hr:Room k X.A)(hb:Binds X.K fd ps ds)(hd:Vals dvs ds)(hx:Passes CX X E)
  (I:Inv X pins σ H s) (r:Vals vs us) (h:sp (vs++dvs) H Q E):wpAny (model X.prog X.w) X.A (call (.ref f) us) (EP X pins σ Q) X.xe s:=by
 have r2:Vals (vs++dvs) (us++ds):=r.append hd;have hl:(us++ds).length=ps.length:=by rw[<- r2.length];exact F.len _ _ _ _ h
 refine wpAny_call (codeAny_mono (F.run X.A X.stack s H ⟨us,[]⟩ (us++ds) (vs++dvs) Q E hr I.env0 (hb s us I.kIn hl) r2 h) λr s' hq=>?_);cases r with
 | error e=>exact hx pins σ H s e s' I hq
 | ok fl =>
  cases fl with
  | ret u=>exact I.after hq
  | next=>exact False.elim hq
  | brk=>exact False.elim hq
  | cont=>exact False.elim hq
theorem Rj(F:gq X.prog X.w X.K X.mg X.base CX k f fd ps sp)(hr:Room k X.A)(hg:Gl X x)(hm:X.mg x=some (.ref f))(hk:W.keepIn X.K (.ref f)=true)(hb:Binds X.K fd ps ds)(hd:Vals dvs ds)(hx:Passes CX X E)
  (ha:PA X (e::es) t) (hdb:(x==("__debug__" : Str))=false:=by decide) (he:starEach (e::es) X.env=(false,eval e X.env)::starEach es X.env:=by rfl) (hpl:(backTo pos (starEach es X.env)).any (·.1)=false:=by rfl) :
  PE X (.Call (.Name x p) (e::es) [] pos) (wU sp dvs E t):=by
 intro pins s σ H Q I h;refine wpAny_Call_Name_kw (lZ I hg hm ?_ hdb);refine W.callWith_K (h₀:=X.base) I.ok.mod.kin hk (thn (ha pos pins s σ H _ I h) λus s1 ⟨vs,H1,I1,r,q⟩=>⟨I1.kIn,?_⟩) he hpl;exact zj F hr hb hd hx I1 r q
theorem Rk{pl:Sem Bool}(he:PE X o ta)(c:Cls X.K C)(hm:Meth X.K C m f)(F:gq X.prog X.w X.K X.mg X.base CX k f fd ps sp)(hr:Room k X.A)(hb:Binds X.K fd ps ds)(hd:Vals dvs ds)(hx:Passes CX X E)(ha:PA X (e::es) t)
  (hst:starEach (e::es) X.env=(false,eval e X.env)::starEach es X.env:=by rfl) (hpl:(backTo pos (starEach es X.env)).any (·.1)=false:=by rfl)
  (ht:eval (.Call (.Attribute o m apos) (e::es) [] pos) X.env=(do
   let ov <- eval o X.env
   standAt apos.atName
   let (f,first) <- holding [ov] (getMethod ov m pl)
   callWith pos f first (backTo pos (starEach (e::es) X.env)) (backToKw pos (keywordEach [] X.env))):=by rfl) :
  PE X (.Call (.Attribute o m apos) (e::es) [] pos) (wV C m sp dvs E ta t):=by
 intro pins s σ H Q I h;refine W.methodCall_KW (pl:=pl) (thn (he pins s σ H _ I h) λu s1 ⟨x,H1,I1,rx,a,dx,fs,ex,ea,l,q⟩=>?_) ht;subst ex;obtain rfl:u=Value.ref a:=rx;refine nM I1 ea c hm l ?_;refine W.callWith_K (first:=[.ref a]) (h₀:=X.base) I.ok.mod.kin hm.kp (thn (ha pos pins s1 σ H1 _ I1 q) λus s2 ⟨vs,H2,I2,r,q2⟩=>⟨I2.kIn,?_⟩) hst hpl;exact zj (us:=.ref a::us) (vs:=.ref a::vs) F hr hb hd hx I2 (.cons rfl r) q2
theorem Ln{pl:Sem Bool}(he:PE X o ta)(c:Cls X.K C)(hm:Meth X.K C m f)(F:gq X.prog X.w X.K X.mg X.base CX k f fd ps sp)(hr:Room k X.A)(hb:Binds X.K fd ps ds)(hd:Vals dvs ds)(hx:Passes CX X E)
  (ht:eval (.Call (.Attribute o m apos) [] [] pos) X.env=(do
   let ov <- eval o X.env
   standAt apos.atName
   let (f,first) <- holding [ov] (getMethod ov m pl)
   callWith pos f first (backTo pos (starEach [] X.env)) (backToKw pos (keywordEach [] X.env))):=by rfl) :
  PE X (.Call (.Attribute o m apos) [] [] pos) (wV C m sp dvs E ta JT):=by
 intro pins s σ H Q I h;refine W.methodCall_KW (pl:=pl) (thn (he pins s σ H _ I h) λu s1 ⟨x,H1,I1,rx,a,dx,fs,ex,ea,l,q⟩=>?_) ht;subst ex;obtain rfl:u=Value.ref a:=rx;refine nM I1 ea c hm l ?_;exact W.callWith_K0 (first:=[.ref a]) I1.kIn hm.kp (zj (us:=[.ref a]) (vs:=[.ref a]) F hr hb hd hx I1 (.cons rfl .nil) q)
structure Mk(K:W.Frag)(C f:Addr):Prop where
 makes:W.makesIn K C=true
 init:W.findIn K (.ref C) "__init__" = some (some (.ref f))
 fn:W.isFn K (.ref f)=true
 kp:W.keepIn K (.ref C)=true
theorem Lp{pins:List (Addr×Obj)}{σ:St}{H:Hp}{s:Shared}{Q:VK}{us:xF}{vs:List V}(M:Mk X.K C f)(F:gq X.prog X.w X.K X.mg X.base CX k f fd ps sp)(hr:Room (k+1) X.A)(hb:Binds X.K fd ps ds)(hd:Vals dvs ds)
  (hx:Passes CX X E) (I:Inv X pins σ H s) (r:Vals vs us)
  (h:∀x dx,H x=none->H dx=none->dx≠x->sp (.ref x::(vs++dvs)) (upd (upd H dx (.own x)) x (.ins C dx [])) (λv H2=>v=.non/\Q (.ref x) H2) E) :
  wpAny (model X.prog X.w) X.A (call (.ref C) us) (EP X pins σ Q) X.xe s:=by
 have hq:=h (s.heap.objs.size+1) s.heap.objs.size (I.hok.fresh (Nat.le_succ _)) (I.hok.fresh (uS _)) (qV (Nat.lt_succ_self _));have I2:=Inv.made (C:=C) I;have r2:Vals (V.ref (s.heap.objs.size+1)::(vs++dvs)) (Value.ref (s.heap.objs.size+1)::(us++ds)):=.cons rfl (r.append hd);have hl:(Value.ref (s.heap.objs.size+1)::us++ds).length=ps.length:=by
  have e:=r2.length;rw[F.len _ _ _ _ hq] at e;exact e.symm
 refine wpAny_call (Lj (f:=f) I.kIn M.makes M.init (beq_iff_eq.mp M.fn) (codeAny_mono (F.run _ X.stack _ _ ⟨Value.ref (s.heap.objs.size+1)::us,[]⟩ (Value.ref (s.heap.objs.size+1)::(us++ds)) _ _ E (hr.make C us [])
  (I2.env0.make C us []) (hb _ (Value.ref (s.heap.objs.size+1)::us) I2.kIn hl) r2 hq) λr s' hq'=>?_))
 cases r with
 | error e=>exact hx pins σ _ _ e s' I2 hq'
 | ok fl =>
  cases fl with
  | ret u =>
   obtain⟨v,H',I3,rv,ev,q3⟩:=I2.after hq';subst ev;exact⟨rv,⟨V.ref (s.heap.objs.size+1),H',I3,rfl,q3⟩⟩
  | next=>exact False.elim hq'
  | brk=>exact False.elim hq'
  | cont=>exact False.elim hq'
end
section
variable{fd:FuncData}{ps ks:List Str}
structure Va(K:W.Frag)(fd:FuncData)(ps ks:List Str)(g:List Value->List Value->List Value)(gV:List V->List V->List V):Prop where
 to:∀(s:Shared)(us ws:xF),K.In s.heap->(g us ws).length=ps.length->BindsTo s fd ⟨us,ks.zip ws⟩ (ps.zip (g us ws))
 rel:∀{vs:List V} {us:xF} {zs:List V} {ws:xF},Vals vs us->Vals zs ws->Vals (gV vs zs) (g us ws)
end
structure aK(N P:List Str)(sc:Scope):Prop where
 kind:sc.kind=.function
 co:sc.isCoroutine=false
 gen:sc.isGenerator=false
 nd:N.Nodup
 pre:N.take P.length=P
 par:∀x∈P,sc.names.lookup x=some .local\/sc.names.lookup x=some .cell
 Vb:∀y∈sc.names,y.2≠.free
theorem wW{kindOf:Str->Option NameKind}{x:Str}:∀{binds:List (Str×Value)} {m:xC},(∀v,(x,v) ∉ binds)->bindL kindOf binds m x=m x
 | [],_,_=>rfl
 | (n,v)::r,m,h=>by
  unfold bindL;rw[wW λw hw=>h w (zD _ hw)];split
  ·have:x≠n:=by rintro rfl;exact h v zC
   simp[this]
  ·rfl
theorem wX{kindOf:Str->Option NameKind}{x:Str}:∀{binds:List (Str×Value)} {m:xC},(∀v,(x,v) ∉ binds)->bindC kindOf binds m x=m x
 | [],_,_=>rfl
 | (n,v)::r,m,h=>by
  unfold bindC;rw[wX λw hw=>h w (zD _ hw)];split
  ·rfl
  ·have:x≠n:=by rintro rfl;exact h v zC
   simp[this]
theorem wY{kindOf:Str->Option NameKind}{x:Str}{v:Value}:∀{P:List Str} {vs:xF} {i:Nat} {m:xC},P.Nodup->P[i]?=some x->vs[i]?=some v->kindOf x=some .local ->
  bindL kindOf (P.zip vs) m x=some v
 | [],_,_,_,_,h,_,_=>by simp at h
 | _::_,[],_,_,_,_,h,_=>by simp at h
 | p::P,w::vs,0,m,nd,h1,h2,hk=>by
  simp at h1 h2;subst h1;subst h2;show bindL kindOf ((p,w)::P.zip vs) m p=_;unfold bindL;rw[wW λv hv=>(List.nodup_cons.mp nd).1 (List.of_mem_zip hv).1,yB hk];simp
 | p::P,w::vs,i+1,m,nd,h1,h2,hk=>by
  show bindL kindOf ((p,w)::P.zip vs) m x=_;unfold bindL;exact wY (i:=i) (List.nodup_cons.mp nd).2 (by simpa using h1) (by simpa using h2) hk
theorem wZ{kindOf:Str->Option NameKind}{x:Str}{v:Value}:∀{P:List Str} {vs:xF} {i:Nat} {m:xC},P.Nodup->P[i]?=some x->vs[i]?=some v->kindOf x≠some .local ->
  bindC kindOf (P.zip vs) m x=some v
 | [],_,_,_,_,h,_,_=>by simp at h
 | _::_,[],_,_,_,_,h,_=>by simp at h
 | p::P,w::vs,0,m,nd,h1,h2,hk=>by
  simp at h1 h2;subst h1;subst h2;show bindC kindOf ((p,w)::P.zip vs) m p=_;unfold bindC;rw[wX λv hv=>(List.nodup_cons.mp nd).1 (List.of_mem_zip hv).1,yT hk];simp
 | p::P,w::vs,i+1,m,nd,h1,h2,hk=>by
  show bindC kindOf ((p,w)::P.zip vs) m x=_;unfold bindC;exact wZ (i:=i) (List.nodup_cons.mp nd).2 (by simpa using h1) (by simpa using h2) hk
def start(N:List Str)(vs:List V):St:=vs.map some++List.replicate (N.length-vs.length) none
def j8(CX:CXT)(P:Program)(w:World)(K:W.Frag)(mg:xC)(base:Heap)(N:List Str)(qual:Str)(scope:Scope)(f:Addr)(cd:Value)(A:Around)(outer:List Env)(s:Shared)(H:Hp)(E:XK):Cx where
 prog:=P
 w:=w
 K:=K
 mg:=mg
 base:=base
 A:=A.deeper (envOfC qual scope s.heap.objs.size f cd)
 N:=N
 s₀:=s
 H₀:=H
 env:=envOfC qual scope s.heap.objs.size f cd
 outer:=outer
 stack:=envOfC qual scope s.heap.objs.size f cd::outer
 ex:=[]
 calm:=true
 fn:=λ_=>true
 pn:=[]
 xe:=λe s'=>wpAny (model P w) (A.deeper (envOfC qual scope s.heap.objs.size f cd)) (leaving (envOfC qual scope s.heap.objs.size f cd) e) (λ_ s''=>CX outer H s E e s'') (λe' s''=>CX outer H s E e' s'') s'
theorem Bv{sc:Scope}{n:Nat}{x:Str}(h:sc.names.lookup x=some .cell):∃c,(cellsFrom n sc.names []).lookup x=some c:=by
 have q:=W.cellsFrom_some sc.names n [] (.inl h);exact Option.isSome_iff_exists.mp q
theorem JV{CX:CXT}{P:Program}{w:World}{K:W.Frag}{mg:xC}{base:Heap}{N ps:List Str}{qual:Str}{scope:Scope}{f:Addr}{cd:Value}{A:Around}{outer:List Env}{s s1:Shared}{H:Hp}{E:XK}{us:xF}{vs:List V}
  (S:aK N ps scope) (hd:A.handled=none) (e0:Fd P w K mg base A outer s H) (hl:vs.length=ps.length) (r:Vals vs us)
  (x:InCallC s s.heap.objs.size (bindL (envOfC qual scope s.heap.objs.size f cd).kindOf (ps.zip us) λ_=>none) (cellsFrom (s.heap.objs.size+1) scope.names []) (bindC (envOfC qual scope s.heap.objs.size f cd).kindOf (ps.zip us) λ_=>none) s1) :
  Inv (j8 CX P w K mg base N qual scope f cd A outer s H E) [] (start N vs) H s1:=by
 have hpl:ps.length<=N.length:=by have:=gL List.length S.pre;rw[nE] at this;lia
 obtain⟨h1,tk,rfl,hk⟩:=x.done;have noA:∀b:Addr,b ∉ (j8 CX P w K mg base N qual scope f cd A outer s H E).ex:=λb z=>absurd (show b∈([]:List Addr) from z) (by simp)
 refine⟨⟨e0.mod,S.kind,rfl,rfl,uS _,λy z c h1 h2=>?_,λy hy=>?_,λy c _ h=>?_,λ_=>hd,Around.frames_deeper e0.frames,.inr ⟨rfl,rfl⟩,λb z=>gN z (noA b),e0.bs,e0.bsz,λb _ _=>noA b,λb z=>gN z (noA b),e0.m_,e0.frf⟩,
  rfl,e0.bare,Un.kept hk,⟨_,x.toInCall.ns,λi y v h1 h2 h3=>?_⟩,λy c h=>⟨_,x.cell y c h⟩,e0.hok.fresh (Nat.le_refl _),λy c h=>?_,λp hp=>absurd (show p∈([]:List (Addr×Obj)) from hp) (by simp),e0.hok.kept hk,?_⟩
 ·exact name_of_addr x.apart (PySem.mem_of_lookup h1) (PySem.mem_of_lookup h2)
 ·have hy:scope.names.lookup y=some .cell\/scope.names.lookup y=some .free:=hy;rcases hy with hy|hy
  ·exact Bv hy
  ·exact gN rfl (S.Vb _ (PySem.mem_of_lookup hy))
 ·exact zzE (x.above y c (PySem.mem_of_lookup h))
 ·have hi:i<vs.length:=by
   unfold start at h2;by_cases hi:i<vs.length
   ·exact hi
   ·rw[List.getElem?_append_right (by simpa using hi)] at h2;rw[List.getElem?_replicate] at h2;split at h2 <;> cases h2
  have ha:vs[i]?=some v:=by
   unfold start at h2;rw[List.getElem?_append_left (by simpa using hi),List.getElem?_map] at h2;cases e:vs[i]? with
   | none=>rw[e] at h2;cases h2
   | some a=>rw[e] at h2;cases h2;rfl
  obtain⟨u,hu,rv⟩:=r.get ha;have hp:ps[i]?=some y:=by
   rw[<- S.pre,List.getElem?_take_of_lt (by lia)];exact h1
  have ndP:ps.Nodup:=by rw[<- S.pre];exact S.nd.sublist (List.take_sublist _ _)
  refine⟨u,rv,?_⟩;rcases S.par y (wE hp) with k|k
  ·exact .inl ⟨k,wY ndP hp hu k⟩
  ·obtain⟨c,e⟩:=Bv (n:=s.heap.objs.size+1) k;refine .inr ⟨.inl k,c,e,?_⟩;have q:=x.cell y c e;rw[wZ ndP hp hu (by show scope.names.lookup y≠_;rw[k];decide)] at q;exact q
 ·exact e0.hok.fresh (zzE (x.above y c (PySem.mem_of_lookup h)))
 ·unfold start;show _=N.length;rw[yY,wS,zzB]
  lia
theorem t_{CX:CXT}{P:Program}{w:World}{K:W.Frag}{mg:xC}{base:Heap}{k:Nat}{f:Addr}{name qual:Str}{params:Arguments}{body:List Stmt}{scope:Scope}{dV kV doc pm cdv ct oc:Value}{an od:xN}
  {osl:Array (Option Value)} {N ps:List Str} {sp:Sp} (lk:K.lookup f=some ⟨oc,od,.func (W.fnOf name qual params body scope dV kV doc pm an cdv ct),osl⟩) (hcd:W.codeIn K cdv qual=true) (S:aK N ps scope)
  (len:∀vs H Q E,sp vs H Q E->vs.length=ps.length)
  (hbody:∀(A:Around)(outer:List Env)(s:Shared)(H:Hp)(vs:List V)(Q:VK)(E:XK),Room k (A.deeper (envOfC qual scope s.heap.objs.size f cdv))->sp vs H Q E ->
   ∃t,PSs (j8 CX P w K mg base N qual scope f cdv A outer s H E) body t/\t { nx:=λ_ H'=>Q .non H',rt:=Q } (start N vs) H) :
  gq P w K mg base CX (k+1) f (W.fnOf name qual params body scope dV kV doc pm an cdv ct) ps sp:=by
 refine⟨len,λA outer s H args us vs Q E hr e0 hb r hsp=>?_⟩;have hl:=len _ _ _ _ hsp;have KX:K.In s.heap:=e0.mod.kin.keeps λb o e=>(e0.bs b o e).1
 have lim:s.heap.NoLimit:=e0.mod.nolimit.keeps λb o e=>(e0.bs b o e).1
 have hkind:∀y∈ps.zip us,scope.names.lookup y.1=some .local\/(scope.names.lookup y.1=some .cell/\((cellsFrom (s.heap.objs.size+1) scope.names []).lookup y.1).isSome=true):=λ⟨n,v⟩ hy=>by
  rcases S.par n (List.of_mem_zip hy).1 with q|q
  ·exact .inl q
  ·exact .inr ⟨q,W.cellsFrom_some _ _ _ (.inl q)⟩
 refine codeAny_call_function hr.depth (KX _ _ lk) rfl S.co S.gen rfl (W.codeRec_of KX hcd) (hb _ _ _ _ ?_);refine wpAny_newFunctionEnv_cells S.kind hkind λenv he s1 x=>?_
 subst he;refine⟨lim.keeps x.toInCall.keep,codeAny_func ?_⟩;obtain⟨t,ht,hq⟩:=hbody A outer s H vs Q E (hr.deeper _) hsp;have I:Inv (j8 CX P w K mg base N qual scope f cdv A outer s H E) [] (start N vs) H s1:=JV S hr.hd e0 hl r x;refine mM (ht [] s1 (start N vs) H _ I hq) (λfl s' hs=>?_) λe s' hs=>hs
 have fin:∀{σ':St} {H':Hp} {v:V} {u:Value},Inv (j8 CX P w K mg base N qual scope f cdv A outer s H E) [] σ' H' s'->RelV v u->Q v H'->CE outer P w H s Q u s' :=
  λ{σ' H' v u} J rv q=>⟨v,H',J.os,J.bare,J.base,J.hok,rv,q⟩
 cases fl with
 | ret u =>
  obtain⟨v,σ',H',J,rv,q⟩:=hs;exact fin J rv q
 | next =>
  obtain⟨σ',H',J,q⟩:=hs;exact fin (v:=V.non) (u:=Value.none) J rfl q
 | brk =>
  obtain⟨_,_,_,q⟩:=hs;exact False.elim q
 | cont =>
  obtain⟨_,_,_,q⟩:=hs;exact False.elim q
section
variable{X:Cx}{x:Str}{p pos:Pos}{e:Expr}{es:List Expr}{t:TA}{id:String}{r:List V->Hp->VK->Prop}
def tCB(r:List V->Hp->VK->Prop)(t:TA):TE:=λσ H Q=>t σ H λvs H1=>r vs H1 Q
theorem bM(hc:iy X (.builtin id) r)(hg:Gl X x)(hm:X.mg x=none)(hv:bootBuiltins x=some (.builtin id))(ha:PA X (e::es) t)(hn:x ≠ "__name__":=by decide)(hdb:(x==("__debug__" : Str))=false:=by decide)
  (he:starEach (e::es) X.env=(false,eval e X.env)::starEach es X.env:=by rfl) (hpl:(backTo pos (starEach es X.env)).any (·.1)=false:=by rfl):PE X (.Call (.Name x p) (e::es) [] pos) (tCB r t):=by
 intro pins s σ H Q I h;refine wpAny_Call_Name_kw (qt I hg hm hv ?_ hn hdb);exact PyProof.Rows.callWith_builtin1 (thn (ha pos pins s σ H _ I h) λus s1 ⟨vs,H1,I1,r1,q1⟩=>hc pins s1 σ H1 vs us Q I1 r1 q1) he hpl
end
end L2
namespace HT
open PySem PyProof.Rows
section
open PySem.SeqAt
open PySem.AutoSeq1 (wpAny_loadPart')
open PySem.MeetsSeq PySem.MeetsSeq2 PySem.MeetsSeq3
end
section
def sIx(n d:Nat):Option Int->Nat
 | none=>d
 | some v=>if v<0 then (v+(n:Int)).toNat else min v.toNat n
theorem Hu(n d k:Nat):sIx n d (some (k:Int))=min k n:=by
 show (if (k:Int)<0 then ((k:Int)+(n:Int)).toNat else min (k:Int).toNat n)=min k n;rw[yT (by lia),Int.toNat_natCast]
end
end HT
namespace L2
open PySem PySem.Spec PyProof.Rows
abbrev TO:=St->Hp->(Option Int->Hp->Prop)->Prop
def PO(X:Cx)(e:Option Expr)(t:TO):Prop :=
 ∀(pins:List (Addr×Obj)) (s:Shared) (σ:St) (H:Hp) (Q:Option Int->Hp->Prop),Inv X pins σ H s->t σ H Q ->
  wpAny (model X.prog X.w) X.A (evalPart e X.env) (λu s'=>∃o H',Inv X pins σ H' s'/\IsPart u o/\Q o H') X.xe s
def zq:TO:=λ_ H Q=>Q none H
def Lq(t:TE):TO:=λσ H Q=>t σ H λx H1=>∃i,x=.int i/\Q (some i) H1
section
variable{X:Cx}{e:Expr}{te:TE}{lo hi:Option Expr}{tl th:TO}{pos p2:Pos}
theorem Hv:PO X none zq:=by
 intro pins s σ H Q I h;rw[evalPart_none];exact rX ⟨none,H,I,.none,h⟩
theorem sI(h:PE X e te):PO X (some e) (Lq te):=by
 intro pins s σ H Q I hw;rw[evalPart_some];refine thn (h pins s σ H _ I hw) λu s1 ⟨x,H1,I1,r1,q1⟩=>?_
 obtain⟨i,rfl,q⟩:=q1;obtain⟨t,rfl⟩:=r1;exact⟨some i,H1,I1,.int i t,q⟩
def SlR(X:Cx)(r:V->Option Int->Option Int->Hp->VK->Prop):Prop :=
 ∀(pins:List (Addr×Obj)) (s:Shared) (σ:St) (H:Hp) (x:V) (v vl vu:Value) (lo hi:Option Int) (sl:Addr) (Q:VK),Inv X pins σ H s->RelV x v->s.heap.IsSliceOf sl vl vu .none->IsPart vl lo->IsPart vu hi->r x lo hi H Q ->
  ∃T id,typeLookup (.type T) "__getitem__" = pure (some (.builtin id))/\s.TypeIs v T/\wpAny (model X.prog X.w) X.A (getItem v (.ref sl)) (EP X pins σ Q) X.xe s
theorem SlR.or{r r':V->Option Int->Option Int->Hp->VK->Prop}(h:SlR X r)(h':SlR X r'):SlR X (λx lo hi H Q=>r x lo hi H Q\/r' x lo hi H Q):=by
 intro pins s σ H x v vl vu lo hi sl Q I rx hs pl pu q;rcases q with q|q
 ·exact h pins s σ H x v vl vu lo hi sl Q I rx hs pl pu q
 ·exact h' pins s σ H x v vl vu lo hi sl Q I rx hs pl pu q
def tSl(r:V->Option Int->Option Int->Hp->VK->Prop)(te:TE)(tl th:TO):TE:=λσ H Q=>te σ H λx H1=>tl σ H1 λl H2=>th σ H2 λu H3=>r x l u H3 Q
theorem uc{r:V->Option Int->Option Int->Hp->VK->Prop}(hr:SlR X r)(he:PE X e te)(hl:PO X lo tl)(hu:PO X hi th):PE X (.Subscript e (.Slice lo hi none p2) pos) (tSl r te tl th):=by
 intro pins s σ H Q I h;refine Subscript_ (thn (he pins s σ H _ I h) λv s1 ⟨x,H1,I1,r1,q1⟩=>?_);refine wpAny_Slice (thn (hl pins s1 σ H1 _ I1 q1) λvl s2 ⟨l,H2,I2,pl,q2⟩=>thn (hu pins s2 σ H2 _ I2 q2) λvu s3 ⟨u,H3,I3,pu,q3⟩=>?_);rw[evalPart_none];refine rX ?_;have I4:Inv X pins σ H3 { s3 with heap:=s3.heap.push { cls:=.type "slice", data:=.fields #[vl,vu,.none] } }:=I3.kept (t':=s3.toks) λb ob q=>uC _ q
 obtain⟨T,id,hT,ht,hg⟩:=hr pins { s3 with heap:=s3.heap.push { cls:=.type "slice", data:=.fields #[vl,vu,.none] } } σ H3 x v vl vu l u s3.heap.objs.size Q I4 r1 (Heap.IsSliceOf.new ..) pl pu q3
 show wpAny (model X.prog X.w) X.A (subscriptTail e (.Slice lo hi none p2) v (.ref s3.heap.objs.size)) (EP X pins σ Q) X.xe { s3 with heap:=s3.heap.push { cls:=.type "slice", data:=.fields #[vl,vu,.none] } }
 exact tail_any (ops:=[.ref s3.heap.objs.size,v]) ht hT hg (by with_unfolding_all rfl)
def kI(xs:List V)(lo hi:Option Int):List V:=(xs.drop (HT.sIx xs.length 0 lo)).take (HT.sIx xs.length xs.length hi-HT.sIx xs.length 0 lo)
theorem Bw(xs:List V)(lo hi:Option Int):(kI xs lo hi).length<=xs.length:=by
 unfold kI;rw[nE,zzH]
 lia
end
def ixN(n:Nat)(i:Int):Option Nat:=if 0<=i then (if i<n then some i.toNat else none) else if -(n:Int)<=i then some (i+n).toNat else none
def atI{α:Type}(xs:List α)(i:Int):Option α:=(ixN xs.length i).bind λj=>xs[j]?
theorem Hw{n:Nat}{i:Int}{j:Nat}(h:ixN n i=some j):seqIndex? i n=some j/\j<n/\-(n:Int)<=i/\i<n:=by
 unfold ixN at h;by_cases h0:0<=i
 ·rw[yB h0] at h;by_cases h1:i<n
  ·rw[yB h1] at h;have e:i.toNat=j:=nS h;exact⟨by rw[seqIndex_of h0 h1,e],by lia,by lia,h1⟩
  ·rw[yT h1] at h;cases h
 ·rw[yT h0] at h;by_cases h1:-(n:Int)<=i
  ·rw[yB h1] at h;have e:(i+n).toNat=j:=nS h;exact⟨by rw[seqIndex_neg (by lia) h1,e],by lia,h1,by lia⟩
  ·rw[yT h1] at h;cases h
theorem Hx{α:Type}{xs:List α}{i:Int}{v:α}(h:atI xs i=some v):∃j,seqIndex? i xs.length=some j/\xs[j]?=some v/\j<xs.length/\-(xs.length:Int)<=i/\i<xs.length:=by
 unfold atI at h;cases e:ixN xs.length i with
 | none=>rw[e] at h;cases h
 | some j =>
  rw[e] at h;obtain⟨h1,h2,h3,h4⟩:=Hw e;exact⟨j,h1,h,h2,h3,h4⟩
theorem oh{α:Type}{xs:List α}{j:Nat}{v:α}(h:xs[j]?=some v):atI xs (j:Int)=some v:=by
 have hj:j<xs.length:=(qB.mp h).1;have e:ixN xs.length (j:Int)=some j:=by
  unfold ixN;rw[if_pos (by lia),if_pos (by lia)];simp
 unfold atI;rw[e];exact h
def Rm(b:Expr):Prop:=∀o i,subscripted b false o i=operate [o,i] (getItem o i)
def IxR(X:Cx)(r:R2):Prop :=
 ∀(value slice:Expr) (pins:List (Addr×Obj)) (s:Shared) (σ:St) (H:Hp) (x y:V) (v u:Value) (Q:VK),Inv X pins σ H s->RelV x v->RelV y u->r x y H Q ->
  subscripted slice false v u=operate [v,u] (getItem v u)->wpAny (model X.prog X.w) X.A (subscriptTail value slice v u) (EP X pins σ Q) X.xe s
def MtR(X:Cx)(id:String)(r:V->List V->Hp->VK->Prop):Prop :=
 ∀(pins:List (Addr×Obj)) (s:Shared) (σ:St) (H:Hp) (x:V) (xs:List V) (v:Value) (us:xF) (Q:VK),Inv X pins σ H s->RelV x v->Vals xs us->r x xs H Q ->
  wpAny (model X.prog X.w) X.A (call (.builtin id) (v::us)) (EP X pins σ Q) X.xe s
section
variable{X:Cx}{a b:Expr}{ta tb:TE}{pos:Pos}
theorem IxR.or{r r':R2}(h:IxR X r)(h':IxR X r'):IxR X (λx y H Q=>r x y H Q\/r' x y H Q):=by
 intro value slice pins s σ H x y v u Q I rx ry q hs;rcases q with q|q
 ·exact h value slice pins s σ H x y v u Q I rx ry q hs
 ·exact h' value slice pins s σ H x y v u Q I rx ry q hs
theorem MtR.or{id:String}{r r':V->List V->Hp->VK->Prop}(h:MtR X id r)(h':MtR X id r'):MtR X id (λx xs H Q=>r x xs H Q\/r' x xs H Q):=by
 intro pins s σ H x xs v us Q I rx rs q;rcases q with q|q
 ·exact h pins s σ H x xs v us Q I rx rs q
 ·exact h' pins s σ H x xs v us Q I rx rs q
theorem bI{r:R2}(hr:IxR X r)(ha:PE X a ta)(hb:PE X b tb)(hs:Rm b):PE X (.Subscript a b pos) (tOp r ta tb):=by
 intro pins s σ H Q I h;exact Subscript_ (U4 ha hb I h λv u s2 x y H2 I2 rx ry q=>hr a b pins s2 σ H2 x y v u Q I2 rx ry q (hs _ _))
def Rn(K:W.Frag):R2:=λx y H Q=>∃p xs i v,x=.ref p/\y=.int i/\SqL K H p xs/\atI xs i=some v/\Q v H
def Ro(K:W.Frag):R2:=λx y H Q=>∃p xs i v,x=.ref p/\y=.int i/\SqT K H p xs/\atI xs i=some v/\Q v H
theorem dD:IxR X (Rn X.K):=by
 intro value slice pins s σ H x y v u Q I rx ry h hs;obtain⟨p,xs,i,z,rfl,rfl,hq,he,q⟩:=h;cases rx;obtain⟨t,rfl⟩:=ry;obtain⟨its,r,pl,hz⟩:=I.list hq;obtain⟨j,h1,h2,h3,h4,h5⟩:=Hx he;obtain⟨w,ew,rw'⟩:=r.get h2;have hl:=r.length;have hn:=zf;have fin:EP X pins σ Q w s:=⟨z,H,I,rw',q⟩;by_cases h0:0<=i
 ·have hj:i.toNat=j:=by
   rw[seqIndex_of h0 h5] at h1;exact nS h1
  exact item_listR pl.isList h0 (by lia) (by rw[hj];simpa using ew) fin hs
 ·have hj:(i+(its.toArray.size:Int)).toNat=j:=by
   rw[seqIndex_neg (by lia) h4] at h1;rw[nX,<- hl];exact nS h1
  exact subscriptTail_builtinR (x:=w) pl.isList.typeIs slot_list_getitem.lookup
   (wpAny_getItem_list_neg (Q:=λr s'=>r=w/\EP X pins σ Q r s') pl.isList (by lia) (by rw[List.size_toArray] <;> lia) (by lia) (by rw[hj];simpa using ew) ⟨rfl,fin⟩) hs
theorem bV:IxR X (Ro X.K):=by
 intro value slice pins s σ H x y v u Q I rx ry h hs;obtain⟨p,xs,i,z,rfl,rfl,hq,he,q⟩:=h;cases rx;obtain⟨t,rfl⟩:=ry;obtain⟨its,r,pl,hz⟩:=I.tuple hq;obtain⟨j,h1,h2,h3,h4,h5⟩:=Hx he;obtain⟨w,ew,rw'⟩:=r.get h2;have hl:=r.length;have hn:=zf;have fin:EP X pins σ Q w s:=⟨z,H,I,rw',q⟩;exact subscriptTail_builtinR (x:=w) pl.typeIs slot_tuple_getitem.lookup
  (getItem_tuple (j:=j) (Q:=λr s'=>r=w/\EP X pins σ Q r s') pl (by lia) (by lia) (by rw[List.size_toArray,<- hl];exact h1) (by simpa using ew) ⟨rfl,fin⟩) hs
theorem Fe(its:xF)(n j:Nat)(u:Value):Obj.mapSeq (·.setIfInBounds j u) { cls:=.type "list", data:=.seq its.toArray n }={ cls:=.type "list", data:=.seq (its.set j u).toArray n }:=by
 simp[Obj.mapSeq]
theorem Inv.lst{pins:List (Addr×Obj)}{σ:St}{H:Hp}{s:Shared}{p:Addr}{xs:List V}(I:Inv X pins σ H s)(h:H p=some (.lst xs)) :
  ∃(its:xF)(n:Nat),Vals xs its/\s.heap.get? p=some { cls:=.type "list", data:=.seq its.toArray n }/\xs.length<=sizeLine:=by
 obtain⟨z,its,n,r,e⟩:=I.hok p _ h;exact⟨its,n,r,e,z⟩
theorem Inv.Vc{pins:List (Addr×Obj)}{σ:St}{H:Hp}{s:Shared}{p:Addr}{xs ys:List V}{its its':xF}{n n':Nat}{f:Obj->Obj}(I:Inv X pins σ H s)(h:H p=some (.lst xs))
  (ho:s.heap.get? p=some { cls:=.type "list", data:=.seq its.toArray n }) (hf:f { cls:=.type "list", data:=.seq its.toArray n }={ cls:=.type "list", data:=.seq its'.toArray n' }) (r:Vals ys its') (hz:ys.length<=sizeLine) (t:Nat) :
  Inv X pins σ (upd H p (.lst ys)) { s with heap:=s.heap.update p f,toks:=t }:=by
 have e:(s.heap.update p f).get? p=some { cls:=.type "list", data:=.seq its'.toArray n' }:=by
  rw[Heap.get?_update_self f ho (by rw[hf] <;> rfl),hf]
 refine I.write (x:=p) (e:=p) (by rw[h];trivial) (.inl rfl) (λb u hb q=>(mB _ _ (Ne.symm hb)).trans q) ⟨_,e⟩ ?_;exact⟨hz,its',n',r,e⟩
def X_:V->V->V->Hp->(Hp->Prop)->Prop:=λo i v H Q=>∃p xs k j,o=.ref p/\i=.int k/\H p=some (.lst xs)/\ixN xs.length k=some j/\Q (upd H p (.lst (xs.set j v)))
theorem set_list:U0 X X_:=by
 intro pins s σ H o i v ov iv u Q I ro ri rv h;obtain⟨p,xs,k,j,rfl,rfl,hp,hj,q⟩:=h;cases ro;obtain⟨t,rfl⟩:=ri;obtain⟨its,n,r,ho,hz⟩:=I.lst hp;obtain⟨h1,h2,h3,h4⟩:=Hw hj;have hl:=r.length;have hn:=zf;have I':Inv X pins σ (upd H p (.lst (xs.set j v))) { s with heap:=s.heap.update p (Obj.mapSeq (·.setIfInBounds j u)) } :=
  I.Vc hp ho (Fe its n j u) (r.set rv j) (by rw[List.length_set];exact hz) s.toks
 by_cases h0:0<=k
 ·have hk:k.toNat=j:=by
   rw[seqIndex_of h0 h4] at h1;exact nS h1
  exact W.ki_setAt ho h0 (by lia) (by rw[nX,<- hl];exact h4) (by rw[hk];exact⟨_,I',q⟩)
 ·have hk:(k+(its.toArray.size:Int)).toNat=j:=by
   rw[seqIndex_neg (by lia) h3] at h1;rw[nX,<- hl];exact nS h1
  exact W.ki_setBack ho (by lia) (by rw[nX,<- hl];exact h3) (by lia) (by rw[hk];exact⟨_,I',q⟩)
theorem zu(lo hi:Option Int)(n:Nat):(sliceBounds lo hi none n).1=((HT.sIx n 0 lo:Nat):Int)/\(sliceBounds lo hi none n).2.1=((HT.sIx n n hi:Nat):Int)/\(sliceBounds lo hi none n).2.2=1:=by
 refine⟨?_,?_,rfl⟩
 ·cases lo with
  | none=>simp[sliceBounds,HT.sIx]
  | some i =>
   simp only[sliceBounds,HT.sIx,Option.getD_none,show (1:Int) > 0 by decide,if_true];by_cases h:i<0
   ·simp only[h,if_true] <;> lia
   ·simp only[h,if_false] <;> lia
 ·cases hi with
  | none=>simp[sliceBounds,HT.sIx]
  | some i =>
   simp only[sliceBounds,HT.sIx,Option.getD_none,show (1:Int) > 0 by decide,if_true];by_cases h:i<0
   ·simp only[h,if_true] <;> lia
   ·simp only[h,if_false] <;> lia
theorem wG(its:xF)(lo hi:Option Int):slicePick its.toArray lo hi none=((its.drop (HT.sIx its.length 0 lo)).take (HT.sIx its.length its.length hi-HT.sIx its.length 0 lo)).toArray:=by
 obtain⟨h1,h2,h3⟩:=zu lo hi its.toArray.size;unfold slicePick;rw[h1,h2,h3];simp only[sliceRange_one,pick_run,List.size_toArray] <;> rfl
def abd(K:W.Frag):V->Option Int->Option Int->Hp->VK->Prop:=λx lo hi H Q=>∃a xs,x=.ref a/\SqL K H a xs/\∀p,H p=none->Q (.ref p) (upd H p (.lst (kI xs lo hi)))
theorem Rp:SlR X (abd X.K):=by
 intro pins s σ H x v vl vu lo hi sl Q I rx hs pl pu h;obtain⟨a,xs,rfl,hx,q⟩:=h;cases rx;obtain⟨its,r,ht,hz⟩:=I.list hx;have hlen:=r.length;refine⟨"list", _,slot_list_getitem.lookup,ht.isList.typeIs,?_⟩;refine wpAny_getItem_list_slice ht.isList hs pl pu .none (by simp) ?_ (by rw[List.size_toArray] <;> lia);rw[wG,<- hlen];refine⟨.ref s.heap.objs.size,_,I.laid (t':=s.toks) (o:=.lst (kI xs lo hi)) (λb ob q=>uC _ q) (uS _) ?_,rfl,q _ (I.hok.fresh (uS _))⟩;exact⟨oB (Bw xs lo hi) hz,_,0,(r.drop (HT.sIx xs.length 0 lo)).take (HT.sIx xs.length xs.length hi-HT.sIx xs.length 0 lo),oQ _ rfl⟩
theorem iy.or{f:Value}{r r':List V->Hp->VK->Prop}(h:iy X f r)(h':iy X f r'):iy X f (λxs H Q=>r xs H Q\/r' xs H Q):=by
 intro pins s σ H xs us Q I rs q;rcases q with q|q
 ·exact h pins s σ H xs us Q I rs q
 ·exact h' pins s σ H xs us Q I rs q
def tyV(K:W.Frag)(T:String)(x:V)(H:Hp):Prop:=match x with
 | .str _=>T = "str"
 | .int _=>T = "int"
 | .ref p=>(T = "list" /\ ∃xs,SqL K H p xs)\/(T = "tuple" /\ ∃o,K.lookup p=some o/\o.cls=.type "tuple" /\ o.dict=none) \/
   (T = "dict" /\ ((∃kvs,H p=some (.dK kvs))\/∃kvs,H p=some (.dT kvs)))\/(T = "set" /\ ∃S n,H p=some (.set S n))
 | _=>False
theorem Lr{pins:List (Addr×Obj)}{σ:St}{H:Hp}{s:Shared}{T:String}{x:V}{v:Value}(I:Inv X pins σ H s)(r:RelV x v)(ty:tyV X.K T x H) :
  s.TypeIs v T/\∀a,v=.ref a->∃ob,s.heap.get? a=some ob/\ob.dict=none:=by
 cases x with
 | str z =>
  obtain⟨t,rfl⟩:=r;cases (show T = "str" from ty);exact⟨typeIs_str s z t,λ_ e=>nomatch e⟩
 | int i =>
  obtain⟨t,rfl⟩:=r;cases (show T = "int" from ty);exact⟨typeIs_int s i t,λ_ e=>nomatch e⟩
 | ref p =>
  cases r;rcases ty with⟨rfl,xs,hq⟩|⟨rfl,o,hk,hc,hd⟩|⟨rfl,hk⟩|⟨rfl,S,n,hk⟩
  ·obtain⟨its,_,pl,_⟩:=I.list hq;refine⟨pl.isList.typeIs,λa e=>?_⟩;cases e;obtain⟨o,n,e,c,hd,_⟩:=pl;exact⟨o,e,hd⟩
  ·refine⟨⟨o,I.kIn p o hk,hc⟩,λa e=>?_⟩;cases e;exact⟨o,I.kIn _ o hk,hd⟩
  ·have z:∃o,s.heap.get? p=some o/\o.ExactDict:=by
    rcases hk with⟨kvs,hk⟩|⟨kvs,hk⟩
    ·obtain⟨_,_,_,_,o,_,_,e,ex,_⟩:=I.hok p _ hk;exact⟨o,e,ex⟩
    ·obtain⟨_,_,_,_,o,_,_,e,ex,_⟩:=I.hok p _ hk;exact⟨o,e,ex⟩
   obtain⟨o,e,ex⟩:=z;refine⟨⟨o,e,ex.1⟩,λa e2=>?_⟩;cases e2;exact⟨o,e,ex.2.1⟩
  ·obtain⟨o,_,_,_,e,ex,_⟩:=I.hok p _ hk;refine⟨⟨o,e,ex.1⟩,λa e2=>?_⟩;cases e2;exact⟨o,e,ex.2.1⟩
 | _=>exact False.elim ty
def Ls(K:W.Frag)(T:String)(r:V->List V->Hp->VK->Prop)(to:TE):TE:=λσ H Q=>to σ H λx H1=>tyV K T x H1/\r x [] H1 Q
def tBM(K:W.Frag)(T:String)(r:V->List V->Hp->VK->Prop)(to:TE)(t:TA):TE:=λσ H Q=>to σ H λx H1=>tyV K T x H1/\t σ H1 λxs H2=>r x xs H2 Q
variable{o e:Expr}{es:List Expr}{to:TE}{t:TA}{name:Str}{apos cpos:Pos}{T id:String}{r:V->List V->Hp->VK->Prop}
theorem Lw(pa:PlainAttrs T)(slot:Slot T name id)(hty:typeOf (.builtin id)=pure (.type "method_descriptor"))(hm:MtR X id r)(ho:PE X o to)
  (hbase:attributeBase o name X.env (eval o X.env)=eval o X.env:=by rfl) (hline:(apos.endLine==cpos.line)=true:=by rfl):PE X (.Call (.Attribute o name apos) [] [] cpos) (Ls X.K T r to):=by
 intro pins s σ H Q I h;refine wpAny_Call_method0_late hbase hline (thn (ho pins s σ H _ I h) λv s1 ⟨x,H1,I1,r1,ty,q1⟩=>?_);obtain⟨h1,h2⟩:=Lr I1 r1 ty;exact⟨T,id,pa,slot,hty,h1,h2,Calls.callWith_builtin rfl (PySem.evalArgs_none (hm pins s1 σ H1 x [] v [] Q I1 r1 .nil q1))⟩
theorem Yb(pa:PlainAttrs T)(slot:Slot T name id)(hty:typeOf (.builtin id)=pure (.type "method_descriptor"))(hm:MtR X id r)(ho:PE X o to)(ha:PA X (e::es) t)
  (hbase:attributeBase o name X.env (eval o X.env)=eval o X.env:=by rfl)
  (hfew:((backTo cpos (starEach (e::es) X.env)).all (λx=>!x.1) && (backToKw cpos (keywordEach [] X.env)).all (λx=>x.1.isSome)
   && decide ((e::es).length+([]:List Keyword).length+(if ([]:List Keyword).isEmpty then 0 else 1)<30))=true:=by rfl)
  (hline:(apos.endLine==cpos.line)=true:=by rfl) (hs:starEach (e::es) X.env=(false,eval e X.env)::starEach es X.env:=by rfl) (hplain:(backTo cpos (starEach es X.env)).any (·.1)=false:=by rfl) :
  PE X (.Call (.Attribute o name apos) (e::es) [] cpos) (tBM X.K T r to t):=by
 intro pins s σ H Q I h;refine wpAny_Call_method_late hbase hfew hline rfl (thn (ho pins s σ H _ I h) λv s1 ⟨x,H1,I1,r1,ty,q1⟩=>?_);obtain⟨h1,h2⟩:=Lr I1 r1 ty;refine⟨T,id,pa,slot,hty,h1,h2,?_⟩;have hA:=ha cpos pins s1 σ H1 _ I1 q1;rw[hs] at hA ⊢;refine Calls.callWith_builtin (by show (false || (backTo cpos (starEach es X.env)).any (·.1))=false;rw[hplain] <;> rfl) (Calls.evalArgs_plain ?_);exact thn hA λus s2 ⟨vs,H2,I2,r2,q2⟩=>hm pins s2 σ H2 x vs v us Q I2 r1 r2 q2
end
def MtM(X:Cx)(id:String)(r:V->List V->Hp->VK->Prop):Prop :=
 ∀(pins:List (Addr×Obj)) (s:Shared) (σ:St) (H:Hp) (x:V) (xs:List V) (v:Value) (us:xF) (Q:VK),Inv X pins σ H s->RelV x v->Vals xs us->r x xs H Q ->
  wpAny (model X.prog X.w) X.A (call (.builtin id) (v::us)) (EP X pins σ Q) X.xe s
theorem Vals.one:∀{x:V} {us:xF},Vals [x] us->∃u,us=[u]/\RelV x u
 | _,_,.cons r .nil=>⟨_,rfl,r⟩
theorem Vals.two:∀{x y:V} {us:xF},Vals [x,y] us->∃u v,us=[u,v]/\RelV x u/\RelV y v
 | _,_,_,.cons r (.cons q .nil)=>⟨_,_,rfl,r,q⟩
theorem Vals.zero:∀{us:xF},Vals [] us->us=[]
 | _,.nil=>rfl
theorem Vals.reverse{xs:List V}{us:xF}(h:Vals xs us):Vals xs.reverse us.reverse:=by
 induction h with
 | nil=>exact .nil
 | cons r t ih=>rw[List.reverse_cons,List.reverse_cons];exact Vals.append ih (.cons r .nil)
theorem Vals.rep{xs:List V}{us:xF}(h:Vals xs us):∀k:Nat,Vals (List.replicate k xs).flatten (List.replicate k us).flatten
 | 0=>.nil
 | k+1=>by
  rw[List.replicate_succ,List.replicate_succ,List.flatten_cons,List.flatten_cons];exact Vals.append h (Vals.rep h k)
theorem foldl_rep(its:xF):∀(k:Nat)(acc:xF),
  List.foldl (λx1 x2=>x1++x2) acc.toArray (List.replicate k its.toArray)=(acc++(List.replicate k its).flatten).toArray
 | 0,acc=>by simp
 | k+1,acc=>by
  have e:acc.toArray++its.toArray=(acc++its).toArray:=by simp
  have e2:(acc++its)++(List.replicate k its).flatten=acc++(List.replicate (k+1) its).flatten:=by
   rw[List.replicate_succ,List.flatten_cons,vT]
  rw[<- e2,<- foldl_rep its k (acc++its),<- e,List.replicate_succ,List.foldl_cons]
section
variable{X:Cx}{pins:List (Addr×Obj)}{σ:St}{H:Hp}{s:Shared}{l:Addr}{xs ys:List V}
theorem Inv.Rq{its its':xF}{n:Nat}{f:Array Value->Array Value}{t':Nat}(I:Inv X pins σ H s)(hH:H l=some (.lst xs))
  (e:s.heap.get? l=some { cls:=.type "list", data:=.seq its.toArray n }) (hf:f its.toArray=its'.toArray) (hv:Vals ys its') (hz:ys.length<=sizeLine) :
  Inv X pins σ (upd H l (.lst ys)) { s with heap:=s.heap.update l (Obj.mapSeq f),toks:=t' }:=by
 have q:=PySem.IsL.update e f;rw[hf] at q;refine I.write (x:=l) (e:=l) (by rw[hH];exact trivial) (.inl rfl) (λb' u hb hu=>(mB s.heap (Obj.mapSeq f) (Ne.symm hb)).trans hu) ⟨_,q⟩ ?_;exact⟨hz,its',_,hv,q⟩
theorem Inv.Yc{its:xF}{t':Nat}(I:Inv X pins σ H s)(hv:Vals ys its)(hz:ys.length<=sizeLine) :
  Inv X pins σ (upd H s.heap.objs.size (.lst ys)) { s with heap:=s.heap.push { cls:=.type "list", data:=.seq its.toArray },toks:=t' } :=
 I.laid (λ_ _ q=>uC _ q) (uS _) ⟨hz,its,0,hv,oQ _ rfl⟩
theorem Inv.fresh(I:Inv X pins σ H s):H s.heap.objs.size=none:=I.hok.fresh (uS _)
theorem Inv.Bx(I:Inv X pins σ H s)(hH:H l=some (.lst xs)):xs.length<=sizeLine/\∃(its:xF)(n:Nat),Vals xs its/\xs.length=its.length/\s.heap.get? l=some { cls:=.type "list", data:=.seq its.toArray n }:=by
 obtain⟨z,its,n,r,e⟩:=I.hok l _ hH;exact⟨z,its,n,r,r.length,e⟩
theorem ud{n:Nat}(h:n<=sizeLine):Builtin.List.listTooLong n=false:=by
 unfold Builtin.List.listTooLong;exact gX (by lia)
end
section
variable{X:Cx}
def Rr:V->List V->Hp->VK->Prop:=λx vs H Q=>∃l xs y,x=.ref l/\vs=[y]/\H l=some (.lst xs)/\xs.length<sizeLine/\Q .non (upd H l (.lst (xs++[y])))
theorem w6:MtM X "list.append" Rr:=by
 intro pins s σ H x vs v us Q I rx rv h;obtain⟨l,xs,y,rfl,rfl,hH,hz,q⟩:=h;cases rx;obtain⟨u,rfl,ru⟩:=rv.one;obtain⟨z,its,n,r,hl,e⟩:=I.Bx hH;refine call_meets F.slot_list_append ⟨_,e,rfl⟩ F.entry_list_append (F.args_list_append_2 _ _) (PySem.list_append l its.toArray n u (by rw[nX];lia)) ⟨e,?_⟩;refine⟨.non,_,I.Rq (its':=its++[u]) hH e (by simp) (r.append (.cons ru .nil)) ?_,rfl,q⟩;rw[yY,List.length_singleton]
 lia
def Vd:V->List V->Hp->VK->Prop:=λx vs H Q=>∃l xs,x=.ref l/\vs=[]/\H l=some (.lst xs)/\Q .non (upd H l (.lst []))
theorem Lx:MtM X "list.clear" Vd:=by
 intro pins s σ H x vs v us Q I rx rv h;obtain⟨l,xs,rfl,rfl,hH,q⟩:=h;cases rx;have hus:=rv.zero;subst hus;obtain⟨z,its,n,r,hl,e⟩:=I.Bx hH;refine call_meets F.slot_list_clear ⟨_,e,rfl⟩ F.entry_list_clear (F.args_list_clear_1 _) (AutoSeq1.list_clear_list_0 l its.toArray n (by rw[nX];lia)) ⟨e,?_⟩;exact⟨.non,_,I.Rq (its':=[]) (ys:=[]) hH e rfl .nil (Nat.zero_le _),rfl,q⟩
def abe:R2:=λx y H Q=>∃l b xs zs,x=.ref l/\y=.ref b/\H l=some (.lst xs)/\H b=some (.lst zs)/\xs.length+zs.length<=sizeLine/\∀p,H p=none->Q (.ref p) (upd H p (.lst (xs++zs)))
theorem Ve:OpR X (binaryOp .Add) abe:=by
 intro pins s σ H x y v u Q I rx ry h;obtain⟨l,b,xs,zs,rfl,rfl,hH,hB,hz,q⟩:=h;cases rx;cases ry;obtain⟨z,its,n,r,hl,e⟩:=I.Bx hH;obtain⟨z2,its2,n2,r2,hl2,e2⟩:=I.Bx hB;refine PySem.P.add_list e e2 ?_ (by rw[nX,nX];lia);have ea:its.toArray++its2.toArray=(its++its2).toArray:=by simp
 rw[ea];exact⟨.ref _,_,I.Yc (t':=s.toks) (r.append r2) (by rw[yY];lia),rfl,q _ I.fresh⟩
def abf:R2:=λx y H Q=>∃l k xs,x=.ref l/\y=.int k/\H l=some (.lst xs)/\-(2 ^ 63)<=k/\k<2 ^ 63/\xs.length*k.toNat<=sizeLine /\
 ∀p,H p=none->Q (.ref p) (upd H p (.lst (List.replicate k.toNat xs).flatten))
theorem len_rep{α:Type}(xs:List α)(k:Nat):(List.replicate k xs).flatten.length=k*xs.length:=by
 induction k with
 | zero=>simp
 | succ k ih=>rw[List.replicate_succ,List.flatten_cons,yY,ih,Nat.succ_mul,Nat.add_comm]
theorem Vf:OpR X (binaryOp .Mult) abf:=by
 intro pins s σ H x y v u Q I rx ry h;obtain⟨l,k,xs,rfl,rfl,hH,h1,h2,hz,q⟩:=h;cases rx;obtain⟨t,rfl⟩:=ry;obtain⟨z,its,n,r,hl,e⟩:=I.Bx hH;have hlen:its.toArray.size*k.toNat<=sizeLine:=by rw[nX,<- hl];exact hz
 have hcap:¬ its.toArray.size*k.toNat > (2 ^ 63-1) / 8:=by
  have:(sizeLine:Nat)<=(2 ^ 63-1) / 8:=by decide
  lia
 have hfit:¬ (!Builtin.List.listFitsIndex k)=true:=by
  rw[fitsIndex_both h1 h2];exact vS
 have Yd:¬ Builtin.List.listTooLong (its.toArray.size*k.toNat)=true:=by
  rw[ud hlen];exact vS
 have hnew:List.foldl (λx1 x2=>x1++x2) #[] (List.replicate (if its.toArray.isEmpty=true then 0 else k.toNat) its.toArray)=(List.replicate k.toNat its).flatten.toArray:=by
  have f0:∀m:Nat,List.foldl (λx1 x2=>x1++x2) #[] (List.replicate m its.toArray)=(List.replicate m its).flatten.toArray:=λm=>by
   have:=foldl_rep its m [];rw[List.nil_append] at this;exact this
  rw[f0];cases its with
  | nil=>simp
  | cons a r'=>rw[if_neg (by simp)]
 refine wpAny_binaryOp_repeat_ref (T := "list") (U := "int") (by decide) ⟨_,e,rfl⟩ (λs'=>typeIs_int s' k t) noFill_list_mul F.fills_int_mul F.slot_int_rmul repeat_list F.slot_int_index.lookup
  (call_meets F.slot_int_rmul (typeIs_int s k t) F.entry_int_rmul (F.args_int_rmul_2 _ _) (int___rmul___int_list k t l its.toArray n)
   ⟨e,rfl,⟨_,e,rfl⟩,call_meets F.slot_list_mul ⟨_,e,rfl⟩ F.entry_list_mul (F.args_list_mul_2 _ _) (AutoListH.list___mul___list_int_3 l its.toArray n k t hfit hcap Yd) ⟨e,?_⟩⟩)
 rw[hnew];exact⟨.ref _,_,I.Yc (t':=s.toks) (r.rep k.toNat) (by rw[len_rep,Nat.mul_comm];exact hz),rfl,q _ I.fresh⟩
end
section
variable{prog:Program}{w:World}{A:Around}{E:xB}{s:Shared}
theorem JW(its its2:xF)(a c:Nat):its.toArray.extract 0 a++its2.toArray++its.toArray.extract c its.toArray.size=(its.take a++its2++its.drop c).toArray:=by
 apply Array.toList_inj.mp
 first
  | (simp
     exact List.take_of_length_le (by simp))
  | simp[List.take_of_length_le]
  | simp
theorem Fg{a c n:Nat}(hac:a<=c)(hc:c<=n):sliceBounds (some (a:Int)) (some (c:Int)) none n=((a:Int),(c:Int),1):=by
 simp only[sliceBounds,Option.getD_none];have h1:¬ ((a:Int)<0):=by lia
 have h2:¬ ((c:Int)<0):=by lia
 simp only[h1,h2,if_false,show (1:Int) > 0 by decide,if_true]
 congr 1
 ·lia
 ·congr 1;lia
set_option maxRecDepth 100000 in
theorem wH{l b sl:Addr}{items new:xL}{n n2:Nat}{vl vu:Value}{a c:Nat}{Q:xA}
  (e:s.heap.get? l=some { cls:=.type "list", data:=.seq items n }) (e2:s.heap.get? b=some { cls:=.type "list", data:=.seq new n2 }) (hne:l≠b)
  (hs:s.heap.IsSliceOf sl vl vu .none) (pl:IsPart vl (some (a:Int))) (pu:IsPart vu (some (c:Int))) (hac:a<=c) (hc:c<=items.size)
  (hsz:items.size+new.size<=sizeLine) (h:Q () { s with heap:=s.heap.update l (Obj.mapSeq λxs=>xs.extract 0 a++new++xs.extract c xs.size) }) :
  wpAny (model prog w) A (setItem (.ref l) (.ref sl) (.ref b)) Q E s:=by
 have hl:s.heap.IsList l items:=PySem.IsL.isList e;have hb:s.heap.IsList b new:=PySem.IsL.isList e2;obtain⟨os,hos,hcs,hds⟩:=id hs;have hTs:s.TypeIs (.ref sl) "slice":=⟨os,hos,hcs⟩;have hstep:¬ ((rawPart none==rawInt 0)=true):=vS;have hsame:Builtin.List.listSameRef (.ref l) (.ref b)=false:=by
  unfold Builtin.List.listSameRef;exact beq_eq_false_iff_ne.mpr hne
 have abg:(max (a:Int) (c:Int)).toNat=c:=by lia
 have hz':((λxs:Array Value=>xs.extract 0 a++new++xs.extract c xs.size) items).size<=sizeLine+1:=by
  simp only[Array.size_append,Array.size_extract]
  lia
 unfold setItem
 try with_reducible refine mI ?_
 first|refine zI (rX ?_)|skip
 refine zI (wpAny_sequenceKey hl.typeIs (by decide) ?_);refine zI (wpAny_callSpecial?_slot (name:=Str.ofString "__setitem__") hl.typeIs slot_list_setitem
  (wpAny_call_entry slot_list_setitem hl.typeIs entry_list_setitem ?_ (args_list_setitem _ _ _)))
 show wpAny _ _ (Builtin.List.listSubscript? (.ref sl) >>= _) _ _ s;refine zI ?_;unfold Builtin.List.listSubscript?;refine zI (wpAny_specialOf hTs slice_no_index ?_);simp only[Option.isNone_none,if_true];refine rX ?_;show wpAny _ _ (typeOf (.ref sl) >>= _) _ _ s;refine zI (wpAny_typeOf hTs ?_)
 first
  | rw[if_neg (by decide)]
  | refine W.KFB.if_not (by decide) ?_
 rw[listSliceParts_eq];refine zI (zI (wpAny_field hos hds (x:=.none) rfl (zI (wpAny_listPart .none ?_))));rw[yT hstep];refine zI (wpAny_field hos hds (x:=vl) rfl (zI (wpAny_listPart pl ?_)));refine zI (wpAny_field hos hds (x:=vu) rfl (zI (wpAny_listPart pu (rX ?_))))
 first
  | simp only[hsame,Bool.false_eq_true,if_false]
  | refine W.KFB.if_not hsame ?_
  | (dsimp only
     rw[yT (by rw[hsame];exact vS)])
 refine zI (m:=Builtin.List.listAllItems (.ref b) "must assign iterable to extended slice") ?_;unfold Builtin.List.listAllItems;refine zI (wpAny_typeOf hb.typeIs ?_)
 first
  | refine W.KFB.if_so (by decide) ?_
  | rw[if_pos (by decide)]
  | simp only[beq_self_eq_true,Bool.true_or,if_true]
 unfold Builtin.List.listItems;refine zI (wpAny_seqItems e2 rfl (rX ?_));refine zI (zI (wpAny_seqItems e rfl (rX ?_)));refine wpAny_bind (wpAny_of_eq ((sliceIndices_raw (some (a:Int)) (some (c:Int)) none items.size (by simp)).trans (congrArg (pure:Int×Int×Int->Sem (Int×Int×Int)) (Fg hac hc))) ?_);show wpAny _ _ (if ((1:Int)==1)=true then _ else _) _ _ s;rw[yB (by decide)];refine zI (wpAny_rule ?_)
 first
  | simp only[ud hsz,Bool.false_eq_true,if_false]
  | refine W.KFB.if_not (ud hsz) ?_
 first|refine zI (rX ?_)|skip
 show wpAny _ _ (updateSeq l (λxs=>xs.extract 0 ((a:Int)).toNat++new++xs.extract (max (a:Int) (c:Int)).toNat xs.size) >>= _) _ _ s;rw[abg,Int.toNat_natCast];refine zI (wpAny_updateSeq (hz:=oB (Nat.le_add_right _ _) hsz) (_hz':=hz') e rfl ?_);refine zI (wpAny_letGo ?_)
 first
  | exact wpAny_bind (wpAny_pure (wpAny_pure ⟨.none,rfl,wpAny_pure h⟩))
  | exact wpAny_pure ⟨.none,rfl,wpAny_pure h⟩
end
section
variable{X:Cx}
theorem JX{pins:List (Addr×Obj)}{s:Shared}{σ:St}{H:Hp}{l b sl:Addr}{xs ys:List V}{a c:Int}{vl vu:Value}{Q:xA}(I:Inv X pins σ H s)
  (hH:H l=some (.lst xs)) (hB:H b=some (.lst ys)) (hne:l≠b) (hs:s.heap.IsSliceOf sl vl vu .none) (ra:RelV (.int a) vl) (rc:RelV (.int c) vu) (h0:0<=a) (hac:a<=c) (hc:c<=xs.length)
  (hz:xs.length+ys.length<=sizeLine) (h:∀s',Inv X pins σ (upd H l (.lst (xs.take a.toNat++ys++xs.drop c.toNat))) s'->Q () s') :
  wpAny (model X.prog X.w) X.A (setItem (.ref l) (.ref sl) (.ref b)) Q X.xe s:=by
 obtain⟨ta,rfl⟩:=ra;obtain⟨tc,rfl⟩:=rc;obtain⟨z,its,n,r,hl,e⟩:=I.Bx hH;obtain⟨z2,its2,n2,r2,hl2,e2⟩:=I.Bx hB;obtain⟨a',rfl⟩:=Int.eq_ofNat_of_zero_le h0;obtain⟨c',rfl⟩:=Int.eq_ofNat_of_zero_le (Int.le_trans h0 hac);simp only[Int.toNat_natCast] at h;refine wH (a:=a') (c:=c') e e2 hne hs (.int _ _) (.int _ _) (by lia) (by rw[nX];lia) (by rw[nX,nX];lia) (h _ ?_);refine I.Rq (its':=its.take a'++its2++its.drop c') (t':=s.toks) hH e ?_ (Vals.append (Vals.append (r.take _) r2) (r.drop _)) ?_
 ·exact JW its its2 a' c'
 ·rw[yY,yY,nE,zzH]
  lia
end
end L2
namespace Att
open PySem PySem.W PySem.Calls PyProof.Rows
theorem rZ{P:Params}{h:Heap}:∀(ns:List Int)(vs:xF),WellAll P h vs (ns.map WData.int)->IntsAre vs ns:=by
 intro ns
 induction ns with
 | nil =>
  intro vs w;rw[List.map_nil] at w;cases w;exact .nil
 | cons n ns ih =>
  intro vs w;rw[nI] at w;cases w with
  | cons a b =>
   cases a;exact .cons _ _ (ih _ b)
theorem JZ{l:OpenLaw}{n:Nat}(hn:l.most=some n){P:Params}{h:Heap}{args:List WData}{vals:xF}
  (hpre:l.row.toRowW.claim.pre args=true) (hwl:WellAll P h vals args) :
  ∃a vs ns,vals=[Value.ref a]/\args=[WData.list (ns.map WData.int)]/\h.get? a=some { cls:=.type "list", data:=.seq vs.toArray }/\IntsAre vs ns/\ns.length<=n:=by
 have hsh:WShape.hasAll [] args [.list .int]=true:=(pre_splitW hpre).1;have hc:l.pre.holds [] { args:=args }=true:=(pre_splitW hpre).2;obtain⟨d,r,rfl,h1,h2⟩:=hasAllW_cons hsh;obtain rfl:=hasAllW_nil h2;obtain⟨xs,rfl,h3⟩:=hasW_list h1;obtain⟨ns,rfl⟩:=items_int h3;have hlen:ns.length<=n:=by
  unfold OpenLaw.pre at hc;have h4:(WTm.not (.lt (.lit (.int (n:Int))) (.len (.arg 0)))).holds [] { args:=[.list (ns.map .int)] }=true:=by
   have h4:=(holds_andW hc).1;rw[hn] at h4;exact h4
  have h5:=condW_of h4 (w_not (w_lt w_lit (w_len_list (w_arg rfl))));rw[wS] at h5;refine Nat.le_of_not_lt λq=>?_
  have q':(n:Int)<((ns.length:Nat):Int):=by lia
  first
   | (rw[uA q'] at h5;exact gN h5 (by decide))
   | (simp at h5;lia)
 cases hwl with
 | cons w1 w2 =>
  cases w2;cases w1 with
  | list ho hall=>exact⟨_,_,ns,rfl,rfl,ho,rZ ns _ hall,hlen⟩
theorem J0(l:OpenLaw)(args:List WData):l.row.toRowW.claim.post args (.bool true) args=true :=
 postW_of (r:=l.row.toRowW) (X:=(true==true))
  (show WShape.has [] (.bool true) .bool=true by first|rfl|decide|simp[WShape.has,WShape.arms,WShape.armsAll])
  (show (WTm.eq .res (.lit (.bool true))).value [] { args:=args,res:=some (.bool true),after:=args }=some (.bool (true==true)) from w_eq_bool (w_res rfl) w_lit) rfl
theorem BJ{l:OpenLaw}{n:Nat}{q:Program}{loose:List Str}{XP:(Str->Option Value)->Heap->Prop}{YP:World->Heap->Prop}{d:DefRec}
  (hn:l.most=some n) (hdf:d.params.defaults=[])
  (call:∀(w:World)(s₀ s₁:Shared)(mg mb:xC)(fa:Addr)(o:Obj)(pm cd doc:Value)(a:Addr)(vs:xF)(ns:List Int),
   Ground q loose [] XP w s₀ mg mb s₁.heap->YP w s₁.heap ->
   s₁.heap.get? fa=some o->o.data=.func (docDef d.name d.params d.body d.scope pm cd doc)->s₁.heap.CodeRec cd d.name->mg d.name=some (.ref fa) ->
   s₁.heap.get? a=some { cls:=.type "list", data:=.seq vs.toArray }->IntsAre vs ns->ns.length<=n->s₁.gens=#[] ->
   codeAny (model l.prog w) callerA (.call (.ref fa) ⟨[.ref a],[]⟩) (λr s'=>r=.ok (.ret (.bool true))/\OldK s₁.heap s'.heap/\s'.os=s₁.os/\AllBare s'.gens) s₁) :
  WalkO q loose XP YP l.row.toRowW d [] (λf vs=>PySem.call f vs):=by
 intro w s₀ s₁ mg mb G Y fa o pm cd doc dV kV ho hd hcd hD hmg hg args vals as hpre hlay hrd hwl hlo;obtain rfl:dV=.none:=Dflts.none hD hdf;obtain rfl:kV=.none:=Dflts.noKw hD;obtain⟨a,vs,ns,rfl,rfl,hobj,hints,hlen⟩:=JZ hn hpre hwl;refine enter_call (codeAny_mono (call w s₀ s₁ mg mb fa o pm cd doc a vs ns G Y ho (fd_plain hd) hcd hmg hobj hints hlen hg) λr s' hq=>?_);obtain⟨rfl,h2,h3,h4⟩:=hq;exact⟨.inl ⟨.bool true,.bool true,[],rfl,λ_=>rfl,.bool true,J0 l _,λ_=>⟨List.Pairwise.nil,λ_ hm=>(nomatch hm)⟩⟩,h2,h3,h4⟩
end Att
namespace L2
open PySem PySem.Spec PyProof.Rows
theorem xg:∀{vs:xF} {ns:List Int},IntsAre vs ns->Vals (ns.map V.int) vs
 | _,_,.nil=>.nil
 | _,_,.cons n t h=>.cons ⟨t,rfl⟩ (xg h)
def inClass(s:Stmt)(j:Nat):Stmt:=match s with
 | .ClassDef _ _ _ body _ _ _ _ _ _ _=>body.getD j (.Pass ⟨0,0,0,0⟩)
 | _=>.Pass ⟨0,0,0,0⟩
def cW(s:Stmt):Arguments:=match s with
 | .FunctionDef _ a _ _ _ _ _ _ _ _=>a
 | _=>{ posonlyargs:=[],args:=[],vararg:=none,kwonlyargs:=[],kw_defaults:=[],kwarg:=none,defaults:=[] }
def cu(s:Stmt):List Stmt:=match s with
 | .FunctionDef _ _ b _ _ _ _ _ _ _=>b
 | _=>[]
def aF(s:Stmt):Scope:=match s with
 | .FunctionDef _ _ _ _ _ _ sc _ _ _=>sc
 | _=>{ kind:=.function,names:=[],isGenerator:=false,isCoroutine:=false }
abbrev CX0:CXT:=λ_ _ _ _ _ _=>False
abbrev E0:XK:=λ_ _ _=>False
theorem uf{X:Cx}:Passes CX0 X E0:=λ_ _ _ _ _ _ _ h=>h.elim
structure Fun(K:W.Frag)(x qual:Str)(st:Stmt)(f:Addr)(fd:FuncData):Prop where
 ex:∃(oc:Value) (od:xN) (kV doc pm:Value) (an:xN) (cdv ct:Value) (osl:Array (Option Value)),
  fd=W.fnOf x qual (cW st) (cu st) (aF st) .none kV doc pm an cdv ct/\K.lookup f=some ⟨oc,od,.func fd,osl⟩/\W.codeIn K cdv qual=true
 kp:W.keepIn K (.ref f)=true
section
variable{P:Program}{w:World}{K:W.Frag}{mg:xC}{base:Heap}
theorem Fun.ok{x qual:Str}{st:Stmt}{f:Addr}{fd:FuncData}{N ps:List Str}{k:Nat}{sp:Sp}(F:Fun K x qual st f fd)(S:aK N ps (aF st))(len:∀vs H Q E,sp vs H Q E->vs.length=ps.length)
  (hbody:∀(cdv:Value)(A:Around)(outer:List Env)(s:Shared)(H:Hp)(vs:List V)(Q:VK)(E:XK),Room k (A.deeper (envOfC qual (aF st) s.heap.objs.size f cdv))->sp vs H Q E ->
   ∃t,PSs (j8 CX0 P w K mg base N qual (aF st) f cdv A outer s H E).nox (cu st) t/\t { nx:=λ_ H'=>Q .non H',rt:=Q } (start N vs) H):gq P w K mg base CX0 (k+1) f fd ps sp:=by
 obtain⟨oc,od,kV,doc,pm,an,cdv,ct,osl,rfl,lk,hcd⟩:=F.ex;refine t_ lk hcd S len λA outer s H vs Q E hr hsp=>?_
 obtain⟨t,h,q⟩:=hbody cdv A outer s H vs Q E hr hsp;exact⟨t,h.nox,q⟩
theorem Fun.binds{x qual:Str}{st:Stmt}{f:Addr}{fd:FuncData}{ps:List Str}(F:Fun K x qual st f fd)
  (h:∀(kV doc pm:Value)(an:xN)(cdv ct:Value)(us:xF),us.length=ps.length->bindArgs (W.fnOf x qual (cW st) (cu st) (aF st) .none kV doc pm an cdv ct) ⟨us,[]⟩=pure (ps.zip us)):Binds K fd ps []:=by
 obtain⟨oc,od,kV,doc,pm,an,cdv,ct,osl,rfl,lk,hcd⟩:=F.ex;exact .all (h kV doc pm an cdv ct)
theorem nO{x qual:Str}{st:Stmt}{f:Addr}{oc:Value}{od an:xN}{osl:Array (Option Value)}{kV doc pm cdv ct:Value}(l:K.lookup f=some ⟨oc,od,.func (W.fnOf x qual (cW st) (cu st) (aF st) .none kV doc pm an cdv ct),osl⟩)
  (c:W.codeIn K cdv qual=true) (k:W.keepIn K (.ref f)=true):Fun K x qual st f (W.fnOf x qual (cW st) (cu st) (aF st) .none kV doc pm an cdv ct):=⟨⟨oc,od,kV,doc,pm,an,cdv,ct,osl,rfl,l,c⟩,k⟩
end
section
variable{X:Cx}
theorem pv(i:Nat){x:Str}{pos:Pos}(hN:X.N[i]?=some x:=by rfl)(hv:Vis X.env.scope x:=by first|exact Or.inl rfl|exact Or.inr (Or.inl rfl)|exact Or.inr (Or.inr rfl))(hd:(x==("__debug__" : Str))=false:=by decide)
  (hcd:(x==("__classdict__" : Str))=false:=by decide):PE X (.Name x pos) (fZ i):=Uz hN hv hd hcd
end
theorem abh{A B:Prop}(h:B):if false=true then A else B:=by
 rw[yT vS];exact h
theorem abj{A B:Prop}(h:A):if true=true then A else B:=by
 rw[yB rfl];exact h
def Same(H H':Hp):Prop:=∀b o,H b=some o->H' b=some o
theorem Same.refl(H:Hp):Same H H:=λ_ _ h=>h
theorem Same.trans{H H1 H2:Hp}(a:Same H H1)(b:Same H1 H2):Same H H2:=λc o h=>b c o (a c o h)
theorem Same.free{H H':Hp}(e:Same H H'){l:Addr}(h:H' l=Option.none):H l=Option.none:=by
 cases q:H l with
 | none=>rfl
 | some o =>
  rw[e l o q] at h;cases h
theorem Same.seq{K:W.Frag}{H H':Hp}{a:Addr}{xs:List V}(e:Same H H')(h:SqL K H a xs):SqL K H' a xs:=by
 rcases h with(h|⟨o,h⟩)|h
 ·exact .inl (.inl (e _ _ h))
 ·exact .inl (.inr ⟨o,e _ _ h⟩)
 ·exact .inr h
section
variable{κ:Type}[DecidableEq κ]
def Rt(kvs:List (κ×V))(k:κ):Option V:=(kvs.find? λkv=>decide (kv.1=k)).map (·.2)
def putK(kvs:List (κ×V))(k:κ)(v:V):List (κ×V) :=
 if (kvs.any λkv=>decide (kv.1=k))=true then kvs.map (λkv=>if kv.1=k then (kv.1,v) else kv) else kvs++[(k,v)]
def TV(kvs:List (κ×V))(k:κ):List (κ×V):=kvs.filter λkv=>decide (kv.1≠k)
theorem jK.getD{o:Option V}{u:Option Value}{d:V}{d':Value}(r:jK o u)(rd:RelV d d'):RelV (o.getD d) (u.getD d'):=by
 cases o with
 | none=>cases u with
  | none=>exact rd
  | some _=>exact(show False from r).elim
 | some _=>cases u with
  | none=>exact(show False from r).elim
  | some _=>exact r
theorem KV.any{kvs:List (κ×V)}{vs:List (κ×Value)}(r:KV kvs vs)(k:κ):(kvs.any λkv=>decide (kv.1=k))=vs.any λkv=>decide (kv.1=k):=by
 unfold KV at r
 induction r with
 | nil=>rfl
 | cons h t ih=>rw[List.any_cons,List.any_cons,ih,h.1]
theorem KV.drop{kvs:List (κ×V)}{vs:List (κ×Value)}(r:KV kvs vs)(k:κ):KV (TV kvs k) (without vs k):=by
 unfold KV at r ⊢;unfold TV without
 induction r with
 | nil=>exact .nil
 | @cons p q ps qs h t ih =>
  obtain⟨h1,h2⟩:=h;rw[List.filter_cons,List.filter_cons];by_cases e:p.1=k
  ·have a:¬ decide (p.1≠k)=true:=by simp[e]
   have b:¬ decide (q.1≠k)=true:=by simp[h1.symm.trans e]
   rw[yT a,yT b];exact ih
  ·have e':¬ q.1=k:=λz=>e (h1.trans z)
   have a:decide (p.1≠k)=true:=by simp[e]
   have b:decide (q.1≠k)=true:=by simp[e']
   rw[yB a,yB b];exact .cons ⟨h1,h2⟩ ih
theorem KV.keys{kvs:List (κ×V)}{vs:List (κ×Value)}(r:KV kvs vs):kvs.map (·.1)=vs.map (·.1):=by
 unfold KV at r
 induction r with
 | nil=>rfl
 | cons h t ih=>rw[nI,nI,ih,h.1]
theorem KV.length{kvs:List (κ×V)}{vs:List (κ×Value)}(r:KV kvs vs):kvs.length=vs.length:=Paired.length r
end
def Rv(H:Hp)(a:Addr)(y:V)(r:Option V):Prop :=
 (∃kvs k,Rd H a (.dK kvs)/\y=kV k/\r=Rt kvs k)\/∃kvs k b,Rd H a (.dT kvs)/\y=.ref b/\H b=some (.tup (k.map kV))/\r=Rt kvs k
def Rx(H:Hp)(a:Addr)(y v:V)(H':Hp):Prop :=
 (∃kvs k,H a=some (.dK kvs)/\y=kV k/\kvs.length<sizeLine/\H'=upd H a (.dK (putK kvs k v))) \/
 ∃kvs k b,H a=some (.dT kvs)/\y=.ref b/\H b=some (.tup (k.map kV))/\kvs.length<sizeLine/\H'=upd H a (.dT (putK kvs k v))
theorem Rv.k{H:Hp}{a:Addr}{kvs:List (Key×V)}{k:Key}(e:H a=some (.dK kvs)):Rv H a (kV k) (Rt kvs k):=.inl ⟨kvs,k,.inl e,rfl,rfl⟩
theorem Rv.t{H:Hp}{a b:Addr}{kvs:List (List Key×V)}{k:List Key}(e:H a=some (.dT kvs))(eb:H b=some (.tup (k.map kV))):Rv H a (.ref b) (Rt kvs k):=.inr ⟨kvs,k,b,.inl e,rfl,eb,rfl⟩
theorem Rx.k{H:Hp}{a:Addr}{kvs:List (Key×V)}{k:Key}{v:V}(e:H a=some (.dK kvs))(hl:kvs.length<sizeLine):Rx H a (kV k) v (upd H a (.dK (putK kvs k v))):=.inl ⟨kvs,k,e,rfl,hl,rfl⟩
theorem Rx.t{H:Hp}{a b:Addr}{kvs:List (List Key×V)}{k:List Key}{v:V}(e:H a=some (.dT kvs))(eb:H b=some (.tup (k.map kV)))(hl:kvs.length<sizeLine) :
  Rx H a (.ref b) v (upd H a (.dT (putK kvs k v))):=.inr ⟨kvs,k,b,e,rfl,eb,hl,rfl⟩
structure M2(X:Cx)(o:Expr)(m:Str)(apos:Pos)(e f:Expr)(cpos:Pos):Prop where
 base:attributeBase o m X.env (eval o X.env)=eval o X.env
 few:((backTo cpos (starEach [e,f] X.env)).all (λx=>!x.1) && (backToKw cpos (keywordEach [] X.env)).all (λx=>x.1.isSome)
  && decide (([e,f]:List Expr).length+([]:List Keyword).length+(if ([]:List Keyword).isEmpty then 0 else 1)<30))=true
 line:(apos.endLine==cpos.line)=true
 trees:backTo cpos (starEach [e,f] X.env)=[(false,eval e X.env),(false,eval f X.env)]
end L2
set_option maxHeartbeats 4000000
namespace L2
open PySem PySem.Spec PyProof.Rows
section
variable{P:Program}{w:World}{K:W.Frag}{mg:xC}{base:Heap}{CX:CXT}{x:Str}{ps:List Str}{sp:Sp}{j k:Nat}
structure Def(P:Program)(w:World)(K:W.Frag)(mg:xC)(base:Heap)(CX:CXT)(k:Nat)(x:Str)(ps:List Str)(sp:Sp):Prop where
 ex:∃(f:Addr)(fd:FuncData),gq P w K mg base CX k f fd ps sp/\mg x=some (.ref f)/\W.keepIn K (.ref f)=true/\Binds K fd ps []
theorem Def.mono(D:Def P w K mg base CX j x ps sp)(h:j<=k):Def P w K mg base CX k x ps sp :=
 let ⟨f,fd,F,a,b,c⟩:=D.ex
 ⟨f,fd,F.mono h,a,b,c⟩
def HasDef(K:W.Frag)(mg:xC)(x:Str)(st:Stmt):Prop:=∃(f:Addr)(fd:FuncData),Fun K x x st f fd/\mg x=some (.ref f)
theorem HasDef.mk{st:Stmt}{f:Addr}{oc:Value}{od an:xN}{osl:Array (Option Value)}{kV doc pm cdv ct:Value}(m:mg x=some (.ref f))
  (l:K.lookup f=some ⟨oc,od,.func (W.fnOf x x (cW st) (cu st) (aF st) .none kV doc pm an cdv ct),osl⟩)
  (c:W.codeIn K cdv x=true) (k:W.keepIn K (.ref f)=true):HasDef K mg x st:=⟨f,_,nO l c k,m⟩
theorem dB{st:Stmt}{N:List Str}(h:HasDef K mg x st)(S:aK N ps (aF st))(len:∀vs H Q E,sp vs H Q E->vs.length=ps.length)
  (hb:∀(kV doc pm:Value)(an:xN)(cdv ct:Value)(us:xF),us.length=ps.length->bindArgs (W.fnOf x x (cW st) (cu st) (aF st) .none kV doc pm an cdv ct) ⟨us,[]⟩=pure (ps.zip us))
  (hbody:∀(f:Addr)(cdv:Value)(A:Around)(outer:List Env)(s:Shared)(H:Hp)(vs:List V)(Q:VK)(E:XK),Room k (A.deeper (envOfC x (aF st) s.heap.objs.size f cdv))->sp vs H Q E ->
   ∃t,PSs (j8 CX P w K mg base N x (aF st) f cdv A outer s H E).nox (cu st) t/\t { nx:=λ_ H'=>Q .non H',rt:=Q } (start N vs) H):Def P w K mg base CX (k+1) x ps sp:=by
 obtain⟨f,fd,F,m⟩:=h;refine⟨f,fd,?_,m,F.kp,F.binds hb⟩;obtain⟨oc,od,kV,doc,pm,an,cdv,ct,osl,rfl,lk,hcd⟩:=F.ex;refine t_ lk hcd S len λA outer s H vs Q E hr hsp=>?_
 obtain⟨t,h,q⟩:=hbody f cdv A outer s H vs Q E hr hsp;exact⟨t,h.nox,q⟩
end
section
variable{X:Cx}{CX:CXT}{k m:Nat}{x:Str}{ps:List Str}{sp:Sp}{E:XK}{p pos:Pos}{e:Expr}{es:List Expr}{t:TA}
theorem aL(D:Def X.prog X.w X.K X.mg X.base CX k x ps sp)(hr:Room m X.A)(ha:PA X (e::es) t)(hk:k<=m:=by decide)(hx:Passes CX X E:=by exact uf)(hg:Gl X x:=by rfl)
  (hdb:(x==("__debug__" : Str))=false:=by decide) (he:starEach (e::es) X.env=(false,eval e X.env)::starEach es X.env:=by rfl) (hpl:(backTo pos (starEach es X.env)).any (·.1)=false:=by rfl) :
  PE X (.Call (.Name x p) (e::es) [] pos) (wU sp [] E t):=by
 obtain⟨f,fd,F,hm,kp,b⟩:=D.ex;exact Rj F (hr.mono hk) hg hm kp b .nil hx ha hdb he hpl
end
def Fi(mg:xC)(x:Str)(v:V):Prop:=∃u,mg x=some u/\RelV v u
theorem xq{X:Cx}{x:Str}{v:V}{pos:Pos}(h:Fi X.mg x v)(hg:Gl X x:=by rfl)(hd:(x==("__debug__" : Str))=false:=by decide):PE X (.Name x pos) (tC v) :=
 let ⟨_,e,r⟩:=h
 Q8 hg e r hd
section
variable{X:Cx}{T:String}{pos:Pos}
theorem kJ{x:Str}(hg:Gl X x)(hm:X.mg x=none)(hv:bootBuiltins x=some (.type T))(hn:x ≠ "__name__":=by decide)(hd:(x==("__debug__" : Str))=false:=by decide):PE X (.Name x pos) (tC (.ty T)) :=
 Q9 hg hm hv rfl hn hd
def ug(K:W.Frag)(t:Value):V->Option Bool
 | .ty T=>W.kitOne K t (.type T)
 | .ref C=>W.kitOne K t (.ref C)
 | _=>none
theorem call_isinstance:iy X (.builtin "isinstance") (λxs H Q=>∃x c t b,xs=[x,c]/\eX X.K H x t/\ug X.K t c=some b/\Q (.bl b) H):=by
 intro pins s σ H xs us Q I r h;obtain⟨x,c,t,b,rfl,ty,e,q⟩:=h;obtain⟨u,v,rfl,ru,rv⟩:=vals2 r;cases c with
 | ty T =>
  obtain rfl:v=Value.type T:=rv;exact wR I ru ty e λtk=>⟨.bl b,H,I.tok _,rfl,q⟩
 | ref C =>
  obtain rfl:v=Value.ref C:=rv;exact wR I ru ty e λtk=>⟨.bl b,H,I.tok _,rfl,q⟩
 | _=>cases e
end
section
variable{X:Cx}
theorem uh:∀{bs:xI} {us:xF},Vals (bs.map V.bl) us->LSm.BoolsAre us bs
 | [],_,.nil=>.nil
 | b::bs,_,.cons r t=>by
  cases (show _=Value.bool b from r);exact .cons b (uh t)
theorem Ly(hc:X.calm=true):iy X (.builtin "all") (λxs H Q=>∃(p:Addr)(bs:xI),xs=[.ref p]/\SqL X.K H p (bs.map V.bl)/\Q (.bl (bs.all id)) H):=by
 intro pins s σ H xs us Q I r h;obtain⟨p,bs,rfl,hq,q⟩:=h;obtain⟨u,rfl,rx⟩:=vals1 r;cases rx;obtain⟨its,rv,pl,hz⟩:=I.list hq;have hb:=uh rv;have hl:=pl.isList;have hlt:p<s.heap.objs.size:=by obtain⟨_,e,_⟩:=hl;exact uB e
 refine call_all_walk (wpAny_pyIter_list hl ?_);refine⟨s.heap.objs.size,[s.heap.objs.size,p],[s.heap.objs.size],its.toArray.size,_,_,λi=>(bs[i]?).getD true,rfl,Walks.list (A:=X.A.in1) (I.ok.hd hc) _ p (qV hlt) its.toArray,
  ⟨⟨_,oQ _ rfl,rfl,rfl⟩,hl.push _⟩,λi v s' Q' E' hP hQ=>?_,λh' tk hk=>?_⟩
 ·obtain⟨b,e,rfl⟩:=hb.get i v (by simpa using hP);simp only[e,Option.getD_some] at hQ;exact wpAny_truthy_bool hQ
 ·have e:((List.range its.toArray.size).all λi=>(bs[i]?).getD true)=bs.all id:=by
   rw[nX,hb.length];exact LSm.range_all bs
  rw[e];exact⟨.bl _,H,I.kept (LSm.kept_iter hk),rfl,q⟩
end
def fJ(env:Env):List (Str×NameKind)->Option (List (Str×Addr))
 | []=>some []
 | (n,k)::r=>if k=.free then (env.cells.lookup n).bind λc=>(fJ env r).map λcl=>cl++[(n,c)] else fJ env r
theorem jw{env:Env}:∀{names:List (Str×NameKind)} {cl:List (Str×Addr)},fJ env names=some cl->∀x c,cl.lookup x=some c->env.cells.lookup x=some c
 | [],cl,h,x,c,e=>by
  cases (nS h);cases e
 | (n,k)::r,cl,h,x,c,e=>by
  unfold fJ at h;by_cases hk:k=.free
  ·rw[yB hk] at h;cases hc:env.cells.lookup n with
   | none=>rw[hc] at h;cases h
   | some c' =>
    rw[hc] at h;have h:(fJ env r).map (λcl=>cl++[(n,c')])=some cl:=h;cases hr:fJ env r with
    | none=>rw[hr] at h;cases h
    | some cl' =>
     rw[hr] at h;have h:cl'++[(n,c')]=cl:=nS h;subst h;rw[List.lookup_append] at e;cases h2:cl'.lookup x with
     | some c2 =>
      rw[h2] at e;have e:c2=c:=by simpa using e
      subst e;exact jw hr x c2 h2
     | none =>
      rw[h2] at e;have e:List.lookup x [(n,c')]=some c:=by simpa using e
      by_cases hx:x=n
      ·subst hx;have:c'=c:=by simpa using e
       subst this;exact hc
      ·have hb:(x==n)=false:=by simpa using hx
       simp[List.lookup_cons,hb] at e
  ·rw[yT hk] at h;exact jw h x c e
theorem jy{env:Env}:∀(names:List (Str×NameKind)) (acc cl:List (Str×Addr)),fJ env names=some cl ->
  (forIn (m:=Sem) names acc λx c=>if x.2==NameKind.free then (do let a <- cellOf env x.1;pure (ForInStep.yield ((x.1,a)::c))) else pure (ForInStep.yield c))=pure (cl++acc)
 | [],acc,cl,h=>by
  cases (nS h)
  rfl
 | (n,k)::r,acc,cl,h=>by
  unfold fJ at h;rw[List.forIn_cons];by_cases hk:k=.free
  ·rw[yB hk] at h;cases hc:env.cells.lookup n with
   | none=>rw[hc] at h;cases h
   | some c' =>
    rw[hc] at h;have h:(fJ env r).map (λcl=>cl++[(n,c')])=some cl:=h;cases hr:fJ env r with
    | none=>rw[hr] at h;cases h
    | some cl' =>
     rw[hr] at h;have h:cl'++[(n,c')]=cl:=nS h;subst h;have hb:(k==NameKind.free)=true:=by simpa using hk
     have:=jy r ((n,c')::acc) cl' hr;have ec:cellOf env n=pure c':=by unfold cellOf;rw[hc]
     simp only[hb,if_true,ec,pure_bind,bind_assoc];rw[this];simp
  ·rw[yT hk] at h;have hb:(k==NameKind.free)=false:=by simpa using hk
   have:=jy r acc cl h;simp only[hb,Bool.false_eq_true,if_false,pure_bind];exact this
theorem wI{env:Env}{scope:Scope}{cl:List (Str×Addr)}(h:fJ env scope.names=some cl):closureFor scope env=pure cl:=by
 have:=jy scope.names [] cl h;rw[mP] at this;have key:closureFor scope env=(forIn (m:=Sem) scope.names ([]:List (Str×Addr)) λx c=>if x.2==NameKind.free then (do let a <- cellOf env x.1;pure (ForInStep.yield ((x.1,a)::c))) else pure (ForInStep.yield c)) >>= λcs=>pure cs:=by
  unfold closureFor
  rfl
 rw[key,this]
 rfl
theorem J1{prog:Program}{w:World}{A:Around}{R:Result->Shared->Prop}{s:Shared}{elt target iter:Expr}{ifs:List Expr}{scope:Scope}{pos:Pos}{it acc:Value}{env:Env}(I:Nat->Shared->Prop)
  (turn:∀n s,I n s->wpAny (model prog w) A (pyNext it) (λr s₁=>match r with
   | none=>R (.ok .next) s₁
   | some v=>wpAny (model prog w) A (letOwnedTupleGo target it v) (λ_ s₀=>wpAny (model prog w) A (assign target env v) (λ_ s₂ =>
     wpAny (model prog w) A (forIn ifs true λc r=>if r=true then do let ok <- isTrue c env (eval c env);pure (ForInStep.yield ok) else pure (ForInStep.yield r)) (λok s₃ =>
      if ok=true then wpAny (model prog w) A (eval elt env) (λx s₄ =>
       wpAny (model prog w) A (call (.builtin "list.append") [acc,x]) (λ_ s₅=>∃m,m<n/\I m s₅) (λ_ _=>False) s₄) (λ_ _=>False) s₃
      else ∃m,m<n/\I m s₃) (λ_ _=>False) s₂) (λ_ _=>False) s₀) (λ_ _=>False) s₁) (λ_ _=>False) s)
  (n:Nat) (h:I n s) :
  codeAny (model prog w) A (.compLoop (.ListComp elt [⟨target,iter,ifs,0⟩] scope pos) 0 it acc env) R s:=by
 refine codeAny_loop rfl I (λn s hI=>?_) n h;show wpAny _ A ((compTurn (.ListComp elt [⟨target,iter,ifs,0⟩] scope pos) 0 it acc env).onRaise (λx=>do noteFrame x env;theTreesLotGoes x)) _ _ s;refine wpAny_noted ?_;rw[compTurn_list];refine zI (wpAny_standAt (zI (mM (turn n s hI) (λr s₁ h₁=>?_) λ_ _ h'=>h'.elim)));cases r with
 | none=>exact rX h₁
 | some v =>
  refine zI (mM h₁ (λ_ s₀ h₀=>?_) λ_ _ h'=>h'.elim);refine zI (mM h₀ (λ_ s₂ h₂=>zI (mM h₂ (λok s₃ h₃=>?_) λ_ _ h'=>h'.elim)) λ_ _ h'=>h'.elim);cases ok with
  | false=>exact rX ⟨rfl,h₃⟩
  | true =>
   exact zI (zI (mM h₃ (λx s₄ h₄=>zI (mM h₄ (λ_ s₅ h₅=>rX (rX ⟨rfl,h₅⟩)) λ_ _ h'=>h'.elim)) λ_ _ h'=>h'.elim))
def fK(X:Cx)(N:List Str)(scope:Scope)(cl:List (Str×Addr))(pins:List (Addr×Obj))(s:Shared)(H:Hp)(fp:List Addr):Cx where
 prog:=X.prog
 w:=X.w
 K:=X.K
 mg:=X.mg
 base:=X.base
 A:=X.A
 N:=N
 s₀:=s
 H₀:=H
 env:=compEnvC scope cl s.heap.objs.size X.env
 outer:=X.stack
 stack:=X.stack
 ex:=fp
 fn:=λ_=>false
 calm:=X.calm
 pn:=X.pn++pins
 xe:=λ_ _=>False
def gw(nt:Nat)(fr:List Nat)(σ:St):St:=List.replicate nt none++fr.map λi=>(σ[i]?).getD none
structure gR(X:Cx)(N:List Str)(nt:Nat)(fr:List Nat)(scope:Scope)(cl:List (Str×Addr)):Prop where
 len:N.length=nt+fr.length
 free:∀(j:Nat)(i:Nat)(x:Str),fr[j]?=some i->N[nt+j]?=some x->X.N[i]?=some x/\(∃c,cl.lookup x=some c)/\(X.env.kindOf x=some .cell\/X.env.kindOf x=some .free) /\
  ((relabel scope X.env).names.lookup x=some .cell\/(relabel scope X.env).names.lookup x=some .free)
 cells:∀x c,cl.lookup x=some c->X.env.cells.lookup x=some c
 has:∀x,((relabel scope X.env).names.lookup x=some .cell\/(relabel scope X.env).names.lookup x=some .free)->∃c,cl.lookup x=some c
 kind:scope.kind=.function
theorem BK{X:Cx}{x:Str}(h:X.env.kindOf x=some .cell\/X.env.kindOf x=some .free):Vis X.env.scope x:=by
 rcases h with h|h
 ·exact .inr (.inl h)
 ·exact .inr (.inr h)
section
variable{X:Cx}{N:List Str}{nt:Nat}{fr:List Nat}{scope:Scope}{cl:List (Str×Addr)}{pins:List (Addr×Obj)}{σ:St}{H:Hp}{s:Shared}{fp:List Addr}
theorem Ry(I:Inv X pins σ H s)(cn:gR X N nt fr scope cl)(hf:∀b∈fp,ni X pins H b)(ho:∀b∈fp,b<s.heap.objs.size):(fK X N scope cl pins s H fp).Ok where
 mod:=I.mod
 kind:=cn.kind
 glob:=I.ok.glob
 blt:=I.ok.blt
 above:=uS _
 inj:=λx y c h1 h2=>I.ok.inj x y c (cn.cells x c h1) (cn.cells y c h2)
 has:=λx hx=>cn.has x hx
 cab:=λx c h _=>by cases (show false=true from h)
 hd:=I.ok.hd
 frames:=I.ok.frames
 stk:=.inl rfl
 exf:=λb hb=>⟨qV (ho b hb),λx c e=>(hf b hb).2.2.2.2.1 x c (cn.cells x c e)⟩
 bs:=I.bs
 bsz:=oB I.ok.bsz I.sz
 yW:=λb o e hb=>by
  rcases(hf b hb).2.2.2.1 with z|z
  ·exact I.ok.yW b o e z
  ·exact gN (qS (uB e) (oB I.ok.bsz z)) (gE _)
 Bq:=λb hb z=>(jI.mp (I.tO b z)).elim (λe=>(hf b hb).2.1 e) λe=>(hf b hb).2.2.1 e
 m_:=I.stack
 frf:=I.sG
theorem Lz{h4:Heap}{t':Nat}(I:Inv X pins σ H s)(cn:gR X N nt fr scope cl)(hf:∀b∈fp,ni X pins H b)(ho:∀b∈fp,b<s.heap.objs.size)
  (k:∀b o,s.heap.get? b=some o->h4.get? b=some o) (hns:∃m,h4.Ns s.heap.objs.size m):Inv (fK X N scope cl pins s H fp) [] (gw nt fr σ) H { s with heap:=h4,toks:=t' }:=by
 have ck:∀{c:Addr} {v:Option Value},s.heap.IsCell c v->h4.IsCell c v:=λ⟨o,e,d⟩=>⟨o,k _ o e,d⟩
 refine⟨Ry I cn hf ho,rfl,I.bare,Un.kept k,?_,λx c e=>?_,?_,λx c e=>?_,λp hp=>?_,I.hok.kept k,?_⟩
 ·obtain⟨m,hm⟩:=hns;refine⟨m,hm,λi x v e1 e2 _=>?_⟩;have e2:(gw nt fr σ)[i]?=some (some v):=e2;have e1:N[i]?=some x:=e1;unfold gw at e2;by_cases hi:i<nt
  ·rw[List.getElem?_append_left (by simpa using hi),List.getElem?_replicate,if_pos hi] at e2;cases e2
  ·obtain⟨j,rfl⟩:∃j,i=nt+j:=⟨i-nt,by lia⟩;rw[List.getElem?_append_right (by simp),List.length_replicate,Nat.add_sub_cancel_left,List.getElem?_map] at e2;cases hj:fr[j]? with
   | none=>rw[hj] at e2;cases e2
   | some i' =>
    rw[hj] at e2;have e2:(σ[i']?).getD none=some v:=nS e2;have e3:σ[i']?=some (some v):=by
     cases q:σ[i']? with
     | none=>rw[q] at e2;cases e2
     | some o=>rw[q] at e2;rw[show o=some v from e2]
    obtain⟨hN,⟨c,hc⟩,hk,hk'⟩:=cn.free j i' x hj e1;obtain⟨m0,_,hl⟩:=I.loc;obtain⟨u,r,l⟩:=hl i' x v hN e3 (BK hk);refine⟨u,r,.inr ⟨hk',c,hc,?_⟩⟩;rcases l with⟨hl',_⟩|⟨_,c',hc',hcell⟩
    ·rcases hk with z|z <;> (rw[hl'] at z;cases z)
    ·have hcc:=cn.cells x c hc;rw[hc'] at hcc;cases hcc;exact ck hcell
 ·obtain⟨v,hv⟩:=I.cell x c (cn.cells x c e);exact⟨v,ck hv⟩
 ·exact I.hok.fresh (uS _)
 ·exact I.iu x c (cn.cells x c e)
 ·have hp:p∈(X.pn++pins)++[]:=hp;rw[mP] at hp;obtain⟨e,n,ne,nf,d⟩:=I.pin p hp;exact⟨k p.1 p.2 e,n,qV (uB e),λz=>(jI.mp (I.tO p.1 z)).elim ne nf,d⟩
 ·show (gw nt fr σ).length=N.length;unfold gw;rw[cn.len,yY,zzB,wS]
theorem comp_back{H':Hp}{s1 s':Shared}{h':Heap}{σ':St}(I:Inv X pins σ H s)(hsz:s.heap.objs.size<=s1.heap.objs.size)(hos:s1.os=s.os){H1:Hp}(hH:Un (frs X.stack) fp H H1 s.heap s1.heap)
  (hf:∀b∈fp,ni X pins H b)
  (J:Inv (fK X N scope cl pins s1 H1 fp) [] σ' H' s') (sb:Heap.SameBut s1.heap.objs.size s'.heap h'):Inv X pins σ H' { s' with heap:=h' }:=by
 have u:Un (frs X.stack) fp H H' s.heap s'.heap:=hH.trans J.base;have lt:∀b o,s.heap.get? b=some o->b≠s1.heap.objs.size:=λb o e=>qV (qS (uB e) hsz)
 have kk:∀b o,b≠s1.heap.objs.size->s'.heap.get? b=some o->h'.get? b=some o:=λb o hb e=>sb.extBut b o hb e
 have u':Un (frs X.stack) fp H H' s.heap h':=⟨λb o e n hb hx=>kk b o (lt b o e) (u.keep b o e n hb hx),λb o e n hb hx=>let ⟨sl,z⟩:=u.slot b o e n hb hx;⟨sl,kk b _ (lt b o e) z⟩,u.free,
  λb o e hx=>let ⟨o',z⟩:=u.there b o e hx;⟨o',kk b o' (lt b o e) z⟩,u.tups,u.j6,u.j7⟩
 have nC:H' s1.heap.objs.size=none:=J.free;refine I.call' (s':={ s' with heap:=h' }) (ch:=fp) (J.os.trans hos) u' (λa o e=>?_) J.bare λb hb=>⟨(hf b hb).2.2.2.1,(hf b hb).2.1,(hf b hb).2.2.2.2.1,(hf b hb).2.2.2.2.2⟩
 refine(J.hok a o e).stay (λb v hb q=>kk b v ?_ q) (λ_ q=>q) λ_ _ q=>q
 rcases hb with z|z
 ·rintro rfl;rw[<- z,nC] at e;cases e
 ·rintro rfl;rw[nC] at z;cases z
end
def BL(X:Cx)(N:List Str)(nt:Nat)(scope:Scope):List Nat->Nat->Bool
 | [],_=>true
 | i::r,j=>(match N[nt+j]? with
  | some x=>decide (X.N[i]?=some x) && decide (scope.names.lookup x=some .free) && (decide (X.env.kindOf x=some .cell) || decide (X.env.kindOf x=some .free))
  | none=>false) && BL X N nt scope r (j+1)
theorem BP{X:Cx}{N:List Str}{nt:Nat}{scope:Scope}:∀{fr:List Nat} {k:Nat},BL X N nt scope fr k=true->∀(j i:Nat)(x:Str),fr[j]?=some i->N[nt+(k+j)]?=some x ->
  X.N[i]?=some x/\scope.names.lookup x=some .free/\(X.env.kindOf x=some .cell\/X.env.kindOf x=some .free)
 | [],_,_,j,i,x,e,_=>by simp at e
 | i0::r,k,h,j,i,x,e1,e2=>by
  unfold BL at h;rw[Bool.and_eq_true] at h;obtain⟨h1,h2⟩:=h;cases j with
  | zero =>
   have e1:i0=i:=by simpa using e1
   subst e1;rw[Nat.add_zero] at e2;rw[e2] at h1;simp only[Bool.and_eq_true,Bool.or_eq_true,decide_eq_true_eq] at h1;exact⟨h1.1.1,h1.1.2,h1.2⟩
  | succ j =>
   exact BP h2 j i x (by simpa using e1) (by rw[show nt+(k+1+j)=nt+(k+(j+1)) by lia];exact e2)
theorem iT{env:Env}:∀{names:List (Str×NameKind)} {x:Str} {k':NameKind},
  (names.map λ(n,k)=>if (k==NameKind.free && env.scope.kind==.function && env.kindOf n==some .cell) then (n,NameKind.cell) else (n,k)).lookup x=some k' ->
  ∃k,names.lookup x=some k/\(k=k'\/(k=.free/\k'=.cell))
 | [],_,_,h=>by simp at h
 | (n,k)::r,x,k',h=>by
  have h:List.lookup x ((if (k==NameKind.free && env.scope.kind==.function && env.kindOf n==some .cell)=true then (n,NameKind.cell) else (n,k))::r.map _)=some k':=h;cases hx:x==n with
  | true =>
   by_cases hc:(k==NameKind.free && env.scope.kind==.function && env.kindOf n==some .cell)=true
   ·rw[yB hc] at h;simp only[List.lookup_cons,hx] at h;have hk:k=.free:=by
     simp only[Bool.and_eq_true,beq_iff_eq] at hc;exact hc.1.1
    exact⟨k,by simp[List.lookup_cons,hx],.inr ⟨hk,(Option.some.inj h).symm⟩⟩
   ·rw[yT hc] at h;simp only[List.lookup_cons,hx] at h;exact⟨k,by simp[List.lookup_cons,hx],.inl (Option.some.inj h)⟩
  | false =>
   have h2:List.lookup x (r.map λ(n,k)=>if (k==NameKind.free && env.scope.kind==.function && env.kindOf n==some .cell) then (n,NameKind.cell) else (n,k))=some k':=by
    by_cases hc:(k==NameKind.free && env.scope.kind==.function && env.kindOf n==some .cell)=true
    ·rw[if_pos hc] at h;simpa only[List.lookup_cons,hx] using h
    ·rw[if_neg hc] at h;simpa only[List.lookup_cons,hx] using h
   obtain⟨k2,e2,o2⟩:=iT h2;exact⟨k2,by simp only[List.lookup_cons,hx];exact e2,o2⟩
theorem ou{env:Env}:∀{names:List (Str×NameKind)} {x:Str},names.lookup x=some .free ->
  (names.map λ(n,k)=>if (k==NameKind.free && env.scope.kind==.function && env.kindOf n==some .cell) then (n,NameKind.cell) else (n,k)).lookup x=some .cell \/
  (names.map λ(n,k)=>if (k==NameKind.free && env.scope.kind==.function && env.kindOf n==some .cell) then (n,NameKind.cell) else (n,k)).lookup x=some .free
 | [],_,h=>by simp at h
 | (n,k)::r,x,h=>by
  show List.lookup x ((if (k==NameKind.free && env.scope.kind==.function && env.kindOf n==some .cell)=true then (n,NameKind.cell) else (n,k))::r.map _)=some .cell\/List.lookup x ((if (k==NameKind.free && env.scope.kind==.function && env.kindOf n==some .cell)=true then (n,NameKind.cell) else (n,k))::r.map _)=some .free;cases hx:x==n with
  | true =>
   simp only[List.lookup_cons,hx] at h;cases h;by_cases hc:(NameKind.free==NameKind.free && env.scope.kind==.function && env.kindOf n==some .cell)=true
   ·rw[if_pos hc];left;simp[List.lookup_cons,hx]
   ·rw[if_neg hc];right;simp[List.lookup_cons,hx]
  | false =>
   simp only[List.lookup_cons,hx] at h;have ih:=ou (env:=env) h;by_cases hc:(k==NameKind.free && env.scope.kind==.function && env.kindOf n==some .cell)=true
   ·rw[if_pos hc];simpa only[List.lookup_cons,hx] using ih
   ·rw[if_neg hc];simpa only[List.lookup_cons,hx] using ih
theorem jN{env:Env}:∀{names:List (Str×NameKind)} {cl:List (Str×Addr)},fJ env names=some cl->∀x,names.lookup x=some .free->∃c,cl.lookup x=some c
 | [],_,_,x,e=>by simp at e
 | (n,k)::r,cl,h,x,e=>by
  unfold fJ at h;by_cases hk:k=.free
  ·rw[yB hk] at h;cases hc:env.cells.lookup n with
   | none=>rw[hc] at h;cases h
   | some c' =>
    rw[hc] at h;have h:(fJ env r).map (λcl=>cl++[(n,c')])=some cl:=h;cases hr:fJ env r with
    | none=>rw[hr] at h;cases h
    | some cl' =>
     rw[hr] at h;have h:cl'++[(n,c')]=cl:=nS h;subst h;rw[List.lookup_append];cases h2:cl'.lookup x with
     | some c2=>exact⟨c2,by simp⟩
     | none =>
      cases hx:x==n with
      | true=>exact⟨c',by simp[List.lookup_cons,hx]⟩
      | false =>
       simp only[List.lookup_cons,hx] at e;obtain⟨c3,e3⟩:=jN hr x e;rw[h2] at e3;cases e3
  ·rw[yT hk] at h;cases hx:x==n with
   | true =>
    simp only[List.lookup_cons,hx] at e;exact gN (nS e) hk
   | false =>
    simp only[List.lookup_cons,hx] at e;exact jN h x e
theorem gR.of{X:Cx}{N:List Str}{nt:Nat}{fr:List Nat}{scope:Scope}{cl:List (Str×Addr)}(hcl:fJ X.env scope.names=some cl)(hlen:N.length=nt+fr.length)(hB:BL X N nt scope fr 0=true)
  (hcell:∀y∈scope.names,y.2≠.cell) (hkind:scope.kind=.function):gR X N nt fr scope cl where
 len:=hlen
 free:=λj i x e1 e2=>by
  obtain⟨h1,h2,h3⟩:=BP hB j i x e1 (by rw[Nat.zero_add];exact e2);exact⟨h1,jN hcl x h2,h3,ou h2⟩
 cells:=jw hcl
 has:=λx hx=>by
  have:scope.names.lookup x=some .free:=by
   rcases hx with hx|hx
   ·obtain⟨k,e,o⟩:=iT (names:=scope.names) (env:=X.env) hx;rcases o with rfl|⟨rfl,_⟩
    ·exact gN rfl (hcell _ (PySem.mem_of_lookup e))
    ·exact e
   ·obtain⟨k,e,o⟩:=iT (names:=scope.names) (env:=X.env) hx;rcases o with rfl|⟨rfl,_⟩
    ·exact e
    ·exact e
  exact jN hcl x this
 kind:=hkind
def PIf(X:Cx)(ifs:List Expr)(t:TT):Prop :=
 ∀(pins:List (Addr×Obj)) (s:Shared) (σ:St) (H:Hp) (Q:Bool->Hp->Prop),Inv X pins σ H s->t σ H Q ->
  wpAny (model X.prog X.w) X.A (forIn ifs true λc r=>if r=true then do let ok <- isTrue c X.env (eval c X.env);pure (ForInStep.yield ok) else pure (ForInStep.yield r)) (TP X pins σ Q) X.xe s
def rE:TT:=λ_ H Q=>Q true H
theorem sJ{X:Cx}:PIf X [] rE:=λ_ _ _ H _ I h=>rX ⟨H,I,h⟩
theorem jO{X:Cx}{c:Expr}{t:TT}(h:PT X c t):PIf X [c] t:=by
 intro pins s σ H Q I hw;rw[List.forIn_cons];simp only[if_true];refine zI (zI (thn (h pins s σ H Q I hw) λb s1 q=>rX ?_));exact rX q
def oA(J:It)(nt:Nat)(fr:List Nat)(g:TG)(c:TT)(te:TE)(σ:St)(H1:Hp)(Q:VK)(acc:Addr):Prop :=
 ∃W:Nat->Nat->St->List V->Hp->Prop,(∃m,W 0 m (gw nt fr σ) [] (upd H1 acc (.lst [])))/\∀i m σ' ys H',W i m σ' ys H'->H' acc=some (.lst ys) /\
  ((J.stop i H'/\Q (.ref acc) H')\/(J.go i H'/\∀x H2,J.yld i H' x H2->g x σ' H2 λσ2 H3=>c σ2 H3 λb H4=>if b=true then
   te σ2 H4 λy H5=>ys.length<sizeLine/\H5 acc=some (.lst ys)/\∃m',m'<m/\W (i+1) m' σ2 (ys++[y]) (upd H5 acc (.lst (ys++[y])))
   else ∃m',m'<m/\W (i+1) m' σ2 ys H4))
def LC(wi:TI)(nt:Nat)(fr:List Nat)(g:TG)(c:TT)(te:TE):TE:=λσ H Q=>wi σ H λJ H1=>∀acc,H1 acc=none->oA J nt fr g c te σ H1 Q acc
section
variable{X:Cx}{target iter elt:Expr}{ifs:List Expr}{scope:Scope}{pos:Pos}{N:List Str}{nt:Nat}{fr:List Nat}{cl:List (Str×Addr)}{wi:TI}{g:TG}{c:TT}{te:TE}
theorem Rz{pins:List (Addr×Obj)}{σ:St}{H H1:Hp}{s:Shared}{fp:List Addr}(I:Inv X pins σ H s)(cn:gR X N nt fr scope cl)(hf:∀b∈fp,ni X pins H b)(ho:∀b∈fp,b<s.heap.objs.size){H':Hp}(hn:∀b∈fp,H' b=none) :
  ∀b∈fp,ni (fK X N scope cl pins s H1 fp) [] H' b:=λb hb =>
 ⟨hn b hb,qV (ho b hb),λz=>(jI.mp (I.tO b z)).elim (hf b hb).2.1 (hf b hb).2.2.1,.inl hb,λx c e=>(hf b hb).2.2.2.2.1 x c (cn.cells x c e),λp hp=>(hf b hb).2.2.2.2.2 p (by
  have hp:p∈(X.pn++pins)++[]:=hp;rw[mP] at hp;exact hp)⟩
theorem Fj{pins:List (Addr×Obj)}{σ:St}{s:Shared}{Q:VK}{itv:Value}{RR:Value->Addr->Result->Shared->Prop}{E:xB}
  (hc:X.calm=true) (cn:gR X N nt fr scope cl) (hcell:∀y∈scope.names,y.2≠.cell)
  (hg:∀pins s H fp,PG (fK X N scope cl pins s H fp) target g) (hif:∀pins s H fp,PIf (fK X N scope cl pins s H fp) ifs c) (he:∀pins s H fp,PE (fK X N scope cl pins s H fp) elt te)
  (h:PIE X pins σ target (λJ H1=>∀acc,H1 acc=none->oA J nt fr g c te σ H1 Q acc) itv s)
  (hRR:∀(acc C:Addr)(s':Shared)(H':Hp),(∃m,s'.heap.Ns C m)->Inv X pins σ H' s'->ni X pins H' C->Q (.ref acc) H'->RR (.ref acc) C (.ok .next) s') :
  wpAny (model X.prog X.w) X.A (newList []) (λacc s₃=>wpAny (model X.prog X.w) X.A (newFunctionEnv scope X.env.globals cl [] X.env.qual none .none (some X.env)) (λcenv s₄ =>
   codeAny (model X.prog X.w) X.A (.compStart (.ListComp elt [⟨target,iter,ifs,0⟩] scope pos) 0 itv acc { cenv with scope:=relabel scope X.env }) (RR acc cenv.locals) s₄) E s₃) E s:=by
 obtain⟨it,fp,tn,J,H2,e,I2,T,st2,f2,R⟩:=h;subst e;have fo:∀b∈fp,b<s.heap.objs.size:=λb hb=>let ⟨o,e,_⟩:=T.obj 0 _ st2 b hb;uB e
 refine wpAny_newObj_type (wpAny_newFunctionEnv hcell (by intro y hy;simp at hy) (λh₁ hns₁ hsb₁=>?_) cn.kind);dsimp only at hns₁ hsb₁ ⊢;have ha:H2 s.heap.objs.size=none:=I2.hok.fresh (uS _);have I3:Inv X pins σ (upd H2 s.heap.objs.size (.lst [])) { s with heap:=s.heap.push { cls:=.type "list", data:=.seq ([]:xF).toArray } } :=
  I2.laid (t':=s.toks) (λb u e=>uC _ e) (uS _) ⟨Nat.zero_le _,[],0,.nil,oQ _ rfl⟩
 generalize hs3:({ s with heap:=s.heap.push { cls:=.type "list", data:=.seq ([]:xF).toArray } }:Shared)=s3 at I3
 have hh3:s3.heap=s.heap.push { cls:=.type "list", data:=.seq ([]:xF).toArray }:=by rw[<- hs3]
 have hsz:s3.heap.objs.size=s.heap.objs.size+1:=by rw[hh3,Heap.size_push]
 have fne:∀b∈fp,b≠s.heap.objs.size:=λb hb=>qV (fo b hb)
 have f3:∀b∈fp,ni X pins (upd H2 s.heap.objs.size (.lst [])) b:=λb hb=>⟨by rw[aR (fne b hb)];exact(f2 b hb).1,(f2 b hb).2⟩
 have fo3:∀b∈fp,b<s3.heap.objs.size:=λb hb=>by rw[hsz];exact nV (fo b hb)
 have k3:∀b o,s3.heap.get? b=some o->h₁.get? b=some o:=λb o e=>hsb₁.extBut b o (by rw[<- hh3];exact qV (uB e)) (by rw[<- hh3];exact uC _ e)
 have hns:∃m,h₁.Ns s3.heap.objs.size m:=⟨_,by rw[hh3];exact hns₁⟩;have I4:Inv (fK X N scope cl pins s3 (upd H2 s.heap.objs.size (.lst [])) fp) [] (gw nt fr σ) (upd H2 s.heap.objs.size (.lst [])) { s3 with heap:=h₁,toks:=s3.toks+([]:List (Str×Value)).length }:=Lz I3 cn f3 fo3 k3 hns
 have st4:tn 0 h₁:=T.keep 0 _ _ st2 λb hb o e=>k3 b o (by rw[hh3];exact uC _ e)
 obtain⟨W,⟨m0,w0⟩,turn⟩:=R s.heap.objs.size ha;have stat:∀{H':Hp},(∀b∈fp,H' b=none)->∀b∈fp,ni (fK X N scope cl pins s3 (upd H2 s.heap.objs.size (.lst [])) fp) [] H' b:=λhn=>Rz I3 cn f3 fo3 hn
 have hH:Un (frs X.stack) fp H2 (upd H2 s.heap.objs.size (.lst [])) s.heap s3.heap:=by
  rw[hh3];exact Un.laid (λb u e=>uC _ e) (uS _) ha
 have back:∀{σ':St} {H':Hp} {s':Shared} {h':Heap},Inv (fK X N scope cl pins s3 (upd H2 s.heap.objs.size (.lst [])) fp) [] σ' H' s'->Heap.SameBut s3.heap.objs.size s'.heap h'->Inv X pins σ H' { s' with heap:=h' }:=λJ' sb =>
  comp_back I2 (by rw[hsz];exact Nat.le_succ _) (by rw[<- hs3]) hH f2 J' sb
 have loop:codeAny (model X.prog X.w) X.A (.compLoop (.ListComp elt [⟨target,iter,ifs,0⟩] scope pos) 0 (.ref it) (.ref s.heap.objs.size) (compEnvC scope cl s3.heap.objs.size X.env)) (RR (.ref s.heap.objs.size) s3.heap.objs.size)
   { s3 with heap:=h₁,toks:=s3.toks+([]:List (Str×Value)).length }:=by
  refine J1 (λn s'=>∃i σ' ys H',Inv (fK X N scope cl pins s3 (upd H2 s.heap.objs.size (.lst [])) fp) [] σ' H' s'/\tn i s'.heap/\(∀b∈fp,H' b=none)/\W i n σ' ys H') ?_ m0
   ⟨0,_,[],_,I4,st4,λb hb=>(f3 b hb).1,w0⟩
  rintro n s5 ⟨i,σ5,ys,H5,I5,st5,fr5,w5⟩;obtain⟨hacc,step⟩:=turn i n σ5 ys H5 w5;rcases step with⟨stop,q⟩|⟨go,step⟩
  ·refine thn (T.done (fK X N scope cl pins s3 (upd H2 s.heap.objs.size (.lst [])) fp) rfl rfl rfl hc i [] s5 σ5 H5 (λ_ _=>False) I5 (stat fr5) st5 stop) λr s6 ⟨hr,I6⟩=>?_
   subst hr;obtain⟨m,hm,_⟩:=I6.loc;exact hRR _ _ s6 H5 ⟨m,hm⟩ (back I6 (Heap.SameBut.refl _ _)) (I2.Rf (by rw[hsz];exact Nat.le_succ _) I6.free) q
  ·refine thn (T.item (fK X N scope cl pins s3 (upd H2 s.heap.objs.size (.lst [])) fp) rfl rfl rfl hc i [] s5 σ5 H5 (λ_ _=>False) I5 (stat fr5) st5 go) λr s6 ⟨u,hr,h6⟩=>?_
   subst hr;refine thn h6 λ_ s7 ⟨x,H7,I7,r7,y7,st7,fr7⟩=>?_
   have I7':=I7.pinned (stat fr7) (T.obj _ _ st7);refine thn (hg pins s3 _ fp _ s7 σ5 H7 x u _ I7' r7 (step x H7 y7)) λ_ s8 ⟨σ8,H8,I8,q8⟩=>?_
   have Hy:∀{σ':St} {H':Hp} {s':Shared},Inv (fK X N scope cl pins s3 (upd H2 s.heap.objs.size (.lst [])) fp) ([]++tW fp s7.heap) σ' H' s'->tn (i+1) s'.heap/\∀b∈fp,H' b=none:=λ{σ' H' s'} I' =>
    ⟨T.keep _ _ _ st7 λb hb o e=>(I'.pin (b,o) (rV _ (rV _ (jM hb e)))).1,λb hb=>by
     obtain⟨o,e,d⟩:=T.obj _ _ st7 b hb;exact(I'.pin (b,o) (rV _ (rV _ (jM hb e)))).2.1⟩
   refine thn (hif pins s3 _ fp _ s8 σ8 H8 _ I8 q8) λok s9 ⟨H9,I9,q9⟩=>?_
   cases ok with
   | false =>
    have q9:∃m',m'<n/\W (i+1) m' σ8 ys H9:=q9;obtain⟨m',hm,w9⟩:=q9;exact⟨m',hm,i+1,σ8,ys,H9,I9.kE,(Hy I9).1,(Hy I9).2,w9⟩
   | true =>
    rw[yB rfl];refine thn (he pins s3 _ fp _ s9 σ8 H9 _ I9 q9) λz s10 ⟨y,H10,I10,r10,hz,abk,m',hm,w10⟩=>?_
    refine thn (w6 _ s10 σ8 H10 (.ref s.heap.objs.size) [y] (.ref s.heap.objs.size) [z] (λv H'=>v=.non/\H'=upd H10 s.heap.objs.size (.lst (ys++[y]))) I10 rfl (.cons r10 .nil) ⟨_,ys,y,rfl,rfl,abk,hz,rfl,rfl⟩) λv s11 ⟨_,H11,I11,_,_,e11⟩=>?_
    subst e11;exact⟨m',hm,i+1,σ8,ys++[y],_,I11.kE,(Hy I11).1,(Hy I11).2,w10⟩
 have fin:codeAny (model X.prog X.w) X.A (.compStart (.ListComp elt [⟨target,iter,ifs,0⟩] scope pos) 0 (.ref it) (.ref s.heap.objs.size) (compEnvC scope cl s3.heap.objs.size X.env)) (RR (.ref s.heap.objs.size) s3.heap.objs.size)
   { s3 with heap:=h₁,toks:=s3.toks+([]:List (Str×Value)).length } :=
  codeAny_compStart_list loop (T.self _ 0 _ _ _ st4 loop)
 rw[<- hs3] at fin;exact fin
theorem gM(hi:PI X target iter wi)(hg:∀pins s H fp,PG (fK X N scope cl pins s H fp) target g)(hif:∀pins s H fp,PIf (fK X N scope cl pins s H fp) ifs c)(he:∀pins s H fp,PE (fK X N scope cl pins s H fp) elt te)
  (hc:X.calm=true:=by rfl) (hcl:fJ X.env scope.names=some cl:=by rfl) (hlen:N.length=nt+fr.length:=by rfl) (hB:BL X N nt scope fr 0=true:=by rfl)
  (hcell:∀y∈scope.names,y.2≠.cell:=by decide +kernel) (hkind:scope.kind=.function:=by rfl) (hnames:∀y∈scope.names,y.2=.local->scope.names.lookup y.1=some .local:=by decide +kernel)
  (hs:∀x,foldedSetIterable iter X.env x=pure x:=by intro _;rfl):PE X (.ListComp elt [⟨target,iter,ifs,0⟩] scope pos) (LC wi nt fr g c te):=by
 intro pins s σ H Q I h;rw[eval_ListComp];refine wpAny_comprehension_free (use:=none) rfl hs (wI hcl) hkind hnames (thn (hi pins s σ H _ I h) λxv s1 h1=>thn h1 λitv s2 h2=>?_);exact Fj hc (gR.of hcl hlen hB hcell hkind) hcell hg hif he h2 λacc C s' H' ⟨m,hm⟩ hI hF hq=>⟨m,hm,λh' sb=>⟨.ref acc,H',hI.turned (t':=s'.toks) (λb o hb e=>sb.extBut b o hb e) hF.1 hF.2.1 hF.2.2.2.1 hF.2.2.2.2.1 hF.2.2.2.2.2,rfl,hq⟩⟩
end
structure ItemsOf(J:It)(xs:List V)(L:Hp->Prop):Prop where
 go:∀i H,L H->i<xs.length->J.go i H
 yld:∀i H x H',L H->i<xs.length->J.yld i H x H'->H'=H/\xs[i]?=some x
 stop:∀H,L H->J.stop xs.length H
theorem jP{K:W.Frag}{a:Addr}{xs:List V}:ItemsOf (Itl K a) xs (λH=>SqL K H a xs) :=
 ⟨λi H h hi=>⟨xs,xs[i],h,by simp[hi]⟩,λi H x H' h hi y=>⟨y.1,y.2 xs h⟩,λH h=>⟨xs,h,Nat.le_refl _⟩⟩
def oE(xs:List V)(nt:Nat)(fvs:St)(Pv:Nat->List V->Hp->Prop):Nat->Nat->St->List V->Hp->Prop:=λi m σ' ys H' =>
 m=xs.length-i/\i<=xs.length/\Pv i ys H'/\∃tv:List (Option V),tv.length=nt/\σ'=tv++fvs
theorem oE.next{xs:List V}{nt:Nat}{fvs:St}{Pv:Nat->List V->Hp->Prop}{i:Nat}{tv:List (Option V)}{ys:List V}{H:Hp}(hi:i<xs.length)(p:Pv (i+1) ys H)(ht:tv.length=nt) :
  ∃m',m'<xs.length-i/\oE xs nt fvs Pv (i+1) m' (tv++fvs) ys H:=⟨xs.length-(i+1),by lia,rfl,hi,p,tv,ht,rfl⟩
theorem zx{J:It}{xs:List V}{L:Hp->Prop}{σ:St}{H1:Hp}{nt:Nat}{fr:List Nat}{g:TG}{c:TT}{te:TE}{Q:VK}{acc:Addr}(it:ItemsOf J xs L)(Pv:Nat->List V->Hp->Prop)
  (h0:Pv 0 [] (upd H1 acc (.lst []))) (hL:∀i ys H',i<=xs.length->Pv i ys H'->L H'/\H' acc=some (.lst ys))
  (turn:∀i x tv ys H',xs[i]?=some x->i<xs.length->Pv i ys H'->tv.length=nt->g x (tv++fr.map λi=>(σ[i]?).getD none) H' λσ2 H3 =>
   c σ2 H3 λb H4=>if b=true then te σ2 H4 λy H5=>ys.length<sizeLine/\H5 acc=some (.lst ys)/\∃m',m'<xs.length-i/\oE xs nt (fr.map λi=>(σ[i]?).getD none) Pv (i+1) m' σ2 (ys++[y]) (upd H5 acc (.lst (ys++[y])))
    else ∃m',m'<xs.length-i/\oE xs nt (fr.map λi=>(σ[i]?).getD none) Pv (i+1) m' σ2 ys H4)
  (hd:∀ys H',Pv xs.length ys H'->Q (.ref acc) H'):oA J nt fr g c te σ H1 Q acc:=by
 refine⟨oE xs nt (fr.map λi=>(σ[i]?).getD none) Pv,⟨xs.length,by simp,Nat.zero_le _,h0,List.replicate nt none,by simp,rfl⟩,?_⟩;rintro i m σ' ys H' ⟨rfl,hi,p,tv,htv,rfl⟩;obtain⟨l,ha⟩:=hL i ys H' hi p;refine⟨ha,?_⟩;by_cases hlt:i<xs.length
 ·refine .inr ⟨it.go i H' l hlt,λx H2 y=>?_⟩;obtain⟨rfl,hx⟩:=it.yld i H' x H2 l hlt y;exact turn i x tv ys H2 hx hlt p htv
 ·have e:i=xs.length:=by lia
  subst e;exact .inl ⟨it.stop H' l,hd ys H' p⟩
end L2
namespace L2
open PySem PySem.Spec PyProof.Rows PySem.SeqAt
inductive Dt where
 | non|bl (b:Bool)|int (i:Int)|str (x:Str)|lst (xs:List Dt)|tup (xs:List Dt)
mutual
def Rep(K:W.Frag)(H:Hp):Dt->V->Prop
 | .non,v=>v=.non
 | .bl b,v=>v=.bl b
 | .int i,v=>v=.int i
 | .str x,v=>v=.str x
 | .lst ds,v=>∃p xs,v=.ref p/\SqL K H p xs/\dG K H ds xs
 | .tup ds,v=>∃p xs,v=.ref p/\SqT K H p xs/\dG K H ds xs
def dG(K:W.Frag)(H:Hp):List Dt->List V->Prop
 | [],xs=>xs=[]
 | d::ds,xs=>∃x r,xs=x::r/\Rep K H d x/\dG K H ds r
end
mutual
def jD:Dt->Dt->Bool
 | .non,.non=>true
 | .bl a,.bl b=>a==b
 | .bl a,.int b=>(if a then 1 else 0)==b
 | .int a,.bl b=>a==(if b then 1 else 0)
 | .int a,.int b=>a==b
 | .str a,.str b=>a==b
 | .lst xs,.lst ys=>iC xs ys
 | .tup xs,.tup ys=>iC xs ys
 | _,_=>false
def iC:List Dt->List Dt->Bool
 | [],[]=>true
 | x::xs,y::ys=>jD x y && iC xs ys
 | _,_=>false
end
mutual
def iG:Dt->Nat
 | .lst xs=>iD xs+1
 | .tup xs=>iD xs+1
 | _=>0
def iD:List Dt->Nat
 | []=>0
 | x::xs=>max (iG x) (iD xs)
end
theorem dG.length{K:W.Frag}{H:Hp}:∀{ds:List Dt} {xs:List V},dG K H ds xs->ds.length=xs.length
 | [],xs,h=>by rw[show xs=[] from by simpa[dG] using h];rfl
 | d::ds,xs,h=>by
  obtain⟨x,r,rfl,_,h2⟩:∃x r,xs=x::r/\Rep K H d x/\dG K H ds r:=by simpa[dG] using h
  simp[dG.length h2]
theorem dG.get{K:W.Frag}{H:Hp}:∀{ds:List Dt} {xs:List V} {j:Nat} {d:Dt},dG K H ds xs->ds[j]?=some d->∃x,xs[j]?=some x/\Rep K H d x
 | [],_,_,_,_,e=>by simp at e
 | d0::ds,xs,j,d,h,e=>by
  obtain⟨x,r,rfl,h1,h2⟩:∃x r,xs=x::r/\Rep K H d0 x/\dG K H ds r:=by simpa[dG] using h
  cases j with
  | zero =>
   have e:d0=d:=by simpa using e
   subst e;exact⟨x,rfl,h1⟩
  | succ j =>
   obtain⟨y,e1,e2⟩:=dG.get (j:=j) h2 (by simpa using e);exact⟨y,by simpa using e1,e2⟩
theorem xr:∀{ds:List Dt} {j:Nat} {d:Dt},ds[j]?=some d->iG d<=iD ds
 | [],_,_,e=>by simp at e
 | d0::ds,j,d,e=>by
  cases j with
  | zero =>
   have e:d0=d:=by simpa using e
   subst e;simp only[iD];lia
  | succ j =>
   have:=xr (ds:=ds) (j:=j) (d:=d) (by simpa using e);simp only[iD];lia
theorem qC:∀(ds es:List Dt),ds.length=es.length->((List.range ds.length).all λj=>jD (ds.getD j .non) (es.getD j .non))=iC ds es
 | [],[],_=>rfl
 | [],_::_,h=>by simp at h
 | _::_,[],h=>by simp at h
 | d::ds,e::es,h=>by
  have h:ds.length=es.length:=by simpa using h
  rw[zzD,List.range_succ_eq_map,List.all_cons,List.all_map];have:=qC ds es h;simp only[iC];rw[<- this]
  rfl
theorem jQ:∀(ds es:List Dt),ds.length≠es.length->iC ds es=false
 | [],[],h=>by simp at h
 | [],_::_,_=>rfl
 | _::_,[],_=>rfl
 | d::ds,e::es,h=>by
  have h:ds.length≠es.length:=λz=>h (by simp[z])
  simp only[iC,jQ ds es h,Bool.and_false]
mutual
theorem xu:∀d:Dt,jD d d=true
 | .non=>rfl
 | .bl b=>by simp[jD]
 | .int i=>by simp[jD]
 | .str x=>by simp[jD]
 | .lst xs=>by simp only[jD];exact iU xs
 | .tup xs=>by simp only[jD];exact iU xs
theorem iU:∀ds:List Dt,iC ds ds=true
 | []=>rfl
 | d::ds=>by simp only[iC,xu d,iU ds,Bool.and_true]
end
section
variable{X:Cx}{pins:List (Addr×Obj)}{σ:St}{H:Hp}{s:Shared}
theorem rG{a:Addr}{xs ys:List V}(I:Inv X pins σ H s)(h:SqL X.K H a xs)(h':SqT X.K H a ys):False:=by
 obtain⟨its,_,pl,_⟩:=I.list h;obtain⟨its',_,pt,_⟩:=I.tuple h';obtain⟨o,n,e,c,_,_⟩:=pl;obtain⟨o',e',c',_⟩:=pt;rw[e] at e';cases e';rw[c] at c';exact gN c' (by decide)
mutual
theorem RB(I:Inv X pins σ H s):∀(d d':Dt)(v:V),Rep X.K H d v->Rep X.K H d' v->d=d'
 | .non,d',v,h,h'=>by
  have h:v=.non:=by simpa[Rep] using h
  subst h;cases d' <;> simp[Rep] at h' <;> rfl
 | .bl b,d',v,h,h'=>by
  have h:v=.bl b:=by simpa[Rep] using h
  subst h;cases d' <;> simp[Rep] at h'
  rw[h']
 | .int b,d',v,h,h'=>by
  have h:v=.int b:=by simpa[Rep] using h
  subst h;cases d' <;> simp[Rep] at h'
  rw[h']
 | .str b,d',v,h,h'=>by
  have h:v=.str b:=by simpa[Rep] using h
  subst h;cases d' <;> simp[Rep] at h'
  rw[h']
 | .lst ds,d',v,h,h'=>by
  obtain⟨p,xs,rfl,hq,hr⟩:∃p xs,v=.ref p/\SqL X.K H p xs/\dG X.K H ds xs:=by simpa only[Rep] using h
  cases d' with
  | lst es =>
   obtain⟨p',ys,e,hq',hr'⟩:∃p' ys,V.ref p=.ref p'/\SqL X.K H p' ys/\dG X.K H es ys:=by simpa only[Rep] using h'
   cases e;rw[I.tU hq' hq] at hr';rw[kW I ds es xs hr hr']
  | tup es =>
   obtain⟨p',ys,e,hq',hr'⟩:∃p' ys,V.ref p=.ref p'/\SqT X.K H p' ys/\dG X.K H es ys:=by simpa only[Rep] using h'
   cases e;exact(rG I hq hq').elim
  | _=>simp[Rep] at h'
 | .tup ds,d',v,h,h'=>by
  obtain⟨p,xs,rfl,hq,hr⟩:∃p xs,v=.ref p/\SqT X.K H p xs/\dG X.K H ds xs:=by simpa only[Rep] using h
  cases d' with
  | tup es =>
   obtain⟨p',ys,e,hq',hr'⟩:∃p' ys,V.ref p=.ref p'/\SqT X.K H p' ys/\dG X.K H es ys:=by simpa only[Rep] using h'
   cases e;rw[I.wN hq' hq] at hr';rw[kW I ds es xs hr hr']
  | lst es =>
   obtain⟨p',ys,e,hq',hr'⟩:∃p' ys,V.ref p=.ref p'/\SqL X.K H p' ys/\dG X.K H es ys:=by simpa only[Rep] using h'
   cases e;exact(rG I hq' hq).elim
  | _=>simp[Rep] at h'
theorem kW(I:Inv X pins σ H s):∀(ds es:List Dt)(xs:List V),dG X.K H ds xs->dG X.K H es xs->ds=es
 | [],es,xs,h,h'=>by
  have h:xs=[]:=by simpa[dG] using h
  subst h;cases es with
  | nil=>rfl
  | cons e es=>simp[dG] at h'
 | d::ds,es,xs,h,h'=>by
  obtain⟨x,r,rfl,h1,h2⟩:∃x r,xs=x::r/\Rep X.K H d x/\dG X.K H ds r:=by simpa only[dG] using h
  cases es with
  | nil=>simp[dG] at h'
  | cons e es =>
   obtain⟨x',r',e',h1',h2'⟩:∃x' r',x::r=x'::r'/\Rep X.K H e x'/\dG X.K H es r':=by simpa only[dG] using h'
   cases e';rw[RB I d e x h1 h1',kW I ds es r h2 h2']
end
structure Eq3(A:Around)(s:Shared)(u v:Value)(b:Bool):Prop where
 eq:EqAt A s u v b
 rc:RcAt A s u v b
 ne:RcNeAt A s u v (!b)
theorem oF(I:Inv X pins σ H s){n:Nat}{A:Around}(ih:∀(d d':Dt)(x y:V)(u v:Value),iG d<=n->Rep X.K H d x->Rep X.K H d' y->RelV x u->RelV y v->Eq3 A.in1 s u v (jD d d'))
  {ds es:List Dt} {xs ys:List V} {us vs:xF} (hd:iD ds<=n) (hx:dG X.K H ds xs) (hy:dG X.K H es ys) (ru:Vals xs us) (rv:Vals ys vs) :
  ∀j (h1:j<us.toArray.size) (h2:j<vs.toArray.size),EqAt A.in1 s us.toArray[j] vs.toArray[j] (jD (ds.getD j .non) (es.getD j .non)):=by
 intro j h1 h2;have l1:j<ds.length:=by rw[hx.length,ru.length];simpa using h1
 have l2:j<es.length:=by rw[hy.length,rv.length];simpa using h2
 have e1:ds[j]?=some ds[j]:=by simp[l1]
 have e2:es[j]?=some es[j]:=by simp[l2]
 obtain⟨x,ex,rx⟩:=hx.get e1;obtain⟨y,ey,ry⟩:=hy.get e2;obtain⟨u,eu,qu⟩:=ru.get ex;obtain⟨v,ev,qv⟩:=rv.get ey;have h1':j<us.length:=by simpa using h1
 have h2':j<vs.length:=by simpa using h2
 have z1:us.toArray[j]=u:=by
  have:us[j]?=some us[j]:=by simp[h1']
  rw[this] at eu;simpa using eu
 have z2:vs.toArray[j]=v:=by
  have:vs[j]?=some vs[j]:=by simp[h2']
  rw[this] at ev;simpa using ev
 rw[z1,z2];have g1:ds.getD j .non=ds[j]:=by simp[List.getD,l1]
 have g2:es.getD j .non=es[j]:=by simp[List.getD,l2]
 rw[g1,g2];exact(ih _ _ x y u v (oB (xr e1) hd) rx ry qu qv).eq
theorem J2(I:Inv X pins σ H s){n:Nat}{A:Around}(hu:A.units<cLine)(ih:∀(d d':Dt)(x y:V)(u v:Value),iG d<=n->Rep X.K H d x->Rep X.K H d' y->RelV x u->RelV y v->Eq3 A.in1 s u v (jD d d'))
  {ds es:List Dt} {p q:Addr} (hd:iD ds<=n) (hp:Rep X.K H (.lst ds) (.ref p)) (hq:Rep X.K H (.lst es) (.ref q)):Eq3 A s (.ref p) (.ref q) (iC ds es):=by
 obtain⟨p',xs,e,lx,hx⟩:∃p' xs,V.ref p=.ref p'/\SqL X.K H p' xs/\dG X.K H ds xs:=by simpa only[Rep] using hp
 cases e;obtain⟨q',ys,e,ly,hy⟩:∃q' ys,V.ref q=.ref q'/\SqL X.K H q' ys/\dG X.K H es ys:=by simpa only[Rep] using hq
 cases e;obtain⟨us,ru,pu,_⟩:=I.list lx;obtain⟨vs,rv,pv',_⟩:=I.list ly;have both:RcAt A s (.ref p) (.ref q) (iC ds es)/\RcNeAt A s (.ref p) (.ref q) (!iC ds es):=by
  by_cases hl:ds.length=es.length
  ·have hsz:us.toArray.size=vs.toArray.size:=by simp[<- ru.length,<- rv.length,<- hx.length,<- hy.length,hl]
   have hz:us.toArray.size=ds.length:=by simp[<- ru.length,<- hx.length]
   have a:=RcAt.lists pu.isList pv'.isList hsz hu (oF I ih hd hx hy ru rv);have b:=RcNeAt.lists pu.isList pv'.isList hsz hu (oF I ih hd hx hy ru rv);rw[hz,qC ds es hl] at a b;exact⟨a,b⟩
  ·have hsz:(us.toArray.size != vs.toArray.size)=true:=by simp[<- ru.length,<- rv.length,<- hx.length,<- hy.length,hl]
   rw[jQ ds es hl];exact⟨RcAt.lists_lengths pu.isList pv'.isList hsz hu,RcNeAt.lists_lengths pu.isList pv'.isList hsz hu⟩
 refine⟨?_,both.1,both.2⟩;by_cases hpq:p=q
 ·subst hpq;have:ds=es:=by
   rw[I.tU ly lx] at hy;exact kW I ds es xs hx hy
  subst this;rw[iU];exact EqAt.same _
 ·exact EqAt.of_refs hpq both.1
theorem LK(I:Inv X pins σ H s){n:Nat}{A:Around}(hu:A.units<cLine)(ih:∀(d d':Dt)(x y:V)(u v:Value),iG d<=n->Rep X.K H d x->Rep X.K H d' y->RelV x u->RelV y v->Eq3 A.in1 s u v (jD d d'))
  {ds es:List Dt} {p q:Addr} (hd:iD ds<=n) (hp:Rep X.K H (.tup ds) (.ref p)) (hq:Rep X.K H (.tup es) (.ref q)):Eq3 A s (.ref p) (.ref q) (iC ds es):=by
 obtain⟨p',xs,e,lx,hx⟩:∃p' xs,V.ref p=.ref p'/\SqT X.K H p' xs/\dG X.K H ds xs:=by simpa only[Rep] using hp
 cases e;obtain⟨q',ys,e,ly,hy⟩:∃q' ys,V.ref q=.ref q'/\SqT X.K H q' ys/\dG X.K H es ys:=by simpa only[Rep] using hq
 cases e;obtain⟨us,ru,pu,_⟩:=I.tuple lx;obtain⟨vs,rv,pv',_⟩:=I.tuple ly;have hz:us.toArray.size=ds.length:=by simp[<- ru.length,<- hx.length]
 have hz':vs.toArray.size=es.length:=by simp[<- rv.length,<- hy.length]
 have key:((List.range (min us.toArray.size vs.toArray.size)).all (λj=>jD (ds.getD j .non) (es.getD j .non)) && us.toArray.size==vs.toArray.size)=iC ds es:=by
  rw[hz,hz'];by_cases hl:ds.length=es.length
  ·rw[<- hl,Nat.min_self,qC ds es hl];simp
  ·rw[jQ ds es hl];simp[hl]
 have a:=RcAt.tuples pu pv' hu (oF I ih hd hx hy ru rv);have b:=RcNeAt.tuples pu pv' hu (oF I ih hd hx hy ru rv);rw[key] at a b;refine⟨?_,a,b⟩;by_cases hpq:p=q
 ·subst hpq;have:ds=es:=by
   rw[I.wN ly lx] at hy;exact kW I ds es xs hx hy
  subst this;rw[iU];exact EqAt.same _
 ·exact EqAt.of_refs hpq a
end
section
variable{X:Cx}{pins:List (Addr×Obj)}{σ:St}{H:Hp}{s:Shared}
theorem gU{ds:List Dt}{x:V}(h:Rep X.K H (.lst ds) x):∃p xs,x=.ref p/\SqL X.K H p xs:=by
 obtain⟨p,xs,e,l,_⟩:∃p xs,x=.ref p/\SqL X.K H p xs/\dG X.K H ds xs:=by simpa only[Rep] using h
 exact⟨p,xs,e,l⟩
theorem gW{ds:List Dt}{x:V}(h:Rep X.K H (.tup ds) x):∃p xs,x=.ref p/\SqT X.K H p xs:=by
 obtain⟨p,xs,e,l,_⟩:∃p xs,x=.ref p/\SqT X.K H p xs/\dG X.K H ds xs:=by simpa only[Rep] using h
 exact⟨p,xs,e,l⟩
theorem BR(I:Inv X pins σ H s){n:Nat}{A:Around}(ih:∀(d d':Dt)(x y:V)(u v:Value),iG d<n->Rep X.K H d x->Rep X.K H d' y->RelV x u->RelV y v->Eq3 A.in1 s u v (jD d d'))
  {d d':Dt} {x y:V} {u v:Value} (hu:A.units+n<cLine) (hd:iG d<=n) (hx:Rep X.K H d x) (hy:Rep X.K H d' y) (rx:RelV x u) (ry:RelV y v):Eq3 A s u v (jD d d'):=by
 have hu0:A.units<cLine:=by lia
 cases d with
 | non =>
  have e:x=V.non:=by simpa[Rep] using hx
  subst e;cases rx;cases d' with
  | non =>
   have e:y=V.non:=by simpa[Rep] using hy
   subst e;cases ry;exact⟨(EqAt.same _),RcAt.none_none , RcNeAt.none_none ⟩
  | bl b =>
   have e:y=V.bl b:=by simpa[Rep] using hy
   subst e;cases ry;exact⟨(EqAt.none_bool b),RcAt.none_bool b,RcNeAt.none_bool b⟩
  | int b =>
   have e:y=V.int b:=by simpa[Rep] using hy
   subst e;obtain⟨u,rfl⟩:=ry;exact⟨(EqAt.none_int b u),RcAt.none_int b u,RcNeAt.none_int b u⟩
  | str b =>
   have e:y=V.str b:=by simpa[Rep] using hy
   subst e;obtain⟨u,rfl⟩:=ry;exact⟨(EqAt.none_str b u),RcAt.none_str b u,RcNeAt.none_str b u⟩
  | lst b =>
   obtain⟨pW,xsW,rfl,lW⟩:=gU hy;cases ry;obtain⟨itW,_,plW,_⟩:=I.list lW;exact⟨EqAt.none_list  plW.isList hu0,RcAt.none_list  plW.isList hu0,RcNeAt.none_list  plW.isList hu0⟩
  | tup b =>
   obtain⟨pW,xsW,rfl,lW⟩:=gW hy;cases ry;obtain⟨itW,_,plW,_⟩:=I.tuple lW;exact⟨EqAt.none_tuple  plW hu0,RcAt.none_tuple  plW hu0,RcNeAt.none_tuple  plW hu0⟩
 | bl a =>
  have e:x=V.bl a:=by simpa[Rep] using hx
  subst e;cases rx;cases d' with
  | non =>
   have e:y=V.non:=by simpa[Rep] using hy
   subst e;cases ry;exact⟨(EqAt.bool_none a),RcAt.bool_none a,RcNeAt.bool_none a⟩
  | bl b =>
   have e:y=V.bl b:=by simpa[Rep] using hy
   subst e;cases ry;exact⟨(EqAt.bool_bool a b),RcAt.bool_bool a b,RcNeAt.bool_bool a b⟩
  | int b =>
   have e:y=V.int b:=by simpa[Rep] using hy
   subst e;obtain⟨u,rfl⟩:=ry;exact⟨(EqAt.bool_int a b u),RcAt.bool_int a b u,RcNeAt.bool_int a b u⟩
  | str b =>
   have e:y=V.str b:=by simpa[Rep] using hy
   subst e;obtain⟨u,rfl⟩:=ry;exact⟨(EqAt.bool_str a b u),RcAt.bool_str a b u,RcNeAt.bool_str a b u⟩
  | lst b =>
   obtain⟨pW,xsW,rfl,lW⟩:=gU hy;cases ry;obtain⟨itW,_,plW,_⟩:=I.list lW;exact⟨EqAt.bool_list a plW.isList hu0,RcAt.bool_list a plW.isList hu0,RcNeAt.bool_list a plW.isList hu0⟩
  | tup b =>
   obtain⟨pW,xsW,rfl,lW⟩:=gW hy;cases ry;obtain⟨itW,_,plW,_⟩:=I.tuple lW;exact⟨EqAt.bool_tuple a plW hu0,RcAt.bool_tuple a plW hu0,RcNeAt.bool_tuple a plW hu0⟩
 | int a =>
  have e:x=V.int a:=by simpa[Rep] using hx
  subst e;obtain⟨t,rfl⟩:=rx;cases d' with
  | non =>
   have e:y=V.non:=by simpa[Rep] using hy
   subst e;cases ry;exact⟨(EqAt.int_none a t),RcAt.int_none a t,RcNeAt.int_none a t⟩
  | bl b =>
   have e:y=V.bl b:=by simpa[Rep] using hy
   subst e;cases ry;exact⟨(EqAt.int_bool a t b),RcAt.int_bool a t b,RcNeAt.int_bool a t b⟩
  | int b =>
   have e:y=V.int b:=by simpa[Rep] using hy
   subst e;obtain⟨u,rfl⟩:=ry;exact⟨(EqAt.int_int a t b u),RcAt.int_int a t b u,RcNeAt.int_int a t b u⟩
  | str b =>
   have e:y=V.str b:=by simpa[Rep] using hy
   subst e;obtain⟨u,rfl⟩:=ry;exact⟨(EqAt.int_str a t b u),RcAt.int_str a t b u,RcNeAt.int_str a t b u⟩
  | lst b =>
   obtain⟨pW,xsW,rfl,lW⟩:=gU hy;cases ry;obtain⟨itW,_,plW,_⟩:=I.list lW;exact⟨EqAt.int_list a t plW.isList hu0,RcAt.int_list a t plW.isList hu0,RcNeAt.int_list a t plW.isList hu0⟩
  | tup b =>
   obtain⟨pW,xsW,rfl,lW⟩:=gW hy;cases ry;obtain⟨itW,_,plW,_⟩:=I.tuple lW;exact⟨EqAt.int_tuple a t plW hu0,RcAt.int_tuple a t plW hu0,RcNeAt.int_tuple a t plW hu0⟩
 | str a =>
  have e:x=V.str a:=by simpa[Rep] using hx
  subst e;obtain⟨t,rfl⟩:=rx;cases d' with
  | non =>
   have e:y=V.non:=by simpa[Rep] using hy
   subst e;cases ry;exact⟨(EqAt.str_none a t),RcAt.str_none a t,RcNeAt.str_none a t⟩
  | bl b =>
   have e:y=V.bl b:=by simpa[Rep] using hy
   subst e;cases ry;exact⟨(EqAt.str_bool a t b),RcAt.str_bool a t b,RcNeAt.str_bool a t b⟩
  | int b =>
   have e:y=V.int b:=by simpa[Rep] using hy
   subst e;obtain⟨u,rfl⟩:=ry;exact⟨(EqAt.str_int a t b u),RcAt.str_int a t b u,RcNeAt.str_int a t b u⟩
  | str b =>
   have e:y=V.str b:=by simpa[Rep] using hy
   subst e;obtain⟨u,rfl⟩:=ry;exact⟨(EqAt.str_str a t b u),RcAt.str_str a t b u,RcNeAt.str_str a t b u⟩
  | lst b =>
   obtain⟨pW,xsW,rfl,lW⟩:=gU hy;cases ry;obtain⟨itW,_,plW,_⟩:=I.list lW;exact⟨EqAt.str_list a t plW.isList hu0,RcAt.str_list a t plW.isList hu0,RcNeAt.str_list a t plW.isList hu0⟩
  | tup b =>
   obtain⟨pW,xsW,rfl,lW⟩:=gW hy;cases ry;obtain⟨itW,_,plW,_⟩:=I.tuple lW;exact⟨EqAt.str_tuple a t plW hu0,RcAt.str_tuple a t plW hu0,RcNeAt.str_tuple a t plW hu0⟩
 | lst a =>
  obtain⟨pU,xsU,rfl,lU⟩:=gU hx;cases rx;obtain⟨itU,_,plU,_⟩:=I.list lU;cases d' with
  | non =>
   have e:y=V.non:=by simpa[Rep] using hy
   subst e;cases ry;exact⟨EqAt.list_none  plU.isList hu0,RcAt.list_none  plU.isList hu0,RcNeAt.list_none  plU.isList hu0⟩
  | bl b =>
   have e:y=V.bl b:=by simpa[Rep] using hy
   subst e;cases ry;exact⟨EqAt.list_bool b plU.isList hu0,RcAt.list_bool b plU.isList hu0,RcNeAt.list_bool b plU.isList hu0⟩
  | int b =>
   have e:y=V.int b:=by simpa[Rep] using hy
   subst e;obtain⟨u,rfl⟩:=ry;exact⟨EqAt.list_int b u plU.isList hu0,RcAt.list_int b u plU.isList hu0,RcNeAt.list_int b u plU.isList hu0⟩
  | str b =>
   have e:y=V.str b:=by simpa[Rep] using hy
   subst e;obtain⟨u,rfl⟩:=ry;exact⟨EqAt.list_str b u plU.isList hu0,RcAt.list_str b u plU.isList hu0,RcNeAt.list_str b u plU.isList hu0⟩
  | lst b =>
   obtain⟨pW,xsW,rfl,lW⟩:=gU hy;cases ry;obtain⟨itW,_,plW,_⟩:=I.list lW;have hd:iD a+1<=n:=by simpa only[iG] using hd
   exact J2 I (n:=n-1) hu0 (λd d' x y u v h=>ih d d' x y u v (by lia)) (by lia) hx hy
  | tup b =>
   obtain⟨pW,xsW,rfl,lW⟩:=gW hy;cases ry;obtain⟨itW,_,plW,_⟩:=I.tuple lW;exact⟨EqAt.list_tuple plU.isList plW hu0,RcAt.list_tuple plU.isList plW hu0,RcNeAt.list_tuple plU.isList plW hu0⟩
 | tup a =>
  obtain⟨pU,xsU,rfl,lU⟩:=gW hx;cases rx;obtain⟨itU,_,plU,_⟩:=I.tuple lU;cases d' with
  | non =>
   have e:y=V.non:=by simpa[Rep] using hy
   subst e;cases ry;exact⟨EqAt.tuple_none  plU hu0,RcAt.tuple_none  plU hu0,RcNeAt.tuple_none  plU hu0⟩
  | bl b =>
   have e:y=V.bl b:=by simpa[Rep] using hy
   subst e;cases ry;exact⟨EqAt.tuple_bool b plU hu0,RcAt.tuple_bool b plU hu0,RcNeAt.tuple_bool b plU hu0⟩
  | int b =>
   have e:y=V.int b:=by simpa[Rep] using hy
   subst e;obtain⟨u,rfl⟩:=ry;exact⟨EqAt.tuple_int b u plU hu0,RcAt.tuple_int b u plU hu0,RcNeAt.tuple_int b u plU hu0⟩
  | str b =>
   have e:y=V.str b:=by simpa[Rep] using hy
   subst e;obtain⟨u,rfl⟩:=ry;exact⟨EqAt.tuple_str b u plU hu0,RcAt.tuple_str b u plU hu0,RcNeAt.tuple_str b u plU hu0⟩
  | lst b =>
   obtain⟨pW,xsW,rfl,lW⟩:=gU hy;cases ry;obtain⟨itW,_,plW,_⟩:=I.list lW;exact⟨EqAt.tuple_list plU plW.isList hu0,RcAt.tuple_list plU plW.isList hu0,RcNeAt.tuple_list plU plW.isList hu0⟩
  | tup b =>
   obtain⟨pW,xsW,rfl,lW⟩:=gW hy;cases ry;obtain⟨itW,_,plW,_⟩:=I.tuple lW;have hd:iD a+1<=n:=by simpa only[iG] using hd
   exact LK I (n:=n-1) hu0 (λd d' x y u v h=>ih d d' x y u v (by lia)) (by lia) hx hy
end
section
variable{X:Cx}{pins:List (Addr×Obj)}{σ:St}{H:Hp}{s:Shared}
theorem eq3(I:Inv X pins σ H s):∀(n:Nat)(A:Around)(d d':Dt)(x y:V)(u v:Value),A.units+n<cLine->iG d<=n->Rep X.K H d x->Rep X.K H d' y->RelV x u->RelV y v->Eq3 A s u v (jD d d'):=by
 intro n
 induction n with
 | zero=>exact λA d d' x y u v hu hd hx hy rx ry=>BR I (n:=0) (λ_ _ _ _ _ _ h=>gN h (Nat.not_lt_zero _)) hu hd hx hy rx ry
 | succ n ih=>exact λA d d' x y u v hu hd hx hy rx ry=>BR I (n:=n+1) (λd d' x y u v h hx hy rx ry=>ih A.in1 d d' x y u v (by show A.units+1+n<cLine;lia) (Nat.le_of_lt_succ h) hx hy rx ry) hu hd hx hy rx ry
end
section
variable{X:Cx}
theorem RD{k:Nat}(hr:Room k X.A):OpR X (compareOp .NotEq) (λx y H Q=>∃d d',Rep X.K H d x/\Rep X.K H d' y/\iG d<=100/\Q (.bl (!jD d d')) H):=by
 intro pins s σ H x y v u Q I rx ry h;obtain⟨d,d',h1,h2,hd,q⟩:=h;exact(eq3 I 100 X.A d d' x y v u (by have:=hr.un;lia) hd h1 h2 rx ry).ne X.prog X.w X.xe _ ⟨.bl _,H,I,rfl,q⟩
end
end L2
namespace L2
open PySem PySem.Spec PyProof.Rows
def isW:V->Bool
 | .int _=>true
 | _=>false
def Ye:V->Bool
 | .int _=>true
 | .bl _=>true
 | _=>false
def isB:V->Bool
 | .bl _=>true
 | _=>false
theorem Vg(x:V):isW x=(Ye x && !isB x):=by cases x <;> rfl
section
variable{K:W.Frag}{H H':Hp}{x:V}{n:String}
theorem LQ(h:eX K H x (.type n)):ug K (.type n) (.ty "int")=some (Ye x):=by cases h <;> rfl
theorem Hz(h:eX K H x (.type n)):ug K (.type n) (.ty "bool")=some (isB x):=by cases h <;> rfl
theorem RG(h:eX K H x (.type n)):ug K (.type n) (.ty "list")=some (n == "list"):=by cases h <;> rfl
theorem LR(h:eX K H x (.type n)):ug K (.type n) (.ty "tuple")=some (n == "tuple"):=by cases h <;> rfl
theorem eX.same{t:Value}(e:Same H H')(h:eX K H x t):eX K H' x t:=by
 cases h with
 | non=>exact .non
 | bl b=>exact .bl b
 | int i=>exact .int i
 | str y=>exact .str y
 | flt y=>exact .flt y
 | lst q=>exact .lst (e _ _ q)
 | frz q=>exact .frz (e _ _ q)
 | tup q=>exact .tup (e _ _ q)
 | dK q=>exact .dK (e _ _ q)
 | dT q=>exact .dT (e _ _ q)
 | ins q c a b d m=>exact .ins (e _ _ q) c a b d m
end
theorem L_{α:Type}{c:α}{cs:List α}:atI (c::cs) (0:Int)=some c:=oh (j:=0) rfl
theorem Mf{α:Type}{xs:List α}{i:Int}(h0:0<=i)(h1:i<xs.length):∃v,atI xs i=some v/\v∈xs:=by
 obtain⟨j,rfl⟩:∃j:Nat,i=(j:Int):=⟨i.toNat,by lia⟩;have hj:j<xs.length:=by lia
 exact⟨xs[j],oh (by simp[hj]),List.getElem_mem hj⟩
theorem Same.new{H:Hp}{p:Addr}{o:HO}(h:H p=none):Same H (upd H p o):=λb u e=>by
 rw[aR (aN e h)];exact e
theorem Same.tup{K:W.Frag}{H H':Hp}{a:Addr}{xs:List V}(e:Same H H')(h:SqT K H a xs):SqT K H' a xs:=by
 rcases h with(h|⟨o,h⟩)|h
 ·exact .inl (.inl (e _ _ h))
 ·exact .inl (.inr ⟨o,e _ _ h⟩)
 ·exact .inr h
def Off(p:Addr)(H H':Hp):Prop:=∀b,b≠p->H' b=H b
theorem Off.trans{p:Addr}{H H1 H2:Hp}(a:Off p H H1)(b:Off p H1 H2):Off p H H2:=λc h=>(b c h).trans (a c h)
theorem Off.upd{p:Addr}{H:Hp}{o:HO}:Off p H (upd H p o):=λ_ h=>aR h
theorem bW{n:Nat}(h:n<=1000000):n<=sizeLine:=oB h (by decide)
theorem RJ{P:Program}{w:World}{K:W.Frag}{mg:xC}{base:Heap}{CX:CXT}{x:Str}{ps:List Str}{sp:Sp}{k:Nat}{st:Stmt}{N:List Str}{f:Addr}{fd:FuncData}
  (F:Fun K x x st f fd) (S:aK N ps (aF st)) (len:∀vs H Q E,sp vs H Q E->vs.length=ps.length)
  (hbody:∀(cdv:Value)(A:Around)(outer:List Env)(s:Shared)(H:Hp)(vs:List V)(Q:VK)(E:XK),Room k (A.deeper (envOfC x (aF st) s.heap.objs.size f cdv))->sp vs H Q E ->
   ∃t,PSs (j8 CX P w K mg base N x (aF st) f cdv A outer s H E).nox (cu st) t/\t { nx:=λ_ H'=>Q .non H',rt:=Q } (start N vs) H):gq P w K mg base CX (k+1) f fd ps sp:=by
 obtain⟨oc,od,kV,doc,pm,an,cdv,ct,osl,rfl,lk,hcd⟩:=F.ex;refine t_ lk hcd S len λA outer s H vs Q E hr hsp=>?_
 obtain⟨t,h,q⟩:=hbody cdv A outer s H vs Q E hr hsp;exact⟨t,h.nox,q⟩
structure uo(B newId initId:String)(bm:xF):Prop where
 call:ExcCallFacts B newId initId
 split:splitId newId=some (B, "__new__")
 kind:builtinKind newId=some .builtinFn
 row:Manifest.signature? newId=some ⟨.any,B,B,.cls,[⟨"args", .varPos,false⟩,⟨"kwargs", .varKw,false⟩]⟩
 hasB:bm.contains (.type B)=true
 Yg:bm.contains (.type "BaseException")=true
 noA:bm.contains (.type "AttributeError")=false
 noN:bm.contains (.type "NameError")=false
 canon:Manifest.canonical newId=Manifest.canonical "BaseException.__new__"
theorem su:uo "ValueError" "ValueError.__new__" "ValueError.__init__" [.type "ValueError", .type "Exception", .type "BaseException", .type "object"] :=
 ⟨PySem.F.excBase_ValueError.toExcCallFacts,PySem.F.excBase_ValueError.newSplit,PySem.F.excBase_ValueError.newKind,PySem.F.excBase_ValueError.newRow,PySem.F.excBase_ValueError.hasB,PySem.F.excBase_ValueError.hasBase,PySem.F.excBase_ValueError.noAttr,PySem.F.excBase_ValueError.noName,PySem.F.excBase_ValueError.canon⟩
theorem uo.under{B newId initId:String}{bm:xF}(F:uo B newId initId bm)(R:Addr):uo B newId initId (.ref R::bm) :=
 ⟨F.call,F.split,F.kind,F.row,by rw[List.contains_cons,F.hasB,Bool.or_true],by rw[List.contains_cons,F.Yg,Bool.or_true],by rw[List.contains_cons,F.noA];rfl,by rw[List.contains_cons,F.noN];rfl,F.canon⟩
section
variable{prog:Program}{w:World}{M:Model}{A:Around}{E:xB}{R:Result->Shared->Prop}{h:Heap}{g:Array GenState}{d:Drawn}{t:Nat}{os:OsState}
variable{nm q:Str}{C N:Addr}{bs bm:xF}{hdct:Bool}{sn:List Str}{sub:xF}{ab:Bool}{col:Option Bool}{dd:xN}{k0 k1 k2 k3 k5:Option Value}{B newId initId:String}
theorem uo.has(F:uo B newId initId bm):(Value.ref C::bm).contains (.type B)=true:=by rw[List.contains_cons,F.hasB,Bool.or_true]
theorem wJ(F:uo B newId initId bm){rest:xF}{Q:xA}(hC:h.get? C=some (excClassObj nm q C N bs bm hdct sn sub ab col dd k0 k1 k2 k3 k5 newId))(hq:Q () ⟨h,g,d,t,os⟩) :
  wpAny M A (checkBuiltinCall newId ⟨.ref C::rest,[]⟩) Q E ⟨h,g,d,t,os⟩:=by
 have e1:(Value.ref C::bm).contains (.type B)=true:=F.has;have e2:=F.call.noStar;simp only[checkBuiltinCall,F.kind,F.split,F.row]
 repeat (first|refine wpAny_loadPart_at hC ?_|(refine wpAny_isSubtype_exc hC ?_;rw[e1])|refine wpAny_staticBase_exc hC ?_|refine wpAny_madeBy_exc hC ?_|simp only[bne_self_eq_false,Bool.false_eq_true,if_false]|wp_step)
 exact hq
theorem RK(F:uo B newId initId bm){rest:xF}(hC:h.get? C=some (excClassObj nm q C N bs bm hdct sn sub ab col dd k0 k1 k2 k3 k5 newId))
  (hq:R (.ok (.ret (.ref (h.objs.size+1)))) ⟨(h.push { cls:=.type "tuple", data:=.seq rest.toArray }).push { cls:=.ref C,data:=.fields #[.ref h.objs.size,.none,.none,.none,.bool false,.none] },g,d,t,os⟩) (hz:rest.length<=sizeLine) :
  codeAny (model prog w) A (.builtin newId ⟨.ref C::rest,[]⟩) R ⟨h,g,d,t,os⟩:=by
 have e0:=F.call.ends;have e1:(Value.ref C::bm).contains (.type B)=true:=F.has;have e2:(Value.ref C::bm).contains (.type "AttributeError")=false:=by rw[List.contains_cons,F.noA];rfl
 have e3:(Value.ref C::bm).contains (.type "NameError")=false:=by rw[List.contains_cons,F.noN];rfl
 refine codeAny_builtinAt F.call.entry ?_;unfold Builtin.«BaseException.__new__»;refine PySem.wpAt_bind ?_;show PySem.wpAt _ _ _ (stack >>= _) _ _ _;refine PySem.wpAt_bind (PySem.wpAt_stack λp below=>PySem.wpAt_of_wpAny ?_)
 wp_walk;refine PySem.wpAt_of_wpAny ?_
 rw[F.call.owner]
 repeat (first|with_reducible refine wpAny_madeHere_exc F.canon hC ?_|with_reducible refine wpAny_loadPart_at hC ?_|(with_reducible refine wpAny_isSubtype_exc hC ?_;first|rw[e1]|rw[e2]|rw[e3])|wp_step)
 show R _ _;rw[Heap.size_push];exact hq
theorem Mg(F:uo B newId initId bm){rest:xF}{fI:Addr}{oI:Obj}{Q:xB}(hC:h.get? C=some (excClassObj nm q C N bs bm hdct sn sub ab col dd k0 k1 k2 k3 k5 newId))
  (hi:W.Looks (model prog w) h (typeLookup (.ref C) "__init__") (some (.ref fI))) (hfI:h.get? fI=some oI) (hfc:oI.cls=.type "function")
  (hq:∀h',(∀b o,h.get? b=some o->h'.get? b=some o)->h'.get? (h.objs.size+1)=some { cls:=.ref C,data:=.fields #[.ref h.objs.size,.none,.none,.none,.bool false,.none] }->wpAny (model prog w) (A.under (.builtin "type.__call__" ⟨.ref C::rest,[]⟩)) (PySem.call (.ref fI) (.ref (h.objs.size+1)::rest)) (λr s'=>r=.none/\Q (.ref (h.objs.size+1)) s') E ⟨h',g,d,t,os⟩) (hz:rest.length<=sizeLine) :
  wpAny (model prog w) A (PySem.call (.ref C) rest) Q E ⟨h,g,d,t,os⟩:=by
 have f1:=tc_lookup;have f2:=tc_bind (.ref C);have hT:(⟨h,g,d,t,os⟩:Shared).TypeIs (.ref C) "type":=⟨_,hC,rfl⟩;refine wpAny_call (codeAny_of_tree ?_);show wpAny _ _ (callAny (.ref C) _) _ _ _
 repeat (any_goals (first|assumption|with_reducible refine wpAny_loadPart_at hC ?_|wp_step))
 refine⟨rfl,codeAny_call_builtin_at (Code.quiet_builtin _ (by decide +kernel)) entry_typeCall (wpAny_check_type_call_sub hC ?_)⟩
 repeat (first|with_reducible refine wpAny_loadPart_at hC ?_|with_reducible refine wpAny_madeBy_exc hC ?_|wp_step)
 refine codeAny_call_builtin_code (Code.quiet_builtin _ F.call.quiet) (wJ F hC (RK F hC ?_ hz));show wpAny _ _ _ _ _ (⟨(h.push { cls:=.type "tuple", data:=.seq rest.toArray }).push { cls:=.ref C,data:=.fields #[.ref h.objs.size,.none,.none,.none,.bool false,.none] },g,d,t,os⟩:Shared)
 generalize hh2:(h.push { cls:=.type "tuple", data:=.seq rest.toArray }).push { cls:=.ref C,data:=.fields #[.ref h.objs.size,.none,.none,.none,.bool false,.none] }=h2
 have kp:∀b o,h.get? b=some o->h2.get? b=some o:=λb o e=>by rw[<- hh2];exact uC _ (uC _ e)
 have hget:h2.get? (h.objs.size+1)=some { cls:=.ref C,data:=.fields #[.ref h.objs.size,.none,.none,.none,.bool false,.none] }:=by rw[<- hh2];heap_get
 have htup:h2.get? h.objs.size=some { cls:=.type "tuple", data:=.seq rest.toArray }:=by rw[<- hh2];exact uC _ (Heap.get?_push_at rfl rfl)
 have hcC:(Value.ref C::bm).contains (.ref C)=true:=by simp
 unfold isInstance
 repeat (first|with_reducible refine wpAny_loadPart_at hget ?_|(with_reducible refine wpAny_isSubtype_exc (kp _ _ hC) ?_;rw[hcC])|wp_step)
 show wpAny _ _ (typeLookup (.ref C) _) _ _ _;refine hi _ _ _ _ kp ?_;refine mI (zI ?_);unfold bindSpecial;refine wpAny_bind (wpAny_typeOf (T := "function") ⟨_,kp _ _ hfI,hfc⟩ ?_);rw[yB (by decide)];refine rX (zI (mM (hq h2 kp hget) (λr s' hr=>?_) λ_ _ x=>x));obtain⟨rfl,hQ⟩:=hr
 wp_walk
 exact hQ
end
section
variable{prog:Program}{w:World}{A:Around}{E:xB}{s:Shared}{K:W.Frag}{e C:Addr}{oe:Obj}{vs:xL}{name:Str}{v:Value}
theorem nQ(hf:oe.data=.fields vs):W.notCls oe=true:=by
 unfold W.notCls;rw[hf]
def zy:List Value->Bool
 | .ref _::r=>zy r
 | l=>l==[.type "ValueError", .type "Exception", .type "BaseException", .type "object"]
theorem J3(self:Value):refuseLoop self "__setattr__" [.type "ValueError", .type "Exception", .type "BaseException", .type "object"]=pure ():=by kernel_rfl
theorem xG(self:Value):∀{l:xF},zy l=true->refuseLoop self "__setattr__" l=pure ()
 | .ref c::r,h=>by
  rw[refuseLoop_ref];exact xG self h
 | [],h=>by cases h
 | .type n::r,h=>by
  have z:(Value.type n::r)=[.type "ValueError", .type "Exception", .type "BaseException", .type "object"]:=gS h;rw[z];exact J3 self
 | .none::r,h=>by cases (gS h:(Value.none::r)=_)
 | .bool _::r,h=>by cases (gS h:(_::r)=_)
 | .int _ _::r,h=>by cases (gS h:(_::r)=_)
 | .str _ _::r,h=>by cases (gS h:(_::r)=_)
 | .bytes _ _::r,h=>by cases (gS h:(_::r)=_)
 | .float _ _::r,h=>by cases (gS h:(_::r)=_)
 | .builtin _::r,h=>by cases (gS h:(_::r)=_)
 | .ellipsis::r,h=>by cases (gS h:(_::r)=_)
 | .notImplemented::r,h=>by cases (gS h:(_::r)=_)
theorem uq:∀{l:xF},zy l=true->l.contains (.type "object")=true/\l.isEmpty=false
 | .ref c::r,h=>⟨by rw[List.contains_cons,(uq (l:=r) h).1,Bool.or_true],rfl⟩
 | [],h=>by cases h
 | .type n::r,h=>by
  have z:(Value.type n::r)=[.type "ValueError", .type "Exception", .type "BaseException", .type "object"]:=gS h;rw[z];exact⟨by decide,rfl⟩
 | .none::r,h=>by cases (gS h:(Value.none::r)=_)
 | .bool _::r,h=>by cases (gS h:(_::r)=_)
 | .int _ _::r,h=>by cases (gS h:(_::r)=_)
 | .str _ _::r,h=>by cases (gS h:(_::r)=_)
 | .bytes _ _::r,h=>by cases (gS h:(_::r)=_)
 | .float _ _::r,h=>by cases (gS h:(_::r)=_)
 | .builtin _::r,h=>by cases (gS h:(_::r)=_)
 | .ellipsis::r,h=>by cases (gS h:(_::r)=_)
 | .notImplemented::r,h=>by cases (gS h:(_::r)=_)
def oG(K:W.Frag)(C:Addr):Bool:=(W.clsIn K C).any λcd=>zy cd.mro
theorem HF{ox:Obj}{od:Option Obj}{tk:Tok}{R:Result->Shared->Prop}(X:K.In s.heap)(I:W.InstAt s.heap e ox C od)(hp:oG K C=true)(ht:W.takerIn K C name=some none)
  (h:∀b,wpAny (model prog w) A.in1 (Builtin.ObjectAttr.storeInOwnDict (.ref e) (.ref C) (.str name tk) name v b)
   (λfin s'=>match fin with|.done f=>R (.ok f) s'|.again c'=>c'.quiet=true/\codeAny (model prog w) A c' R s') (λx s'=>R (.error x) s') s) :
  codeAny (model prog w) A (.call (.builtin "object.__setattr__") ⟨[.ref e,.str name tk,v],[]⟩) R s:=by
 have SF:=PySem.F.store_object;obtain⟨cd,hc,ho⟩:=W.any_some hp;obtain⟨abl,ne⟩:=uq ho;have sub:W.Looks (model prog w) s.heap (isInstance (.ref e) (.type "object")) true:=I.type.andThen (W.looks_mroIn X (by unfold W.mroIn;rw[hc,Option.bind_some,if_neg (by rw[ne];decide),abl]));refine codeAny_call_builtin SF.slot.plain SF.entry (@W.check_slot (model prog w) _ _ s "object.__setattr__" "object" "__setattr__" (.ref e) [.str name tk,v] [] _ SF.kind SF.split sub (SF.args (.ref e) (.str name tk) v) ?_);obtain⟨attr,ha,hr⟩:=Option.bind_eq_some_iff.mp ht;have hm:W.Looks (model prog w) s.heap (mroOf (.ref C)) cd.mro:=(W.looks_clsIn X hc).andThen .now;have L3:W.Looks (model prog w) s.heap (Builtin.ObjectAttr.storeTaker? attr) none:=by
  cases attr with
  | none=>exact .now
  | some a =>
   obtain⟨b,hb,q⟩:=Option.map_eq_some_iff.mp hr;refine(W.looks_takesIn X hb).andThen ?_;cases b with
   | true=>cases q
   | false=>exact .now
 rw[W.osa_eq,refuse_eq];refine zI (zI (I.type.here (zI (hm.here ?_))));rw[xG _ ho];refine rX (zI (I.type.here (zI ((W.looks_findIn X ha).here (zI (L3.here ?_))))));exact h _
theorem Mh{Q:xA}(X:K.In s.heap)(he:s.heap.get? e=some oe)(hc:oe.cls=.ref C)(hd:oe.dict=none)(hf:oe.data=.fields vs)
  (hs:W.findIn K (.ref C) "__setattr__" = some (some (.builtin "object.__setattr__"))) (hp:oG K C=true) (ht:W.takerIn K C name=some none) (hh:W.hasDictIn K C=true)
  (h:∀h',(∀b o,b≠e->s.heap.get? b=some o->h'.get? b=some o)->h'.get? e=some { oe with dict:=some s.heap.objs.size }->h'.Ns1 s.heap.objs.size (λy=>if y=name then some v else none)->Q () { s with heap:=h',toks:=s.toks+2 }) :
  wpAny (model prog w) A (setAttr (.ref e) name v) Q E s:=by
 have J:W.InstAt s.heap e oe C none:=⟨he,hc,nQ hf,by rw[hd];trivial⟩;refine W.set_plain X J hs (HF (s:={ s with toks:=s.toks+1 }) X J hp ht λb=>?_)
 obtain⟨cd,hcd,hdd⟩:=W.any_some hh;obtain⟨oc,od,odt,osl⟩:=oe;simp only at hc hd hf;subst hc hd hf;refine zI (rX (zI (zI (wpAny_loadPart he (zI (W.Looks.here (s:={ s with toks:=s.toks+1 }) (W.looks_clsIn X hcd) ?_))))))
 rw[hdd];show wpAny (model prog w) A.in1 (alloc { cls:=.type "dict", data:=.dict #[] } >>= λd=>(update e λo=>{ o with dict:=some d }) >>= λ_=>dictMade (.ref C) e d) _ _ _
 have hlt:e<s.heap.objs.size:=uB he;have hne:e≠s.heap.objs.size:=qV hlt;refine zI (wpAny_alloc (zI (wpAny_update (uC _ he) ?_)));show wpAny (model prog w) A.in1 (pure (some s.heap.objs.size)) _ _ _;refine rX (zI (rX (zI ?_)));have e0:((s.heap.push { cls:=.type "dict", data:=.dict #[] }).update e λo=>{ o with dict:=some s.heap.objs.size }).get? s.heap.objs.size=some { cls:=.type "dict", data:=.dict #[] } :=
  (mB _ _ hne).trans (oQ s.heap rfl)
 have e1:((s.heap.push { cls:=.type "dict", data:=.dict #[] }).update e λo=>{ o with dict:=some s.heap.objs.size }).get? e=some { cls:=.ref C,dict:=some s.heap.objs.size,data:=.fields vs,slots:=osl } :=
  Heap.get?_update_self _ (uC _ he) rfl
 have n0:((s.heap.push { cls:=.type "dict", data:=.dict #[] }).update e λo=>{ o with dict:=some s.heap.objs.size }).Ns s.heap.objs.size (λ_=>none) :=
  ⟨_,#[],_,e0,rfl,(λy hy=>absurd hy (by simp)),λ_=>rfl⟩
 refine wpAny_nsSet1 (Heap.Ns1.of_empty n0) λh' hn2 hs2=>?_
 obtain⟨oD,esD,epD,hoD,hdD,hcD⟩:=hn2.count (PySem.Within.cons (ns:=[]) name v (λy hy=>gN rfl hy));refine zI (wpAny_lookBehind hoD (by rw[hdD];exact pastItsLine_dict (oB hcD (by show 1<=_;decide))) ?_);refine rX (h h' (λb o hb q=>?_) ((hs2.2 _ hne).trans e1) hn2);rw[hs2.2 b (qV (uB q))];exact(mB _ _ (Ne.symm hb)).trans (uC _ q)
theorem Mp{dx:Addr}{mA:xC}{ns:List Str}{Q:xA}(X:K.In s.heap)(he:s.heap.get? e=some oe)(hc:oe.cls=.ref C)(hd:oe.dict=some dx)(hf:oe.data=.fields vs)(hn:s.heap.Ns1 dx mA)(hne:dx≠e)
  (hs:W.findIn K (.ref C) "__setattr__" = some (some (.builtin "object.__setattr__"))) (hp:oG K C=true) (ht:W.takerIn K C name=some none) (hh:W.hasDictIn K C=true) (hw:PySem.Within mA ns) (hsz:ns.length<=1000)
  (h:∀h',Heap.SameBut dx s.heap h'->h'.Ns1 dx (λy=>if y=name then some v else mA y)->Q () { s with heap:=h',toks:=s.toks+2 }) :
  wpAny (model prog w) A (setAttr (.ref e) name v) Q E s:=by
 obtain⟨od,ho,_⟩:=qy hn;have J:W.InstAt s.heap e oe C (some od):=⟨he,hc,nQ hf,by rw[hd];exact ho⟩;refine W.set_plain X J hs (HF (s:={ s with toks:=s.toks+1 }) X J hp ht λb=>?_)
 obtain⟨cd,hcd,hdd⟩:=W.any_some hh;obtain⟨oc,od',odt,osl⟩:=oe;simp only at hc hd hf;subst hc hd hf;refine zI (rX (zI (zI (wpAny_loadPart he (zI (W.Looks.here (s:={ s with toks:=s.toks+1 }) (W.looks_clsIn X hcd) ?_))))))
 rw[hdd];refine rX (a:=some dx) (zI (rX (zI (wpAny_nsSet1 (s:={ s with toks:=s.toks+1 }) hn λh' hn2 hs2=>?_))))
 obtain⟨oD,esD,epD,hoD,hdD,hcD⟩:=hn2.count (PySem.Within.cons name v hw);refine zI (wpAny_lookBehind hoD (by rw[hdD];exact pastItsLine_dict (oB hcD (by rw[zzD];have:=sizeLine_eq;lia))) ?_);exact rX (h h' hs2 hn2)
theorem RL{dx:Addr}{mA:xC}{expr:Bool}{Q:xB}(X:K.In s.heap)(he:s.heap.get? e=some oe)(hc:oe.cls=.ref C)(hd:oe.dict=some dx)(hf:oe.data=.fields vs)(hn:s.heap.Ns1 dx mA)
  (hga:W.findIn K (.ref C) "__getattribute__" = some (some (.builtin "BaseException.__getattribute__"))) (hgb:W.findIn K (.ref C) "__getattr__" = some none) (hmb:W.mroIn K C (.type "BaseException")=some true)
  (hh:W.hasDictIn K C=true) (ha:W.findIn K (.ref C) name=some none) (hv:mA name=some v) (hv':W.handedIn v=true) (h:Q v { s with toks:=s.toks+1 }) :
  wpAny (model prog w) A (getAttr (.ref e) name expr) Q E s:=by
 obtain⟨od,ho,hl⟩:=qy hn;have J:W.InstAt s.heap e oe C (some od):=⟨he,hc,nQ hf,by rw[hd];exact ho⟩;have hfo:W.findObj K C (some od) name=some (.value v):=W.findObj_own hh ha rfl (by rw[hl,hv]);obtain⟨hp,g,d,t,os⟩:=s;have L0:=J.type (M:=model prog w);have L1:=W.looks_findIn (M:=model prog w) X hga;have L2:=W.looks_find (M:=model prog w) X J hfo;have L3:=W.looks_findIn (M:=model prog w) X hgb;have hx0:(expr && onTheHeap (Value.builtin "BaseException.__getattribute__"))=false:=by cases expr <;> rfl
 have sub:W.Looks (model prog w) hp (isInstance (.ref e) (.type "BaseException")) true:=J.type.andThen (W.looks_mroIn X hmb);unfold getAttr getAttrBy;refine zI (wpAny_mkText (mI (zI (L0.at (zI (L1.at ?_))))));show wpAny _ _ (getAttrByItsOwn (.ref e) (.str name t) (.ref C) (.builtin "BaseException.__getattribute__") true expr) _ _ _;unfold getAttrByItsOwn;refine zI (show wpAny _ _ (typeLookup (.ref C) "__getattr__") _ _ _ from L3.at ?_);refine zI (wpAny_attempt (mI ?_));unfold callGetattribute;rw[hx0,yT vS];unfold boundAndCalled;rw[PySem.F.excAttr_ValueError.ga.bind (.ref e)];refine zI (rX (wpAny_call (codeAny_call_builtin PySem.F.excAttr_ValueError.ga.plain PySem.F.entry_bexc_ga (@W.check_slot (model prog w) _ _ _ "BaseException.__getattribute__" "BaseException" "__getattribute__" (.ref e) [.str name t] [] _ (by decide +kernel) (by decide +kernel) sub (PySem.F.args_bexc_ga _ _) ?_))));refine zI (rX (zI (rX (zI (L0.at (zI (L2.at (rX ?_))))))));show wpAny _ _ (handedOut v) _ _ _;rw[W.handedOut_of hv'];exact rX h
end
def j9(e C:Addr)(dx:xN):HO:=.ext λh=>∃t sl,h.get? e=some { cls:=.ref C,dict:=dx,data:=.fields #[.ref t,.none,.none,.none,.bool false,.none],slots:=sl }
def kY(dx:Addr)(fs:List (Str×V)):HO:=.ext λh=>∃mA,h.Ns1 dx mA/\(∀f,jK (fs.lookup f) (mA f))/\PySem.Within mA (fs.map (·.1))/\fs.length<=100
section
variable{P:Program}{w:World}{H:Hp}{h:Heap}{e C dx:Addr}
theorem HJ{do':xN}{t:Addr}{sl:Array (Option Value)}(q:h.get? e=some { cls:=.ref C,dict:=do',data:=.fields #[.ref t,.none,.none,.none,.bool false,.none],slots:=sl }):cU P w H h e (j9 e C do') :=
 ⟨⟨t,sl,q⟩,⟨_,q⟩,λh1 h2 ⟨t,sl,z⟩ k=>⟨t,sl,k _ z⟩⟩
theorem HN{fs:List (Str×V)}{mA:xC}(n:h.Ns1 dx mA)(r:∀f,jK (fs.lookup f) (mA f))(wi:PySem.Within mA (fs.map (·.1)))(hl:fs.length<=100):cU P w H h dx (kY dx fs):=by
 refine⟨⟨mA,n,r,wi,hl⟩,?_,λh1 h2 ⟨mA,n,r,wi,hl⟩ k=>⟨mA,n.at k,r,wi,hl⟩⟩;obtain⟨o,_,_,q,_⟩:=n;exact⟨o,q⟩
end
structure Yh(K:W.Frag)(C f:Addr)(bm:xF):Prop where
 obj:∃nm q N bs hdct sn sub ab col dd k0 k1 k2 k3 k5,K.lookup C=some (excClassObj nm q C N bs bm hdct sn sub ab col dd k0 k1 k2 k3 k5 "ValueError.__new__")
 HS:uo "ValueError" "ValueError.__new__" "ValueError.__init__" bm
 init:W.findIn K (.ref C) "__init__" = some (some (.ref f))
 fn:∃o,K.lookup f=some o/\o.cls=.type "function"
 kp:W.keepIn K (.ref C)=true
structure Mq(K:W.Frag)(C:Addr):Prop where
 sa:W.findIn K (.ref C) "__setattr__" = some (some (.builtin "object.__setattr__"))
 po:oG K C=true
 hd:W.hasDictIn K C=true
section
variable{X:Cx}{f C:Addr}{ps:List Str}{x:Str}{pos:Pos}{e:Expr}{t:TA}
def abm(K:W.Frag)(ta tv:TE)(f:Str):TS:=λD σ H=>tv σ H λy H1=>ta σ H1 λx H2=>∃a C,x=.ref a/\Mq K C/\W.takerIn K C f=some none /\
 ((H2 a=some (j9 a C none)/\∀dx,H2 dx=none->D.nx σ (upd (upd H2 dx (kY dx [(f,y)])) a (j9 a C (some dx)))) \/
  ∃dx fs,H2 a=some (j9 a C (some dx))/\H2 dx=some (kY dx fs)/\dx≠a/\fs.length<100/\D.nx σ (upd H2 dx (kY dx (fQ f y fs))))
theorem Mr{o value:Expr}{f:Str}{ta tv:TE}{pos':Pos}(ha:PE X o ta)(hv:PE X value tv)(hs:swapsWith value (some (.Attribute o f pos')) pos.line X.env=pure false:=by rfl):PS X (.Assign [.Attribute o f pos'] value pos) (abm X.K ta tv f):=by
 intro pins s σ H D I h;refine plainObj_wpAny_Assign_Attribute (thn (hv pins s σ H _ I h) λu s1 ⟨y,H1,I1,ry,q⟩=>thn (ha pins s1 σ H1 _ I1 q) λov s2 ⟨x,H2,I2,rx,a,C,ex,S,tk,q2⟩=>?_) hs;subst ex;obtain rfl:ov=Value.ref a:=rx;rcases q2 with⟨ho,q3⟩|⟨dx,fs,ho,hd,hne,hl,q3⟩
 ·obtain⟨⟨t,sl,ge⟩,_,_⟩:cU X.prog X.w H2 s2.heap a (j9 a C none):=I2.hok a _ ho;refine Mh I2.kIn ge rfl rfl rfl S.sa S.po tk S.hd λh' kp ge' n'=>?_
  have hfr:H2 s2.heap.objs.size=none:=I2.hok.fresh (uS _);have nas:a≠s2.heap.objs.size:=aN ho hfr;have other:∀b,b≠a->b≠s2.heap.objs.size->(upd (upd H2 s2.heap.objs.size (kY s2.heap.objs.size [(f,y)])) a (j9 a C (some s2.heap.objs.size))) b=H2 b:=λb h1 h2=>by rw[aR h1,aR h2]
  have nlt:∀b o,s2.heap.get? b=some o->b≠s2.heap.objs.size:=λb o z=>qV (uB z)
  have na:∀b,H2 b=none->b≠a:=λb z q=>by rw[q,ho] at z;cases z
  have qD:∀b u,H2 b=some u->u≠j9 a C none->b≠a:=λb u z d q=>by
   rw[q,ho] at z;exact d (nS z).symm
  refine⟨σ,_,I2.un ⟨λb o z n _ _=>kp b o (na b n) z,λb o z n _ _=>⟨o.slots,kp b o (na b n) z⟩,λb o z n _=>by rw[other b (na b n) (nlt b o z)];exact n,λb o z _=>?_,λb xs z=>?_,λb o u z=>?_,λb ps z=>⟨#[],?_⟩⟩ (λb u z=>?_),q3 _ hfr⟩
  ·by_cases hb:b=a
   ·exact⟨_,by rw[hb];exact ge'⟩
   ·exact⟨o,kp b o hb z⟩
  ·rw[other b (qD b _ z (by intro q;cases q)) (aN z hfr)];exact z
  ·rw[other b (qD b _ z (by intro q;cases q)) (aN z hfr)];exact z
  ·rw[other b (qD b _ z (by intro q;cases q)) (aN z hfr),z];simp
  ·by_cases hb:b=a
   ·subst hb;rw[bG] at z;cases z;exact HJ ge'
   ·by_cases hb2:b=s2.heap.objs.size
    ·subst hb2;rw[aR hb,bG] at z;cases z;refine HN n' (λg=>?_) (λg hg=>?_) (by simp)
     ·show jK ([(f,y)].lookup g) (if g=f then some u else none);by_cases zz:g=f
      ·rw[if_pos zz,zz];simpa[List.lookup_cons,jK] using ry
      ·have:(g==f)=false:=by simpa using zz
       rw[yT zz];simp[List.lookup_cons,this,jK]
     ·by_cases zz:g=f
      ·simp[zz]
      ·exact gN (show (if g=f then some u else none)=none by rw[yT zz]) hg
    ·rw[other b hb hb2] at z;refine(I2.hok b u z).stay (λc v hc q=>kp c v ?_ q) (λc q=>?_) λc xs q=>?_
     ·rcases hc with rfl|hc
      ·exact hb
      ·exact qD c _ hc (by intro q;cases q)
     ·rw[other c (qD c _ q (by intro q;cases q)) (aN q hfr)];exact q
     ·rw[other c (qD c _ q (by intro q;cases q)) (aN q hfr)];exact q
 ·obtain⟨⟨t,sl,ge⟩,_,_⟩:cU X.prog X.w H2 s2.heap a (j9 a C (some dx)):=I2.hok a _ ho;obtain⟨⟨mA,n,r,wi,hl'⟩,_,_⟩:cU X.prog X.w H2 s2.heap dx (kY dx fs):=I2.hok dx _ hd;refine Mp I2.kIn ge rfl rfl rfl n hne S.sa S.po tk S.hd wi (by rw[wS];lia) λh' sb n'=>?_
  refine⟨σ,_,I2.write (x:=dx) (e:=dx) (by rw[hd];trivial) (.inl rfl) (λb o hb z=>(sb.2 b hb).trans z) (let ⟨o,_,_,z,_⟩:=n';⟨o,z⟩) (HN n' (λg=>?_) (λg hg=>?_) ?_),q3⟩
  ·show jK ((fQ f y fs).lookup g) (if g=f then some u else mA g);rw[cA];by_cases z:g=f
   ·rw[yB z,yB z];exact ry
   ·rw[yT z,yT z];exact r g
  ·by_cases z:g=f
   ·rw[z];exact(jC f y fs).1
   ·refine(jC f y fs).2 g (wi g λz2=>hg ?_);show (if g=f then some u else mA g)=none;rw[yT z];exact z2
  ·have:=jd f y fs;lia
structure Yi(K:W.Frag)(C:Addr):Prop where
 ga:W.findIn K (.ref C) "__getattribute__" = some (some (.builtin "BaseException.__getattribute__"))
 gb:W.findIn K (.ref C) "__getattr__" = some none
 mb:W.mroIn K C (.type "BaseException")=some true
 hd:W.hasDictIn K C=true
end
section
variable{M:Model}{A:Around}{E:xB}{s:Shared}{base:Heap}{env:Env}{outer:List Env}{L e:Addr}{oe:Obj}{vs:xL}
structure Left(fr:List Addr)(h h':Heap)(e:Addr)(oe:Obj)(vs:xL)(T:Addr):Prop where
 keep:∀b o,b≠e->b ∉ fr->h.get? b=some o->(∀z,vs[1]?=some (.ref z)->b≠z)->h'.get? b=some o
 slot:∀b o,b∈fr->h.get? b=some o->∃sl,h'.get? b=some { o with slots:=sl }
 new:h.objs.size<=T
 ent:∃oT ts,h'.get? T=some oT/\oT.data=.fields ts/\ts[3]?=some .none
 obj:h'.get? e=some { oe with data:=.fields (vs.setIfInBounds 1 (.ref T)) }
theorem RM(hl:s.heap.FunFrames base (env::outer))(he:s.heap.get? e=some oe)(hd:oe.data=.fields vs):e ∉ frs (env::outer):=λhm=>by
 obtain⟨_,o,ho,hn⟩:=hl.mem hm;rw[he] at ho;cases ho;exact hn vs hd
theorem ur{head:Value}{hadNext:Bool}{Q:xA}(hfr:A.frames=some (env::outer))(hl:s.heap.FunFrames base (env::outer))(hf:env.frame=some L)(he:s.heap.get? e=some oe)(hd:oe.data=.fields vs)(hsz:1<vs.size)
  (h:∀h' T,Left (frs (env::outer)) s.heap h' e oe vs T->Q () { s with heap:=h' }) :
  wpAny M A (do let a <- frameOf env;let pl <- entryPlaceOf L hadNext;let b <- EntryCells.newEntry head a .none (rawInt L) .none pl;setField (.ref e) 1 b) (λ_ s'=>wpAny M A (setFlight (.ref e) none) Q E s') E s:=by
 have hne:=RM hl he hd;refine zI (wpAny_frameOf_fun hfr hl hf λg hg=>zI (wpAny_entryPlaceOf λpl hpl=>?_));unfold EntryCells.newEntry newFields;refine zI (wpAny_newObj_type ?_ (hpl.sizeOk5 _ _ _ _ _));have he1:g.get? e=some oe:=(hg.2.1 e hne).trans he;have gsz:s.heap.objs.size<=g.objs.size:=by
  have:=hg.1
  lia
 generalize hT:({ cls:=.type "traceback", data:=.fields ([head,.ref L,.none,rawInt L,.none]++(if pl.isEmpty then List.replicate 6 Value.none else pl)).toArray }:Obj)=oT
 obtain⟨ts,hts,h4⟩:∃ts:Array Value,oT.data=.fields ts/\3<ts.size:=by
  rw[<- hT];exact⟨_,rfl,by simp only[List.size_toArray,List.length_append,List.length_cons,List.length_nil];lia⟩
 have fresh:∀b o,g.get? b=some o->g.objs.size≠b:=λb o z=>Nat.ne_of_gt (uB z)
 have he2:(g.push oT).get? e=some oe:=uC _ he1;have hTe:g.objs.size≠e:=fresh e oe he1;refine wpAny_setField he2 hd hsz ?_;have hd3:=Obj.data_mapFields hd (·.setIfInBounds 1 (Value.ref g.objs.size));have he3:=Heap.get?_update_self (Obj.mapFields (·.setIfInBounds 1 (Value.ref g.objs.size))) he2 (Obj.isFreed_of_fields hd3);have hfr':oT.isFreed=false:=Obj.isFreed_of_fields hts;have hT3:((g.push oT).update e (Obj.mapFields (·.setIfInBounds 1 (Value.ref g.objs.size)))).get? g.objs.size=some oT:=(mB _ _ (Ne.symm hTe)).trans (oQ g hfr');unfold setFlight;refine wpAny_bind (wpAny_field he3 hd3 (x:=.ref g.objs.size) (by simp[hsz]) ?_);rw[if_pos (show (Value.ref g.objs.size != Value.none)=true from by simp)];have HW:∀b o,b≠e->g.get? b=some o->(((g.push oT).update e (Obj.mapFields (·.setIfInBounds 1 (Value.ref g.objs.size)))).update g.objs.size (Obj.mapFields (·.setIfInBounds 3 ((none:xN).elim Value.none λf=>rawInt f)))).get? b=some o:=λb o hb z=>by
  rw[mB _ _ (fresh b o z),mB _ _ (Ne.symm hb)];exact uC _ z
 refine wpAny_setField hT3 hts h4 (h _ g.objs.size ⟨λb o hb hn z _=>HW b o hb ((hg.2.1 b hn).trans z),λb o hb z=>?_,gsz,?_,?_⟩)
 ·obtain⟨sl,z2⟩:=hg.2.2 b o z;exact⟨sl,HW b _ (λq=>hne (by rw[<- q];exact hb)) z2⟩
 ·exact⟨_,_,Heap.get?_update_self _ hT3 (Obj.isFreed_of_fields (Obj.data_mapFields hts _)),Obj.data_mapFields hts _,by simp[h4]⟩
 ·rw[mB _ _ hTe,he3];obtain⟨c1,d1,t1,s1⟩:=oe;simp only at hd;subst hd
  rfl
theorem BW{Q:xA}(hfr:A.frames=some (env::outer))(hl:s.heap.FunFrames base (env::outer))(hf:env.frame=some L)(he:s.heap.get? e=some oe)(hd:oe.data=.fields vs)(h1:vs[1]?=some .none)
  (h:∀h' T,Left (frs (env::outer)) s.heap h' e oe vs T->Q () { s with heap:=h' }):wpAny M A (leaving env (.ref e)) Q E s:=by
 unfold leaving noteFrame;simp only[hf];refine zI (zI (wpAny_field he hd h1 ?_));rw[yT (by decide)];exact ur hfr hl hf he hd (Array.getElem?_eq_some_iff.mp h1).1 h
end
def Yj(n:Nat)(h:Heap)(a C:Addr)(dx:xN)(H:Hp):Prop :=
 ∃oe vs T oT ts,h.get? a=some oe/\oe.cls=.ref C/\oe.dict=dx/\oe.data=.fields vs/\vs[1]?=some (.ref T)/\T≠a/\h.get? T=some oT/\oT.data=.fields ts/\ts[3]?=some .none/\H a=none/\H T=none/\n<=a/\n<=T
def CX1(P:Program)(w:World):CXT:=λouter H s E ev s' =>
 ∃a C dx H',ev=.ref a/\s'.os=s.os/\AllBare s'.gens/\Un (frs outer) [] H H' s.heap s'.heap/\HOk P w H' s'.heap/\Yj s.heap.objs.size s'.heap a C dx H'/\E (.ref C) dx H'
theorem BX{P:Program}{w:World}{H:Hp}{h h':Heap}{fr:List Addr}{e T:Addr}{oe:Obj}{vs:xL}(ok:HOk P w H h)(lf:Left fr h h' e oe vs T)(he:H e=none)(hT:∀z,vs[1]?=some (.ref z)->H z=none)(hfr:∀b∈fr,H b=none):HOk P w H h':=λb u z=>by
 refine(ok b u z).stay (λc v hc q=>?_) (λ_ q=>q) λ_ _ q=>q
 have hcs:∃x,H c=some x:=by
  rcases hc with rfl|hc
  ·exact⟨_,z⟩
  ·exact⟨_,hc⟩
 obtain⟨x,hx⟩:=hcs;exact lf.keep c v (aN hx he) (λm=>by rw[hfr c m] at hx;cases hx) q λy hy=>aN hx (hT y hy)
theorem RN{H0 H:Hp}{h0 h h':Heap}{fs fr:List Addr}{e T:Addr}{oe:Obj}{vs:xL}(u:Un fs [] H0 H h0 h)(lf:Left fr h h' e oe vs T)(hfs:∀b,b∈fs->b∈fr)(hfr:∀b o,h0.get? b=some o->b∈fr->b∈fs)
  (he:h0.objs.size<=e) (hT:∀z,vs[1]?=some (.ref z)->h0.objs.size<=z):Un fs [] H0 H h0 h':=by
 have ne:∀b o,h0.get? b=some o->b≠e/\∀z,vs[1]?=some (.ref z)->b≠z:=λb o q =>
  ⟨qV (qS (uB q) he),λz hz=>qV (qS (uB q) (hT z hz))⟩
 refine⟨λb o q n hb hx=>lf.keep b o (ne b o q).1 (λm=>hb (hfr b o q m)) (u.keep b o q n hb hx) (ne b o q).2,λb o q n hb hx=>?_,u.free,λb o q hx=>?_,u.tups,u.j6,u.j7⟩
 ·obtain⟨sl,z⟩:=u.slot b o q n hb hx;obtain⟨sl2,z2⟩:=lf.slot b _ (hfs b hb) z;exact⟨sl2,z2⟩
 ·obtain⟨o2,z⟩:=u.there b o q hx;by_cases m:b∈fr
  ·obtain⟨sl,z2⟩:=lf.slot b o2 m z;exact⟨_,z2⟩
  ·exact⟨o2,lf.keep b o2 (ne b o q).1 m z (ne b o q).2⟩
mutual
def pyD:Dt->PyData
 | .non=>.none
 | .bl b=>.bool b
 | .int i=>.int i
 | .str x=>.str x
 | .lst xs=>.list (Vh xs)
 | .tup xs=>.tuple (Vh xs)
def Vh:List Dt->List PyData
 | []=>[]
 | x::xs=>pyD x::Vh xs
end
structure Fl(K:W.Frag)(C R:Addr):Prop where
 g:Yi K C
 mro:(W.clsIn K C).map (·.mro)=some [.ref C,.ref R,.type "ValueError", .type "Exception", .type "BaseException", .type "object"]
 ty:W.typeIn K (.ref C)=some (.type "type")
 ha:W.findIn K (.ref C) "__class__" = some (some (.builtin "object.__class__"))
 hn:W.specialIn K (.builtin "object.__class__") "__get__" = some (some (.builtin "getset_descriptor.__get__"))
 tk:W.takesIn K (.builtin "object.__class__")=some true
section
variable{K:W.Frag}{C R:Addr}
theorem Fl.in(G:Fl K C R)(b:Value):W.mroIn K C b=some ([Value.ref C,.ref R,.type "ValueError", .type "Exception", .type "BaseException", .type "object"].contains b):=by
 obtain⟨cd,hc,hm⟩:=Option.map_eq_some_iff.mp G.mro;unfold W.mroIn;rw[hc,Option.bind_some,hm]
 rfl
end
def ExcAt(H:Hp)(x C:Addr)(fs:List (Str×V)):Prop:=(fs=[]/\H x=some (j9 x C none))\/∃dx,H x=some (j9 x C (some dx))/\H dx=some (kY dx fs)/\dx≠x
theorem ExcAt.same{H H':Hp}{x C:Addr}{fs:List (Str×V)}(e:Same H H')(h:ExcAt H x C fs):ExcAt H' x C fs:=by
 rcases h with⟨a,b⟩|⟨dx,a,b,c⟩
 ·exact .inl ⟨a,e _ _ b⟩
 ·exact .inr ⟨dx,e _ _ a,e _ _ b,c⟩
def Yk(C:Addr)(f g:Str):Sp:=λvs H Q _=>∃x v y,vs=[.ref x,v,y]/\H x=some (j9 x C none)/\∀dx,H dx=none->Q .non (upd (upd (upd H dx (kY dx [(f,v)])) x (j9 x C (some dx))) dx (kY dx (fQ g y [(f,v)])))
structure uw(K:W.Frag)(mg:xC)(x qual:Str)(st:Stmt)(C R:Addr):Prop where
 ex:∃f fd,Yh K C f [.ref R,.type "ValueError", .type "Exception", .type "BaseException", .type "object"]/\Fun K "__init__" qual st f fd
 gl:mg x=some (.ref C)
 S:Mq K C
 I:Fl K C R
theorem HS(R:Addr):uo "ValueError" "ValueError.__new__" "ValueError.__init__" [.ref R,.type "ValueError", .type "Exception", .type "BaseException", .type "object"]:=su.under R
section
variable{P:Program}{w:World}{K:W.Frag}{mg:xC}{base:Heap}{CX:CXT}{qual f:Str}{st:Stmt}
def Ms(P:Program)(w:World)(K:W.Frag)(mg:xC)(base:Heap)(CX:CXT)(qual:Str)(st:Stmt)(ps:List Str)(sp:Sp):Prop:=∀f fd,Fun K "__init__" qual st f fd->gq P w K mg base CX 1 f fd ps sp/\Binds K fd ps []
end
section
variable{K:W.Frag}{mg:xC}{x qual:Str}{st:Stmt}{C R f:Addr}{nm q:Str}{N:Addr}{bs:xF}{sn:List Str}{sub:xF}{ab:Bool}{col:Option Bool}{dd:xN}{k0 k1 k2 k3 k5:Option Value}{od an:xN}{osl:Array (Option Value)}{kV doc pm cdv ct:Value}
theorem RP(l:K.lookup C=some (excClassObj nm q C N bs [.ref R,.type "ValueError", .type "Exception", .type "BaseException", .type "object"] true sn sub ab col dd k0 k1 k2 k3 k5 "ValueError.__new__"))
  (sa:W.findIn K (.ref C) "__setattr__" = some (some (.builtin "object.__setattr__"))):Mq K C:=by
 have hc:∃cd,W.clsIn K C=some cd/\cd.mro=[.ref C,.ref R,.type "ValueError", .type "Exception", .type "BaseException", .type "object"]/\cd.hasDict=true:=by
  unfold W.clsIn;rw[l];exact⟨_,rfl,rfl,rfl⟩
 obtain⟨cd,h1,h2,h3⟩:=hc;refine⟨sa,?_,?_⟩
 ·unfold oG;rw[h1,Option.any_some,h2]
  rfl
 ·unfold W.hasDictIn;rw[h1,Option.any_some,h3]
theorem RQ(l:K.lookup C=some (excClassObj nm q C N bs [.ref R,.type "ValueError", .type "Exception", .type "BaseException", .type "object"] true sn sub ab col dd k0 k1 k2 k3 k5 "ValueError.__new__"))
  (ga:W.findIn K (.ref C) "__getattribute__" = some (some (.builtin "BaseException.__getattribute__"))) (gb:W.findIn K (.ref C) "__getattr__" = some none)
  (ha:W.findIn K (.ref C) "__class__" = some (some (.builtin "object.__class__"))) (hn:W.specialIn K (.builtin "object.__class__") "__get__" = some (some (.builtin "getset_descriptor.__get__"))) (tk:W.takesIn K (.builtin "object.__class__")=some true):Fl K C R:=by
 have hc:∃cd,W.clsIn K C=some cd/\cd.mro=[.ref C,.ref R,.type "ValueError", .type "Exception", .type "BaseException", .type "object"]/\cd.hasDict=true:=by
  unfold W.clsIn;rw[l];exact⟨_,rfl,rfl,rfl⟩
 obtain⟨cd,h1,h2,h3⟩:=hc;refine⟨⟨ga,gb,?_,?_⟩,?_,?_,ha,hn,tk⟩
 ·unfold W.mroIn;rw[h1,Option.bind_some,h2]
  rfl
 ·unfold W.hasDictIn;rw[h1,Option.any_some,h3]
 ·rw[h1,Option.map_some,h2]
 ·show (List.lookup C K).map (·.cls)=_;rw[l]
  rfl
theorem uw.mk1(m:mg x=some (.ref C))(l:K.lookup C=some (excClassObj nm q C N bs [.ref R,.type "ValueError", .type "Exception", .type "BaseException", .type "object"] true sn sub ab col dd k0 k1 k2 k3 k5 "ValueError.__new__"))
  (i:W.findIn K (.ref C) "__init__" = some (some (.ref f))) (lf:K.lookup f=some ⟨.type "function", od,.func (W.fnOf "__init__" qual (cW st) (cu st) (aF st) .none kV doc pm an cdv ct),osl⟩)
  (c:W.codeIn K cdv qual=true) (kf:W.keepIn K (.ref f)=true) (kc:W.keepIn K (.ref C)=true) (S:Mq K C) (I:Fl K C R):uw K mg x qual st C R :=
 ⟨⟨f,_,⟨⟨nm,q,N,bs,true,sn,sub,ab,col,dd,k0,k1,k2,k3,k5,l⟩,HS R,i,⟨_,lf,rfl⟩,kc⟩,nO lf c kf⟩,m,S,I⟩
end
structure Shm(m d:Nat)(x:PyData):Prop where
 sh:x.showable=true
 ln:x.shown.length<=m
 dp:x.depth<=d
theorem Shm.mono{m m' d d':Nat}{x:PyData}(h:Shm m d x)(a:m<=m')(b:d<=d'):Shm m' d' x:=⟨h.sh,oB h.ln a,oB h.dp b⟩
structure New(H H':Hp)(p:Addr)(o:HO):Prop where
 s:Same H H'
 e:H' p=some o
 n:∀a u,H a=some u->a≠p
theorem New.mk'{H:Hp}{p:Addr}{o:HO}(h:H p=none):New H (upd H p o) p o:=⟨Same.new h,bG,λa u q=>aN q h⟩
section
variable{X:Cx}{es:List Expr}{t:TA}{pos:Pos}
def Mt(t:TA):TE:=λσ H Q=>t σ H λxs H1=>xs.length<=sizeLine/\∀p H',New H1 H' p (.tup xs)->Q (.ref p) H'
def Mu(t:TA):TE:=λσ H Q=>t σ H λxs H1=>xs.length<=sizeLine/\∀p H',New H1 H' p (.lst xs)->Q (.ref p) H'
theorem bY{x1}(h:PA X es t):PE X (.Tuple es x1 pos) (Mt t):=by
 intro pins s σ H Q I hq;refine wpAny_Tuple_spliced (thn (h pos pins s σ H _ I hq) λus s1 ⟨xs,H1,I1,r,z,q⟩=>⟨by rw[<- r.length];exact z,?_⟩);have hf:H1 s1.heap.objs.size=none:=I1.hok.fresh (uS _);refine⟨.ref s1.heap.objs.size,upd H1 s1.heap.objs.size (.tup xs),I1.laid (t':=s1.toks) (λb u e=>uC _ e) (uS _) ?_,rfl,q _ _ (.mk' hf)⟩;exact⟨z,us,r,⟨_,oQ _ rfl,rfl,_,rfl⟩⟩
theorem cF(h:PA X es t):PE X (.List es pos) (Mu t):=by
 intro pins s σ H Q I hq;refine wpAny_List_spliced (thn (h pos pins s σ H _ I hq) λus s1 ⟨xs,H1,I1,r,z,q⟩=>⟨by rw[<- r.length];exact z,?_⟩);have hf:H1 s1.heap.objs.size=none:=I1.hok.fresh (uS _);refine⟨.ref s1.heap.objs.size,upd H1 s1.heap.objs.size (.lst xs),I1.laid (t':=s1.toks) (λb u e=>uC _ e) (uS _) ?_,rfl,q _ _ (.mk' hf)⟩;exact⟨z,us,0,r,oQ _ rfl⟩
def Mv:R2:=λx y H Q=>∃l b xs zs,x=.ref l/\y=.ref b/\H l=some (.lst xs)/\H b=some (.lst zs)/\xs.length+zs.length<=sizeLine/\∀p H',New H H' p (.lst (xs++zs))->Q (.ref p) H'
theorem mq:OpR X (binaryOp .Add) Mv:=by
 intro pins s σ H x y v u Q I rx ry h;obtain⟨l,b,xs,zs,e1,e2,hH,hB,hz,q⟩:=h;exact Ve pins s σ H x y v u Q I rx ry ⟨l,b,xs,zs,e1,e2,hH,hB,hz,λp hp=>q p _ (.mk' hp)⟩
def Mw:R2:=λx y H Q=>∃l k xs,x=.ref l/\y=.int k/\H l=some (.lst xs)/\-(2 ^ 63)<=k/\k<2 ^ 63/\xs.length*k.toNat<=sizeLine/\∀p H',New H H' p (.lst (List.replicate k.toNat xs).flatten)->Q (.ref p) H'
theorem zA:OpR X (binaryOp .Mult) Mw:=by
 intro pins s σ H x y v u Q I rx ry h;obtain⟨l,k,xs,e1,e2,hH,h1,h2,hz,q⟩:=h;exact Vf pins s σ H x y v u Q I rx ry ⟨l,k,xs,e1,e2,hH,h1,h2,hz,λp hp=>q p _ (.mk' hp)⟩
def HX:V->List V->Hp->VK->Prop:=λx vs H Q=>∃l xs y,x=.ref l/\vs=[y]/\H l=some (.lst xs)/\xs.length<sizeLine/\∀H',Off l H H'->H' l=some (.lst (xs++[y]))->Q .non H'
theorem Fo:MtM X "list.append" HX:=by
 intro pins s σ H x vs v us Q I rx rv h;obtain⟨l,xs,y,e1,e2,hH,hz,q⟩:=h;exact w6 pins s σ H x vs v us Q I rx rv ⟨l,xs,y,e1,e2,hH,hz,q _ Off.upd bG⟩
theorem fL{o e:Expr}{to te:TE}{apos cpos:Pos}(ho:PE X o to)(he:PE X e te)(hbase:attributeBase o "append" X.env (eval o X.env)=eval o X.env:=by rfl)
  (hfew:((backTo cpos (starEach [e] X.env)).all (λx=>!x.1) && (backToKw cpos (keywordEach [] X.env)).all (λx=>x.1.isSome)
   && decide (([e]:List Expr).length+([]:List Keyword).length+(if ([]:List Keyword).isEmpty then 0 else 1)<30))=true:=by rfl)
  (hline:(apos.endLine==cpos.line)=true:=by rfl) (hs:starEach [e] X.env=(false,eval e X.env)::starEach [] X.env:=by rfl) :
  PE X (.Call (.Attribute o "append" apos) [e] [] cpos) (tBM X.K "list" HX to (Ht te JT)) :=
 Yb PySem.F.plainAttrs_list PySem.F.slot_list_append PySem.F.type_list_append Fo ho (aj he aq hs) hbase hfew hline hs (by rfl)
end
section
variable{σ:St}{H:Hp}{x y:V}{vs:List V}{t ta tb:TE}{tr:TA}{Q:VK}{D:Ends}{s u:TS}{tg:TG}{c:TT}
theorem zB{Q:List V->Hp->Prop}(h:t σ H λx H1=>tr σ H1 λxs H2=>Q (x::xs) H2):Ht t tr σ H Q:=h
theorem Fp{Q:List V->Hp->Prop}(h:Q [] H):JT σ H Q:=h
theorem Fq(h:s { D with nx:=u D } σ H):Q_ s u D σ H:=h
theorem MF{nx bk ct:St->Hp->Prop}{rt:VK}(h:nx σ H):(Ends.mk nx rt bk ct).nx σ H:=h
theorem zE(h:D.nx σ H):Hg D σ H:=h
theorem Ft(h:t σ H λx H1=>tg x σ H1 D.nx):Rb t tg D σ H:=h
theorem zF(h:tr σ H λxs H1=>xs.length<=sizeLine/\∀p H',New H1 H' p (.tup xs)->Q (.ref p) H'):Mt tr σ H Q:=h
theorem zG(h:tr σ H λxs H1=>xs.length<=sizeLine/\∀p H',New H1 H' p (.lst xs)->Q (.ref p) H'):Mu tr σ H Q:=h
theorem MJ{r:R2}(h:ta σ H λx H1=>tb σ H1 λy H2=>r x y H2 Q):tOp r ta tb σ H Q:=h
theorem Fv(h:t σ H D.rt):UJ t D σ H:=h
theorem zH(h:t σ H λ_ H1=>D.nx σ H1):K8 t D σ H:=h
theorem MK(h:c σ H λb H1=>if b=true then s D σ H1 else u D σ H1):UL c s u D σ H:=h
theorem zJ{Q:Bool->Hp->Prop}(h:t σ H λx H'=>∃k,x=.bl k/\Q k H'):Le t σ H Q:=h
theorem Vi{Q:Bool->Hp->Prop}(h:t σ H λx H'=>∃k,x=.bl k/\Q k H'):tB t σ H Q:=h
theorem MN{r:List V->Hp->VK->Prop}(h:tr σ H λvs H1=>r vs H1 Q):tCB r tr σ H Q:=h
end
def del(H:Hp)(a:Addr):Hp:=λb=>if b=a then none else H b
section
variable{P:Program}{w:World}{H:Hp}{h:Heap}{a b:Addr}{φ:Heap->Prop}{o:HO}
theorem ux:del H a a=none:=by unfold del;rw[if_pos rfl]
theorem k_(h:b≠a):del H a b=H b:=by unfold del;rw[if_neg h]
theorem oH(h:H b=none):del H a b=none:=by
 unfold del;split
 ·rfl
 ·exact h
theorem HOk.del(ok:HOk P w H h)(ha:H a=some (.ext φ)):HOk P w (del H a) h:=λb u z=>by
 by_cases hb:b=a
 ·rw[hb,ux] at z;cases z
 ·rw[k_ hb] at z;refine(ok b u z).stay (λ_ _ _ q=>q) (λc q=>?_) λc xs q=>?_
  ·rw[k_ λe=>by rw[e,ha] at q;cases q];exact q
  ·rw[k_ λe=>by rw[e,ha] at q;cases q];exact q
theorem HOk.track(ok:HOk P w H h)(ha:H a=none)(new:cU P w (upd H a o) h a o):HOk P w (upd H a o) h:=λb u z=>by
 by_cases hb:b=a
 ·subst hb;rw[bG] at z;cases z;exact new
 ·rw[aR hb] at z;refine(ok b u z).stay (λ_ _ _ q=>q) (λc q=>?_) λc xs q=>?_
  ·rw[aR (aN q ha)];exact q
  ·rw[aR (aN q ha)];exact q
end
section
variable{X:Cx}{pins:List (Addr×Obj)}{σ:St}{H H1:Hp}{s s1:Shared}{a:Addr}{φ:Heap->Prop}{o:HO}
theorem Inv.del(I:Inv X pins σ H s)(ha:H a=some (.ext φ))(h0:X.H₀ a=none):Inv X pins σ (del H a) s:=by
 have ne:∀{b:Addr} {u:HO},X.H₀ b=some u->b≠a:=λ{b u} z=>aN z h0
 refine⟨I.ok,I.os,I.bare,⟨I.base.keep,I.base.slot,λb o e n hx=>oH (I.base.free b o e n hx),I.base.there,λb xs e=>?_,λb o u e=>?_,λb ps e=>?_⟩,I.loc,I.cell,oH I.free,λx c e=>oH (I.iu x c e),λp hp=>?_,I.hok.del ha,I.len⟩
 ·rw[k_ (ne e)];exact I.base.tups b xs e
 ·rw[k_ (ne e)];exact I.base.j6 b o u e
 ·rw[k_ (ne e)];exact I.base.j7 b ps e
 ·obtain⟨q1,q2,q3,q4,q5⟩:=I.pin p hp;exact⟨q1,oH q2,q3,q4,q5⟩
theorem Inv.track(I:Inv X pins σ H s)(I0:Inv X pins σ H1 s1)(na:s1.heap.objs.size<=a)(ha:H a=none)(new:cU X.prog X.w (upd H a o) s.heap a o):Inv X pins σ (upd H a o) s:=by
 have s0:X.s₀.heap.objs.size<=s1.heap.objs.size:=I0.sz;have ne:∀b ob,s1.heap.get? b=some ob->b≠a:=λb ob q=>qV (qS (uB q) na)
 refine⟨I.ok,I.os,I.bare,⟨I.base.keep,I.base.slot,λb o e n hx=>?_,I.base.there,λb xs e=>?_,λb o u e=>?_,λb ps e=>?_⟩,I.loc,I.cell,?_,λx c e=>?_,λp hp=>?_,I.hok.track ha new,I.len⟩
 ·rw[aR (qV (qS (uB e) (oB s0 na)))];exact I.base.free b o e n hx
 ·have z:=I.base.tups b xs e;rw[aR (aN z ha)];exact z
 ·have z:=I.base.j6 b o u e;rw[aR (aN z ha)];exact z
 ·obtain⟨m,z⟩:=I.base.j7 b ps e;exact⟨m,by rw[aR (aN z ha)];exact z⟩
 ·rw[aR (qV (qS I0.lt na))];exact I.free
 ·obtain⟨v,ob,ho,_⟩:=I0.cell x c e;rw[aR (ne c ob ho)];exact I.iu x c e
 ·obtain⟨q1,q2,q3,q4,q5⟩:=I.pin p hp;obtain⟨r1,_⟩:=I0.pin p hp;exact⟨q1,by rw[aR (ne _ _ r1)];exact q2,q3,q4,q5⟩
end
section
variable{M:Model}{A:Around}{E:xB}{env:Env}
variable{nm q:Str}{C N:Addr}{bs bm:xF}{hdct:Bool}{sn:List Str}{sub:xF}{ab:Bool}{col:Option Bool}{dd:xN}{k0 k1 k2 k3 k5:Option Value}{newId:String}
theorem J4{s:Shared}{x:Sem Value}{Q:Flow->Shared->Prop}(hbase:bm.contains (.type "BaseException")=true)(hh:A.handled=none)
  (h:wpAny M A x (λv s₁=>∃e t dx sl,v=.ref e/\s₁.heap.get? C=some (excClassObj nm q C N bs bm hdct sn sub ab col dd k0 k1 k2 k3 k5 newId) /\
   s₁.heap.get? e=some { cls:=.ref C,dict:=dx,data:=.fields #[.ref t,.none,.none,.none,.bool false,.none],slots:=sl }/\E (.ref e) s₁) E s) :
  wpAny M A (raiseStmt env (some x) none) Q E s:=by
 have hcB:(Value.ref C::bm).contains (.type "BaseException")=true:=by rw[List.contains_cons,hbase,Bool.or_true]
 unfold raiseStmt;refine zI (mM h (λv s₁ h₁=>?_) λ_ _ x=>x);obtain⟨e,t,dx,sl,rfl,hC,he,hE⟩:=h₁;obtain⟨hp,g,d,tk,os⟩:=s₁
 repeat (first|with_reducible refine wpAny_loadPart_at he ?_|with_reducible refine wpAny_loadPart_at hC ?_|(with_reducible refine wpAny_isSubtype_exc hC ?_;rw[hcB])|wp_step)
 exact wpAny_raiseNew_none hh hE
end
def Yl(K:W.Frag)(C R:Addr):Prop:=∃nm q N bs hdct sn sub ab col dd k0 k1 k2 k3 k5,K.lookup C=some (excClassObj nm q C N bs [.ref R,.type "ValueError", .type "Exception", .type "BaseException", .type "object"] hdct sn sub ab col dd k0 k1 k2 k3 k5 "ValueError.__new__")
def MP(C:Addr)(H0:Hp)(n:Nat)(E:XK)(te:TE):TS:=λD σ H=>te σ H λx H1=>∃a dx,x=.ref a/\n<=a/\H0 a=none/\H1 a=some (j9 a C dx)/\E (.ref C) dx (del H1 a)
section
variable{P:Program}{w:World}{K:W.Frag}{mg:xC}{base:Heap}{N:List Str}{qual:Str}{scope:Scope}{f:Addr}{cd:Value}{A:Around}{outer:List Env}{s:Shared}{H:Hp}{E:XK}
theorem uy{C R:Addr}{e:Expr}{te:TE}{pos:Pos}(hC:Yl K C R)(he:PE (j8 (CX1 P w) P w K mg base N qual scope f cd A outer s H E) e te) :
  PS (j8 (CX1 P w) P w K mg base N qual scope f cd A outer s H E) (.Raise (some e) none pos) (MP C H s.heap.objs.size E te):=by
 intro pins s1 σ H1 D I h;obtain⟨nm,q,N',bs,hdct,sn,sub,ab,col,dd,k0,k1,k2,k3,k5,ho⟩:=hC;rw[arm_exec_Raise];show wpAny (model P w) (A.deeper (envOfC qual scope s.heap.objs.size f cd)) (do standAt pos;raiseStmt (envOfC qual scope s.heap.objs.size f cd) (some (do let v <- eval e (envOfC qual scope s.heap.objs.size f cd);standAt pos;pure v)) none) _ _ s1;refine zI (wpAny_standAt (J4 (C:=C) (nm:=nm) (q:=q) (N:=N') (bs:=bs) (bm:=[.ref R,.type "ValueError", .type "Exception", .type "BaseException", .type "object"]) (hdct:=hdct) (sn:=sn) (sub:=sub) (ab:=ab) (col:=col) (dd:=dd) (k0:=k0) (k1:=k1) (k2:=k2) (k3:=k3) (k5:=k5) (newId := "ValueError.__new__") (HS R).Yg (I.ok.hd rfl) (zI (thn (he pins s1 σ H1 _ I h) λv s2 ⟨x,H2,I2,rx,a,dx,ex,na,h0,ha,q2⟩=>zI (wpAny_standAt (rX ?_))))));subst ex;obtain rfl:v=Value.ref a:=rx;obtain⟨⟨t,sl,ge⟩,_,_⟩:cU P w H2 s2.heap a (j9 a C dx):=I2.hok a _ ha;refine⟨a,t,dx,sl,rfl,I2.kIn C _ ho,ge,?_⟩;have I3:Inv (j8 (CX1 P w) P w K mg base N qual scope f cd A outer s H E) pins σ (del H2 a) s2:=I2.del ha h0;show wpAny (model P w) (A.deeper (envOfC qual scope s.heap.objs.size f cd)) (leaving (envOfC qual scope s.heap.objs.size f cd) (.ref a)) _ _ s2;refine BW (base:=base) I.ok.frames I3.stack rfl ge rfl rfl λh' T' lf=>?_
 have hz:∀z,(#[Value.ref t,.none,.none,.none,.bool false,.none]:xL)[1]?=some (.ref z)->False:=λz q=>by
  simp at q
 have Vj:∀b∈frs (envOfC qual scope s.heap.objs.size f cd::outer),del H2 a b=none:=I3.sG;obtain⟨oT',ts',gT',gt',g3'⟩:=lf.ent;refine⟨a,C,dx,del H2 a,rfl,I3.os,I3.bare,RN I3.base lf (λb hb=>?_) (λb o q m=>?_) na (λz q=>(hz z q).elim),BX I3.hok lf ux (λz q=>(hz z q).elim) Vj,?_,q2⟩
 ·show b∈frs (envOfC qual scope s.heap.objs.size f cd::outer);unfold frs;rw[List.filterMap_cons];exact zD _ hb
 ·have m:b∈frs (envOfC qual scope s.heap.objs.size f cd::outer):=m;unfold frs at m;rw[List.filterMap_cons] at m;rcases jI.mp m with z|z
  ·exact gN (uB q) (by rw[z];exact gE _)
  ·exact z
 ·have hsz2:s.heap.objs.size<=s2.heap.objs.size:=I2.sz;have nTa:T'≠a:=λz=>gN (uB ge) (by rw[<- z];exact Nat.not_lt.mpr lf.new)
  exact⟨_,_,T',oT',ts',lf.obj,rfl,rfl,rfl,by simp,nTa,gT',gt',g3',ux,I3.hok.fresh lf.new,na,Nat.le_trans hsz2 lf.new⟩
end
section
variable{X:Cx}{CX:CXT}{k:Nat}{f C:Addr}{fd:FuncData}{ps:List Str}{sp:Sp}{E:XK}{e:Expr}{t:TA}{bm:xF}
theorem M4{pins:List (Addr×Obj)}{σ:St}{H:Hp}{s:Shared}{Q:VK}{us:xF}{vs:List V}(M:Yh X.K C f bm)(F:gq X.prog X.w X.K X.mg X.base CX k f fd ps sp)(hr:Room (k+1) X.A)(hb:Binds X.K fd ps [])
  (hx:Passes CX X E) (I:Inv X pins σ H s) (r:Vals vs us) (hz:vs.length<=sizeLine)
  (h:∀x,H x=none->s.heap.objs.size<=x->sp (.ref x::vs) (upd H x (j9 x C none)) (λv H2=>v=.non/\Q (.ref x) H2) E) :
  wpAny (model X.prog X.w) X.A (call (.ref C) us) (EP X pins σ Q) X.xe s:=by
 obtain⟨nm,q,N,bs,hdct,sn,sub,ab,col,dd,k0,k1,k2,k3,k5,ho⟩:=M.obj;obtain⟨oI,hoI,hcI⟩:=M.fn;have hsz:us.length<=sizeLine:=by rw[<- r.length];exact hz
 refine Mg (h:=s.heap) (g:=s.gens) (d:=s.drawn) (t:=s.toks) (os:=s.os) M.HS (I.kIn C _ ho) (W.looks_findIn I.kIn M.init) (I.kIn f _ hoI) hcI (λh' kp hget=>?_) hsz;have hfr:H (s.heap.objs.size+1)=none:=I.hok.fresh (Nat.le_succ _);have hq:=h (s.heap.objs.size+1) hfr (Nat.le_succ _);have I2:Inv X pins σ (upd H (s.heap.objs.size+1) (j9 (s.heap.objs.size+1) C none)) { s with heap:=h' }:=I.laid (t':=s.toks) kp (Nat.le_succ _) (HJ hget)
 have r2:Vals (V.ref (s.heap.objs.size+1)::vs) (Value.ref (s.heap.objs.size+1)::us):=.cons rfl r;have hl:(Value.ref (s.heap.objs.size+1)::us++[]).length=ps.length:=by
  rw[mP,<- r2.length];exact F.len _ _ _ _ hq
 refine wpAny_call (codeAny_mono (F.run _ X.stack _ _ ⟨Value.ref (s.heap.objs.size+1)::us,[]⟩ (Value.ref (s.heap.objs.size+1)::us) _ _ E (hr.make C us []) (I2.env0.make C us []) (by
  have:=hb { s with heap:=h' } (Value.ref (s.heap.objs.size+1)::us) I2.kIn hl
  rwa [mP] at this) r2 hq) λr s' hq'=>?_)
 cases r with
 | error e=>exact hx pins σ _ _ e s' I2 hq'
 | ok fl =>
  cases fl with
  | ret u =>
   obtain⟨v,H',I3,rv,ev,q3⟩:=I2.after hq';subst ev;exact⟨rv,⟨V.ref (s.heap.objs.size+1),H',I3,rfl,q3⟩⟩
  | next=>exact False.elim hq'
  | brk=>exact False.elim hq'
  | cont=>exact False.elim hq'
end
def TX(n:Nat)(C:Addr)(f g:Str)(t:TA):TE:=λσ H Q=>t σ H λvs H1=>∃v y,vs=[v,y]/\∀z H',n<=z->H1 z=none->Same H1 H'->ExcAt H' z C (fQ g y [(f,v)])->Q (.ref z) H'
section
variable{CX:CXT}{X:Cx}{m:Nat}{C R:Addr}{E:XK}{x qual f g:Str}{st:Stmt}{p pos:Pos}{e:Expr}{es:List Expr}{t:TA}
theorem zK(M:uw X.K X.mg x qual st C R)(F:Ms X.prog X.w X.K X.mg X.base CX qual st ["self", f,g] (Yk C f g))(hr:Room m X.A)(ha:PA X (e::es) t)(hk:2<=m:=by decide)(hx:Passes CX X E:=by exact uf)(hg:Gl X x:=by rfl)
  (hdb:(x==("__debug__" : Str))=false:=by decide) (he:starEach (e::es) X.env=(false,eval e X.env)::starEach es X.env:=by rfl) (hpl:(backTo pos (starEach es X.env)).any (·.1)=false:=by rfl) :
  PE X (.Call (.Name x p) (e::es) [] pos) (TX X.s₀.heap.objs.size C f g t):=by
 intro pins s σ H Q I h;obtain⟨fa,fd,C1,Fn⟩:=M.ex;obtain⟨ok,hb⟩:=F fa fd Fn;refine wpAny_Call_Name_kw (lZ I hg M.gl ?_ hdb);refine W.callWith_K (h₀:=X.base) I.ok.mod.kin C1.kp (thn (ha pos pins s σ H _ I h) λus s1 ⟨vs,H1,I1,r,v,y,ev,q⟩=>⟨I1.kIn,?_⟩) he hpl;subst ev;refine M4 C1 ok (hr.mono hk) hb hx I1 r (bW (show (_:Nat)<=_ by simp only[List.length_cons,List.length_nil];decide)) λz hz hn=>⟨z,v,y,rfl,bG,λdx hd=>⟨rfl,q z _ (Nat.le_trans I1.sz hn) hz (λb u eb=>?_) ?_⟩⟩
 ·have hzx:dx≠z:=λq=>by rw[q,bG] at hd;cases hd
  rw[aR hzx] at hd;rw[aR (aN eb hd),aR (aN eb hz),aR (aN eb hd),aR (aN eb hz)];exact eb
 ·have hzx:dx≠z:=λq=>by rw[q,bG] at hd;cases hd
  exact .inr ⟨dx,by rw[aR (Ne.symm hzx),bG],bG,hzx⟩
end
theorem M5{n:Nat}{H0 H1 H':Hp}{E:XK}{C z:Addr}{fs:List (Str×V)}(hfs:fs≠[])(hn:n<=z)(hz:H1 z=none)(h0:H0 z=none)(s:Same H1 H')(e:ExcAt H' z C fs)(k:∀dx H2,Same H1 H2->H2 dx=some (kY dx fs)->E (.ref C) (some dx) H2) :
  ∃a dx,V.ref z=.ref a/\n<=a/\H0 a=none/\H' a=some (j9 a C dx)/\E (.ref C) dx (del H' a):=by
 rcases e with⟨w,_⟩|⟨dx,a,b,c⟩
 ·exact gN w hfs
 ·exact⟨z,some dx,rfl,hn,h0,a,k dx _ (λb u q=>by rw[k_ (aN q hz)];exact s b u q) (by rw[k_ c];exact b)⟩
theorem BZ{es:Array DictEntry}{name x:Str}{i:Nat}(h:x≠name)(hi:es.findIdx? (·.key.isStr name)=some i):nsFind (es.eraseIdxIfInBounds i) x=nsFind es x:=by
 obtain⟨l⟩:=es;have h1:=find?_drop (·.key.isStr x) (·.key.isStr name) (isStr_other h) l;rw[List.findIdx?_toArray] at hi;simp only[hi] at h1;have e1:(l.toArray.eraseIdxIfInBounds i).find? (·.key.isStr x)=l.toArray.find? (·.key.isStr x):=by simpa using h1
 unfold nsFind findBy;rw[e1]
section
variable{M:Model}{A:Around}{E:xB}{s:Shared}
theorem zL{a:Addr}{m}{name:Str}{Q:Bool->Shared->Prop}(hn:s.heap.Ns a m)
  (hQ:∀h' m',h'.Ns a m'->(∀x,x≠name->m' x=m x)->Heap.SameBut a s.heap h'->Q (m name).isSome { s with heap:=h' }):wpAny M A (nsDel a name) Q E s:=by
 obtain⟨o,es,ep,ho,hd,hk,hm⟩:=id hn;have hany:es.any (·.refKey)=false:=by
  rw[Array.any_eq_false'];intro e he;obtain⟨n,t,h⟩:=hk e he;simp[DictEntry.refKey,h]
 have hsome:(m name).isSome=es.any (·.key.isStr name):=by
  rw[<- hm name];simp only[nsFind,findBy,Option.isSome_map];rw[Bool.eq_iff_iff];simp only[Array.find?_isSome,Array.any_eq_true]
  constructor
  ·rintro ⟨x,hx,hp⟩;obtain⟨i,hi,rfl⟩:=Array.mem_iff_getElem.mp hx;exact⟨i,hi,hp⟩
  ·rintro ⟨i,hi,hp⟩;exact⟨_,Array.getElem_mem hi,hp⟩
 have hhas:nsHas name o=pure (es.any (·.key.isStr name)):=by
  rw[nsHas_eq];unfold nsHasByArray;rw[hd];show (if (es.any λx=>x.key.isStr name)=true then _ else _)=_
  generalize (es.any λx=>x.key.isStr name)=b
  cases b <;> simp[hany]
 unfold nsDel;refine zI (wpAny_loadPart ho ?_);rw[hhas];refine zI (rX ?_);rw[<- hsome];cases hmn:(m name).isSome
 ·have:=hQ s.heap m hn (λ_ _=>rfl) (.refl ..);rw[hmn] at this;exact rX this
 ·refine zI (wpAny_updatePart ho (rX ?_));have key:∃m',(s.heap.update a (Obj.dropName name)).Ns a m'/\∀x,x≠name->m' x=m x:=by
   obtain⟨cl,d,dt,sl⟩:=o;subst hd;cases hi:es.findIdx? (·.key.isStr name) with
   | some i=>exact⟨_,⟨_,_,ep+1,Heap.get?_update_self _ ho (by simp only[Obj.dropName_eq,Obj.dropNameByArray,hi] <;> rfl),(by simp only[Obj.dropName_eq,Obj.dropNameByArray,hi] <;> rfl),hk.erase i,λ_=>rfl⟩,λx hx=>(BZ hx hi).trans (hm x)⟩
   | none=>exact⟨_,⟨_,_,ep,Heap.get?_update_self _ ho (by simp only[Obj.dropName_eq,Obj.dropNameByArray,hi] <;> rfl),(by simp only[Obj.dropName_eq,Obj.dropNameByArray,hi] <;> rfl),hk,λ_=>rfl⟩,λx hx=>hm x⟩
  obtain⟨m',hm',hx'⟩:=key;have:=hQ _ m' hm' hx' (Heap.SameBut.update ..);rw[hmn] at this;exact this
end
section
variable{X:Cx}{pins:List (Addr×Obj)}{σ:St}{H:Hp}{s:Shared}
theorem name_goes{M:Model}{A:Around}{E:xB}{i:Nat}{n:Str}{pos:Pos}{Q:xA}(I:Inv X pins σ H s)(hN:X.N.Nodup)(hi:X.N[i]?=some n)(hl:X.env.scope.names.lookup n=some .local)
  (h:∀s',Inv X pins (σ.set i none) H s'->Q () s'):wpAny M A (do bindName X.env n .none;unbindBehindTheSuite X.env n pos) Q E s:=by
 have hp:(X.env.scope.kind==.class || (X.env.scope.kind==.module && X.env.locals != X.env.globals))=false:=by rw[I.ok.kind];rfl
 have hl':X.env.kindOf n=some .local:=hl;have hiσ:i<σ.length:=by rw[I.len];exact(qB.mp hi).1
 refine zI (wpAny_bindName (kj (v:=V.non) (u:=Value.none) I hN hi (.inl hl) rfl (λs1 I1=>?_) (.inr hl)));unfold unbindBehindTheSuite;refine wpAny_onRaise ?_;unfold unbindName;refine zI (wpAny_point (zI ?_));unfold deleteName;simp only[hl',hp];rw[yT (by decide)];obtain⟨m,hn,hm⟩:=id I1.loc;have hmn:(m n).isSome=true:=by
  obtain⟨u,_,q⟩:=hm i n .non hi (by rw[List.getElem?_set_self hiσ]) (.inl hl);rcases q with⟨_,e⟩|⟨k,_⟩
  ·rw[e];rfl
  ·rw[hl'] at k;rcases k with k|k <;> cases k
 have cne:=I1.cne;refine zI (zL hn λh₂ m₂ hn₂ hk hs=>?_);rw[hmn];simp only[if_true,Bool.not_true,Bool.false_eq_true,if_false];refine rX (wpAny_point (h _ ?_));obtain⟨oL,_,_,hoL,_⟩:=id hn;refine⟨I1.ok,I1.os,I1.bare,⟨λb o e n hb hx=>?_,λb o e n hb hx=>?_,I1.base.free,λb o e hx=>?_,I1.base.tups,I1.base.j6,I1.base.j7⟩,⟨_,hn₂,λj y v' e1 e2 e3=>?_⟩,λy c e=>?_,I1.free,I1.iu,λp hp=>?_,λb ob e=>?_,by rw[List.length_set];exact I.len⟩
 ·exact(hs.2 b (qV (qS (uB e) I1.ok.above))).trans (I1.base.keep b o e n hb hx)
 ·obtain⟨sl,e1⟩:=I1.base.slot b o e n hb hx;exact⟨sl,(hs.2 b (qV (qS (uB e) I1.ok.above))).trans e1⟩
 ·obtain⟨o',e1⟩:=I1.base.there b o e hx;exact⟨o',(hs.2 b (qV (qS (uB e) I1.ok.above))).trans e1⟩
 ·by_cases hj:j=i
  ·subst hj;rw[List.getElem?_set_self hiσ] at e2;cases e2
  ·rw[List.getElem?_set_ne (Ne.symm hj)] at e2;obtain⟨u',r',q⟩:=hm j y v' e1 (by rw[List.getElem?_set_ne (Ne.symm hj)];exact e2) e3;refine⟨u',r',?_⟩;rcases q with⟨k,e⟩|⟨k,c,e,z⟩
   ·refine .inl ⟨k,?_⟩;have:y≠n:=λe=>hj (tQ hN e1 (e▸hi))
    rw[hk y this];exact e
   ·exact .inr ⟨k,c,e,z.sameBut hs (cne y c e)⟩
 ·obtain⟨w',z⟩:=I1.cell y c e;exact⟨w',z.sameBut hs (cne y c e)⟩
 ·obtain⟨e,n,ne,nf,d⟩:=I1.pin p hp;exact⟨(hs.2 p.1 ne).trans e,n,ne,nf,d⟩
 ·refine(I1.hok b ob e).stay (λc w' hc q=>(hs.2 c ?_).trans q) (λ_ q=>q) λ_ _ q=>q
  rintro rfl;rcases hc with rfl|hc
  ·rw[I1.free] at e;cases e
  ·rw[I1.free] at hc;cases hc
end
section
variable{M:Model}{A:Around}{E:xB}{s:Shared}{base:Heap}{env:Env}{outer:List Env}{L e:Addr}{oe:Obj}{vs:xL}
theorem J5{Q:xA}{T0:Addr}{o0:Obj}{ts0:xL}(hfr:A.frames=some (env::outer))(hl:s.heap.FunFrames base (env::outer))(hf:env.frame=some L)(he:s.heap.get? e=some oe)(hd:oe.data=.fields vs)(h1:vs[1]?=some (.ref T0))
  (hT:s.heap.get? T0=some o0) (hdT:o0.data=.fields ts0) (h3:ts0[3]?=some .none) (hTe:T0≠e)
  (h:∀h' T,Left (frs (env::outer)) s.heap h' e oe vs T->Q () { s with heap:=h' }):wpAny M A (noteFrame (.ref e) env) (λ_ s'=>wpAny M A (setFlight (.ref e) none) Q E s') E s:=by
 unfold noteFrame;simp only[hf];refine zI (wpAny_field he hd h1 ?_);rw[if_pos (show (Value.ref T0 != Value.none)=true from by simp)];refine zI (wpAny_field hT hdT h3 ?_);rw[if_neg (show ¬ ((Value.none==rawInt L)=true) from by simp[rawInt])];refine zI (wpAny_setField hT hdT (Array.getElem?_eq_some_iff.mp h3).1 ?_);have hoth:∀b,b≠T0->(s.heap.update T0 (Obj.mapFields (·.setIfInBounds 3 Value.none))).get? b=s.heap.get? b:=λb hb=>mB _ _ (Ne.symm hb)
 have hno:∀b o,s.heap.get? b=some o->(∀z,o.data≠.fields z)->b≠T0:=λb o z hn q=>by
  rw[q,hT] at z;cases z;exact hn ts0 hdT
 have hl2:(s.heap.update T0 (Obj.mapFields (·.setIfInBounds 3 Value.none))).FunFrames base (env::outer):=hl.of_keeps λb o z hn=>⟨o,(hoth b (hno b o z hn)).trans z,rfl⟩
 refine ur (s:={ s with heap:=s.heap.update T0 (Obj.mapFields (·.setIfInBounds 3 Value.none)) }) hfr hl2 hf ((hoth e (Ne.symm hTe)).trans he) hd (Array.getElem?_eq_some_iff.mp h1).1 λh' T lf=>h h' T ⟨λb o hb hn z hz=>lf.keep b o hb hn ((hoth b (hz T0 h1)).trans z) hz,λb o hb z=>?_,?_,lf.ent,lf.obj⟩
 ·obtain⟨_,o',ho',hn'⟩:=hl.mem hb;rw[z] at ho';cases ho';exact lf.slot b o hb ((hoth b (hno b o z hn')).trans z)
 ·have:=lf.new;rw[Heap.size_update] at this;exact this
end
abbrev Cx.pinned(X:Cx)(pins:List (Addr×Obj)):Cx:={ X with pn:=X.pn++pins }
section
variable{X:Cx}{pins gC:List (Addr×Obj)}{σ:St}{H:Hp}{s:Shared}{a:Addr}
theorem Inv.abn(I:Inv X pins σ H s):Inv (X.pinned pins) [] σ H s :=
 ⟨⟨I.ok.mod,I.ok.kind,I.ok.glob,I.ok.blt,I.ok.above,I.ok.inj,I.ok.has,I.ok.cab,I.ok.hd,I.ok.frames,I.ok.stk,I.ok.exf,I.ok.bs,I.ok.bsz,I.ok.yW,I.ok.Bq,I.ok.m_,I.ok.frf⟩,I.os,I.bare,I.base,I.loc,I.cell,I.free,I.iu,λp hp=>I.pin p (by
  have hp:p∈(X.pn++pins)++[]:=hp;rw[mP] at hp;exact hp),I.hok,I.len⟩
theorem Inv.uz(I:Inv (X.pinned pins) gC σ H s):Inv X pins σ H s :=
 ⟨⟨I.ok.mod,I.ok.kind,I.ok.glob,I.ok.blt,I.ok.above,I.ok.inj,I.ok.has,I.ok.cab,I.ok.hd,I.ok.frames,I.ok.stk,I.ok.exf,I.ok.bs,I.ok.bsz,I.ok.yW,I.ok.Bq,I.ok.m_,I.ok.frf⟩,I.os,I.bare,I.base,I.loc,I.cell,I.free,I.iu,λp hp=>I.pin p (mN _ hp),I.hok,I.len⟩
abbrev Cx.hand(X:Cx)(a:Addr):Cx:={ X with A:=X.A.mark (some (.ref a)),calm:=false,xe:=λ_ _=>False }
theorem Inv.hand(I:Inv X pins σ H s):Inv (X.hand a) pins σ H s :=
 ⟨⟨I.ok.mod,I.ok.kind,I.ok.glob,I.ok.blt,I.ok.above,I.ok.inj,I.ok.has,I.ok.cab,(λh=>by cases h),I.ok.frames,I.ok.stk,I.ok.exf,I.ok.bs,I.ok.bsz,I.ok.yW,I.ok.Bq,I.ok.m_,I.ok.frf⟩,I.os,I.bare,I.base,I.loc,I.cell,I.free,I.iu,I.pin,I.hok,I.len⟩
theorem Inv.lg(ok:X.Ok)(I:Inv (X.hand a) pins σ H s):Inv X pins σ H s :=
 ⟨ok,I.os,I.bare,I.base,I.loc,I.cell,I.free,I.iu,I.pin,I.hok,I.len⟩
end
abbrev Cx.tr(X:Cx)(pins:List (Addr×Obj))(EX:St->XK):Cx:=(X.pinned pins).wish λev s'=>∃gC σ' H1 s1,Inv (X.pinned pins) gC σ' H1 s1/\CX1 X.prog X.w X.stack H1 s1 (EX σ') ev s'
def wK(a C:Addr)(dx:xN):HO:=.ext λh=>∃oe vs,h.get? a=some oe/\oe.cls=.ref C/\oe.dict=dx/\oe.data=.fields vs
theorem RT{P:Program}{w:World}{H:Hp}{h:Heap}{a C:Addr}{dx:xN}{oe:Obj}{vs:xL}(q:h.get? a=some oe)(hc:oe.cls=.ref C)(hd:oe.dict=dx)(hf:oe.data=.fields vs):cU P w H h a (wK a C dx) :=
 ⟨⟨oe,vs,q,hc,hd,hf⟩,⟨_,q⟩,λh1 h2 ⟨oe,vs,z,r⟩ k=>⟨oe,vs,k _ z,r⟩⟩
def oJ(H:Hp)(x C:Addr)(fs:List (Str×V)):Prop:=(fs=[]/\H x=some (wK x C none))\/∃dx,H x=some (wK x C (some dx))/\H dx=some (kY dx fs)/\dx≠x
theorem oJ.same{H H':Hp}{x C:Addr}{fs:List (Str×V)}(e:Same H H')(h:oJ H x C fs):oJ H' x C fs:=by
 rcases h with⟨a,b⟩|⟨dx,a,b,c⟩
 ·exact .inl ⟨a,e _ _ b⟩
 ·exact .inr ⟨dx,e _ _ a,e _ _ b,c⟩
theorem oJ.mk{H:Hp}{a C dx:Addr}{fs:List (Str×V)}(hd:H dx=some (kY dx fs))(ha:H a=none):oJ (upd H a (wK a C (some dx))) a C fs :=
 .inr ⟨dx,bG,by rw[aR (aN hd ha)];exact hd,aN hd ha⟩
structure uD(X:Cx)(pins:List (Addr×Obj))(σ:St)(H:Hp)(s:Shared)(a C:Addr)(dx:xN):Prop where
 I:Inv X pins σ H s
 ha:H a=some (wK a C dx)
 tb:∃T oe vs oT ts,s.heap.get? a=some oe/\oe.data=.fields vs/\vs[1]?=some (.ref T)/\s.heap.get? T=some oT/\oT.data=.fields ts/\3<ts.size/\H T=none/\T≠X.env.locals/\(T∈X.ex\/X.s₀.heap.objs.size<=T)/\(∀x c,X.env.cells.lookup x=some c->c≠T)/\∀p∈X.pn++pins,p.1≠T
abbrev THd:=Ends->Addr->Addr->Option Addr->St->Hp->Prop
def PH(X:Cx)(hs:List ExceptHandler)(t:THd):Prop :=
 ∀(pins:List (Addr×Obj)) (s:Shared) (σ:St) (H:Hp) (C a:Addr) (dx:xN) (D:Ends),uD X pins σ H s a C dx->t D C a dx σ H->wpAny (model X.prog X.w) X.A (handleBy (.ref a) X.env hs) (SP X pins D) X.xe s
def Ends.forget(D:Ends)(i:Nat):Ends:=⟨λσ H=>D.nx (σ.set i none) H,D.rt,λσ H=>D.bk (σ.set i none) H,λσ H=>D.ct (σ.set i none) H⟩
def abo:THd:=λ_ _ _ _ _ _=>False
def hAs(K:W.Frag)(d:Addr)(i:Nat)(th:Addr->TS)(tr:THd):THd:=λD C a dx σ H=>∃b,W.exmOne K (.ref C) (.ref d)=some b/\if b=true then th a (D.forget i) (σ.set i (some (.ref a))) H else tr D C a dx σ H
def hPl(K:W.Frag)(d:Addr)(th:Addr->TS)(tr:THd):THd:=λD C a dx σ H=>∃b,W.exmOne K (.ref C) (.ref d)=some b/\if b=true then th a D σ H else tr D C a dx σ H
section
variable{X:Cx}{x n:Str}{d:Addr}{i:Nat}{b₀:Stmt}{suite:List Stmt}{rest:List ExceptHandler}{th:Addr->TS}{tr:THd}{p pos:Pos}
theorem Fw:PH X [] abo:=λ_ _ _ _ _ _ _ _ _ h=>h.elim
theorem uD.lit{pins:List (Addr×Obj)}{σ:St}{H:Hp}{s:Shared}{a C:Addr}{dx:xN}{A:Around}{E:xB}{Q:xA}(c:uD X pins σ H s a C dx)(h:∀s',Inv X pins σ H s'->Q () s'):wpAny (model X.prog X.w) A (setFlight (.ref a) none) Q E s:=by
 obtain⟨T,oe,vs,oT,ts,ga,gf,g1,gT,gt,g3,hT,n1,n2,n3,n4⟩:=c.tb;exact wpAny_setFlight_none ga gf g1 gT gt g3 (h _ (c.I.turned (t':=s.toks) (λb o hb e=>(mB _ _ (Ne.symm hb)).trans e) hT n1 n2 n3 n4))
theorem uD.type{pins:List (Addr×Obj)}{σ:St}{H:Hp}{s:Shared}{a C:Addr}{dx:xN}(c:uD X pins σ H s a C dx):W.Looks (model X.prog X.w) s.heap (typeOf (.ref a)) (.ref C):=by
 obtain⟨⟨oe,vs,ge,gc,gd,gf⟩,_,_⟩:cU X.prog X.w H s.heap a (wK a C dx):=c.I.hok a _ c.ha;exact gc▸(W.Looks.ld ge).andThen .now
theorem M6(hm:X.mg x=some (.ref d))(hs:∀a,PSs (X.hand a) (b₀::suite) (th a))(hrest:PH X rest tr)(hN:X.N.Nodup)(hi:X.N[i]?=some n)(hl:X.env.scope.names.lookup n=some .local)(hg:Gl X x:=by rfl)
  (hdb:(x==("__debug__" : Str))=false:=by decide):PH X (.ExceptHandler (some (.Name x p)) (some n) (b₀::suite) pos::rest) (hAs X.K d i th tr):=by
 intro pins s σ H C a dx D c h;obtain⟨b,hb,h⟩:=h;refine wpAny_handleBy_cons (codeAny_handlers_test (lZ (X:=X.hand a) c.I.hand hg hm ?_ hdb)) (by intro q;cases q);refine(W.exm_one (M:=model X.prog X.w) c.I.kIn c.type hb).here ?_;cases b with
 | false =>
  rw[yT vS] at h;exact hrest pins s σ H C a dx D c h
 | true =>
  rw[yB rfl] at h;show codeAny _ _ _ _ _;refine codeAny_handlers_suite_as (c.lit λs1 I1=>kj I1 hN hi (.inl hl) (v:=V.ref a) rfl (λs2 I2=>?_) (.inr hl));refine mM (hs a pins s2 (σ.set i (some (.ref a))) H (D.forget i) I2.hand h) (λf s3 q=>?_) λ_ _ z=>z.elim
  show wpAny (model X.prog X.w) X.A (do bindName X.env n .none;unbindBehindTheSuite X.env n pos) _ _ s3;cases f with
  | next =>
   obtain⟨σ',H',I',q⟩:=q;exact name_goes (I'.lg c.I.ok) hN hi hl λs4 I4=>⟨_,H',I4,q⟩
  | brk =>
   obtain⟨σ',H',I',q⟩:=q;exact name_goes (I'.lg c.I.ok) hN hi hl λs4 I4=>⟨_,H',I4,q⟩
  | cont =>
   obtain⟨σ',H',I',q⟩:=q;exact name_goes (I'.lg c.I.ok) hN hi hl λs4 I4=>⟨_,H',I4,q⟩
  | ret u =>
   obtain⟨v,σ',H',I',r,q⟩:=q;exact name_goes (I'.lg c.I.ok) hN hi hl λs4 I4=>⟨v,_,H',I4,r,q⟩
theorem M7(hm:X.mg x=some (.ref d))(hs:∀a,PSs (X.hand a) (b₀::suite) (th a))(hrest:PH X rest tr)(hg:Gl X x:=by rfl)
  (hdb:(x==("__debug__" : Str))=false:=by decide):PH X (.ExceptHandler (some (.Name x p)) none (b₀::suite) pos::rest) (hPl X.K d th tr):=by
 intro pins s σ H C a dx D c h;obtain⟨b,hb,h⟩:=h;refine wpAny_handleBy_cons (codeAny_handlers_test (lZ (X:=X.hand a) c.I.hand hg hm ?_ hdb)) (by intro q;cases q);refine(W.exm_one (M:=model X.prog X.w) c.I.kIn c.type hb).here ?_;cases b with
 | false =>
  rw[yT vS] at h;exact hrest pins s σ H C a dx D c h
 | true =>
  rw[yB rfl] at h;show codeAny _ _ _ _ _;refine codeAny_handlers_suite (c.lit λs1 I1=>?_);refine mM (hs a pins s1 σ H D I1.hand h) (λf s3 q=>?_) λ_ _ z=>z.elim
  show SP X pins D f s3;cases f with
  | next =>
   obtain⟨σ',H',I',q⟩:=q;exact⟨_,H',I'.lg c.I.ok,q⟩
  | brk =>
   obtain⟨σ',H',I',q⟩:=q;exact⟨_,H',I'.lg c.I.ok,q⟩
  | cont =>
   obtain⟨σ',H',I',q⟩:=q;exact⟨_,H',I'.lg c.I.ok,q⟩
  | ret u =>
   obtain⟨v,σ',H',I',r,q⟩:=q;exact⟨v,_,H',I'.lg c.I.ok,r,q⟩
end
def Ym(tb:List (Addr×Obj)->(St->XK)->TS)(th:THd):TS:=λD σ H=>∀pins,tb pins (λσ' cv dx H'=>∃C,cv=.ref C/\∀a,H' a=none->th D C a dx σ' (upd H' a (wK a C dx))) D σ H
section
variable{X:Cx}{body:List Stmt}{h₀:ExceptHandler}{hs:List ExceptHandler}{tb:List (Addr×Obj)->(St->XK)->TS}{th:THd}{pos:Pos}
theorem Fx(hb:∀pins EX,PSs (X.tr pins EX) body (tb pins EX))(hh:PH X (h₀::hs) th)(hst:X.stack=X.env::X.outer:=by rfl)(hf:X.env.frame=some X.env.locals:=by rfl):PS X (.Try body (h₀::hs) [] [] pos) (Ym tb th):=by
 intro pins s σ H D I h;refine wpAny_Try_except (mM (hb pins _ [] s σ H D (I.abn.wish _) (h pins)) (λf s1 q=>?_) λev s1 q=>?_)
 ·cases f with
  | next =>
   obtain⟨σ',H',I',q⟩:=q;exact wpAny_execs_nil ⟨σ',H',I'.gk.uz,q⟩
  | brk =>
   obtain⟨σ',H',I',q⟩:=q;exact⟨σ',H',I'.gk.uz,q⟩
  | cont =>
   obtain⟨σ',H',I',q⟩:=q;exact⟨σ',H',I'.gk.uz,q⟩
  | ret u =>
   obtain⟨v,σ',H',I',r,q⟩:=q;exact⟨v,σ',H',I'.gk.uz,r,q⟩
 ·obtain⟨gC,σ',H1,s2,I1,a,C,dx,H',rfl,hos,hbr,un,hok,⟨oe,vs,T,oT,ts,ga,gc,gd,gf,g1,gne,gT,gt,g3,ha,hT,na,nT⟩,C',eC,q⟩:=q;cases eC;have I1:Inv X pins σ' H1 s2:=I1.uz;have I2:Inv X pins σ' H' s1:=I1.call' (ch:=[]) hos un hok hbr (λb z=>absurd z (by simp));refine J5 (base:=X.base) (by rw[I.ok.frames,hst]) (by rw[<- hst];exact I2.stack) hf ga gf g1 gT gt g3 gne λh' T' lf=>?_
  have hz:∀z,vs[1]?=some (.ref z)->z=T:=λz hz=>by rw[g1] at hz;cases hz;rfl
  have Vj:∀b∈frs (X.env::X.outer),H' b=none:=by rw[<- hst];exact I2.sG
  have hok':HOk X.prog X.w H' h':=BX hok lf ha (λz h=>by rw[hz z h];exact hT) Vj;have lo:∀b o,s2.heap.get? b=some o->∀c,s2.heap.objs.size<=c->b≠c:=λb o z c hc=>qV (qS (uB z) hc)
  have far:∀c,s2.heap.objs.size<=c->(c∈X.ex\/X.s₀.heap.objs.size<=c)/\c≠X.env.locals/\(∀x d,X.env.cells.lookup x=some d->d≠c)/\∀p∈X.pn++pins,p.1≠c:=λc hc =>
   ⟨.inr (oB I1.sz hc),Ne.symm (qV (qS I1.lt hc)),λx d hd=>by
    obtain⟨v,ob,ho,_⟩:=I1.cell x d hd;exact lo d ob ho c hc,λp hp=>lo _ _ (I1.pin p hp).1 c hc⟩
  have u3:Un (frs X.stack) [a,T] H' H' s1.heap h':=by
   rw[hst];refine⟨λb o q n hb hx=>?_,λb o q n hb hx=>lf.slot b o hb q,λb o q n hx=>n,λb o q hx=>?_,λ_ _ e=>e,λ_ _ _ e=>e,λb ps e=>⟨#[],by rw[e];simp⟩⟩
   ·exact lf.keep b o (λz=>hx (by simp[z])) hb q λz hz' z2=>hx (by rw[z2,hz z hz'];simp)
   ·by_cases m:b∈frs (X.env::X.outer)
    ·obtain⟨sl,z⟩:=lf.slot b o m q;exact⟨_,z⟩
    ·exact⟨o,lf.keep b o (λz=>hx (by simp[z])) m q λz hz' z2=>hx (by rw[z2,hz z hz'];simp)⟩
  have I3:Inv X pins σ' H' { s1 with heap:=h' }:=I2.call (g':=s1.gens) (d':=s1.drawn) (t':=s1.toks) u3 hok' hbr λb hb=>by
   rcases jI.mp hb with rfl|hb
   ·exact far _ na
   ·rw[rS.mp hb];exact far _ nT
  have new:s2.heap.objs.size<=T':=by
   refine oB ?_ lf.new;exact oB na (zzE (uB ga))
  have hT':H' T'=none:=I2.hok.fresh lf.new;have nTa:T'≠a:=λz=>gN (uB ga) (by rw[<- z];exact Nat.not_lt.mpr lf.new)
  have I4:Inv X pins σ' (upd H' a (wK a C dx)) { s1 with heap:=h' }:=I3.track I1 na ha (RT lf.obj gc gd rfl)
  obtain⟨oT',ts',gT',gt',g3'⟩:=lf.ent;obtain⟨f1,f2,f3,f4⟩:=far T' new;refine hh pins _ σ' _ C a dx D ⟨I4,bG,T',_,_,oT',ts',lf.obj,rfl,?_,gT',gt',(Array.getElem?_eq_some_iff.mp g3').1,by rw[aR nTa];exact hT',f2,f1,f3,f4⟩ (q a ha);have:1<vs.size:=(Array.getElem?_eq_some_iff.mp g1).1;simp[this]
end
def TY(C:Addr)(ta:TE)(f:Str):TE:=λσ H Q=>ta σ H λx H1=>∃a fs v,x=.ref a/\oJ H1 a C fs/\fs.lookup f=some v/\Q v H1
section
variable{X:Cx}
theorem mz{C:Addr}{o:Expr}{f:Str}{ta:TE}{pos:Pos}(G:Yi X.K C)(n:cZ X.K C f)(he:PE X o ta)(hb:attributeBase o f X.env (eval o X.env)=eval o X.env:=by rfl):PE X (.Attribute o f pos) (TY C ta f):=by
 intro pins s σ H Q I h;refine Hr hb (thn (he pins s σ H _ I h) λu s1 ⟨x,H1,I1,rx,a,fs,v,ex,ea,l,q⟩=>?_);subst ex;obtain rfl:u=Value.ref a:=rx;rcases ea with⟨rfl,_⟩|⟨dx,ea,ed,_⟩
 ·cases l
 ·obtain⟨⟨oe,vs,ge,gc,gd,gf⟩,_,_⟩:cU X.prog X.w H1 s1.heap a (wK a C (some dx)):=I1.hok a _ ea;obtain⟨⟨mA,nn,r,wi,hl⟩,_,_⟩:cU X.prog X.w H1 s1.heap dx (kY dx fs):=I1.hok dx _ ed;obtain⟨u',hu,ru⟩:=jK.some_of (v:=v) (o:=mA f) (by rw[<- l];exact r f);exact RL I1.kIn ge gc gd gf nn G.ga G.gb G.mb G.hd n hu (wQ ru) ⟨v,H1,I1.tok _,ru,q⟩
end
theorem uE{K:W.Frag}{C R:Addr}(G:Fl K C R):W.exmOne K (.ref C) (.ref C)=some true:=by
 have hb:W.subIn K (.ref C) (.type "BaseException")=some true:=G.g.mb;unfold W.exmOne;rw[hb,yB (by rfl)];obtain⟨cd,hc,_⟩:=Option.map_eq_some_iff.mp G.mro;unfold W.kitCls;simp only;rw[yB (by rw[hc,G.ty];rfl)];show W.mroIn K C (.ref C)=_;rw[G.in];simp[List.contains_cons]
theorem Fy{K:W.Frag}{C R:Addr}(G:Fl K C R)(hR:(W.clsIn K R).isSome=true)(tR:W.typeIn K (.ref R)=some (.type "type"))(mR:W.mroIn K R (.type "BaseException")=some true):W.exmOne K (.ref C) (.ref R)=some true:=by
 have hb:W.subIn K (.ref R) (.type "BaseException")=some true:=mR;unfold W.exmOne;rw[hb,yB (by rfl)];unfold W.kitCls;simp only;rw[yB (by rw[hR,tR];rfl)];show W.mroIn K C (.ref R)=_;rw[G.in];simp[List.contains_cons]
section
variable{σ:St}{H:Hp}{D:Ends}
theorem J6{K:W.Frag}{d C a:Addr}{dx:xN}{i:Nat}{tha:Addr->TS}{rest:THd}(e:W.exmOne K (.ref C) (.ref d)=some true)(h:tha a (D.forget i) (σ.set i (some (.ref a))) H):hAs K d i tha rest D C a dx σ H:=⟨true,e,by rw[yB rfl];exact h⟩
end
def uF(K:W.Frag):List V->Hp->VK->Prop:=λxs H Q=>∃x d t b,xs=[x,d]/\eX K H x t/\ug K t d=some b/\Q (.bl b) H
theorem dR{X:Cx}:iy X (.builtin "isinstance") (uF X.K):=call_isinstance
section
variable{X:Cx}{pins:List (Addr×Obj)}{σ:St}{H:Hp}{s:Shared}{h':Heap}{t':Nat}{ch:List Addr}
theorem Inv.HY(I:Inv X pins σ H s)(hf:∀b∈ch,ni X pins H b)(k:∀b o,b ∉ ch->s.heap.get? b=some o->h'.get? b=some o):Inv X pins σ H { s with heap:=h',toks:=t' }:=by
 have off:∀b u,H b=some u->b ∉ ch:=λb u e z=>by
  rw[(hf b z).1] at e;cases e
 refine I.step (g':=s.gens) (d':=s.drawn) (ch:=ch) (λb hb=>?_) (λb o _ _ hc e _=>k b o hc e) (λb o _ _ hc e _=>⟨o.slots,k b o hc e⟩) (λ_ _ _ _ n=>n)
  (λb o hc e=>⟨o,k b o hc e⟩) (λ_ _ e=>e) (λ_ _ _ e=>e) (λb ps e=>⟨#[],by rw[e];simp⟩) (λm hm=>?_) (λb u e=>?_) I.bare
 ·obtain⟨_,f1,_,f3,f4,f5⟩:=hf b hb;exact⟨f3,f1,f4,f5⟩
 ·obtain⟨o,es,ep,ho,r⟩:=hm;exact⟨o,es,ep,k _ o (λz=>(hf _ z).2.1 rfl) ho,r⟩
 ·refine(I.hok b u e).stay (λc v hc q=>k c v ?_ q) (λ_ q=>q) λ_ _ q=>q
  rcases hc with z|z
  ·rw[z];exact off b u e
  ·exact off c _ z
theorem Inv.Fz{a:Addr}{o:HO}(I:Inv X pins σ H s)(hf:∀b∈ch,ni X pins H b)(k:∀b o,b ∉ ch->s.heap.get? b=some o->h'.get? b=some o)(ha:s.heap.objs.size<=a)
  (new:cU X.prog X.w (upd H a o) h' a o):Inv X pins σ (upd H a o) { s with heap:=h',toks:=t' }:=by
 have I1:Inv X pins σ H { s with heap:=h',toks:=t' }:=I.HY hf k
 have hn:H a=none:=I.hok.fresh ha;refine I.step (g':=s.gens) (d':=s.drawn) (ch:=ch) (λb hb=>?_) (λb u _ _ hc e _=>k b u hc e) (λb u _ _ hc e _=>⟨u.slots,k b u hc e⟩)
  (λb u _ e n=>by rw[aR (qV (qS (uB e) ha))];exact n)
  (λb u hc e=>⟨u,k b u hc e⟩) (λb xs e=>by rw[aR (aN e hn)];exact e) (λb u x e=>by rw[aR (aN e hn)];exact e)
  (λb ps e=>⟨#[],by rw[aR (aN e hn),e];simp⟩) (λm hm=>?_) (λb u e=>?_) I.bare
 ·obtain⟨_,f1,_,f3,f4,f5⟩:=hf b hb;exact⟨f3,f1,f4,f5⟩
 ·obtain⟨u,es,ep,ho,r⟩:=hm;exact⟨u,es,ep,k _ u (λz=>(hf _ z).2.1 rfl) ho,r⟩
 ·by_cases hb:b=a
  ·subst hb;rw[bG] at e;cases e;exact new
  ·rw[aR hb] at e;exact(I1.hok b u e).stay (λ_ _ _ q=>q) (λc q=>by rw[aR (aN q hn)];exact q) λc xs q=>by rw[aR (aN q hn)];exact q
end
def Ite(K:W.Frag)(a:Addr)(xs:List V):It :=
 ⟨λi H=>SqL K H a xs/\i<xs.length,λi H x H'=>∃T v,x=.ref T/\xs[i]?=some v/\New H H' T (.tup [.int i,v]),λi H=>SqL K H a xs/\xs.length<=i⟩
theorem J7{P:Program}{w:World}{K:W.Frag}{elts:List Expr}{x1}{pos:Pos}(a e it:Addr)(xs:List V)(hei:e≠it) :
  Turn P w K (.Tuple elts x1 pos) (Ite K a xs) [e,it] e (λi h=>(∃old,IsEnum h e it i old)/\h.IsListIter it a i) where
 mem:=by simp
 obj:=λi h st b hb=>by
  obtain⟨⟨old,he⟩,o,hi,hc,hd⟩:=st;rcases jI.mp hb with rfl|hb
  ·exact⟨_,he,λv z=>by
    have z':Data.fields _=Data.cell v:=z;cases z'⟩
  ·rw[rS.mp hb];exact⟨o,hi,λv z=>by rw[hd] at z;cases z⟩
 keep:=λi h h' st k=>by
  obtain⟨⟨old,he⟩,hi⟩:=st;exact⟨⟨old,k e (by simp) _ he⟩,hi.at λo q=>k it (by simp) o q⟩
 item:=by
  intro X hP hw hK hc i pins s σ H E I hf st hg;subst hP hw hK;obtain⟨⟨old,he⟩,hi⟩:=st;obtain⟨hq,hlt⟩:=hg;obtain⟨its,rv,p,hz⟩:=I.list hq;have hx:xs[i]?=some xs[i]:=by simp[hlt]
  generalize xs[i]=x at hx
  obtain⟨u,hu,ru⟩:=rv.get hx;refine wpAny_pyNext_enum_item he hi p.isList (x:=u) (by simpa using hu) hei λh1 ho hi1 hT hsz hk=>?_
  refine⟨_,rfl,wpAny_letOwnedTupleGo_enum ho λh2 he2 hs2=>?_⟩;have neT:s.heap.objs.size≠e:=Nat.ne_of_gt (uB he);have hT2:=(hs2.2 _ neT).trans hT;have k2:∀b o,b ∉ [e,it]->s.heap.get? b=some o->h2.get? b=some o:=λb o hb q=>by
   simp only[List.mem_cons,List.not_mem_nil,or_false,not_or] at hb;exact(hs2.2 b hb.1).trans (hk b o hb.1 hb.2 q)
  have new:cU X.prog X.w (upd H s.heap.objs.size (.tup [.int i,x])) h2 s.heap.objs.size (.tup [.int i,x]) :=
   ⟨by show 2<=sizeLine;decide,[.int i s.toks,u],.cons ⟨_,rfl⟩ (.cons ru .nil),⟨_,hT2,rfl,_,rfl⟩⟩
  refine⟨.ref s.heap.objs.size,_,I.Fz (t':=s.toks+1) hf k2 (Nat.le_refl _) new,rfl,⟨_,x,rfl,hx,.mk' (I.hok.fresh (Nat.le_refl _))⟩,⟨⟨u,by simpa using he2⟩,hi1.at λo q=>(hs2.2 it hei.symm).trans q⟩,λb hb=>?_⟩;have hbn:=(hf b hb).1;have hb':b<s.heap.objs.size:=by
   rcases jI.mp hb with rfl|hb
   ·exact uB he
   ·rw[rS.mp hb];obtain⟨o,q,_⟩:=hi;exact uB q
  rw[aR (qV hb')];exact hbn
 done:=by
  intro X hP hw hK hc i pins s σ H E I hf st hg;subst hP hw hK;obtain⟨⟨old,he⟩,hi⟩:=st;obtain⟨hq,hle⟩:=hg;obtain⟨its,rv,p,hz⟩:=I.list hq;have hl:=rv.length;refine wpAny_pyNext_enum_end (I.ok.hd hc) he hi p.isList (by simp;lia) λh' eb=>⟨rfl,I.HY (t':=s.toks) (ch:=[e,it]) hf λb o hb q=>eb b o (λz=>hb (by simp[z])) q⟩
 self:=λ_ _ _ _ _ st h=>by
  obtain⟨⟨old,he⟩,_⟩:=st;exact wpAny_pyIter_enum he h
theorem J8:bootBuiltins "enumerate" = some (.type "enumerate"):=by decide +kernel
def T3(K:W.Frag)(ta:TA):TI:=λσ H R=>ta σ H λvs H1=>∃a xs,vs=[.ref a]/\SqL K H1 a xs/\R (Ite K a xs) H1
theorem RV{X:Cx}{elts:List Expr}{x1}{tpos:Pos}{a:Expr}{ta:TA}{p pos:Pos}(hg:Gl X "enumerate")(hm:X.mg "enumerate" = none)(ha:PA X [a] ta)(hs:starEach [a] X.env=[(false,eval a X.env)]:=by rfl) :
  PI X (.Tuple elts x1 tpos) (.Call (.Name "enumerate" p) [a] [] pos) (T3 X.K ta):=by
 intro pins s σ H R I h;refine Call_ (qt I hg hm J8 (PyProof.Rows.callWith_type1 (thn (ha pos pins s σ H _ I h) λus s1 ⟨vs,H1,I1,r1,q1⟩=>?_) hs rfl));obtain⟨l,xs,e,hq,q⟩:=q1;subst e;obtain⟨u,rfl,r⟩:=vals1 r1;cases r;obtain⟨its,rv,pl,hz⟩:=I1.list hq;refine call_enumerate_list pl.isList λh' he hi hsz hk=>?_
 have I2:Inv X pins σ H1 { s1 with heap:=h' }:=I1.kept (t':=s1.toks) hk
 refine wpAny_pyIter_enum he ?_;refine⟨s1.heap.objs.size+1,[s1.heap.objs.size+1,s1.heap.objs.size],_,Ite X.K l xs,H1,rfl,I2,J7 l _ _ xs (Nat.succ_ne_self _),⟨⟨.none,he⟩,hi⟩,λb hb=>?_,q⟩;have hb':s1.heap.objs.size<=b:=by
  rcases jI.mp hb with rfl|hb
  ·exact Nat.le_succ _
  ·rw[rS.mp hb];exact uS _
 exact I1.Rf hb' (I1.hok.fresh hb')
theorem M8{K:PySem.W.Frag}{a:Addr}{xs:List V}{g:TG}{tb:TS}{D:Ends}{σ:St}{H:Hp}(Pv:Nat->St->Hp->Prop)(h0:Pv 0 σ H)(hl:∀i σ H,i<=xs.length->Pv i σ H->SqL K H a xs)
  (hs:∀i x T σ H H',xs[i]?=some x->Pv i σ H->New H H' T (.tup [.int i,x])->g (.ref T) σ H' λσ2 H2=>tb { D with nx:=Pv (i+1),ct:=Pv (i+1),bk:=D.nx } σ2 H2) (hd:∀σ H,Pv xs.length σ H->D.nx σ H) :
  ∃W:Nat->Nat->St->Hp->Prop,(∃m,W 0 m σ H)/\∀i m σ H,W i m σ H ->
   ((Ite K a xs).stop i H/\D.nx σ H)\/((Ite K a xs).go i H/\∃N:St->Hp->Prop,(∀σ' H',N σ' H'->∃m',m'<m/\W (i+1) m' σ' H')/\∀x H',(Ite K a xs).yld i H x H'->g x σ H' λσ2 H2=>tb { D with nx:=N,ct:=N,bk:=D.nx } σ2 H2):=by
 refine⟨λi m σ H=>m=xs.length-i/\i<=xs.length/\Pv i σ H,⟨xs.length,by simp,Nat.zero_le _,h0⟩,?_⟩;rintro i m σ H ⟨rfl,hi,p⟩;have q:=hl i σ H hi p;by_cases hlt:i<xs.length
 ·refine .inr ⟨⟨q,hlt⟩,Pv (i+1),λσ' H' p'=>⟨xs.length-(i+1),by lia,rfl,hlt,p'⟩,λx H' y=>?_⟩;obtain⟨T,v,rfl,hv,n⟩:=y;exact hs i v T σ H H' hv p n
 ·have e:i=xs.length:=by lia
  subst e;exact .inl ⟨⟨q,uS _⟩,hd σ H p⟩
section
variable{X:Cx}
def T4:V->V->V->Hp->(Hp->Prop)->Prop:=λo i v H Q=>∃p xs k j,o=.ref p/\i=.int k/\H p=some (.lst xs)/\ixN xs.length k=some j/\∀H',Off p H H'->H' p=some (.lst (xs.set j v))->Q H'
theorem qF:U0 X T4:=by
 intro pins s σ H o i v ov iv u Q I ro ri rv h;obtain⟨p,xs,k,j,e1,e2,hp,hj,q⟩:=h;exact set_list pins s σ H o i v ov iv u Q I ro ri rv ⟨p,xs,k,j,e1,e2,hp,hj,q _ Off.upd bG⟩
def Vk(K:W.Frag):V->Option Int->Option Int->Hp->VK->Prop:=λx lo hi H Q=>∃a xs,x=.ref a/\SqL K H a xs/\∀p H',New H H' p (.lst (kI xs lo hi))->Q (.ref p) H'
theorem uG:SlR X (Vk X.K):=by
 intro pins s σ H x v vl vu lo hi sl Q I rx hs pl pu h;obtain⟨a,xs,e,hx,q⟩:=h;exact Rp pins s σ H x v vl vu lo hi sl Q I rx hs pl pu ⟨a,xs,e,hx,λp hp=>q p _ (.mk' hp)⟩
def sO:V->List V->Hp->VK->Prop:=λx vs H Q=>∃l xs,x=.ref l/\vs=[]/\H l=some (.lst xs)/\∀H',Off l H H'->H' l=some (.lst [])->Q .non H'
theorem J9:MtM X "list.clear" sO:=by
 intro pins s σ H x vs v us Q I rx rv h;obtain⟨l,xs,e1,e2,hH,q⟩:=h;exact Lx pins s σ H x vs v us Q I rx rv ⟨l,xs,e1,e2,hH,q _ Off.upd bG⟩
theorem qG{o:Expr}{to:TE}{apos cpos:Pos}(ho:PE X o to)(hbase:attributeBase o "clear" X.env (eval o X.env)=eval o X.env:=by rfl)(hline:(apos.endLine==cpos.line)=true:=by rfl) :
  PE X (.Call (.Attribute o "clear" apos) [] [] cpos) (Ls X.K "list" sO to) :=
 Lw PySem.F.plainAttrs_list PySem.F.slot_list_clear PySem.F.type_list_clear J9 ho hbase hline
end
section
variable{σ:St}{H:Hp}{Q:VK}{v x y:V}{i j:Int}{K:W.Frag}{t ta tb tc:TE}{tr:TA}{u:TS}{c d:TT}
theorem wv0{r:St}(h:Q v H):fZ 0 (some v::r) H Q:=⟨v,rfl,h⟩
theorem wn0{o:Option V}{r:St}{R:St->Hp->Prop}(h:R (some v::r) H):bL 0 v (o::r) H R:=h
theorem wv1{o0:Option V}{r:St}(h:Q v H):fZ 1 (o0::some v::r) H Q:=⟨v,rfl,h⟩
theorem wn1{o0:Option V}{o:Option V}{r:St}{R:St->Hp->Prop}(h:R (o0::some v::r) H):bL 1 v (o0::o::r) H R:=h
theorem wv2{o0 o1:Option V}{r:St}(h:Q v H):fZ 2 (o0::o1::some v::r) H Q:=⟨v,rfl,h⟩
theorem wn2{o0 o1:Option V}{o:Option V}{r:St}{R:St->Hp->Prop}(h:R (o0::o1::some v::r) H):bL 2 v (o0::o1::o::r) H R:=h
theorem wv3{o0 o1 o2:Option V}{r:St}(h:Q v H):fZ 3 (o0::o1::o2::some v::r) H Q:=⟨v,rfl,h⟩
theorem wn3{o0 o1 o2:Option V}{o:Option V}{r:St}{R:St->Hp->Prop}(h:R (o0::o1::o2::some v::r) H):bL 3 v (o0::o1::o2::o::r) H R:=h
theorem wv4{o0 o1 o2 o3:Option V}{r:St}(h:Q v H):fZ 4 (o0::o1::o2::o3::some v::r) H Q:=⟨v,rfl,h⟩
theorem wn4{o0 o1 o2 o3:Option V}{o:Option V}{r:St}{R:St->Hp->Prop}(h:R (o0::o1::o2::o3::some v::r) H):bL 4 v (o0::o1::o2::o3::o::r) H R:=h
theorem wv5{o0 o1 o2 o3 o4:Option V}{r:St}(h:Q v H):fZ 5 (o0::o1::o2::o3::o4::some v::r) H Q:=⟨v,rfl,h⟩
theorem wn5{o0 o1 o2 o3 o4:Option V}{o:Option V}{r:St}{R:St->Hp->Prop}(h:R (o0::o1::o2::o3::o4::some v::r) H):bL 5 v (o0::o1::o2::o3::o4::o::r) H R:=h
theorem wv6{o0 o1 o2 o3 o4 o5:Option V}{r:St}(h:Q v H):fZ 6 (o0::o1::o2::o3::o4::o5::some v::r) H Q:=⟨v,rfl,h⟩
theorem wn6{o0 o1 o2 o3 o4 o5:Option V}{o:Option V}{r:St}{R:St->Hp->Prop}(h:R (o0::o1::o2::o3::o4::o5::some v::r) H):bL 6 v (o0::o1::o2::o3::o4::o5::o::r) H R:=h
theorem wv7{o0 o1 o2 o3 o4 o5 o6:Option V}{r:St}(h:Q v H):fZ 7 (o0::o1::o2::o3::o4::o5::o6::some v::r) H Q:=⟨v,rfl,h⟩
theorem wn7{o0 o1 o2 o3 o4 o5 o6:Option V}{o:Option V}{r:St}{R:St->Hp->Prop}(h:R (o0::o1::o2::o3::o4::o5::o6::some v::r) H):bL 7 v (o0::o1::o2::o3::o4::o5::o6::o::r) H R:=h
theorem wv8{o0 o1 o2 o3 o4 o5 o6 o7:Option V}{r:St}(h:Q v H):fZ 8 (o0::o1::o2::o3::o4::o5::o6::o7::some v::r) H Q:=⟨v,rfl,h⟩
theorem wn8{o0 o1 o2 o3 o4 o5 o6 o7:Option V}{o:Option V}{r:St}{R:St->Hp->Prop}(h:R (o0::o1::o2::o3::o4::o5::o6::o7::some v::r) H):bL 8 v (o0::o1::o2::o3::o4::o5::o6::o7::o::r) H R:=h
theorem wv9{o0 o1 o2 o3 o4 o5 o6 o7 o8:Option V}{r:St}(h:Q v H):fZ 9 (o0::o1::o2::o3::o4::o5::o6::o7::o8::some v::r) H Q:=⟨v,rfl,h⟩
theorem wn9{o0 o1 o2 o3 o4 o5 o6 o7 o8:Option V}{o:Option V}{r:St}{R:St->Hp->Prop}(h:R (o0::o1::o2::o3::o4::o5::o6::o7::o8::some v::r) H):bL 9 v (o0::o1::o2::o3::o4::o5::o6::o7::o8::o::r) H R:=h
theorem Vl{o0 o1 o2 o3 o4 o5 o6 o7 o8 o9:Option V}{r:St}(h:Q v H):fZ 10 (o0::o1::o2::o3::o4::o5::o6::o7::o8::o9::some v::r) H Q:=⟨v,rfl,h⟩
theorem Vm{o0 o1 o2 o3 o4 o5 o6 o7 o8 o9:Option V}{o:Option V}{r:St}{R:St->Hp->Prop}(h:R (o0::o1::o2::o3::o4::o5::o6::o7::o8::o9::some v::r) H):bL 10 v (o0::o1::o2::o3::o4::o5::o6::o7::o8::o9::o::r) H R:=h
theorem Vn{o0 o1 o2 o3 o4 o5 o6 o7 o8 o9 o10:Option V}{r:St}(h:Q v H):fZ 11 (o0::o1::o2::o3::o4::o5::o6::o7::o8::o9::o10::some v::r) H Q:=⟨v,rfl,h⟩
theorem Vo{o0 o1 o2 o3 o4 o5 o6 o7 o8 o9 o10:Option V}{o:Option V}{r:St}{R:St->Hp->Prop}(h:R (o0::o1::o2::o3::o4::o5::o6::o7::o8::o9::o10::some v::r) H):bL 11 v (o0::o1::o2::o3::o4::o5::o6::o7::o8::o9::o10::o::r) H R:=h
theorem Vp{o0 o1 o2 o3 o4 o5 o6 o7 o8 o9 o10 o11:Option V}{r:St}(h:Q v H):fZ 12 (o0::o1::o2::o3::o4::o5::o6::o7::o8::o9::o10::o11::some v::r) H Q:=⟨v,rfl,h⟩
theorem Vq{o0 o1 o2 o3 o4 o5 o6 o7 o8 o9 o10 o11:Option V}{o:Option V}{r:St}{R:St->Hp->Prop}(h:R (o0::o1::o2::o3::o4::o5::o6::o7::o8::o9::o10::o11::some v::r) H):bL 12 v (o0::o1::o2::o3::o4::o5::o6::o7::o8::o9::o10::o11::o::r) H R:=h
theorem Vr{o0 o1 o2 o3 o4 o5 o6 o7 o8 o9 o10 o11 o12:Option V}{r:St}(h:Q v H):fZ 13 (o0::o1::o2::o3::o4::o5::o6::o7::o8::o9::o10::o11::o12::some v::r) H Q:=⟨v,rfl,h⟩
theorem Vs{o0 o1 o2 o3 o4 o5 o6 o7 o8 o9 o10 o11 o12:Option V}{o:Option V}{r:St}{R:St->Hp->Prop}(h:R (o0::o1::o2::o3::o4::o5::o6::o7::o8::o9::o10::o11::o12::some v::r) H):bL 13 v (o0::o1::o2::o3::o4::o5::o6::o7::o8::o9::o10::o11::o12::o::r) H R:=h
theorem w_c(h:Q v H):tC v σ H Q:=h
theorem Vt{f:Int->Int->V}(h:Q (f i j) H):rI0 f (.int i) (.int j) H Q:=⟨i,j,rfl,rfl,h⟩
theorem w_mod{f:Int->Int->V}(hj:0<j)(h:Q (f i j) H):rI (λ_ j=>0<j) f (.int i) (.int j) H Q:=⟨i,j,rfl,rfl,hj,h⟩
theorem w_div{f:Int->Int->V}(h0:0<j)(h1:j<1073741824)(h:Q (f i j) H):rI U6 f (.int i) (.int j) H Q:=⟨i,j,rfl,rfl,⟨h0,h1⟩,h⟩
theorem w_pow{f:Int->Int->V}(h0:0<=j)(h1:j<=1000000)(h2:i.natAbs<2 ^ 64)(h:Q (f i j) H):rI U7 f (.int i) (.int j) H Q:=⟨i,j,rfl,rfl,⟨h0,h1,h2⟩,h⟩
theorem FJ{f:Int->Int->V}(h0:-(2 ^ 64)<i)(h1:i<2 ^ 64)(h:Q (f i j) H):rI La f (.int i) (.int j) H Q:=⟨i,j,rfl,rfl,.inl ⟨h0,h1⟩,h⟩
theorem FN{f:Int->Int->V}(h0:-(2 ^ 64)<j)(h1:j<2 ^ 64)(h:Q (f i j) H):rI La f (.int i) (.int j) H Q:=⟨i,j,rfl,rfl,.inr ⟨h0,h1⟩,h⟩
theorem M9(h:Q (.bl (decide (i=j))) H):rEq (.int i) (.int j) H Q:=⟨rfl,by rw[show decide (V.int i=V.int j)=decide (i=j) from decide_eq_decide.mpr ⟨λe=>by cases e;rfl,λe=>by rw[e]⟩];exact h⟩
theorem M_(h:Q (.bl (!decide (i=j))) H):rNe (.int i) (.int j) H Q:=⟨rfl,by rw[show decide (V.int i=V.int j)=decide (i=j) from decide_eq_decide.mpr ⟨λe=>by cases e;rfl,λe=>by rw[e]⟩];exact h⟩
theorem Nb{a b:Str}(h:Q (.bl (decide (a=b))) H):rEq (.str a) (.str b) H Q:=⟨rfl,by rw[show decide (V.str a=V.str b)=decide (a=b) from decide_eq_decide.mpr ⟨λe=>by cases e;rfl,λe=>by rw[e]⟩];exact h⟩
theorem Vu{k:Bool}{R:Bool->Prop}(h:R k):∃c,V.bl k=.bl c/\R c:=⟨k,rfl,h⟩
theorem w_not{R:Bool->Hp->Prop}(h:c σ H λb H1=>R (!b) H1):UG c σ H R:=h
theorem w_or{R:Bool->Hp->Prop}(h:c σ H λb H1=>if b=true then R true H1 else d σ H1 R):tOr c d σ H R:=h
theorem FP(h:ta σ H λx H1=>∃c,x=.bl c/\Q (.bl (!c)) H1):K6 ta σ H Q:=h
theorem FQ(h:ta σ H λx H1=>∃c,x=.bl c/\if c=true then tb σ H1 Q else Q (.bl false) H1):K5 ta tb σ H Q:=h
theorem Ia{r r':R2}(h:ta σ H λx H1=>tb σ H1 λy H2=>r x y H2 λz H3=>∃k,z=.bl k/\if k=true then tc σ H3 λw H4=>r' y w H4 Q else Q (.bl false) H3):Lf r r' ta tb tc σ H Q:=h
theorem Vv{nx bk ct:St->Hp->Prop}{rt:VK}(h:rt v H):(Ends.mk nx rt bk ct).rt v H:=h
theorem w_call{sp:Sp}{E:XK}(h:tr σ H λvs H1=>sp vs H1 Q E):wU sp [] E tr σ H Q:=by
 have e:(λvs H1=>sp (vs++[]) H1 Q E)=λvs H1=>sp vs H1 Q E:=by
  funext vs H1
  rw[mP]
 show tr σ H λvs H1=>sp (vs++[]) H1 Q E
 rw[e];exact h
theorem Vw{T:String}{r:V->List V->Hp->VK->Prop}{to:TE}(h:to σ H λx H1=>tyV K T x H1/\tr σ H1 λxs H2=>r x xs H2 Q):tBM K T r to tr σ H Q:=h
theorem Nf{T:String}{r:V->List V->Hp->VK->Prop}{to:TE}(h:to σ H λx H1=>tyV K T x H1/\r x [] H1 Q):Ls K T r to σ H Q:=h
theorem w_sub{to ti:TE}{ts:Ra}{R:St->Hp->Prop}(h:to σ H λo H1=>ti σ H1 λi H2=>ts o i v H2 λH3=>R σ H3):X5 to ti ts v σ H R:=h
theorem zM{r:V->Option Int->Option Int->Hp->VK->Prop}{tl th:TO}(h:t σ H λx H1=>tl σ H1 λl H2=>th σ H2 λu H3=>r x l u H3 Q):tSl r t tl th σ H Q:=h
theorem uH{R:Option Int->Hp->Prop}(h:R none H):zq σ H R:=h
theorem FT{R:Option Int->Hp->Prop}(h:t σ H λx H1=>∃i,x=.int i/\R (some i) H1):Lq t σ H R:=h
theorem Ng{R:Int->Prop}(h:R i):∃k,V.int i=.int k/\R k:=⟨i,rfl,h⟩
theorem B_{p:Addr}{xs:List V}(h:SqL K H p xs)(e:atI xs i=some v)(k:Q v H):Rn K (.ref p) (.int i) H Q:=⟨p,xs,i,v,rfl,rfl,h,e,k⟩
theorem Nh{p:Addr}{xs:List V}(h:SqT K H p xs)(e:atI xs i=some v)(k:Q v H):Ro K (.ref p) (.int i) H Q:=⟨p,xs,i,v,rfl,rfl,h,e,k⟩
def Ni(K:W.Frag):List V->Hp->VK->Prop:=λxs H Q=>∃x n,xs=[x]/\X8 K x H n/\Q (.int n) H
theorem FW{p:Addr}{xs:List V}(h:SqL K H p xs)(k:Q (.int xs.length) H):Ni K [.ref p] H Q:=⟨_,xs.length,rfl,.inl ⟨xs,h,rfl⟩,k⟩
theorem FZ{p:Addr}{xs:List V}(h:SqT K H p xs)(k:Q (.int xs.length) H):Ni K [.ref p] H Q:=⟨_,xs.length,rfl,.inr ⟨xs,h,rfl⟩,k⟩
def Nj:List V->Hp->VK->Prop:=λxs H Q=>∃i j,xs=[.int i,.int j]/\Q (.int (if j > i then j else i)) H
def Nk:List V->Hp->VK->Prop:=λxs H Q=>∃i j,xs=[.int i,.int j]/\Q (.int (if j<i then j else i)) H
theorem Nm(h:Q (.int (max i j)) H):Nj [.int i,.int j] H Q:=⟨i,j,rfl,by
 rw[show (if j > i then j else i)=max i j by rw[Int.max_def];split <;> split <;> lia];exact h⟩
theorem Np(h:Q (.int (min i j)) H):Nk [.int i,.int j] H Q:=⟨i,j,rfl,by
 rw[show (if j<i then j else i)=min i j by rw[Int.min_def];split <;> split <;> lia];exact h⟩
theorem w_is{x d:V}{tv:Value}{b:Bool}(ty:eX K H x tv)(e:ug K tv d=some b)(h:Q (.bl b) H):uF K [x,d] H Q:=⟨x,d,tv,b,rfl,ty,e,h⟩
def Vx:R2:=λx y H Q=>y=.non/\Q (.bl (decide (x=.non))) H
end
section
variable{X:Cx}
theorem fU:iy X (.builtin "len") (Ni X.K):=Lh
theorem xH(hc:X.calm=true):iy X (.builtin "max") Nj:=JQ hc
theorem xJ(hc:X.calm=true):iy X (.builtin "min") Nk:=JR hc
theorem zN:OpR X (compareOp .Is) Vx:=U8
end
section
variable{A B p:Prop}[Decidable p]{b:Bool}
theorem lq(h1:p->A)(h2:¬ p->B):if decide p=true then A else B:=by
 by_cases h:p
 ·rw[yB (uA h)];exact h1 h
 ·rw[if_neg (by simpa using h)];exact h2 h
theorem i_b(h1:b=true->A)(h2:b=false->B):if b=true then A else B:=by
 cases b with
 | true=>exact abj (h1 rfl)
 | false=>exact abh (h2 rfl)
theorem i_T(h:b=true)(k:A):if b=true then A else B:=by rw[yB h];exact k
theorem i_F(h:b=false)(k:B):if b=true then A else B:=by rw[yT (by rw[h];exact vS)];exact k
theorem abp(h:b=true)(k:B):if (!b)=true then A else B:=by rw[yT (by rw[h];exact vS)];exact k
theorem Ca(h:p)(k:A):if decide p=true then A else B:=by rw[yB (uA h)];exact k
theorem Cd(h:¬ p)(k:B):if decide p=true then A else B:=by rw[if_neg (by simpa using h)];exact k
theorem uI(h:p)(k:B):if (!decide p)=true then A else B:=by rw[if_neg (by simpa using h)];exact k
end
section
variable{H H1 H2 H':Hp}{p q a:Addr}{o u:HO}{xs ys:List V}
theorem New.trans(n1:New H H1 p o)(n2:New H1 H2 q u):New H H2 q u:=⟨n1.s.trans n2.s,n2.e,λa v e=>n2.n a v (n1.s a v e)⟩
def aH(H:Hp)(ys:List V)(rows:List (List V)):Prop:=ys.length=rows.length/\∀(j:Nat)(r:List V),rows[j]?=some r->∃q,ys[j]?=some (.ref q)/\H q=some (.tup r)
theorem aH.same{rows:List (List V)}(s:Same H H')(h:aH H ys rows):aH H' ys rows:=⟨h.1,λj r e=>let ⟨q,a,b⟩:=h.2 j r e;⟨q,a,s _ _ b⟩⟩
theorem aH.off{rows:List (List V)}(h:aH H ys rows)(f:Off p H H')(hl:H p=some (.lst xs)):aH H' ys rows:=⟨h.1,λj r e=>by
 obtain⟨q,a,b⟩:=h.2 j r e;have ne:q≠p:=XS b hl (λz=>by cases z);exact⟨q,a,by rw[f q ne];exact b⟩⟩
theorem aH.nil:aH H [] []:=⟨rfl,λj r e=>by simp at e⟩
end
section
variable{σ:St}{H:Hp}{K:W.Frag}{a b:V}{p:Addr}
theorem Ga{i0 i1:Nat}{R:St->Hp->Prop}(hp:SqT K H p [a,b])(h:bL i0 a σ H λσ1 H1=>bL i1 b σ1 H1 R):yX K 2 (iw (bL i0) (iw (bL i1) Br)) (.ref p) σ H R :=
 ⟨p,_,rfl,hp,rfl,_,_,rfl,_,_,rfl,rfl,h⟩
end
def zO(K:W.Frag):R2:=λx y H Q=>∃d d',Rep K H d x/\Rep K H d' y/\iG d<=100/\Q (.bl (!jD d d')) H
theorem dg{X:Cx}{k:Nat}(hr:Room k X.A):OpR X (compareOp .NotEq) (zO X.K):=RD hr
end L2
namespace L2
open PySem PySem.Spec PyProof.Rows PySem.SeqAt
section
def idV:V->Bool
 | .non=>true
 | .bl _=>true
 | .int _=>true
 | .str _=>true
 | .ref _=>true
 | _=>false
theorem J_{A:Around}{s:Shared}{x:V}{u v:Value}(f:idV x=true)(ru:RelV x u)(rv:RelV x v):EqAt A s u v true:=by
 cases x with
 | non=>cases ru;cases rv;exact EqAt.same _
 | bl b=>cases ru;cases rv;exact EqAt.same _
 | ref b=>cases ru;cases rv;exact EqAt.same _
 | int i =>
  obtain⟨t,rfl⟩:=ru;obtain⟨t',rfl⟩:=rv;have:=EqAt.int_int (A:=A) (s:=s) i t i t'
  rwa [beq_self_eq_true] at this
 | str z =>
  obtain⟨t,rfl⟩:=ru;obtain⟨t',rfl⟩:=rv;have:=EqAt.str_str (A:=A) (s:=s) z t z t'
  rwa [beq_self_eq_true] at this
 | _=>exact gN (show false=true from f) vS
end
def Kp(b:Addr)(H H':Hp):Prop:=∀x u,x≠b->H x=some u->H' x=some u
section
variable{b:Addr}{H H1 H2:Hp}
theorem Kp.trans(a:Kp b H H1)(c:Kp b H1 H2):Kp b H H2:=λx u n h=>c x u n (a x u n h)
theorem Off.kp(f:Off b H H1):Kp b H H1:=λx u n h=>by rw[f x n];exact h
theorem Kp.same{H0:Hp}(s:Same H0 H)(k:Kp b H H1)(n:∀x u,H0 x=some u->x≠b):Same H0 H1:=λx u e=>k x u (n x u e) (s x u e)
end
section
variable{X:Cx}{K:W.Frag}
theorem gO(h:X.K=K):IxR X (Ro K):=h▸bV
end
def Gb(K:PySem.W.Frag)(a:Addr)(g:TG)(tb:TS)(D:Ends)(σ:St)(H:Hp):Prop:=∃W:Nat->Nat->St->Hp->Prop,(∃m,W 0 m σ H)/\∀i m σ H,W i m σ H ->
 ((Itl K a).stop i H/\D.nx σ H)\/((Itl K a).go i H/\∃N:St->Hp->Prop,(∀σ' H',N σ' H'->∃m',m'<m/\W (i+1) m' σ' H')/\∀x H',(Itl K a).yld i H x H'->g x σ H' λσ2 H2=>tb { D with nx:=N,ct:=N,bk:=D.nx } σ2 H2)
theorem Gd{K:W.Frag}{te:TE}{g:TG}{tb:TS}{D:Ends}{σ:St}{H:Hp}(h:te σ H λx H1=>∃a,x=.ref a/\(∃xs,SqL K H1 a xs)/\Gb K a g tb D σ H1):Ew (Bs K te) g tb D σ H:=h
theorem f9{K:W.Frag}{a:Addr}{xs:List V}{g:TG}{tb:TS}{D:Ends}{σ:St}{H:Hp}(Pv:Nat->St->Hp->Prop)(h0:Pv 0 σ H)(hl:∀i σ H,i<=xs.length->Pv i σ H->SqL K H a xs)
  (hs:∀i x σ H,xs[i]?=some x->Pv i σ H->g x σ H λσ2 H2=>tb { D with nx:=Pv (i+1),ct:=Pv (i+1),bk:=D.nx } σ2 H2) (hd:∀σ H,Pv xs.length σ H->D.nx σ H):Gb K a g tb D σ H:=K_ Pv h0 hl hs hd
def gh(J:It)(nt:Nat)(fr:List Nat)(g:TG)(c:TT)(te:TE)(σ:St)(H1:Hp)(Q:VK):Prop:=∀acc,H1 acc=none->oA J nt fr g c te σ H1 Q acc
theorem zP{K:W.Frag}{t0 te:TE}{nt:Nat}{fr:List Nat}{g:TG}{c:TT}{σ:St}{H:Hp}{Q:VK}(h:t0 σ H λx H1=>∃a,x=.ref a/\(∃xs,SqL K H1 a xs)/\gh (Itl K a) nt fr g c te σ H1 Q):LC (Bs K t0) nt fr g c te σ H Q:=h
theorem comp_map{J:It}{xs:List V}{Lk:Hp->Prop}{te:TE}{σ:St}{H:Hp}{Q:VK}{fr:List Nat}{fvs:St}{P:Nat->V->Prop}(it:L2.ItemsOf J xs Lk)(hz:xs.length<=1000000)(hf:(fr.map λi=>(σ[i]?).getD none)=fvs)(hL:∀H',Same H H'->Lk H')
  (turn:∀(i:Nat)(v:V)(H':Hp)(R:VK),xs[i]?=some v->Same H H'->(∀y H2,Same H' H2->P i y->R y H2)->te (some v::fvs) H' R)
  (k:∀l H' ys,New H H' l (.lst ys)->ys.length=xs.length->(∀(i:Nat)(y:V),ys[i]?=some y->P i y)->Q (.ref l) H'):gh J 1 fr (bL 0) rE te σ H Q:=by
 intro acc hacc;subst hf;have Ce:∀b u,H b=some u->b≠acc:=λb u e=>aN e hacc
 refine zx it (λi ys H'=>H' acc=some (.lst ys)/\Same H H'/\ys.length=i/\∀(j:Nat)(y:V),ys[j]?=some y->P j y) ⟨bG,Same.new hacc,rfl,λj y e=>by simp at e⟩ (λi ys H' _ h=>⟨hL H' h.2.1,h.1⟩) ?_ ?_
 ·rintro i x tv ys H' hx hi ⟨ha,hs,hl,hp⟩ htv;obtain⟨tv0,rfl⟩:∃a,tv=[a]:=List.length_eq_one_iff.mp htv;unfold bL rE;dsimp only;rw[yB rfl];refine turn i x H' _ hx hs λy H2 s2 py=>⟨?_,s2 _ _ ha,oE.next (tv:=[some x]) hi ⟨bG,λb u e=>?_,by rw[yY,hl];rfl,λj z e=>?_⟩ rfl⟩
  ·rw[hl];exact qS hi (bW hz)
  ·rw[aR (Ce b u e)];exact s2 _ _ (hs _ _ e)
  ·by_cases hj:j<ys.length
   ·rw[wP hj] at e;exact hp j z e
   ·rw[nK (by lia)] at e;have hj2:j-ys.length=0:=by
     by_cases h0:j-ys.length=0
     ·exact h0
     ·rw[List.getElem?_eq_none (by simp;lia)] at e;cases e
    rw[hj2] at e;cases e;have:j=i:=by lia
    rw[this];exact py
 ·rintro ys H' ⟨ha,hs,hl,hp⟩;exact k acc H' ys ⟨hs,ha,Ce⟩ hl hp
def Ge(C:Addr)(m:Str)(EX:St->XK)(sp:Sp)(ta:TE)(t:TA):TE:=λσ H Q=>ta σ H λx H1=>∃a dx fs,x=.ref a/\H1 a=some (.ins C dx fs)/\fs.lookup m=none/\t σ H1 λvs H2=>sp (x::vs) H2 Q (EX σ)
section
variable{X:Cx}{pins:List (Addr×Obj)}{EX:St->XK}{k m:Nat}{x:Str}{ps:List Str}{sp:Sp}{p pos apos:Pos}{e o:Expr}{es:List Expr}{t:TA}{ta:TE}{f C:Addr}{fd:FuncData}{nm:Str}
theorem abq{gC:List (Addr×Obj)}{σ:St}{H:Hp}{s:Shared}{Q:VK}{us:xF}{vs:List V}(F:gq X.prog X.w X.K X.mg X.base (CX1 X.prog X.w) k f fd ps sp)(hr:Room k X.A)(hb:Binds X.K fd ps [])(I:Inv (X.tr pins EX) gC σ H s)(r:Vals vs us)
  (h:sp vs H Q (EX σ)):wpAny (model X.prog X.w) X.A (call (.ref f) us) (EP (X.tr pins EX) gC σ Q) (X.tr pins EX).xe s:=by
 have hl:(us++[]).length=ps.length:=by rw[mP,<- r.length];exact F.len _ _ _ _ h
 have b:=hb s us I.kIn hl;rw[mP] at b;refine wpAny_call (codeAny_mono (F.run X.A X.stack s H ⟨us,[]⟩ us vs Q (EX σ) hr I.env0 b r h) ?_);rintro (e|fl) s' hq
 ·exact⟨gC,σ,H,s,I.gk,hq⟩
 ·cases fl <;> first|exact I.after hq|exact False.elim hq
theorem Nq{pl:Sem Bool}(he:PE (X.tr pins EX) o ta)(c:Cls X.K C)(hm:Meth X.K C nm f)(F:gq X.prog X.w X.K X.mg X.base (CX1 X.prog X.w) k f fd ps sp)(hr:Room m X.A)(hb:Binds X.K fd ps [])(ha:PA (X.tr pins EX) (e::es) t)(hk:k<=m:=by decide)
  (hst:starEach (e::es) X.env=(false,eval e X.env)::starEach es X.env:=by rfl) (hpl:(backTo pos (starEach es X.env)).any (·.1)=false:=by rfl)
  (ht:eval (.Call (.Attribute o nm apos) (e::es) [] pos) X.env=(do
   let ov <- eval o X.env
   standAt apos.atName
   let (f,first) <- holding [ov] (getMethod ov nm pl)
   callWith pos f first (backTo pos (starEach (e::es) X.env)) (backToKw pos (keywordEach [] X.env))):=by rfl) :
  PE (X.tr pins EX) (.Call (.Attribute o nm apos) (e::es) [] pos) (Ge C nm EX sp ta t):=by
 intro gC s σ H Q I h;refine W.methodCall_KW (pl:=pl) (thn (he gC s σ H _ I h) ?_) ht;rintro u s1 ⟨x,H1,I1,rx,a,dx,fs,rfl,ea,l,q⟩;obtain rfl:u=Value.ref a:=rx;refine nM I1 ea c hm l (W.callWith_K (first:=[.ref a]) (h₀:=X.base) I.ok.mod.kin hm.kp (thn (ha pos gC s1 σ H1 _ I1 q) ?_) hst hpl);rintro us s2 ⟨vs,H2,I2,r,q2⟩;exact⟨I2.kIn,abq (us:=.ref a::us) (vs:=.ref a::vs) F (hr.mono hk) hb I2 (.cons rfl r) q2⟩
structure rH(K:W.Frag)(C:Addr)(m:Str)(f:Addr):Prop where
 ga:W.specialIn K (.ref C) "__getattribute__" = some (some (.builtin "type.__getattribute__"))
 rd:W.readsIn K C (.type "type")=true
 at_:W.findCls K (.ref C) (.type "type") m=some (.val (.ref f))
 hi:W.handedIn (.ref f)=true
 kp:W.keepIn K (.ref f)=true
theorem Ka{gC:List (Addr×Obj)}{σ:St}{H:Hp}{s:Shared}{A:Around}{E:xB}{pl:Sem Bool}{Q:Value×List Value->Shared->Prop}(I:Inv X gC σ H s)(c:rH X.K C nm f)(h:∀s',Inv X gC σ H s'->Q (.ref f,[]) s') :
  wpAny (model X.prog X.w) A (getMethod (.ref C) nm pl) Q E s:=W.method_cls I.kIn c.ga (W.cls_value I.kIn c.rd c.at_ c.hi (h _ (I.tok _)))
theorem Nr{CX:CXT}{E:XK}{pl:Sem Bool}(hC:X.mg x=some (.ref C))(c:rH X.K C nm f)(F:gq X.prog X.w X.K X.mg X.base CX k f fd ps sp)(hr:Room k X.A)(hb:Binds X.K fd ps [])(hx:Passes CX X E)(ha:PA X (e::es) t)(hg:Gl X x:=by rfl)(hdb:(x==("__debug__" : Str))=false:=by decide)
  (hst:starEach (e::es) X.env=(false,eval e X.env)::starEach es X.env:=by rfl) (hpl:(backTo pos (starEach es X.env)).any (·.1)=false:=by rfl)
  (ht:eval (.Call (.Attribute (.Name x p) nm apos) (e::es) [] pos) X.env=(do
   let ov <- eval (.Name x p) X.env
   standAt apos.atName
   let (f,first) <- holding [ov] (getMethod ov nm pl)
   callWith pos f first (backTo pos (starEach (e::es) X.env)) (backToKw pos (keywordEach [] X.env))):=by rfl) :
  PE X (.Call (.Attribute (.Name x p) nm apos) (e::es) [] pos) (wU sp [] E t):=by
 intro gC s σ H Q I h;have hn:PE X (.Name x p) (tC (.ref C)):=xq (v:=.ref C) ⟨_,hC,rfl⟩ hg hdb;refine W.methodCall_KW (pl:=pl) (thn (hn gC s σ H (λv H1=>v=.ref C/\H1=H) I ⟨rfl,rfl⟩) ?_) ht;rintro u s1 ⟨y,H1,I1,ry,rfl,rfl⟩;obtain rfl:u=Value.ref C:=ry;refine Ka I1 c λs2 I2=>W.callWith_K (first:=[]) (h₀:=X.base) I.ok.mod.kin c.kp (thn (ha pos gC s2 σ _ _ I2 h) ?_) hst hpl
 rintro us s3 ⟨vs,H3,I3,r,q⟩;exact⟨I3.kIn,zj F hr hb .nil hx I3 r q⟩
end
section
variable{P:Program}{w:World}{K:W.Frag}{mg:xC}{base:Heap}{CX:CXT}{k:Nat}{x nm qual:Str}{ps:List Str}{sp:Sp}{C:Addr}
structure Met(P:Program)(w:World)(K:W.Frag)(mg:xC)(base:Heap)(CX:CXT)(k:Nat)(C:Addr)(nm:Str)(ps:List Str)(sp:Sp):Prop where
 ex:∃(f:Addr)(fd:FuncData),gq P w K mg base CX k f fd ps sp/\Meth K C nm f/\Binds K fd ps []
structure Mak(P:Program)(w:World)(K:W.Frag)(mg:xC)(base:Heap)(CX:CXT)(k:Nat)(x:Str)(C:Addr)(ps:List Str)(sp:Sp):Prop where
 ex:∃(f:Addr)(fd:FuncData),gq P w K mg base CX k f fd ps sp/\Mk K C f/\mg x=some (.ref C)/\Binds K fd ps []
structure Cdf(P:Program)(w:World)(K:W.Frag)(mg:xC)(base:Heap)(CX:CXT)(k:Nat)(x:Str)(C:Addr)(nm:Str)(ps:List Str)(sp:Sp):Prop where
 ex:∃(f:Addr)(fd:FuncData),gq P w K mg base CX k f fd ps sp/\rH K C nm f/\mg x=some (.ref C)/\Binds K fd ps []
def FnAt(K:W.Frag)(nm qual:Str)(st:Stmt)(f:Addr):Prop:=∃fd:FuncData,Fun K nm qual st f fd
structure je(P:Program)(w:World)(K:W.Frag)(mg:xC)(base:Heap)(CX:CXT)(k:Nat)(f:Addr)(ps:List Str)(sp:Sp):Prop where
 ex:∃fd:FuncData,gq P w K mg base CX k f fd ps sp/\Binds K fd ps []
theorem je.met{f:Addr}(t:je P w K mg base CX k f ps sp)(m:Meth K C nm f):Met P w K mg base CX k C nm ps sp:=let ⟨fd,F,b⟩:=t.ex;⟨f,fd,F,m,b⟩
theorem je.mak{f:Addr}(t:je P w K mg base CX k f ps sp)(m:Mk K C f)(g:mg x=some (.ref C)):Mak P w K mg base CX k x C ps sp:=let ⟨fd,F,b⟩:=t.ex;⟨f,fd,F,m,g,b⟩
theorem je.cdf{f:Addr}(t:je P w K mg base CX k f ps sp)(m:rH K C nm f)(g:mg x=some (.ref C)):Cdf P w K mg base CX k x C nm ps sp:=let ⟨fd,F,b⟩:=t.ex;⟨f,fd,F,m,g,b⟩
variable{st:Stmt}{N:List Str}{f:Addr}
theorem bR(h:FnAt K nm qual st f)(S:aK N ps (aF st))(len:∀vs H Q E,sp vs H Q E->vs.length=ps.length)
  (hb:∀(kV doc pm:Value)(an:xN)(cdv ct:Value)(us:xF),us.length=ps.length->bindArgs (W.fnOf nm qual (cW st) (cu st) (aF st) .none kV doc pm an cdv ct) ⟨us,[]⟩=pure (ps.zip us))
  (hbody:∀(f:Addr)(cdv:Value)(A:Around)(outer:List Env)(s:Shared)(H:Hp)(vs:List V)(Q:VK)(E:XK),Room k (A.deeper (envOfC qual (aF st) s.heap.objs.size f cdv))->sp vs H Q E ->
   ∃t,PSs (j8 CX P w K mg base N qual (aF st) f cdv A outer s H E).nox (cu st) t/\t { nx:=λ_ H'=>Q .non H',rt:=Q } (start N vs) H):je P w K mg base CX (k+1) f ps sp:=by
 obtain⟨fd,F⟩:=h;refine⟨fd,?_,F.binds hb⟩;obtain⟨oc,od,kV,doc,pm,an,cdv,ct,osl,rfl,lk,hcd⟩:=F.ex;refine t_ lk hcd S len λA outer s H vs Q E hr hsp=>?_
 obtain⟨t,h,q⟩:=hbody f cdv A outer s H vs Q E hr hsp;exact⟨t,h.nox,q⟩
theorem qH(h:FnAt K nm qual st f)(S:aK N ps (aF st))(len:∀vs H Q E,sp vs H Q E->vs.length=ps.length)
  (hb:∀(kV doc pm:Value)(an:xN)(cdv ct:Value)(us:xF),us.length=ps.length->bindArgs (W.fnOf nm qual (cW st) (cu st) (aF st) .none kV doc pm an cdv ct) ⟨us,[]⟩=pure (ps.zip us))
  (hbody:∀(f:Addr)(cdv:Value)(A:Around)(outer:List Env)(s:Shared)(H:Hp)(vs:List V)(Q:VK)(E:XK),Room k (A.deeper (envOfC qual (aF st) s.heap.objs.size f cdv))->sp vs H Q E ->
   ∃t,PSs (j8 (CX1 P w) P w K mg base N qual (aF st) f cdv A outer s H E) (cu st) t/\t { nx:=λ_ H'=>Q .non H',rt:=Q } (start N vs) H):je P w K mg base (CX1 P w) (k+1) f ps sp:=by
 obtain⟨fd,F⟩:=h;refine⟨fd,?_,F.binds hb⟩;obtain⟨oc,od,kV,doc,pm,an,cdv,ct,osl,rfl,lk,hcd⟩:=F.ex;exact t_ lk hcd S len λA outer s H vs Q E hr hsp=>hbody f cdv A outer s H vs Q E hr hsp
end
section
variable{X:Cx}{CX:CXT}{k m:Nat}{x nm:Str}{ps:List Str}{sp:Sp}{E:XK}{p pos apos:Pos}{e o:Expr}{es:List Expr}{t:TA}{ta:TE}{C:Addr}
theorem gY{pl:Sem Bool}(he:PE X o ta)(c:Cls X.K C)(D:Met X.prog X.w X.K X.mg X.base CX k C nm ps sp)(hr:Room m X.A)(ha:PA X (e::es) t)(hk:k<=m:=by decide)(hx:Passes CX X E:=by exact uf)
  (hst:starEach (e::es) X.env=(false,eval e X.env)::starEach es X.env:=by rfl) (hpl:(backTo pos (starEach es X.env)).any (·.1)=false:=by rfl)
  (ht:eval (.Call (.Attribute o nm apos) (e::es) [] pos) X.env=(do
   let ov <- eval o X.env
   standAt apos.atName
   let (f,first) <- holding [ov] (getMethod ov nm pl)
   callWith pos f first (backTo pos (starEach (e::es) X.env)) (backToKw pos (keywordEach [] X.env))):=by rfl) :
  PE X (.Call (.Attribute o nm apos) (e::es) [] pos) (wV C nm sp [] E ta t):=by
 obtain⟨f,fd,F,mt,b⟩:=D.ex;exact Rk (pl:=pl) he c mt F (hr.mono hk) b .nil hx ha hst hpl ht
theorem b_{pl:Sem Bool}(he:PE X o ta)(c:Cls X.K C)(D:Met X.prog X.w X.K X.mg X.base CX k C nm ps sp)(hr:Room m X.A)(hk:k<=m:=by decide)(hx:Passes CX X E:=by exact uf)
  (ht:eval (.Call (.Attribute o nm apos) [] [] pos) X.env=(do
   let ov <- eval o X.env
   standAt apos.atName
   let (f,first) <- holding [ov] (getMethod ov nm pl)
   callWith pos f first (backTo pos (starEach [] X.env)) (backToKw pos (keywordEach [] X.env))):=by rfl) :
  PE X (.Call (.Attribute o nm apos) [] [] pos) (wV C nm sp [] E ta JT):=by
 obtain⟨f,fd,F,mt,b⟩:=D.ex;exact Ln (pl:=pl) he c mt F (hr.mono hk) b .nil hx ht
theorem Gf{pl:Sem Bool}(D:Cdf X.prog X.w X.K X.mg X.base CX k x C nm ps sp)(hr:Room m X.A)(ha:PA X (e::es) t)(hk:k<=m:=by decide)(hx:Passes CX X E:=by exact uf)(hg:Gl X x:=by rfl)(hdb:(x==("__debug__" : Str))=false:=by decide)
  (hst:starEach (e::es) X.env=(false,eval e X.env)::starEach es X.env:=by rfl) (hpl:(backTo pos (starEach es X.env)).any (·.1)=false:=by rfl)
  (ht:eval (.Call (.Attribute (.Name x p) nm apos) (e::es) [] pos) X.env=(do
   let ov <- eval (.Name x p) X.env
   standAt apos.atName
   let (f,first) <- holding [ov] (getMethod ov nm pl)
   callWith pos f first (backTo pos (starEach (e::es) X.env)) (backToKw pos (keywordEach [] X.env))):=by rfl) :
  PE X (.Call (.Attribute (.Name x p) nm apos) (e::es) [] pos) (wU sp [] E t):=by
 obtain⟨f,fd,F,c,g,b⟩:=D.ex;exact Nr (pl:=pl) g c F (hr.mono hk) b hx ha hg hdb hst hpl ht
end
end L2
namespace L2
open PySem PySem.Spec PyProof.Rows
def Bd(k:Nat)(x:Int):Prop:=0<=x/\x<2 ^ k
theorem RW{a b:Nat}(h:a<=b):(2:Int) ^ a<=2 ^ b:=by
 have h:(2:Nat) ^ a<=2 ^ b:=Nat.pow_le_pow_right (by decide) h
 exact_mod_cast h
theorem Bd.mono{a b:Nat}{x:Int}(h:a<=b)(hx:Bd a x):Bd b x:=⟨hx.1,Int.lt_of_lt_of_le hx.2 (RW h)⟩
theorem Bd.le{k:Nat}{x y:Int}(h:Bd k x)(h0:0<=y)(hy:y<=x):Bd k y:=⟨h0,Int.lt_of_le_of_lt hy h.2⟩
theorem zQ{X:Cx}{K:W.Frag}{pos:Pos}{es:List Expr}{k:Nat}{t:TGs}{n:Nat}(hK:X.K=K)(hc:X.calm=true)(h:PGs X es t)
  (hn:(assignEach es X.env).length=n:=by rfl) (hst:(assignEach es X.env).findIdx? (·.1)=none:=by rfl):PG X (.Tuple es k pos) (yX K n t):=by
 subst hK;exact tV hc h hn hst
theorem xK{J:It}{xs:List V}{Lk:Hp->Prop}{te:TE}{g:TG}{σ:St}{H:Hp}{Q:VK}{fr:List Nat}{fvs:St}{nt:Nat}{P:Nat->V->Hp->Prop}(it:L2.ItemsOf J xs Lk)(hz:xs.length<=1000000)(hf:(fr.map λi=>(σ[i]?).getD none)=fvs)(hL:∀H',Same H H'->Lk H')
  (hP:∀i y H1 H2,P i y H1->(∀q u,H1 q=some (.tup u)->H2 q=some (.tup u))->P i y H2)
  (turn:∀(i:Nat)(v:V)(tv:St)(H':Hp),xs[i]?=some v->Same H H'->tv.length=nt->∃tv' σ':St,tv'.length=nt/\tv'++fvs=σ'/\(∀R2:St->Hp->Prop,R2 σ' H'->g v (tv++fvs) H' R2)/\∀R:VK,(∀y H2,Same H' H2->P i y H2->R y H2)->te σ' H' R)
  (k:∀l H' ys,New H H' l (.lst ys)->ys.length=xs.length->(∀(i:Nat)(y:V),ys[i]?=some y->P i y H')->Q (.ref l) H'):gh J nt fr g rE te σ H Q:=by
 intro acc hacc;subst hf;have Ce:∀b u,H b=some u->b≠acc:=λb u e=>aN e hacc
 refine zx it (λi ys H'=>H' acc=some (.lst ys)/\Same H H'/\ys.length=i/\∀(j:Nat)(y:V),ys[j]?=some y->P j y H') ⟨bG,Same.new hacc,rfl,λj y e=>by simp at e⟩ (λi ys H' _ h=>⟨hL H' h.2.1,h.1⟩) ?_ ?_
 ·rintro i x tv ys H' hx hi ⟨ha,hs,hl,hp⟩ htv;obtain⟨tv',_,ht',rfl,hg,he⟩:=turn i x tv H' hx hs htv;refine hg _ ?_;unfold rE;dsimp only;rw[yB rfl];refine he _ λy H2 s2 py=>⟨by rw[hl];exact qS hi (bW hz),s2 _ _ ha,oE.next (tv:=tv') hi ⟨bG,λb u e=>by rw[aR (Ce b u e)];exact s2 _ _ (hs _ _ e),by rw[yY,hl];rfl,λj z e=>?_⟩ ht'⟩
  have stay:∀q u,H2 q=some (.tup u)->(upd H2 acc (.lst (ys++[y]))) q=some (.tup u):=λq u h=>by
   have ne:q≠acc:=λz=>by
    rw[z,s2 _ _ ha] at h;cases h
   rw[aR ne];exact h
  by_cases hj:j<ys.length
  ·rw[wP hj] at e;exact hP _ _ _ _ (hP _ _ _ _ (hp j z e) λq u h=>s2 _ _ h) stay
  ·rw[nK (by lia)] at e;have hj2:j-ys.length=0:=by
    by_cases h0:j-ys.length=0
    ·exact h0
    ·rw[List.getElem?_eq_none (by simp;lia)] at e;cases e
   rw[hj2] at e;cases e;have:j=i:=by lia
   rw[this];exact hP _ _ _ _ py stay
 ·rintro ys H' ⟨ha,hs,hl,hp⟩;exact k acc H' ys ⟨hs,ha,Ce⟩ hl hp
def jR:V->Dt
 | .int i=>.int i
 | .str x=>.str x
 | .bl b=>.bl b
 | _=>.non
def gP:V->Bool
 | .int _=>true
 | .str _=>true
 | .bl _=>true
 | .non=>true
 | _=>false
section
variable{K:W.Frag}{H:Hp}
theorem Nt{v:V}(h:gP v=true):Rep K H (jR v) v:=by
 cases v <;> simp_all [gP,jR,Rep]
theorem qI:∀{vs:List V},(∀v∈vs,gP v=true)->dG K H (vs.map jR) vs
 | [],_=>by simp[dG]
 | v::vs,h=>by
  simp only[List.map_cons,dG];exact⟨_,_,rfl,Nt (h v (zC ..)),qI λx hx=>h x (zD _ hx)⟩
theorem uJ:∀vs:List V,iD (vs.map jR)=0
 | []=>rfl
 | v::vs=>by
  have:iG (jR v)=0:=by cases v <;> rfl
  simp[iD,this,uJ vs]
abbrev oK(r:List V):Dt:=.tup (r.map jR)
theorem xM:∀{rows:List (List V)} {ys:List V},aH H ys rows->(∀r∈rows,∀v∈r,gP v=true)->dG K H (rows.map oK) ys
 | [],ys,h,_=>by
  have:ys=[]:=List.eq_nil_of_length_eq_zero h.1;subst this;simp[dG]
 | r::rows,[],h,_=>by simp[aH] at h
 | r::rows,y::ys,h,hf=>by
  obtain⟨q,e,hq⟩:=h.2 0 r rfl;cases e;simp only[List.map_cons,dG];refine⟨_,_,rfl,?_,xM (rows:=rows) (ys:=ys) ⟨by simpa using h.1,λj r' e=>h.2 (j+1) r' e⟩ λx hx=>hf x (List.mem_cons_of_mem _ hx)⟩;simp only[Rep];exact⟨q,r,rfl,SqT.of hq,qI (hf r (zC ..))⟩
theorem Cg:∀rows:List (List V),iD (rows.map oK)<=1
 | []=>by decide
 | r::rows=>by
  have h1:iG (oK r)=1:=by simp only[iG,uJ]
  have h2:=Cg rows;simp only[List.map_cons,iD,h1]
  lia
theorem oM{p:Addr}{rows:List (List V)}{ys:List V}(hp:SqL K H p ys)(h:aH H ys rows)(hf:∀r∈rows,∀v∈r,gP v=true):Rep K H (.lst (rows.map oK)) (.ref p):=by
 simp only[Rep];exact⟨p,ys,rfl,hp,xM h hf⟩
theorem qJ(rows:List (List V)):iG (.lst (rows.map oK))<=2:=by
 have:=Cg rows;simp only[iG]
 lia
theorem uK{d:Dt}{x y:V}{Q:VK}(hx:Rep K H d x)(hy:Rep K H d y)(hd:iG d<=100)(k:Q (.bl false) H):zO K x y H Q :=
 ⟨d,d,hx,hy,hd,by rw[xu];exact k⟩
theorem RX{p:Addr}(h:SqL K H p []):Rep K H (.lst []) (.ref p):=by
 simp only[Rep];exact⟨p,_,rfl,h,by simp[dG]⟩
end
section
variable{K:W.Frag}{σ:St}{H:Hp}{Q:VK}{ta:TE}{f:Str}{C:Addr}
theorem Gg(h:ta σ H λx H1=>∃a C dx fs v,x=.ref a/\H1 a=some (.ins C dx fs)/\Cls K C/\cZ K C f/\fs.lookup f=some v/\Q v H1):U9 K ta f σ H Q:=h
theorem w_fld{a dx:Addr}{fs:List (Str×V)}{v:V}{R:V->Prop}(ho:H a=some (.ins C dx fs))(c:Cls K C)(n:cZ K C f)(l:fs.lookup f=some v)(k:R v) :
  ∃a' C' dx' fs' v',V.ref a=.ref a'/\H a'=some (.ins C' dx' fs')/\Cls K C'/\cZ K C' f/\fs'.lookup f=some v'/\R v':=⟨a,C,dx,fs,v,rfl,ho,c,n,l,k⟩
end
theorem Kc{H:Hp}{x dx C:Addr}(hx:H x=none)(hd:H dx=none):Same H (upd (upd H dx (.own x)) x (.ins C dx [])):=λb u e=>by
 rw[aR (aN e hx),aR (aN e hd)];exact e
end L2
namespace L2
open PySem PySem.Spec PyProof.Rows PySem.SeqAt
section
variable{H H':Hp}{p a l:Addr}{o u:HO}
theorem New.at(n:New H H' p o)(h:H a=some u):H' a=some u:=n.s a u h
theorem Same.at(s:Same H H')(h:H a=some u):H' a=some u:=s a u h
theorem Off.at(f:Off l H H')(ne:a≠l)(h:H a=some u):H' a=some u:=by rw[f a ne];exact h
theorem Kp.at(k:Kp l H H')(ne:a≠l)(h:H a=some u):H' a=some u:=k a u ne h
theorem Yn{x y:List V}(h1:H a=some (.tup x))(h2:H l=some (.lst y)):a≠l:=λz=>by rw[z,h2] at h1;cases h1
theorem Yo{C d:Addr}{f:List (Str×V)}{y:List V}(h1:H a=some (.ins C d f))(h2:H l=some (.lst y)):a≠l:=λz=>by rw[z,h2] at h1;cases h1
def qK(H:Hp)(p:Addr)(rows:List (List V)):Prop:=∃ys,H p=some (.lst ys)/\aH H ys rows
theorem qK.same{rows:List (List V)}(s:Same H H')(h:qK H p rows):qK H' p rows:=let ⟨ys,a,b⟩:=h;⟨ys,s _ _ a,b.same s⟩
theorem qK.snoc{q:Addr}{ys r:List V}{rows:List (List V)}(h:aH H ys rows)(hl:H l=some (.lst ys))(hq:H q=some (.tup r))(f:Off l H H')(e:H' l=some (.lst (ys++[.ref q]))):qK H' l (rows++[r]):=by
 refine⟨_,e,?_⟩;have h':=h.off f hl;have nq:q≠l:=Yn hq hl;refine⟨by rw[yY,yY,h'.1];rfl,λj s z=>?_⟩;by_cases hj:j<rows.length
 ·rw[wP hj] at z;obtain⟨x,e1,e2⟩:=h'.2 j s z;exact⟨x,by rw[wP (by rw[h'.1];exact hj)];exact e1,e2⟩
 ·have hj2:j=rows.length:=by
   have:=(qB.mp z).1;rw[yY,List.length_singleton] at this
   lia
  subst hj2;rw[nK (uS _),Nat.sub_self] at z;cases z;exact⟨q,by rw[<- h'.1,nK (uS _),Nat.sub_self];rfl,f.at nq hq⟩
end
section
variable{X:Cx}{id:String}{x nm:Str}{e v:Expr}{es:List Expr}{t:TA}{tv:TE}{p kp pos:Pos}
def Nu(X:Cx)(id:String)(nm:Str)(r:List V->V->Hp->VK->Prop):Prop:=∀(pins:List (Addr×Obj)) (s:Shared) (σ:St) (H:Hp) (xs:List V) (us:xF) (y:V) (u:Value) (Q:VK),Inv X pins σ H s->Vals xs us->RelV y u->r xs y H Q ->
 wpAny (model X.prog X.w) X.A (call (.builtin id) us [(nm,u)]) (EP X pins σ Q) X.xe s
def tCK(r:List V->V->Hp->VK->Prop)(t:TA)(tv:TE):TE:=λσ H Q=>t σ H λxs H1=>tv σ H1 λy H2=>r xs y H2 Q
theorem Nv{r:List V->V->Hp->VK->Prop}{σ:St}{H:Hp}{Q:VK}(h:t σ H λxs H1=>tv σ H1 λy H2=>r xs y H2 Q):tCK r t tv σ H Q:=h
theorem Gh{r:List V->V->Hp->VK->Prop}(hc:Nu X id nm r)(hg:Gl X x)(hm:X.mg x=none)(hv:bootBuiltins x=some (.builtin id))(ha:PA X (e::es) t)(hw:PE X v tv)(hn:x ≠ "__name__":=by decide)(hdb:(x==("__debug__" : Str))=false:=by decide)
  (he:backTo pos (starEach (e::es) X.env)=(false,eval e X.env)::backTo pos (starEach es X.env):=by rfl) (hpl:(backTo pos (starEach (e::es) X.env)).any (·.1)=false:=by rfl):PE X (.Call (.Name x p) (e::es) [⟨some nm,v,kp⟩] pos) (tCK r t tv):=by
 intro pins s σ H Q I h;refine wpAny_Call_Name_kw (qt I hg hm hv ?_ hn hdb);refine callWith_kw (thn (ha pos pins s σ H _ I h) λus s1 ⟨vs,H1,I1,r1,q1⟩=>?_) he hpl;refine kws_cons (thn (hw pins s1 σ H1 _ I1 q1) λz s2 ⟨y,H2,I2,r2,q2⟩=>kws_nil ?_);have hv2:Vals vs us:=r1;exact hc pins s2 σ H2 vs us y z Q I2 hv2 r2 q2
end
theorem uL:∀{ns:List Int} {us:xF},Vals (ns.map V.int) us->IntsAre us ns
 | [],_,.nil=>.nil
 | n::ns,_,.cons r t=>by
  obtain⟨k,rfl⟩:=r;exact .cons n k (uL t)
theorem rJ:∀{us:xF} {ns:List Int} {i:Nat} {v:Value},IntsAre us ns->us[i]?=some v->∃t,v=.int (ns.getD i 0) t
 | _,_,_,_,.nil,e=>by simp at e
 | _,_,0,_,.cons n t h,e=>by
  simp at e;exact⟨t,e.symm⟩
 | _,_,i+1,_,.cons n t h,e=>by
  obtain⟨t',e'⟩:=rJ (i:=i) h (by simpa using e);exact⟨t',by rw[e'];simp⟩
def iz(d:Int)(ns:List Int):Int:=ns.foldl max d
section
variable{X:Cx}
theorem RZ{P:Program}{w:World}{A:Around}{E:xB}{s:Shared}{i j:Int}{t u:Tok}{Q:xB}(h:Q (.bool (decide (j<i))) s):wpAny (model P w) A (richCompare .Gt (.int i t) (.int j u)) Q E s:=gt_int h
section
variable{P:Program}{w:World}{A:Around}{R:Result->Shared->Prop}{it:Addr}{fp wr:List Addr}{ns:List Int}{V0:Nat->Value->Prop}{St0:Nat->Heap->Prop}{kw:List (Str×Value)}
abbrev Ib(vs:xL)(c:Nat):Obj:={ cls:=.type "list", dict:=none,data:=.seq vs c,slots:=#[] }
theorem Nx(W:Walks P w A.in1 it fp wr ns.length V0 St0)(hv:∀i v,V0 i v->∃t,v=.int (ns.getD i 0) t)(B:Addr)(hB:B ∉ fp)(left:Nat) :
  ∀(j:Nat)(s:Shared)(m:Int)(t:Tok)(c:Nat),j+left=ns.length->St0 j s.heap->m=iz (ns.getD 0 0) (ns.take j)->s.heap.get? B=some (Ib #[.int m t,.int m t] c) ->
  (∀h' tk t',(∀b ob,b ∉ wr->b≠B->s.heap.get? b=some ob->h'.get? b=some ob)->R (.ok (.ret (.int (iz (ns.getD 0 0) ns) t'))) { s with heap:=h',toks:=tk }) ->
  codeAny (model P w) A (.builtin "max.loop" ⟨[.ref it,.none,.ref B],kw⟩) R s:=by
 have hBw:B ∉ wr:=λz=>hB (W.sub _ z)
 induction left with
 | zero =>
  intro j s m t c hj st hm hb k;have ej:j=ns.length:=by lia
  subst ej;refine codeAny_builtin F.entry_max_loop ?_;rw[Around.under_plainId F.plain_max_loop _];show wpAny _ _ (seqItems? (Value.ref B) >>= _) _ _ _;refine zI (wpAny_seqItems hb rfl ?_);show wpAny _ _ (tryCatch (pyNext (Value.ref it)) _ >>= _) _ _ _;refine zI (wpAny_tryCatch (W.done s _ _ st λh1 tk1 k1=>?_));have hb1:=k1 B _ hBw hb;show wpAny _ _ (updateSeq B _ >>= _) _ _ _;refine zI (wpAny_updateSeq hb1 rfl (zI (wpAny_letGo (rX ?_))));rw[List.take_length] at hm;rw[hm];exact k _ _ t λb ob n1 n2 q=>(mB _ _ (λz=>n2 z.symm)).trans (k1 b ob n1 q)
 | succ left ih =>
  intro j s m t c hj st hm hb k;have hlt:j<ns.length:=by lia
  refine codeAny_builtin F.entry_max_loop ?_;rw[Around.under_plainId F.plain_max_loop _];show wpAny _ _ (seqItems? (Value.ref B) >>= _) _ _ _;refine zI (wpAny_seqItems hb rfl ?_);show wpAny _ _ (tryCatch (pyNext (Value.ref it)) _ >>= _) _ _ _;refine zI (wpAny_tryCatch (W.item j s _ _ hlt st λv h1 tk1 pv st1 k1=>?_));obtain⟨t1,rfl⟩:=hv j v pv;have hb1:=k1 B _ hBw hb;have nx:iz (ns.getD 0 0) (ns.take (j+1))=max m (ns.getD j 0):=by
   have e:ns[j]?=some ns[j]:=by simp
   rw[gI,e,hm,oS (i:=j),e];show List.foldl max _ _=_;rw[List.foldl_append]
   rfl
  show wpAny _ _ (tryCatch (holding _ (richCompare .Gt _ _ >>= _)) _ >>= _) _ _ _;refine zI (wpAny_tryCatch (mI (zI (RZ ?_))));refine zI (mI (wpAny_truthy_bool ?_));refine zI (wpAny_letGo (rX ?_));have hs:(toString "max" ++ toString ".loop" : String) = "max.loop":=by decide
  by_cases hg:m<ns.getD j 0
  ·rw[uA hg];simp only[if_true];refine zI (wpAny_updateSeq hb1 rfl (zI (wpAny_letGo ?_)));rw[hs];refine rX ⟨plainId_quiet F.plain_max_loop _,ih (j+1) _ (ns.getD j 0) t1 _ (by lia) (W.frame _ _ _ st1 λb hbf ob q=>?_) (by rw[nx];lia) (Heap.get?_update_self _ hb1 rfl) λh2 tk2 t2 k2=>?_⟩
   ·exact(mB _ _ (λz=>hB (by rw[z];exact hbf))).trans q
   ·exact k h2 tk2 t2 λb ob n1 n2 q=>k2 b ob n1 n2 ((mB _ _ (λz=>n2 z.symm)).trans (k1 b ob n1 q))
  ·rw[gX hg];simp only[Bool.false_eq_true,if_false];refine zI (wpAny_letGo ?_);rw[hs];refine rX ⟨plainId_quiet F.plain_max_loop _,ih (j+1) _ m t c (by lia) st1 (by rw[nx];lia) hb1 λh2 tk2 t2 k2=>k h2 tk2 t2 λb ob n1 n2 q=>k2 b ob n1 n2 (k1 b ob n1 q)⟩
theorem R0{d:Int}{td:Tok}(W:Walks P w A.in1 it fp wr ns.length V0 St0)(hv:∀i v,V0 i v->∃t,v=.int (ns.getD i 0) t)(B:Addr)(hB:B ∉ fp){s:Shared}{c:Nat}(st:St0 0 s.heap)
  (hkw:ns=[]->kw=[(("default" : Str),Value.int d td)]) (hb:s.heap.get? B=some (Ib #[] c))
  (k:∀h' tk t',(∀b ob,b ∉ wr->b≠B->s.heap.get? b=some ob->h'.get? b=some ob)->R (.ok (.ret (.int (if ns=[] then d else iz (ns.getD 0 0) ns) t'))) { s with heap:=h',toks:=tk }) :
  codeAny (model P w) A (.builtin "max.loop" ⟨[.ref it,.none,.ref B],kw⟩) R s:=by
 have hBw:B ∉ wr:=λz=>hB (W.sub _ z)
 have hs:(toString "max" ++ toString ".loop" : String) = "max.loop":=by decide
 refine codeAny_builtin F.entry_max_loop ?_;rw[Around.under_plainId F.plain_max_loop _];show wpAny _ _ (seqItems? (Value.ref B) >>= _) _ _ _;refine zI (wpAny_seqItems hb rfl ?_);show wpAny _ _ (tryCatch (pyNext (Value.ref it)) _ >>= _) _ _ _;by_cases hn:ns=[]
 ·subst hn;rw[hkw rfl];refine zI (wpAny_tryCatch (W.done s _ _ st λh1 tk1 k1=>?_));refine zI (wpAny_rule ?_);exact rX (k h1 tk1 td λb ob n1 _ q=>k1 b ob n1 q)
 ·have hlt:0<ns.length:=List.length_pos_iff.mpr hn;refine zI (wpAny_tryCatch (W.item 0 s _ _ hlt st λv h1 tk1 pv st1 k1=>?_));obtain⟨t1,rfl⟩:=hv 0 v pv;have hb1:=k1 B _ hBw hb;show wpAny _ _ (updateSeq B _ >>= _) _ _ _;refine zI (wpAny_updateSeq hb1 rfl ?_);rw[hs];rw[yT hn] at k;refine rX ⟨plainId_quiet F.plain_max_loop _,Nx W hv B hB (ns.length-1) 1 _ (ns.getD 0 0) t1 _ (by lia) (W.frame _ _ _ st1 λb hbf ob q=>?_) ?_ (Heap.get?_update_self _ hb1 rfl) λh2 tk2 t2 k2=>?_⟩
  ·exact(mB _ _ (λz=>hB (by rw[z];exact hbf))).trans q
  ·have e:ns[0]?=some ns[0]:=by simp
   rw[gI,e,oS,e];simp[iz]
  ·exact k h2 tk2 t2 λb ob n1 n2 q=>k2 b ob n1 n2 ((mB _ _ (λz=>n2 z.symm)).trans (k1 b ob n1 q))
end
theorem Ke{ns:List Int}{d:Int}(hd:∀n∈ns,d<=n)(hn:ns≠[]):iz (ns.getD 0 0) ns=iz d ns:=by
 cases ns with
 | nil=>exact gN rfl hn
 | cons a t =>
  have h:=hd a zC;show List.foldl max a (a::t)=List.foldl max d (a::t);simp only[List.foldl_cons];rw[show max a a=a by lia,show max d a=a by lia]
theorem zR{P:Program}{w:World}{A:Around}{E:xB}{s:Shared}{id:String}{b:Builtin}{args:xF}{kw:List (Str×Value)}{Q:xB}(hk:builtinKind id=none)(hp:plainId id=true)
  (hb:entryFor table id=some b) (ha:argsOk id ⟨args,kw⟩)
  (hc:wpAny (model P w) A.in1 (b ⟨args,kw⟩) (λfin s1=>match fin with
   | .done f=>(match (Except.ok f:Result) with|.ok (.ret v)=>Q v s1|.ok _=>False|.error e=>E e s1)
   | .again c=>c.quiet=true/\codeAny (model P w) A c (λr s2=>match r with|.ok (.ret v)=>Q v s2|.ok _=>False|.error e=>E e s2) s1) E s):wpAny (model P w) A (call (.builtin id) args kw) Q E s:=by
 refine wpAny_call (codeAny_call_builtin hp hb ?_);simp only[checkBuiltinCall,hk];unfold argsOk at ha;cases hg:Manifest.signature? id with
 | none=>exact rX hc
 | some sg =>
  rw[hg] at ha;have ha2:Bind.checkArgs id sg ⟨args,kw⟩=pure ():=ha;simp only[ha2];exact rX hc
theorem Kf(a d:Value):argsOk "max" ⟨[a],[(("default" : Str),d)]⟩:=by unfold argsOk;kernel_rfl
def T5(K:W.Frag):List V->V->Hp->VK->Prop:=λxs y H Q=>∃(p:Addr)(ns:List Int)(d:Int),xs=[.ref p]/\y=.int d/\SqL K H p (ns.map V.int)/\(∀n∈ns,d<=n)/\Q (.int (iz d ns)) H
theorem xO(hc:X.calm=true):Nu X "max" "default" (T5 X.K):=by
 intro pins s σ H xs us y u Q I r ry h;obtain⟨p,ns,d,rfl,rfl,hq,hd,q⟩:=h;obtain⟨v,rfl,rx⟩:=vals1 r;cases rx;obtain⟨td,rfl⟩:=ry;obtain⟨its,rv,pl,_⟩:=I.list hq;have hi:=uL rv;have hn:its.length=ns.length:=by have:=rv.length;simpa using this.symm
 have hl:=pl.isList;have hlt:p<s.heap.objs.size:=let ⟨_,e,_⟩:=hl;uB e
 have hs:(toString "max" ++ toString ".loop" : String) = "max.loop":=by decide
 refine zR F.kind_max F.plain_max F.entry_max (Kf _ _) ?_;show wpAny _ _ (Builtin.Builtins.bindParams "max" ["key","default"] 0 ⟨[],[(("default" : Str),Value.int d td)]⟩ >>= _) _ _ s;refine zI (wpAny_of_eq (show Builtin.Builtins.bindParams "max" ["key","default"] 0 ⟨[],[(("default" : Str),Value.int d td)]⟩=pure [none,some (.int d td)] from rfl) ?_);refine zI (rX ?_);refine zI (wpAny_pyIter_list hl ?_);refine zI (wpAny_newObj_type ?_);rw[hs];have W:=Walks.list (prog:=X.prog) (w:=X.w) (A:=X.A.in1) (I.ok.hd hc) s.heap.objs.size p (qV hlt) its.toArray;rw[show its.toArray.size=ns.length by rw[nX];exact hn] at W;refine wpAny_pure ⟨plainId_quiet F.plain_max_loop _,R0 (d:=d) (td:=td) W (λi v hP=>rJ hi (by simpa using hP)) _ (λz=>?_) (W.frame _ _ _ ⟨⟨_,Heap.get?_push_size _ rfl,rfl,rfl⟩,hl.push _⟩ λb _ ob e=>Heap.get?_push_of_some _ e) (λ_=>rfl) (Heap.get?_push_size _ rfl) λh' tk t' hk=>?_⟩
 ·rcases jI.mp z with z|z
  ·exact gN z (by rw[size_push'];exact Nat.succ_ne_self _)
  ·exact gN (rS.mp z) (by rw[size_push'];exact Nat.ne_of_gt (nV hlt))
 ·have e:(if ns=[] then d else iz (ns.getD 0 0) ns)=iz d ns:=by
   by_cases h0:ns=[]
   ·rw[yB h0,h0];rfl
   ·rw[yT h0,Ke hd h0]
  rw[e];refine⟨.int _,H,I.kept λb ob q=>?_,⟨_,rfl⟩,by assumption⟩;have hb:b<s.heap.objs.size:=uB q;exact hk b ob (λz=>gN (rS.mp z) (qV hb)) (by rw[size_push'];exact qV (nV hb)) (uC _ (uC _ q))
end
theorem cM{CX:CXT}{P:Program}{w:World}{K:W.Frag}{mg:xC}{base:Heap}{N:List Str}{q:Str}{sc:Scope}{f:Addr}{cdv:Value}{A:Around}{outer:List Env}{s:Shared}{H:Hp}{E:XK}:(j8 CX P w K mg base N q sc f cdv A outer s H E).nox.K=K:=rfl
theorem bO{CX:CXT}{P:Program}{w:World}{K:W.Frag}{mg:xC}{base:Heap}{N:List Str}{q:Str}{sc:Scope}{f:Addr}{cdv:Value}{A:Around}{outer:List Env}{s:Shared}{H:Hp}{E:XK}:(j8 CX P w K mg base N q sc f cdv A outer s H E).K=K:=rfl
section
variable{o:Expr}{to tl th:TE}
def Vy(to tl th:TE):TG:=λv σ H Q=>to σ H λo H1=>tl σ H1 λa H2=>th σ H2 λc H3=>∃(l b:Addr)(xs ys:List V)(i j:Int),o=.ref l/\v=.ref b/\a=.int i/\c=.int j/\H3 l=some (.lst xs)/\H3 b=some (.lst ys)/\l≠b /\
 0<=i/\i<=j/\j<=xs.length/\xs.length+ys.length<=sizeLine/\∀H',Off l H3 H'->H' l=some (.lst (xs.take i.toNat++ys++xs.drop j.toNat))->Q σ H'
theorem Gi{v:V}{σ:St}{H:Hp}{Q:St->Hp->Prop}(h:to σ H λo H1=>tl σ H1 λa H2=>th σ H2 λc H3=>∃(l b:Addr)(xs ys:List V)(i j:Int),o=.ref l/\v=.ref b/\a=.int i/\c=.int j/\H3 l=some (.lst xs)/\H3 b=some (.lst ys)/\l≠b /\
 0<=i/\i<=j/\j<=xs.length/\xs.length+ys.length<=sizeLine/\∀H',Off l H3 H'->H' l=some (.lst (xs.take i.toNat++ys++xs.drop j.toNat))->Q σ H'):Vy to tl th v σ H Q:=h
theorem Yp{l b:Addr}{xs ys:List V}{i j:Int}{H:Hp}{R:Hp->Prop}(e1:H l=some (.lst xs))(e2:H b=some (.lst ys))(ne:l≠b)(h0:0<=i)(h1:i<=j)(h2:j<=xs.length)(hz:xs.length+ys.length<=sizeLine)
  (k:∀H',Off l H H'->H' l=some (.lst (xs.take i.toNat++ys++xs.drop j.toNat))->R H'):∃(l' b':Addr)(xs' ys':List V)(i' j':Int),V.ref l=.ref l'/\V.ref b=.ref b'/\V.int i=.int i'/\V.int j=.int j'/\H l'=some (.lst xs')/\H b'=some (.lst ys')/\l'≠b' /\
 0<=i'/\i'<=j'/\j'<=xs'.length/\xs'.length+ys'.length<=sizeLine/\∀H',Off l' H H'->H' l'=some (.lst (xs'.take i'.toNat++ys'++xs'.drop j'.toNat))->R H':=⟨l,b,xs,ys,i,j,rfl,rfl,rfl,rfl,e1,e2,ne,h0,h1,h2,hz,k⟩
end
def Hs(H:Hp)(a:Addr):Prop:=∃u,H a=some u
section
variable{H H':Hp}{a p:Addr}{o u:HO}
theorem Hs.of(h:H a=some u):Hs H a:=⟨u,h⟩
theorem New.hs(n:New H H' p o):Hs H' p:=⟨o,n.e⟩
theorem New.Ci(n:New H H' p o)(h:Hs H a):Hs H' a:=let ⟨u,e⟩:=h;⟨u,n.s _ _ e⟩
theorem New.neA(n:New H H' p o)(h:Hs H a):a≠p:=let ⟨u,e⟩:=h;n.n a u e
theorem New.neB(n:New H H' p o)(h:Hs H a):p≠a:=let ⟨u,e⟩:=h;λz=>n.n a u e z.symm
end
section
variable{H:Hp}{Q:VK}{K:W.Frag}{l b:Addr}{xs ys:List V}{y:V}{σ:St}{D:Ends}
theorem Ie{o:HO}{n:Nat}{Z:Addr->Hp->Prop}(z:n<=sizeLine)(k:∀p H',New H H' p o->Z p H'):n<=sizeLine/\∀p H',New H H' p o->Z p H':=⟨z,k⟩
theorem Ny{R:Prop}(h:SqL K H l xs)(k:R):tyV K "list" (.ref l) H/\R:=⟨.inl ⟨rfl,_,h⟩,k⟩
theorem Nz(h:H l=some (.lst xs))(z:xs.length<sizeLine)(k:∀H',Off l H H'->H' l=some (.lst (xs++[y]))->Q .non H'):HX (.ref l) [y] H Q:=⟨l,xs,y,rfl,rfl,h,z,k⟩
theorem NK(h:H l=some (.lst xs))(k:∀H',Off l H H'->H' l=some (.lst [])->Q .non H'):sO (.ref l) [] H Q:=⟨l,xs,rfl,rfl,h,k⟩
theorem Gj{i:Int}{j:Nat}{v:V}{R:Hp->Prop}(h:H l=some (.lst xs))(e:ixN xs.length i=some j)(k:∀H',Off l H H'->H' l=some (.lst (xs.set j v))->R H'):T4 (.ref l) (.int i) v H R:=⟨l,xs,i,j,rfl,rfl,h,e,k⟩
theorem NP{lo hi:Option Int}(h:SqL K H l xs)(k:∀p H',New H H' p (.lst (kI xs lo hi))->Q (.ref p) H'):Vk K (.ref l) lo hi H Q:=⟨l,xs,rfl,h,k⟩
theorem Gk(h:H l=some (.lst xs))(e:H b=some (.lst ys))(z:xs.length+ys.length<=sizeLine)(k:∀p H',New H H' p (.lst (xs++ys))->Q (.ref p) H'):Mv (.ref l) (.ref b) H Q:=⟨l,b,xs,ys,rfl,rfl,h,e,z,k⟩
theorem Gm{n:Nat}(h:H l=some (.lst [y]))(z:n<=1000000)(k:∀p H',New H H' p (.lst (List.replicate n y))->Q (.ref p) H'):Mw (.ref l) (.int (n:Int)) H Q :=
 ⟨l,n,[y],rfl,rfl,h,by lia,by lia,by simp only[List.length_singleton,Int.toNat_natCast,Nat.one_mul];exact bW z,λp H' q=>k p H' (by
  have e:(List.replicate ((n:Int).toNat) [y]).flatten=List.replicate n y:=by
   rw[Int.toNat_natCast];clear z q k h
   induction n with
   | zero=>rfl
   | succ n ih=>rw[List.replicate_succ,List.flatten_cons,ih];rfl
  rw[<- e];exact q)⟩
theorem zT{ns:List Int}{d:Int}(h:SqL K H l (ns.map V.int))(hd:∀n∈ns,d<=n)(k:Q (.int (iz d ns)) H):T5 K [.ref l] (.int d) H Q:=⟨l,ns,d,rfl,rfl,h,hd,k⟩
theorem Gn{C dx:Addr}{fs:List (Str×V)}{m:Str}{R:Prop}(h:H l=some (.ins C dx fs))(e:fs.lookup m=none)(k:R):∃a' dx' fs',V.ref l=.ref a'/\H a'=some (.ins C dx' fs')/\fs'.lookup m=none/\R:=⟨l,dx,fs,rfl,h,e,k⟩
theorem NQ{i:Nat}{te:TE}{ti:TIp}{v:V}(e:σ[i]?=some (some v))(h:te σ H λy H1=>ti v y H1 λz H2=>D.nx (σ.set i (some z)) H2):X6 i te ti D σ H:=⟨v,e,h⟩
theorem Yq{n:Nat}{i:Int}(h0:0<=i)(h1:i<n):ixN n i=some i.toNat:=by unfold ixN;rw[if_pos h0,if_pos h1]
theorem Vz{x y:V}{r:List V}:atI (x::y::r) 1=some y:=oh (j:=1) rfl
theorem VB{x y z:V}{r:List V}:atI (x::y::z::r) 2=some z:=oh (j:=2) rfl
theorem VD{A B:Prop}(k:A):if (true:Bool)=true then A else B:=by rw[yB rfl];exact k
theorem VF{A B:Prop}(k:B):if (false:Bool)=true then A else B:=by rw[yT (by decide)];exact k
theorem NT{A B:Prop}(k:B):if (!true:Bool)=true then A else B:=by rw[yT (by decide)];exact k
theorem NZ{A B:Prop}(k:A):if (!false:Bool)=true then A else B:=by rw[yB (by decide)];exact k
theorem Gp(h:H l=some (.tup xs))(k:Q (.bl true) H):uF K [.ref l,.ty "tuple"] H Q:=w_is (.tup h) (LR (.tup h)) k
theorem Gq(h:H l=some (.lst xs))(k:Q (.bl true) H):uF K [.ref l,.ty "list"] H Q:=w_is (.lst h) (RG (.lst h)) k
theorem Gs{i:Int}(k:Q (.bl true) H):uF K [.int i,.ty "int"] H Q:=w_is (eX.int (K:=K) (H:=H) i) (LQ (eX.int (K:=K) (H:=H) i)) k
theorem Gu{i:Int}(k:Q (.bl false) H):uF K [.int i,.ty "bool"] H Q:=w_is (eX.int (K:=K) (H:=H) i) (Hz (eX.int (K:=K) (H:=H) i)) k
theorem lu{n:Nat}(h:n<1000000):n<sizeLine:=qS h (bW (uS _))
theorem Gv{n i0 i1:Nat}{a b:V}{R:St->Hp->Prop}(hn:n=2)(hp:SqT K H l [a,b])(h:bL i0 a σ H λσ1 H1=>bL i1 b σ1 H1 R):yX K n (iw (bL i0) (iw (bL i1) Br)) (.ref l) σ H R:=by
 subst hn;exact Ga hp h
theorem rK{i:Int}(h:SqL K H l xs)(h0:0<=i)(h1:i<xs.length)(k:∀v∈xs,Q v H):Rn K (.ref l) (.int i) H Q:=let ⟨v,e,m⟩:=Mf h0 h1;B_ h e (k v m)
theorem gj{rows:List (List V)}{i:Nat}{v:V}(h:aH H xs rows)(e:xs[i]?=some v):∃r q,rows[i]?=some r/\v=.ref q/\H q=some (.tup r):=by
 have hi:i<rows.length:=by rw[<- h.1];exact(qB.mp e).1
 obtain⟨q,e1,e2⟩:=h.2 i rows[i] (by simp);rw[e] at e1;exact⟨rows[i],q,by simp,Option.some.inj e1,e2⟩
theorem Kg{te:TE}{fr:List Nat}{fvs:St}{rows:List (List V)}{F:List V->V}(hq:H l=some (.lst xs))(tp:aH H xs rows)(hz:xs.length<=1000000)(hf:(fr.map λi=>(σ[i]?).getD none)=fvs)
  (turn:∀(q:Addr)(r:List V)(H':Hp)(R:VK),r∈rows->Same H H'->H' q=some (.tup r)->(∀H2,Same H' H2->R (F r) H2)->te (some (.ref q)::fvs) H' R)
  (k:∀p H',New H H' p (.lst (rows.map F))->Q (.ref p) H'):gh (Itl K l) 1 fr (bL 0) rE te σ H Q:=by
 refine comp_map (P:=λi y=>∃r,rows[i]?=some r/\y=F r) (jP (xs:=xs)) hz hf (λH' s=>s.seq (SqL.of hq)) (λi v H' R hv s kk=>?_) λp H' ys n hl hP=>k p H' ?_
 ·obtain⟨r,q,e1,rfl,e2⟩:=gj tp hv;exact turn q r H' R (wE e1) s (s _ _ e2) λH2 s2=>kk _ _ s2 ⟨r,e1,rfl⟩
 ·have e:ys=rows.map F:=by
   apply List.ext_getElem?
   intro i;rw[vE];by_cases hi:i<ys.length
   ·obtain⟨r,e1,e2⟩:=hP i ys[i] (by simp);rw[e1,qE hi,e2]
    rfl
   ·have:¬ i<rows.length:=by rw[<- tp.1];lia
    rw[zzC (by lia),zzC (by lia)]
    rfl
  rw[e] at n;exact n
end
section
variable{K:W.Frag}{g:TG}{tb:TS}{D:Ends}{σ:St}{H:Hp}{tr:TA}
def zU(lo:Int)(n:Nat)(g:TG)(tb:TS)(D:Ends)(σ:St)(H:Hp):Prop:=∃W:Nat->Nat->St->Hp->Prop,(∃m,W 0 m σ H)/\∀i m σ H,W i m σ H ->
 ((Itr lo n).stop i H/\D.nx σ H)\/((Itr lo n).go i H/\∃N:St->Hp->Prop,(∀σ' H',N σ' H'->∃m',m'<m/\W (i+1) m' σ' H')/\∀x H',(Itr lo n).yld i H x H'->g x σ H' λσ2 H2=>tb { D with nx:=N,ct:=N,bk:=D.nx } σ2 H2)
theorem R4{lo:Int}{n:Nat}(Pv:Nat->St->Hp->Prop)(h0:Pv 0 σ H)(hs:∀i σ H,i<n->Pv i σ H->g (.int (lo+i)) σ H λσ2 H2=>tb { D with nx:=Pv (i+1),ct:=Pv (i+1),bk:=D.nx } σ2 H2)(hd:∀σ H,Pv n σ H->D.nx σ H):zU lo n g tb D σ H:=wO Pv h0 hs hd
theorem zV(h:tr σ H λvs H1=>∃j:Int,vs=[.int j]/\-(2 ^ 62)<=j/\j<2 ^ 62/\zU 0 j.toNat g tb D σ H1):Ew (K9 tr) g tb D σ H:=h
theorem Ig(h:tr σ H λvs H1=>∃i j:Int,vs=[.int i,.int j]/\(-(2 ^ 62)<=i/\i<2 ^ 62/\-(2 ^ 62)<=j/\j<2 ^ 62)/\zU i (j-i).toNat g tb D σ H1):Ew (TJ tr) g tb D σ H:=h
theorem Yr{a b:Int}{m:Nat}(hn:(b-a).toNat=m)(h:-(2 ^ 62)<=a/\a<2 ^ 62/\-(2 ^ 62)<=b/\b<2 ^ 62)(k:zU a m g tb D σ H):∃i j:Int,[V.int a,V.int b]=[.int i,.int j]/\(-(2 ^ 62)<=i/\i<2 ^ 62/\-(2 ^ 62)<=j/\j<2 ^ 62)/\zU i (j-i).toNat g tb D σ H:=⟨a,b,rfl,h,by rw[hn];exact k⟩
def R5(K:PySem.W.Frag)(a:Addr)(xs:List V)(g:TG)(tb:TS)(D:Ends)(σ:St)(H:Hp):Prop:=∃W:Nat->Nat->St->Hp->Prop,(∃m,W 0 m σ H)/\∀i m σ H,W i m σ H ->
      ((Ite K a xs).stop i H/\D.nx σ H)\/((Ite K a xs).go i H/\∃N:St->Hp->Prop,(∀σ' H',N σ' H'->∃m',m'<m/\W (i+1) m' σ' H')/\∀x H',(Ite K a xs).yld i H x H'->g x σ H' λσ2 H2=>tb { D with nx:=N,ct:=N,bk:=D.nx } σ2 H2)
theorem N5(h:tr σ H λvs H1=>∃a xs,vs=[.ref a]/\SqL K H1 a xs/\R5 K a xs g tb D σ H1):Ew (T3 K tr) g tb D σ H:=h
theorem abr{a:Addr}{xs:List V}(h:SqL K H a xs)(k:R5 K a xs g tb D σ H):∃a' xs',[V.ref a]=[.ref a']/\SqL K H a' xs'/\R5 K a' xs' g tb D σ H:=⟨a,xs,rfl,h,k⟩
theorem R6{a:Addr}{xs:List V}(Pv:Nat->St->Hp->Prop)(h0:Pv 0 σ H)(hl:∀i σ H,i<=xs.length->Pv i σ H->SqL K H a xs)
  (hs:∀i x T σ H H',xs[i]?=some x->Pv i σ H->New H H' T (.tup [.int i,x])->g (.ref T) σ H' λσ2 H2=>tb { D with nx:=Pv (i+1),ct:=Pv (i+1),bk:=D.nx } σ2 H2) (hd:∀σ H,Pv xs.length σ H->D.nx σ H):R5 K a xs g tb D σ H:=M8 Pv h0 hl hs hd
theorem abt{a:Addr}{xs:List V}(h:SqL K H a xs)(k:Gb K a g tb D σ H):∃a',V.ref a=.ref a'/\(∃xs,SqL K H a' xs)/\Gb K a' g tb D σ H:=⟨a,rfl,⟨xs,h⟩,k⟩
theorem Ys{a:Addr}{xs:List V}{nt:Nat}{fr:List Nat}{c:TT}{te:TE}{Q:VK}(h:SqL K H a xs)(k:gh (Itl K a) nt fr g c te σ H Q):∃a',V.ref a=.ref a'/\(∃xs,SqL K H a' xs)/\gh (Itl K a') nt fr g c te σ H Q:=⟨a,rfl,⟨xs,h⟩,k⟩
end
section
variable{K:W.Frag}{σ:St}{H:Hp}{Q:VK}{ta tv:TE}{t:TA}{f m:Str}{C:Addr}{sp:Sp}{E:XK}{D:Ends}
def R7(K:W.Frag)(f:Str)(y x:V)(H:Hp)(R:Hp->Prop):Prop:=∃a C dx fs,x=.ref a/\H a=some (.ins C dx fs)/\Cls K C/\cZ K C f/\fs.length<1000/\R (upd H a (.ins C dx (fQ f y fs)))
theorem uM(h:tv σ H λy H1=>ta σ H1 λx H2=>R7 K f y x H2 λH3=>D.nx σ H3):U_ K ta tv f D σ H:=h
theorem Gw{l dx:Addr}{fs:List (Str×V)}{y:V}{R:Hp->Prop}(ho:H l=some (.ins C dx fs))(c:Cls K C)(n:cZ K C f)(z:fs.length<1000)(k:∀H',Off l H H'->H' l=some (.ins C dx (fQ f y fs))->R H'):R7 K f y (.ref l) H R :=
 ⟨l,C,dx,fs,rfl,ho,c,n,z,k _ Off.upd bG⟩
def zW(C:Addr)(sp:Sp)(E:XK)(t:TA):TE:=λσ H Q=>t σ H λvs H1=>∀x dx H2,New H1 H2 x (.ins C dx [])->sp (.ref x::vs) H2 (λv H3=>v=.non/\Q (.ref x) H3) E
theorem uN(h:t σ H λvs H1=>∀x dx H2,New H1 H2 x (.ins C dx [])->sp (.ref x::vs) H2 (λv H3=>v=.non/\Q (.ref x) H3) E):zW C sp E t σ H Q:=h
theorem uO(h:ta σ H λx H1=>∃a dx fs,x=.ref a/\H1 a=some (.ins C dx fs)/\fs.lookup m=none/\t σ H1 λvs H2=>sp (x::vs) H2 Q E):wV C m sp [] E ta t σ H Q:=by
 have e:(λ(x:V) (H1:Hp)=>∃a dx fs,x=.ref a/\H1 a=some (.ins C dx fs)/\fs.lookup m=none/\t σ H1 λvs H2=>sp (x::(vs++[])) H2 Q E)=λx H1=>∃a dx fs,x=.ref a/\H1 a=some (.ins C dx fs)/\fs.lookup m=none/\t σ H1 λvs H2=>sp (x::vs) H2 Q E:=by
  simp only[List.append_nil]
 show ta σ H λx H1=>∃a dx fs,x=.ref a/\H1 a=some (.ins C dx fs)/\fs.lookup m=none/\t σ H1 λvs H2=>sp (x::(vs++[])) H2 Q E
 rw[e];exact h
end
section
variable{X:Cx}{CX:CXT}{k m:Nat}{x:Str}{ps:List Str}{sp:Sp}{E:XK}{p pos:Pos}{e:Expr}{es:List Expr}{t:TA}{C:Addr}
theorem mC(D:Mak X.prog X.w X.K X.mg X.base CX k x C ps sp)(hr:Room m X.A)(ha:PA X (e::es) t)(hk:k+1<=m:=by decide)(hx:Passes CX X E:=by exact uf)(hg:Gl X x:=by rfl)
  (hdb:(x==("__debug__" : Str))=false:=by decide) (he:starEach (e::es) X.env=(false,eval e X.env)::starEach es X.env:=by rfl) (hpl:(backTo pos (starEach es X.env)).any (·.1)=false:=by rfl) :
  PE X (.Call (.Name x p) (e::es) [] pos) (zW C sp E t):=by
 obtain⟨f,fd,F,M,g,b⟩:=D.ex;intro pins s σ H Q I h;refine wpAny_Call_Name_kw (lZ I hg g ?_ hdb);refine W.callWith_K (h₀:=X.base) I.ok.mod.kin M.kp (thn (ha pos pins s σ H _ I h) λus s1 ⟨vs,H1,I1,r,q⟩=>⟨I1.kIn,?_⟩) he hpl;refine Lp M F (hr.mono hk) b .nil hx I1 r λy dy h1 h2 h3=>?_
 rw[mP];exact q y dy _ ⟨Kc h1 h2,bG,λa u z=>aN z h1⟩
end
def abu:V->Int->Bool
 | .int i,lo=>decide (lo<=i)
 | _,_=>false
def inB:V->Int->Int->Bool
 | .int i,lo,hi=>decide (lo<=i) && decide (i<=hi)
 | _,_,_=>false
section
variable{K:W.Frag}{H:Hp}{Q:VK}{E:XK}{x:V}{n:String}{p q:Addr}{a b c lo hi:Int}
def Cj(K:W.Frag):Sp:=λvs H Q _=>∃x n,vs=[x]/\eX K H x (.type n)/\Q (.bl (isW x)) H
theorem Ih(ty:eX K H x (.type n))(k:Q (.bl (isW x)) H):Cj K [x] H Q E:=⟨x,n,rfl,ty,k⟩
def nR(K:W.Frag):Sp:=λvs H Q _=>∃x n lo,vs=[x,.int lo]/\eX K H x (.type n)/\Q (.bl (abu x lo)) H
theorem zX(k:Q (.bl (decide (lo<=a))) H):nR K [.int a,.int lo] H Q E:=⟨_,_,lo,rfl,.int _,k⟩
def jT(K:W.Frag):Sp:=λvs H Q _=>∃x n lo hi,vs=[x,.int lo,.int hi]/\eX K H x (.type n)/\Q (.bl (inB x lo hi)) H
theorem N6(ty:eX K H x (.type n))(k:Q (.bl (inB x lo hi)) H):jT K [x,.int lo,.int hi] H Q E:=⟨x,n,lo,hi,rfl,ty,k⟩
def uR(K:W.Frag):Sp:=λvs H Q _=>∃x n,vs=[x]/\eX K H x (.type n)/\Q (.bl (inB x 16 240)) H
theorem R8(h1:16<=a)(h2:a<=240)(k:Q (.bl true) H):uR K [.int a] H Q E:=⟨_,_,rfl,.int _,by
 have e:inB (.int a) 16 240=true:=by show (decide _ && decide _)=true;rw[uA h1,uA h2];rfl
 rw[e];exact k⟩
def xP:Sp:=λvs H Q _=>∃(q:Addr)(a b:Int),vs=[.ref q]/\H q=some (.tup [.int a,.int b])/\Q (.int (a+b)) H
theorem T6(h:H q=some (.tup [.int a,.int b]))(k:Q (.int (a+b)) H):xP [.ref q] H Q E:=⟨q,a,b,rfl,h,k⟩
def rM:Sp:=λvs H Q _=>∃(q:Addr)(a b:Int),vs=[.ref q]/\H q=some (.tup [.int a,.int b])/\Q (.bl (decide (0<=a) && decide (1<=b))) H
theorem uT(h:H q=some (.tup [.int a,.int b]))(k:Q (.bl (decide (0<=a) && decide (1<=b))) H):rM [.ref q] H Q E:=⟨q,a,b,rfl,h,k⟩
def aD(ws:xD):List (List V):=ws.map λw=>[V.int (w.1:Nat),V.int (w.2:Nat)]
def cX(ws:xD):List Int:=ws.map λw=>((w.2:Nat):Int)
theorem aJ(ws:xD):(aD ws).length=ws.length:=wS ..
theorem Kh{ws:xD}{i:Nat}{r:List V}(h:(aD ws)[i]?=some r):∃w,ws[i]?=some w/\r=[V.int (w.1:Nat),V.int (w.2:Nat)]:=by
 unfold aD at h;rw[vE] at h;cases e:ws[i]? with
 | none=>rw[e] at h;cases h
 | some w=>rw[e] at h;exact⟨w,rfl,(nS h).symm⟩
theorem fM{ws:xD}{ys:List V}{i:Nat}{v:V}(h:aH H ys (aD ws))(e:ys[i]?=some v):∃w q,ws[i]?=some w/\v=.ref q/\H q=some (.tup [V.int (w.1:Nat),V.int (w.2:Nat)]):=by
 obtain⟨r,q,e1,e2,e3⟩:=gj h e;obtain⟨w,e4,rfl⟩:=Kh e1;exact⟨w,q,e4,e2,e3⟩
def uU:Sp:=λvs H Q _=>∃(p:Addr)(ys:List V)(ws:xD),vs=[.ref p]/\H p=some (.lst ys)/\aH H ys (aD ws)/\ws.length<=1000/\∀H',Same H H'->Q (.int (iz 0 (cX ws))) H'
def uV(K:W.Frag):Sp:=λvs H Q _=>∃(a:Addr)(ns:List Int)(k:Int),vs=[.ref a,.int k]/\SqL K H a (ns.map V.int)/\0<=k/\∀c:Int,Q (.int c) H
theorem R9{ns:List Int}{m:Int}(h:SqL K H p (ns.map V.int))(h0:0<=m)(k:∀c:Int,Q (.int c) H):uV K [.ref p,.int m] H Q E:=⟨p,ns,m,rfl,h,h0,k⟩
def zY:Sp:=λvs H Q _=>∃c:Int,vs=[.int c]/\∀(p:Addr)(a b:Int)(H':Hp),New H H' p (.lst [.int a,.int b,.int 0])->Q (.ref p) H'
theorem VG(k:∀(p:Addr)(x y:Int)(H':Hp),New H H' p (.lst [.int x,.int y,.int 0])->Q (.ref p) H'):zY [.int a] H Q E:=⟨a,rfl,k⟩
def uW:Sp:=λvs H Q _=>∃(p:Addr)(a b c m:Int),vs=[.ref p,.int m]/\H p=some (.lst [.int a,.int b,.int c])/\0<m/\m<1073741824/\∀(r a' b' c':Int)(H':Hp),0<=r->r<m->Off p H H'->H' p=some (.lst [.int a',.int b',.int c'])->Q (.int r) H'
theorem zZ{m:Int}(h:H p=some (.lst [.int a,.int b,.int c]))(m0:0<m)(m1:m<1073741824)(k:∀(r a' b' c':Int)(H':Hp),0<=r->r<m->Off p H H'->H' p=some (.lst [.int a',.int b',.int c'])->Q (.int r) H'):uW [.ref p,.int m] H Q E :=
 ⟨p,a,b,c,m,rfl,h,m0,m1,k⟩
end
section
variable{K:W.Frag}{g:TG}{tb:TS}{D:Ends}{σ:St}{H H':Hp}{Q:VK}{l p q:Addr}{xs ys:List V}{rows:List (List V)}
theorem gQ{n:Nat}(Pv:Nat->St->Hp->Prop)(h0:Pv 0 σ H)(hs:∀i σ H,i<n->Pv i σ H->g (.int i) σ H λσ2 H2=>tb { D with nx:=Pv (i+1),ct:=Pv (i+1),bk:=D.nx } σ2 H2)(hd:∀σ H,Pv n σ H->D.nx σ H):zU 0 n g tb D σ H :=
 wO Pv h0 (λi σ H hi h=>by rw[Int.zero_add];exact hs i σ H hi h) hd
theorem nU{te:TE}{n:Nat}{fr:List Nat}{fvs:St}{F:List V->V}(hq:H l=some (.lst xs))(tp:aH H xs rows)(hn:n=2)(h2:∀r∈rows,∃a b,r=[a,b])(hz:xs.length<=1000000)(hf:(fr.map λi=>(σ[i]?).getD none)=fvs)
  (turn:∀(a b:V)(H':Hp)(R:VK),[a,b]∈rows->Same H H'->(∀H2,Same H' H2->R (F [a,b]) H2)->te (some a::some b::fvs) H' R)
  (k:∀p H',New H H' p (.lst (rows.map F))->Q (.ref p) H'):gh (Itl K l) 2 fr (yX K n (iw (bL 0) (iw (bL 1) Br))) rE te σ H Q:=by
 subst hn;refine xK (P:=λi y _=>∃r,rows[i]?=some r/\y=F r) (jP (xs:=xs)) hz hf (λH' s=>s.seq (SqL.of hq)) (λi y H1 H2 h _=>h) (λi v tv H' hv s htv=>?_) λp H' zs n hl hP=>k p H' ?_
 ·obtain⟨r,q,e1,rfl,e2⟩:=gj tp hv;obtain⟨a,b,rfl⟩:=h2 r (wE e1);obtain⟨t0,t1,rfl⟩:∃t0 t1,tv=[t0,t1]:=by
   match tv,htv with
   | [t0,t1],_=>exact⟨t0,t1,rfl⟩
  refine⟨[some a,some b],some a::some b::fvs,rfl,rfl,λR2 hR=>?_,λR kk=>turn a b H' R (wE e1) s λH2 s2=>kk _ _ s2 ⟨_,e1,rfl⟩⟩;exact Ga (SqT.of (s _ _ e2)) hR
 ·have e:zs=rows.map F:=by
   apply List.ext_getElem?
   intro i;rw[vE];by_cases hi:i<zs.length
   ·obtain⟨r,e1,e2⟩:=hP i zs[i] (by simp);rw[e1,qE hi,e2]
    rfl
   ·have:¬ i<rows.length:=by rw[<- tp.1];lia
    rw[zzC (by lia),zzC (by lia)]
    rfl
  rw[e] at n;exact n
theorem aH.snoc{r:List V}(h:aH H ys rows)(hq:H q=some (.tup r)):aH H (ys++[.ref q]) (rows++[r]):=by
 refine⟨by rw[yY,yY,h.1];rfl,λj s z=>?_⟩;by_cases hj:j<rows.length
 ·rw[wP hj] at z;obtain⟨x,e1,e2⟩:=h.2 j s z;exact⟨x,by rw[wP (by rw[h.1];exact hj)];exact e1,e2⟩
 ·have hj2:j=rows.length:=by
   have:=(qB.mp z).1;rw[yY,List.length_singleton] at this
   lia
  subst hj2;rw[nK (uS _),Nat.sub_self] at z;cases z;exact⟨q,by rw[<- h.1,nK (uS _),Nat.sub_self];rfl,hq⟩
theorem Gx(ws:xD):∀r∈aD ws,∀v∈r,gP v=true:=by
 intro r hr v hv;obtain⟨x,_,rfl⟩:=jS.mp hr;simp only[List.mem_cons,List.not_mem_nil,or_false] at hv;rcases hv with rfl|rfl <;> rfl
theorem T7{ws:xD}{zs:List V}(hp:H p=some (.lst ys))(hq:H q=some (.lst zs))(tp:aH H ys (aD ws))(tq:aH H zs (aD ws))(k:Q (.bl false) H):zO K (.ref p) (.ref q) H Q :=
 uK (oM (SqL.of hp) tp (Gx _)) (oM (SqL.of hq) tq (Gx _)) (oB (qJ _) (by decide)) k
theorem N7{zs:List V}(hp:H p=some (.lst ys))(tp:aH H ys rows)(hf:∀r∈rows,∀v∈r,gP v=true)(hq:H q=some (.lst []))(k:Q (.bl (!decide (rows=[]))) H):zO K (.ref p) (.ref q) H Q :=
 ⟨_,_,oM (SqL.of hp) tp hf,RX (SqL.of hq),oB (qJ _) (by decide),by
  cases rows with
  | nil=>simpa[jD,iC] using k
  | cons a t=>simpa[jD,iC] using k⟩
def IsPair(H:Hp)(v:V):Option (Nat×Nat)->Prop
 | none=>v=.non
 | some w=>∃q,v=.ref q/\H q=some (.tup [.int (w.1:Nat),.int (w.2:Nat)])
theorem IsPair.same{v:V}{o:Option (Nat×Nat)}(s:Same H H')(h:IsPair H v o):IsPair H' v o:=by
 cases o with
 | none=>exact h
 | some w=>obtain⟨q,e1,e2⟩:=h;exact⟨q,e1,s _ _ e2⟩
end
def isTup:HO->Bool
 | .tup _=>true
 | .frz _ _=>true
 | _=>false
def Tst(H H':Hp):Prop:=∀q u,isTup u=true->H q=some u->H' q=some u
inductive Im where
 | tup (q:Addr) (r:List V)
 | tps (ys:List V) (rs:List (List V))
 | fct (φ:Hp->Prop) (st:∀H H',Tst H H'->φ H->φ H')
def Im.holds(H:Hp):Im->Prop
 | .tup q r=>H q=some (.tup r)
 | .tps ys rs=>aH H ys rs
 | .fct φ _=>φ H
theorem Im.stay{H H':Hp}(t:Tst H H'):∀{f:Im},f.holds H->f.holds H'
 | .tup q r,h=>t q _ rfl h
 | .tps ys rs,h=>⟨h.1,λj r e=>let ⟨q,a,b⟩:=h.2 j r e;⟨q,a,t q _ rfl b⟩⟩
 | .fct φ st,h=>st H H' t h
class SH(H0:outParam Hp)(M:outParam (List Addr))(H:Hp)(L:outParam (List (Addr×HO)))(I:outParam (List Im)):Prop where
 fr:∀b u,b ∉ M->H0 b=some u->H b=some u
 im:∀f∈I,f.holds H
 at':∀c∈L,H c.1=some c.2
 nd:(L.map (·.1)).Nodup
 mu:∀c∈L,isTup c.2=false
 ch:∀c∈L,c.1∈M\/∀b u,H0 b=some u->b≠c.1
inductive Up(l:Addr)(o':HO):List (Addr×HO)->List (Addr×HO)->Prop
 | head {o:HO} {L:List (Addr×HO)}:Up l o' ((l,o)::L) ((l,o')::L)
 | tail {c:Addr×HO} {L L':List (Addr×HO)} (h:Up l o' L L'):Up l o' (c::L) (c::L')
theorem Up.keys{l:Addr}{o':HO}{L L':List (Addr×HO)}(h:Up l o' L L'):L'.map (·.1)=L.map (·.1):=by
 induction h with
 | head=>rfl
 | tail h ih=>rw[nI,nI,ih]
theorem Up.mem{l:Addr}{o':HO}{L L':List (Addr×HO)}(h:Up l o' L L'):l∈L.map (·.1):=by
 induction h with
 | head=>exact zC
 | tail h ih=>exact zD _ ih
theorem Up.each{l:Addr}{o':HO}{L L':List (Addr×HO)}(h:Up l o' L L')(nd:(L.map (·.1)).Nodup):∀c∈L',c=(l,o')\/(c∈L/\c.1≠l):=by
 induction h with
 | @head o L =>
  intro c hc;rcases jI.mp hc with rfl|hc
  ·exact .inl rfl
  ·refine .inr ⟨zD _ hc,λz=>?_⟩;rw[nI] at nd;exact(List.nodup_cons.mp nd).1 (by show l∈_;rw[<- z];exact List.mem_map_of_mem (f:=(·.1)) hc)
 | @tail d L L' h ih =>
  intro c hc;rw[nI] at nd;have nd':=List.nodup_cons.mp nd;rcases jI.mp hc with rfl|hc
  ·exact .inr ⟨zC,λz=>nd'.1 (z▸h.mem)⟩
  ·rcases ih nd'.2 c hc with e|⟨e1,e2⟩
   ·exact .inl e
   ·exact .inr ⟨zD _ e1,e2⟩
theorem Up.src{l:Addr}{o':HO}{L L':List (Addr×HO)}(h:Up l o' L L'):∃o,(l,o)∈L:=by
 induction h with
 | head=>exact⟨_,zC⟩
 | tail h ih=>obtain⟨o,ho⟩:=ih;exact⟨o,zD _ ho⟩
inductive Pk(c:Addr×HO):List (Addr×HO)->List (Addr×HO)->Prop
 | head {L:List (Addr×HO)}:Pk c (c::L) L
 | tail {d:Addr×HO} {L R:List (Addr×HO)} (h:Pk c L R):Pk c (d::L) (d::R)
inductive Sb:List (Addr×HO)->List (Addr×HO)->Prop
 | nil {L:List (Addr×HO)}:Sb [] L
 | cons {c:Addr×HO} {L' L R:List (Addr×HO)} (h:Pk c L R) (t:Sb L' R):Sb (c::L') L
theorem Pk.mem{c:Addr×HO}{L R:List (Addr×HO)}(h:Pk c L R):c∈L/\∀d∈R,d∈L:=by
 induction h with
 | head=>exact⟨zC,λd hd=>zD _ hd⟩
 | tail h ih =>
  refine⟨zD _ ih.1,λd hd=>?_⟩;rcases jI.mp hd with rfl|hd
  ·exact zC
  ·exact zD _ (ih.2 d hd)
theorem Pk.nd{c:Addr×HO}{L R:List (Addr×HO)}(h:Pk c L R)(nd:(L.map (·.1)).Nodup):(R.map (·.1)).Nodup/\∀d∈R,d.1≠c.1:=by
 induction h with
 | head =>
  rw[nI] at nd;have:=List.nodup_cons.mp nd;exact⟨this.2,λd hd z=>this.1 (z▸List.mem_map_of_mem hd)⟩
 | @tail d L R h ih =>
  rw[nI] at nd;have nd':=List.nodup_cons.mp nd;obtain⟨i1,i2⟩:=ih nd'.2;refine⟨by
   rw[nI,List.nodup_cons];refine⟨λz=>?_,i1⟩;obtain⟨x,hx,ex⟩:=jS.mp z;exact nd'.1 (ex▸List.mem_map_of_mem (h.mem.2 x hx)),λx hx=>?_⟩
  rcases jI.mp hx with rfl|hx
  ·exact λz=>nd'.1 (z▸List.mem_map_of_mem h.mem.1)
  ·exact i2 x hx
theorem Sb.mem{L' L:List (Addr×HO)}(h:Sb L' L):∀c∈L',c∈L:=by
 induction h with
 | nil=>intro c hc;cases hc
 | cons h t ih =>
  intro c hc;rcases jI.mp hc with rfl|hc
  ·exact h.mem.1
  ·exact h.mem.2 c (ih c hc)
theorem Sb.nd{L' L:List (Addr×HO)}(h:Sb L' L):(L.map (·.1)).Nodup->(L'.map (·.1)).Nodup:=by
 induction h with
 | nil=>intro _;exact List.nodup_nil
 | cons h t ih =>
  intro nd;obtain⟨n1,n2⟩:=h.nd nd;rw[nI,List.nodup_cons];refine⟨λz=>?_,ih n1⟩;obtain⟨x,hx,ex⟩:=jS.mp z;exact n2 x (t.mem x hx) ex
section
variable{H0 H H':Hp}{M:List Addr}{L L':List (Addr×HO)}{I I':List Im}{p q l a:Addr}{o o' u:HO}{xs ys r:List V}{rs:List (List V)}{K:W.Frag}
theorem SH.nil:SH H M H [] []:=⟨λ_ _ _ h=>h,(λ_ h=>by cases h),(λ_ h=>by cases h),List.nodup_nil,(λ_ h=>by cases h),(λ_ h=>by cases h)⟩
theorem SH.iV(F:SH H0 M H0 L I)(hm:p∈M)(h:H0 p=some o)(ht:isTup o=false)(ne:∀c∈L,c.1≠p):SH H0 M H0 ((p,o)::L) I:=by
 refine⟨F.fr,F.im,?_,?_,?_,?_⟩
 ·intro c hc;rcases jI.mp hc with rfl|hc
  ·exact h
  ·exact F.at' c hc
 ·rw[nI,List.nodup_cons];refine⟨λz=>?_,F.nd⟩;obtain⟨x,hx,ex⟩:=jS.mp z;exact ne x hx ex
 ·intro c hc;rcases jI.mp hc with rfl|hc
  ·exact ht
  ·exact F.mu c hc
 ·intro c hc;rcases jI.mp hc with rfl|hc
  ·exact .inl hm
  ·exact F.ch c hc
theorem SH.sE(F:SH H0 M H L I)(h:H q=some (.tup r)):SH H0 M H L (.tup q r::I):=⟨F.fr,λf hf=>by
 rcases jI.mp hf with rfl|hf
 ·exact h
 ·exact F.im f hf,F.at',F.nd,F.mu,F.ch⟩
theorem SH.oN(F:SH H0 M H L I)(h:aH H ys rs):SH H0 M H L (.tps ys rs::I):=⟨F.fr,λf hf=>by
 rcases jI.mp hf with rfl|hf
 ·exact h
 ·exact F.im f hf,F.at',F.nd,F.mu,F.ch⟩
theorem SH.lC{φ:Hp->Prop}{st:∀H H',Tst H H'->φ H->φ H'}(F:SH H0 M H L I)(h:φ H):SH H0 M H L (.fct φ st::I):=⟨F.fr,λf hf=>by
 rcases jI.mp hf with rfl|hf
 ·exact h
 ·exact F.im f hf,F.at',F.nd,F.mu,F.ch⟩
theorem SH.same(F:SH H0 M H L I)(s:Same H H'):SH H0 M H' L I:=⟨λb u n e=>s b u (F.fr b u n e),λf hf=>Im.stay (λq u _ e=>s q u e) (F.im f hf),λc hc=>s _ _ (F.at' c hc),F.nd,F.mu,F.ch⟩
theorem SH.newT(F:SH H0 M H L I)(n:New H H' q (.tup r)):SH H0 M H' L (.tup q r::I):=(F.same n.s).sE n.e
theorem SH.Yt(F:SH H0 M H L I)(n:New H H' p o)(ht:isTup o=false):SH H0 M H' ((p,o)::L) I:=by
 have F':=F.same n.s;refine⟨F'.fr,F'.im,?_,?_,?_,?_⟩
 ·intro c hc;rcases jI.mp hc with rfl|hc
  ·exact n.e
  ·exact F'.at' c hc
 ·rw[nI,List.nodup_cons];refine⟨λz=>?_,F.nd⟩;obtain⟨x,hx,ex⟩:=jS.mp z;exact n.n _ _ (F.at' x hx) ex
 ·intro c hc;rcases jI.mp hc with rfl|hc
  ·exact ht
  ·exact F.mu c hc
 ·intro c hc;rcases jI.mp hc with rfl|hc
  ·by_cases hm:p∈M
   ·exact .inl hm
   ·exact .inr λb u e z=>by
     by_cases hb:b∈M
     ·exact hm (by have z':b=p:=z;rw[<- z'];exact hb)
     ·exact n.n b u (F.fr b u hb e) z
  ·exact F.ch c hc
theorem SH.newL(F:SH H0 M H L I)(n:New H H' p (.lst xs)):SH H0 M H' ((p,.lst xs)::L) I:=F.Yt n rfl
theorem SH.abv{C dx:Addr}{fs:List (Str×V)}(F:SH H0 M H L I)(n:New H H' p (.ins C dx fs)):SH H0 M H' ((p,.ins C dx fs)::L) I:=F.Yt n rfl
theorem SH.newR(F:SH H0 M H L I)(n:New H H' p (.lst ys))(t:aH H' ys rs):SH H0 M H' ((p,.lst ys)::L) (.tps ys rs::I):=(F.newL n).oN t
theorem SH.kp(F:SH H0 M H L I)(k:Kp l H H')(e:H' l=some o')(u:Up l o' L L')(ht:isTup o'=false:=by rfl):SH H0 M H' L' I:=by
 obtain⟨o,ho⟩:=u.src;have hl:=F.at' _ ho;have hu:=F.mu _ ho;refine⟨λb w nb e0=>k b w (λz=>?_) (F.fr b w nb e0),λf hf=>Im.stay (λq v hv e1=>k q _ (λz=>?_) e1) (F.im f hf),λc hc=>?_,by rw[u.keys];exact F.nd,λc hc=>?_,λc hc=>?_⟩
 ·rcases F.ch _ ho with h|h
  ·exact nb (by rw[z];exact h)
  ·exact h b w e0 z
 ·rw[z,hl] at e1;cases e1;rw[hu] at hv;cases hv
 ·rcases u.each F.nd c hc with rfl|⟨h1,h2⟩
  ·exact e
  ·exact k _ _ h2 (F.at' c h1)
 ·rcases u.each F.nd c hc with rfl|⟨h1,h2⟩
  ·exact ht
  ·exact F.mu c h1
 ·rcases u.each F.nd c hc with rfl|⟨h1,h2⟩
  ·exact F.ch (l,o) ho
  ·exact F.ch c h1
theorem SH.abw(F:SH H0 M H L I)(f:Off l H H')(e:H' l=some (.lst xs))(u:Up l (.lst xs) L L'):SH H0 M H' L' I:=F.kp f.kp e u rfl
theorem SH.kpL(F:SH H0 M H L I)(f:Kp l H H')(e:H' l=some (.lst xs))(u:Up l (.lst xs) L L'):SH H0 M H' L' I:=F.kp f e u rfl
theorem SH.abx{C dx:Addr}{fs:List (Str×V)}(F:SH H0 M H L I)(f:Off l H H')(e:H' l=some (.ins C dx fs))(u:Up l (.ins C dx fs) L L'):SH H0 M H' L' I:=F.kp f.kp e u rfl
theorem SH.raw(F:SH H0 M H L I)(m:(a,o)∈L):H a=some o:=F.at' _ m
theorem SH.tup(F:SH H0 M H L I)(m:.tup q r∈I):H q=some (.tup r):=F.im _ m
theorem SH.tps(F:SH H0 M H L I)(m:.tps ys rs∈I):aH H ys rs:=F.im _ m
theorem SH.old(F:SH H0 M H L I)(h:H0 a=some u)(n:a ∉ M):H a=some u:=F.fr a u n h
theorem SH.sq(F:SH H0 M H L I)(h:SqL K H0 a xs)(n:a ∉ M):SqL K H a xs:=by
 rcases h with(h|⟨o,h⟩)|h
 ·exact .inl (.inl (F.fr a _ n h))
 ·exact .inl (.inr ⟨o,F.fr a _ n h⟩)
 ·exact .inr h
theorem SH.sub(F:SH H0 M H L I)(s:Sb L' L)(t:∀f∈I',f∈I):SH H0 M H L' I':=⟨F.fr,λf hf=>F.im f (t f hf),λc hc=>F.at' c (s.mem c hc),s.nd F.nd,λc hc=>F.mu c (s.mem c hc),λc hc=>F.ch c (s.mem c hc)⟩
theorem SH.sm(F:SH H0 [] H L I):Same H0 H:=λb u e=>F.fr b u vF e
theorem SH.kpo(F:SH H0 [p] H L I):Kp p H0 H:=λb u n e=>F.fr b u (λz=>n (rS.mp z)) e
theorem SH.nw(F:SH H0 [] H L I)(m:(q,o)∈L):New H0 H q o:=⟨F.sm,F.at' _ m,λb u e=>by
 rcases F.ch _ m with h|h
 ·exact gN h vF
 ·exact h b u e⟩
theorem SH.fresh(F:SH H0 M H L I)(m:(q,o)∈L)(n:q ∉ M):∀b u,H0 b=some u->b≠q:=λb u e=>by
 rcases F.ch _ m with h|h
 ·exact gN h n
 ·exact h b u e
theorem nm0:a ∉ ([]:List Addr):=vF
theorem nm1(h:a≠p):a ∉ [p]:=λz=>h (rS.mp z)
theorem SH.app(F:SH H0 M H L I)(m:.tps ys rs∈I)(m':.tup q r∈I):SH H0 M H L (.tps (ys++[.ref q]) (rs++[r])::I):=F.oN ((F.tps m).snoc (F.tup m'))
end
class Go(G:Prop)(G':outParam Prop):Prop where
 go:G'->G
theorem go1{G G':Prop}[h:Go G G'](k:G'):G:=h.go k
class LkL(L:List (Addr×HO))(a:Addr)(o:outParam HO):Prop where
 m:(a,o)∈L
class LkI(I:List Im)(a:Addr)(r:outParam (List V)):Prop where
 m:.tup a r∈I
class LkP(I:List Im)(ys:List V)(rs:outParam (List (List V))):Prop where
 m:.tps ys rs∈I
class LkU(L:List (Addr×HO))(l:Addr)(o:HO)(L':outParam (List (Addr×HO))):Prop where
 u:Up l o L L'
class Old(H0:Hp)(M:List Addr)(a:Addr)(o:outParam HO):Prop where
 e:H0 a=some o
 n:a ∉ M
class Yu(K:W.Frag)(H0:Hp)(M:List Addr)(a:Addr)(xs:outParam (List V)):Prop where
 e:SqL K H0 a xs
 n:a ∉ M
class Gy(H0:Hp)(ys:List V)(rs:outParam (List (List V))):Prop where
 e:aH H0 ys rs
class Hat(H:Hp)(a:Addr)(o:outParam HO):Prop where
 e:H a=some o
class SqA(K:W.Frag)(H:Hp)(a:Addr)(xs:outParam (List V)):Prop where
 e:SqL K H a xs
class SqB(K:W.Frag)(H:Hp)(a:Addr)(xs:outParam (List V)):Prop where
 e:SqT K H a xs
class TpA(H:Hp)(ys:List V)(rs:outParam (List (List V))):Prop where
 e:aH H ys rs
class AtI(xs:List V)(i:Int)(v:outParam V):Prop where
 e:atI xs i=some v
section
variable{H0 H H':Hp}{M:List Addr}{L L':List (Addr×HO)}{I:List Im}{a p l:Addr}{o o':HO}{c:Addr×HO}{f:Im}{r xs ys:List V}{rs:List (List V)}{K:W.Frag}{v v0 v1:V}
instance acE[h:LkL L a o]:LkL (c::L) a o:=⟨zD _ h.m⟩
instance acF:LkL ((a,o)::L) a o:=⟨zC⟩
instance acG[h:LkI I a r]:LkI (f::I) a r:=⟨zD _ h.m⟩
instance acH:LkI (.tup a r::I) a r:=⟨zC⟩
instance acI[h:LkP I ys rs]:LkP (f::I) ys rs:=⟨zD _ h.m⟩
instance acJ:LkP (.tps ys rs::I) ys rs:=⟨zC⟩
instance acK[h:LkU L l o L']:LkU (c::L) l o (c::L'):=⟨.tail h.u⟩
instance acL:LkU ((l,o')::L) l o ((l,o)::L):=⟨.head⟩
instance ZX[F:SH H0 M H L I][h:Old H0 M a o]:Hat H a o:=⟨F.fr a o h.n h.e⟩
instance Z0[F:SH H0 M H L I][h:LkI I a r]:Hat H a (.tup r):=⟨F.tup h.m⟩
instance Z1[F:SH H0 M H L I][h:LkL L a o]:Hat H a o:=⟨F.raw h.m⟩
instance Z2[F:SH H0 M H L I][h:Yu K H0 M a xs]:SqA K H a xs:=⟨F.sq h.e h.n⟩
instance Z4[h:Hat H a (.lst xs)]:SqA K H a xs:=⟨.of h.e⟩
instance Z5[h:Hat H a (.tup xs)]:SqB K H a xs:=⟨.of h.e⟩
instance Z6{H0:Hp}{L:List (Addr×HO)}{I:List Im}[F:SH H0 [] H L I][h:Gy H0 ys rs]:TpA H ys rs:=⟨h.e.same F.sm⟩
instance Z7[F:SH H0 M H L I][h:LkP I ys rs]:TpA H ys rs:=⟨F.tps h.m⟩
instance at0:AtI (v::r) 0 v:=⟨L_⟩
instance at1:AtI (v0::v::r) 1 v:=⟨Vz⟩
instance at2:AtI (v0::v1::v::r) 2 v:=⟨VB⟩
variable{Z:Addr->Hp->Prop}{R:Hp->Prop}{C dx:Addr}{fs:List (Str×V)}
instance aby[F:SH H0 M H L I]:Go (∀p H',New H H' p (.tup xs)->Z p H') (∀H' p,SH H0 M H' L (.tup p xs::I)->Z p H'):=⟨λk p H' n=>k H' p (F.newT n)⟩
instance abA[F:SH H0 M H L I]:Go (∀p H',New H H' p (.lst xs)->Z p H') (∀H' p,SH H0 M H' ((p,.lst xs)::L) I->Z p H'):=⟨λk p H' n=>k H' p (F.newL n)⟩
instance abB[F:SH H0 M H L I][u:LkU L l (.lst xs) L']:Go (∀H',Off l H H'->H' l=some (.lst xs)->R H') (∀H',SH H0 M H' L' I->R H'):=⟨λk H' f e=>k H' (F.abw f e u.u)⟩
instance Z8[F:SH H0 M H L I][u:LkU L l (.ins C dx fs) L']:Go (∀H',Off l H H'->H' l=some (.ins C dx fs)->R H') (∀H',SH H0 M H' L' I->R H'):=⟨λk H' f e=>k H' (F.abx f e u.u)⟩
instance acv[F:SH H0 M H L I][u:LkU L l (.lst xs) L']:Go (∀H',Kp l H H'->H' l=some (.lst xs)->R H') (∀H',SH H0 M H' L' I->R H'):=⟨λk H' f e=>k H' (F.kpL f e u.u)⟩
instance Z9[F:SH H0 M H L I]:Go (∀H',Same H H'->R H') (∀H',SH H0 M H' L I->R H'):=⟨λk H' s=>k H' (F.same s)⟩
def Sd(A B:Prop):Prop:=A/\B
theorem sd{A B:Prop}(a:A)(b:B):Sd A B:=⟨a,b⟩
class au(K:W.Frag)(C:Addr)(f:Str):Prop where
 c:Cls K C
 n:cZ K C f
class FLk(fs:List (Str×V))(f:Str)(v:outParam V):Prop where
 e:fs.lookup f=some v
class FNo(fs:List (Str×V))(f:Str):Prop where
 e:fs.lookup f=none
theorem SH.nwC{H0:Hp}{L:List (Addr×HO)}{I:List Im}[F:SH H0 [] H L I][h:LkL L p o]:New H0 H p o:=F.nw h.m
theorem bN[h:Hat H a o]:H a=some o:=h.e
variable{Q:VK}{R':Prop}{σ:St}{i j:Int}{f m:Str}{y:V}{b:Addr}{lo hi:Option Int}
instance Z_{n:Nat}:Go (n<=sizeLine/\∀p H',New H H' p o->Z p H') (Sd (n<=sizeLine) (∀p H',New H H' p o->Z p H')):=⟨id⟩
instance aac[h:Hat H l (.tup xs)]:Go (uF K [.ref l,.ty "tuple"] H Q) (Q (.bl true) H):=⟨Gp h.e⟩
instance aad[h:Hat H l (.lst xs)]:Go (uF K [.ref l,.ty "list"] H Q) (Q (.bl true) H):=⟨Gq h.e⟩
instance aae[h:SqB K H l xs]:Go (Ni K [.ref l] H Q) (Q (.int xs.length) H):=⟨FZ h.e⟩
instance aaf[h:SqA K H l xs]:Go (Ni K [.ref l] H Q) (Q (.int xs.length) H):=⟨FW h.e⟩
instance abC[h:SqA K H l xs][e:AtI xs i v]:Go (Rn K (.ref l) (.int i) H Q) (Q v H):=⟨B_ h.e e.e⟩
instance abD[h:SqB K H l xs][e:AtI xs i v]:Go (Ro K (.ref l) (.int i) H Q) (Q v H):=⟨Nh h.e e.e⟩
instance abE[h:SqA K H l xs]:Go (tyV K "list" (.ref l) H/\R') R':=⟨Ny h.e⟩
instance abF[h:Hat H l (.lst xs)]:Go (sO (.ref l) [] H Q) (∀H',Off l H H'->H' l=some (.lst [])->Q .non H'):=⟨NK h.e⟩
instance abG[h:Hat H l (.lst xs)]:Go (HX (.ref l) [y] H Q) (Sd (xs.length<sizeLine) (∀H',Off l H H'->H' l=some (.lst (xs++[y]))->Q .non H')):=⟨λs=>Nz h.e s.1 s.2⟩
instance abH[h:SqA K H l xs]:Go (Vk K (.ref l) lo hi H Q) (∀p H',New H H' p (.lst (kI xs lo hi))->Q (.ref p) H'):=⟨NP h.e⟩
instance aag[h:Hat H l (.lst xs)][h2:Hat H b (.lst ys)]:Go (Mv (.ref l) (.ref b) H Q) (Sd (xs.length+ys.length<=sizeLine) (∀p H',New H H' p (.lst (xs++ys))->Q (.ref p) H')):=⟨λs=>Gk h.e h2.e s.1 s.2⟩
instance aah{n i0 i1:Nat}{a b:V}{R:St->Hp->Prop}[h:SqB K H l [a,b]]:Go (yX K n (iw (bL i0) (iw (bL i1) Br)) (.ref l) σ H R) (Sd (n=2) (bL i0 a σ H λσ1 H1=>bL i1 b σ1 H1 R)):=⟨λs=>Gv s.1 h.e s.2⟩
instance abI{f:Int->Int->V}:Go (rI U6 f (.int i) (.int j) H Q) (Sd (0<j/\j<1073741824) (Q (f i j) H)):=⟨λs=>w_div s.1.1 s.1.2 s.2⟩
instance abJ{f:Int->Int->V}:Go (rI U7 f (.int i) (.int j) H Q) (Sd (0<=j/\j<=1000000/\i.natAbs<2 ^ 64) (Q (f i j) H)):=⟨λs=>w_pow s.1.1 s.1.2.1 s.1.2.2 s.2⟩
instance Yv[h:Hat H a (.ins C dx fs)][k:au K C f][e:FLk fs f v]{R:V->Prop}:Go (∃a' C' dx' fs' v',V.ref a=.ref a'/\H a'=some (.ins C' dx' fs')/\Cls K C'/\cZ K C' f/\fs'.lookup f=some v'/\R v') (R v):=⟨w_fld h.e k.c k.n e.e⟩
instance W6[h:Hat H l (.ins C dx fs)][e:FNo fs m]:Go (∃a' dx' fs',V.ref l=.ref a'/\H a'=some (.ins C dx' fs')/\fs'.lookup m=none/\R') R':=⟨Gn h.e e.e⟩
instance aai[h:Hat H l (.ins C dx fs)][k:au K C f]:Go (R7 K f y (.ref l) H R) (Sd (fs.length<1000) (∀H',Off l H H'->H' l=some (.ins C dx (fQ f y fs))->R H')):=⟨λs=>Gw h.e k.c k.n s.1 s.2⟩
end
instance W7{σ:L2.St}{H:Hp}{D:Ends}{s u:TS}:Go (Q_ s u D σ H) (s (Ends.mk (u D) (Ends.rt D) (Ends.bk D) (Ends.ct D)) σ H):=⟨Fq⟩
instance W8{σ:L2.St}{H:Hp}{t:TE}{D:Ends}{tg:TG}:Go (Rb t tg D σ H) ((t σ H λ(x:V) (H1:Hp) => tg x σ H1 (Ends.nx D))):=⟨Ft⟩
instance W9{σ:L2.St}{H:Hp}{t:TE}{D:Ends}:Go (UJ t D σ H) (t σ H (Ends.rt D)):=⟨Fv⟩
instance Yw{σ:L2.St}{H:Hp}{D:Ends}{s u:TS}{c:TT}:Go (UL c s u D σ H) ((c σ H λ(b:Bool) (H1:Hp) => if b=true then s D σ H1 else u D σ H1)):=⟨MK⟩
instance VH{σ:L2.St}{H:Hp}{t:TE}{D:Ends}:Go (K8 t D σ H) ((t σ H λ(x:V) (H1:Hp) => Ends.nx D σ H1)):=⟨zH⟩
instance VJ{σ:L2.St}{H:Hp}{D:Ends}:Go (Hg D σ H) (Ends.nx D σ H):=⟨zE⟩
instance Yx{σ:L2.St}{H:Hp}{nx bk ct:L2.St->Hp->Prop}{rt:VK}:Go (Ends.nx (Ends.mk nx rt bk ct) σ H) (nx σ H):=⟨MF⟩
instance aaj{H:Hp}{v:V}{nx bk ct:L2.St->Hp->Prop}{rt:VK}:Go (Ends.rt (Ends.mk nx rt bk ct) v H) (rt v H):=⟨Vv⟩
instance VL{σ:L2.St}{H:Hp}{t:TE}{Q:Bool->Hp->Prop}:Go (Le t σ H Q) ((t σ H λ(x:V) (H':Hp) => ∃(k:Bool),x=V.bl k/\Q k H')):=⟨zJ⟩
instance aak{σ:L2.St}{H:Hp}{t:TE}{Q:Bool->Hp->Prop}:Go (tB t σ H Q) ((t σ H λ(x:V) (H':Hp) => ∃(k:Bool),x=V.bl k/\Q k H')):=⟨Vi⟩
instance Yy{σ:L2.St}{H:Hp}{ta tb:TE}{Q:VK}{r:R2}:Go (tOp r ta tb σ H Q) ((ta σ H λ(x:V) (H1:Hp) => tb σ H1 λ(y:V) (H2:Hp) => r x y H2 Q)):=⟨MJ⟩
instance Yz{σ:L2.St}{H:Hp}{tr:TA}{Q:VK}{r:List V->Hp->VK->Prop}:Go (tCB r tr σ H Q) ((tr σ H λ(vs:List V) (H1:Hp) => r vs H1 Q)):=⟨MN⟩
instance VN{σ:L2.St}{H:Hp}{t:TE}{tr:TA}{Q:List V->Hp->Prop}:Go (Ht t tr σ H Q) ((t σ H λ(x:V) (H1:Hp) => tr σ H1 λ(xs:List V) (H2:Hp) => Q (x::xs) H2)):=⟨zB⟩
instance W_{σ:L2.St}{H:Hp}{Q:List V->Hp->Prop}:Go (JT σ H Q) (Q [] H):=⟨Fp⟩
instance Xa{σ:L2.St}{H:Hp}{Q:VK}{tr:TA}{sp:Sp}{E:XK}:Go (wU sp [] E tr σ H Q) ((tr σ H λ(vs:List V) (H1:Hp) => sp vs H1 Q E)):=⟨w_call⟩
instance abK{σ:L2.St}{H:Hp}{Q:VK}{v:V}:Go (tC v σ H Q) (Q v H):=⟨w_c⟩
instance abL{H:Hp}{Q:VK}{v:V}{r:L2.St}:Go (fZ 0 (some v::r) H Q) (Q v H):=⟨wv0⟩
instance abM{H:Hp}{Q:VK}{v:V}{o0:Option V}{r:L2.St}:Go (fZ 1 (o0::some v::r) H Q) (Q v H):=⟨wv1⟩
instance abN{H:Hp}{Q:VK}{v:V}{o0 o1:Option V}{r:L2.St}:Go (fZ 2 (o0::o1::some v::r) H Q) (Q v H):=⟨wv2⟩
instance abO{H:Hp}{Q:VK}{v:V}{o0 o1 o2:Option V}{r:L2.St}:Go (fZ 3 (o0::o1::o2::some v::r) H Q) (Q v H):=⟨wv3⟩
instance abP{H:Hp}{Q:VK}{v:V}{o0 o1 o2 o3:Option V}{r:L2.St}:Go (fZ 4 (o0::o1::o2::o3::some v::r) H Q) (Q v H):=⟨wv4⟩
instance abQ{H:Hp}{Q:VK}{v:V}{o0 o1 o2 o3 o4:Option V}{r:L2.St}:Go (fZ 5 (o0::o1::o2::o3::o4::some v::r) H Q) (Q v H):=⟨wv5⟩
instance abS{H:Hp}{Q:VK}{v:V}{o0 o1 o2 o3 o4 o5:Option V}{r:L2.St}:Go (fZ 6 (o0::o1::o2::o3::o4::o5::some v::r) H Q) (Q v H):=⟨wv6⟩
instance abT{H:Hp}{Q:VK}{v:V}{o0 o1 o2 o3 o4 o5 o6:Option V}{r:L2.St}:Go (fZ 7 (o0::o1::o2::o3::o4::o5::o6::some v::r) H Q) (Q v H):=⟨wv7⟩
instance abU{H:Hp}{Q:VK}{v:V}{o0 o1 o2 o3 o4 o5 o6 o7:Option V}{r:L2.St}:Go (fZ 8 (o0::o1::o2::o3::o4::o5::o6::o7::some v::r) H Q) (Q v H):=⟨wv8⟩
instance abV{H:Hp}{Q:VK}{v:V}{o0 o1 o2 o3 o4 o5 o6 o7 o8:Option V}{r:L2.St}:Go (fZ 9 (o0::o1::o2::o3::o4::o5::o6::o7::o8::some v::r) H Q) (Q v H):=⟨wv9⟩
instance aal{H:Hp}{Q:VK}{v:V}{o0 o1 o2 o3 o4 o5 o6 o7 o8 o9:Option V}{r:L2.St}:Go (fZ 10 (o0::o1::o2::o3::o4::o5::o6::o7::o8::o9::some v::r) H Q) (Q v H):=⟨Vl⟩
instance aam{H:Hp}{Q:VK}{v:V}{o0 o1 o2 o3 o4 o5 o6 o7 o8 o9 o10:Option V}{r:L2.St}:Go (fZ 11 (o0::o1::o2::o3::o4::o5::o6::o7::o8::o9::o10::some v::r) H Q) (Q v H):=⟨Vn⟩
instance aan{H:Hp}{Q:VK}{v:V}{o0 o1 o2 o3 o4 o5 o6 o7 o8 o9 o10 o11:Option V}{r:L2.St}:Go (fZ 12 (o0::o1::o2::o3::o4::o5::o6::o7::o8::o9::o10::o11::some v::r) H Q) (Q v H):=⟨Vp⟩
instance aao{H:Hp}{Q:VK}{v:V}{o0 o1 o2 o3 o4 o5 o6 o7 o8 o9 o10 o11 o12:Option V}{r:L2.St}:Go (fZ 13 (o0::o1::o2::o3::o4::o5::o6::o7::o8::o9::o10::o11::o12::some v::r) H Q) (Q v H):=⟨Vr⟩
instance abW{H:Hp}{v:V}{o0 o:Option V}{r:L2.St}{R:L2.St->Hp->Prop}:Go (bL 1 v (o0::o::r) H R) (R (o0::some v::r) H):=⟨wn1⟩
instance abX{H:Hp}{v:V}{o0 o1 o:Option V}{r:L2.St}{R:L2.St->Hp->Prop}:Go (bL 2 v (o0::o1::o::r) H R) (R (o0::o1::some v::r) H):=⟨wn2⟩
instance abY{H:Hp}{v:V}{o0 o1 o2 o:Option V}{r:L2.St}{R:L2.St->Hp->Prop}:Go (bL 3 v (o0::o1::o2::o::r) H R) (R (o0::o1::o2::some v::r) H):=⟨wn3⟩
instance abZ{H:Hp}{v:V}{o0 o1 o2 o3 o:Option V}{r:L2.St}{R:L2.St->Hp->Prop}:Go (bL 4 v (o0::o1::o2::o3::o::r) H R) (R (o0::o1::o2::o3::some v::r) H):=⟨wn4⟩
instance ab1{H:Hp}{v:V}{o0 o1 o2 o3 o4 o:Option V}{r:L2.St}{R:L2.St->Hp->Prop}:Go (bL 5 v (o0::o1::o2::o3::o4::o::r) H R) (R (o0::o1::o2::o3::o4::some v::r) H):=⟨wn5⟩
instance ab2{H:Hp}{v:V}{o0 o1 o2 o3 o4 o5 o:Option V}{r:L2.St}{R:L2.St->Hp->Prop}:Go (bL 6 v (o0::o1::o2::o3::o4::o5::o::r) H R) (R (o0::o1::o2::o3::o4::o5::some v::r) H):=⟨wn6⟩
instance ab3{H:Hp}{v:V}{o0 o1 o2 o3 o4 o5 o6 o:Option V}{r:L2.St}{R:L2.St->Hp->Prop}:Go (bL 7 v (o0::o1::o2::o3::o4::o5::o6::o::r) H R) (R (o0::o1::o2::o3::o4::o5::o6::some v::r) H):=⟨wn7⟩
instance ab4{H:Hp}{v:V}{o0 o1 o2 o3 o4 o5 o6 o7 o:Option V}{r:L2.St}{R:L2.St->Hp->Prop}:Go (bL 8 v (o0::o1::o2::o3::o4::o5::o6::o7::o::r) H R) (R (o0::o1::o2::o3::o4::o5::o6::o7::some v::r) H):=⟨wn8⟩
instance ab5{H:Hp}{v:V}{o0 o1 o2 o3 o4 o5 o6 o7 o8 o:Option V}{r:L2.St}{R:L2.St->Hp->Prop}:Go (bL 9 v (o0::o1::o2::o3::o4::o5::o6::o7::o8::o::r) H R) (R (o0::o1::o2::o3::o4::o5::o6::o7::o8::some v::r) H):=⟨wn9⟩
instance aap{H:Hp}{v:V}{o0 o1 o2 o3 o4 o5 o6 o7 o8 o9 o:Option V}{r:L2.St}{R:L2.St->Hp->Prop}:Go (bL 10 v (o0::o1::o2::o3::o4::o5::o6::o7::o8::o9::o::r) H R) (R (o0::o1::o2::o3::o4::o5::o6::o7::o8::o9::some v::r) H):=⟨Vm⟩
instance aaq{H:Hp}{v:V}{o0 o1 o2 o3 o4 o5 o6 o7 o8 o9 o10 o:Option V}{r:L2.St}{R:L2.St->Hp->Prop}:Go (bL 11 v (o0::o1::o2::o3::o4::o5::o6::o7::o8::o9::o10::o::r) H R) (R (o0::o1::o2::o3::o4::o5::o6::o7::o8::o9::o10::some v::r) H):=⟨Vo⟩
instance aar{H:Hp}{v:V}{o0 o1 o2 o3 o4 o5 o6 o7 o8 o9 o10 o11 o:Option V}{r:L2.St}{R:L2.St->Hp->Prop}:Go (bL 12 v (o0::o1::o2::o3::o4::o5::o6::o7::o8::o9::o10::o11::o::r) H R) (R (o0::o1::o2::o3::o4::o5::o6::o7::o8::o9::o10::o11::some v::r) H):=⟨Vq⟩
instance aas{H:Hp}{v:V}{o0 o1 o2 o3 o4 o5 o6 o7 o8 o9 o10 o11 o12 o:Option V}{r:L2.St}{R:L2.St->Hp->Prop}:Go (bL 13 v (o0::o1::o2::o3::o4::o5::o6::o7::o8::o9::o10::o11::o12::o::r) H R) (R (o0::o1::o2::o3::o4::o5::o6::o7::o8::o9::o10::o11::o12::some v::r) H):=⟨Vs⟩
instance aat{H:Hp}{Q:VK}{i j:Int}{f:Int->Int->V}:Go (rI0 f (V.int i) (V.int j) H Q) (Q (f i j) H):=⟨Vt⟩
instance YB{H:Hp}{Q:VK}{i j:Int}:Go (rEq (V.int i) (V.int j) H Q) (Q (V.bl (decide (i=j))) H):=⟨M9⟩
instance YC{H:Hp}{Q:VK}{i j:Int}:Go (rNe (V.int i) (V.int j) H Q) (Q (V.bl !decide (i=j)) H):=⟨M_⟩
instance YD{H:Hp}{Q:VK}{a b:Str}:Go (rEq (V.str a) (V.str b) H Q) (Q (V.bl (decide (a=b))) H):=⟨Nb⟩
instance aau{k:Bool}{R:Bool->Prop}:Go (∃(c:Bool),V.bl k=V.bl c/\R c) (R k):=⟨Vu⟩
instance YF{σ:L2.St}{H:Hp}{c:TT}{R:Bool->Hp->Prop}:Go (UG c σ H R) ((c σ H λ(b:Bool) (H1:Hp) => R (!b) H1)):=⟨w_not⟩
instance aav{σ:L2.St}{H:Hp}{c d:TT}{R:Bool->Hp->Prop}:Go (tOr c d σ H R) ((c σ H λ(b:Bool) (H1:Hp) => if b=true then R true H1 else d σ H1 R)):=⟨w_or⟩
instance Xb{σ:L2.St}{H:Hp}{Q:VK}{ta:TE}:Go (K6 ta σ H Q) ((ta σ H λ(x:V) (H1:Hp) => ∃(c:Bool),x=V.bl c/\Q (V.bl !c) H1)):=⟨FP⟩
instance Xc{σ:L2.St}{H:Hp}{Q:VK}{ta tb:TE}:Go (K5 ta tb σ H Q) ((ta σ H λ(x:V) (H1:Hp) => ∃(c:Bool),x=V.bl c/\if c=true then tb σ H1 Q else Q (V.bl false) H1)):=⟨FQ⟩
instance aaw{σ:L2.St}{H:Hp}{Q:VK}{K:W.Frag}{tr:TA}{T:String}{r:V->List V->Hp->VK->Prop}{to:TE}:Go (tBM K T r to tr σ H Q) ((to σ H λ(x:V) (H1:Hp) => tyV K T x H1/\tr σ H1 λ(xs:List V) (H2:Hp) => r x xs H2 Q)):=⟨Vw⟩
instance YG{σ:L2.St}{H:Hp}{Q:VK}{K:W.Frag}{T:String}{r:V->List V->Hp->VK->Prop}{to:TE}:Go (Ls K T r to σ H Q) ((to σ H λ(x:V) (H1:Hp) => tyV K T x H1/\r x [] H1 Q)):=⟨Nf⟩
instance VP{σ:L2.St}{H:Hp}{Q:VK}{t:TE}{r:V->Option Int->Option Int->Hp->VK->Prop}{tl th:TO}:Go (tSl r t tl th σ H Q) ((t σ H λ(x:V) (H1:Hp) => tl σ H1 λ(l:Option Int) (H2:Hp) => th σ H2 λ(u:Option Int) (H3:Hp) => r x l u H3 Q)):=⟨zM⟩
instance T8{σ:L2.St}{H:Hp}{R:Option Int->Hp->Prop}:Go (zq σ H R) (R none H):=⟨uH⟩
instance Xd{σ:L2.St}{H:Hp}{t:TE}{R:Option Int->Hp->Prop}:Go (Lq t σ H R) ((t σ H λ(x:V) (H1:Hp) => ∃(i:Int),x=V.int i/\R (some i) H1)):=⟨FT⟩
instance YH{i:Int}{R:Int->Prop}:Go (∃(k:Int),V.int i=V.int k/\R k) (R i):=⟨Ng⟩
instance YJ{H:Hp}{Q:VK}{i j:Int}:Go (Nj [V.int i,V.int j] H Q) (Q (V.int (max i j)) H):=⟨Nm⟩
instance YK{H:Hp}{Q:VK}{i j:Int}:Go (Nk [V.int i,V.int j] H Q) (Q (V.int (min i j)) H):=⟨Np⟩
instance VR{σ:L2.St}{H:Hp}{tr:TA}{Q:VK}:Go (Mt tr σ H Q) ((tr σ H λ(xs:List V) (H1:Hp) => List.length xs<=sizeLine/\∀(p:Addr)(H':Hp),New H1 H' p (HO.tup xs)->Q (V.ref p) H')):=⟨zF⟩
instance V1{σ:L2.St}{H:Hp}{tr:TA}{Q:VK}:Go (Mu tr σ H Q) ((tr σ H λ(xs:List V) (H1:Hp) => List.length xs<=sizeLine/\∀(p:Addr)(H':Hp),New H1 H' p (HO.lst xs)->Q (V.ref p) H')):=⟨zG⟩
instance Xe{K:W.Frag}{σ:L2.St}{H:Hp}{Q:VK}{ta:TE}{f:Str}:Go (U9 K ta f σ H Q) ((ta σ H λ(x:V) (H1:Hp) => ∃(a:Addr),∃(C:Addr),∃(dx:Addr),∃(fs:List (Str×V)),∃(v:V),x=V.ref a/\H1 a=some (HO.ins C dx fs)/\Cls K C/\cZ K C f/\List.lookup f fs=some v/\Q v H1)):=⟨Gg⟩
instance T9{σ:L2.St}{H:Hp}{Q:VK}{ta:TE}{t:TA}{m:Str}{C:Addr}{sp:Sp}{E:XK}:Go (wV C m sp [] E ta t σ H Q) ((ta σ H λ(x:V) (H1:Hp) => ∃(a:Addr),∃(dx:Addr),∃(fs:List (Str×V)),x=V.ref a/\H1 a=some (HO.ins C dx fs)/\List.lookup m fs=none/\t σ H1 λ(vs:List V) (H2:Hp) => sp (x::vs) H2 Q E)):=⟨uO⟩
instance T_{σ:L2.St}{H:Hp}{Q:VK}{t:TA}{C:Addr}{sp:Sp}{E:XK}:Go (zW C sp E t σ H Q) ((t σ H λ(vs:List V) (H1:Hp) => ∀(x dx:Addr)(H2:Hp),New H1 H2 x (HO.ins C dx [])->sp (V.ref x::vs) H2 (λ(v:V) (H3:Hp) => v=V.non/\Q (V.ref x) H3) E)):=⟨uN⟩
instance Ua{K:W.Frag}{σ:L2.St}{H:Hp}{ta tv:TE}{f:Str}{D:Ends}:Go (U_ K ta tv f D σ H) ((tv σ H λ(y:V) (H1:Hp) => ta σ H1 λ(x:V) (H2:Hp) => R7 K f y x H2 λ(H3:Hp) => Ends.nx D σ H3)):=⟨uM⟩
instance Xf{H:Hp}{Q:VK}{K:W.Frag}{i:Int}:Go (uF K [V.int i,V.ty "int"] H Q) (Q (V.bl true) H):=⟨Gs⟩
instance Xg{H:Hp}{Q:VK}{K:W.Frag}{i:Int}:Go (uF K [V.int i,V.ty "bool"] H Q) (Q (V.bl false) H):=⟨Gu⟩
instance aax{A B:Prop}:Go (if true=true then A else B) (A):=⟨VD⟩
instance aay{A B:Prop}:Go (if false=true then A else B) (B):=⟨VF⟩
instance YL{A B:Prop}:Go (if (!true)=true then A else B) (B):=⟨NT⟩
instance YM{A B:Prop}:Go (if (!false)=true then A else B) (A):=⟨NZ⟩
instance YQ{t:TA}{tv:TE}{r:List V->V->Hp->VK->Prop}{σ:L2.St}{H:Hp}{Q:VK}:Go (tCK r t tv σ H Q) ((t σ H λ(xs:List V) (H1:Hp) => tv σ H1 λ(y:V) (H2:Hp) => r xs y H2 Q)):=⟨Nv⟩
instance Xh{to tl th:TE}{v:V}{σ:L2.St}{H:Hp}{Q:L2.St->Hp->Prop}:Go (Vy to tl th v σ H Q) ((to σ H λ(o:V) (H1:Hp) => tl σ H1 λ(a:V) (H2:Hp) => th σ H2 λ(c:V) (H3:Hp) => ∃(l:Addr),∃(b:Addr),∃(xs:List V),∃(ys:List V),∃(i:Int),∃(j:Int),o=V.ref l/\v=V.ref b/\a=V.int i/\c=V.int j/\H3 l=some (HO.lst xs)/\H3 b=some (HO.lst ys)/\l≠b/\0<=i/\i<=j/\j<=(↑(List.length xs):Int)/\List.length xs+List.length ys<=sizeLine/\∀(H':Hp),L2.Off l H3 H'->H' l=some (HO.lst (List.take (Int.toNat i) xs++ys++List.drop (Int.toNat j) xs))->Q σ H')):=⟨Gi⟩
instance V2{g:TG}{tb:TS}{D:Ends}{σ:L2.St}{H:Hp}{tr:TA}:Go (Ew (K9 tr) g tb D σ H) ((tr σ H λ(vs:List V) (H1:Hp) => ∃(j:Int),vs=[V.int j]/\-2 ^ 62<=j/\j<2 ^ 62/\zU 0 (Int.toNat j) g tb D σ H1)):=⟨zV⟩
instance Xi{K:W.Frag}{te:TE}{g:TG}{tb:TS}{D:Ends}{σ:L2.St}{H:Hp}:Go (Ew (Bs K te) g tb D σ H) ((te σ H λ(x:V) (H1:Hp) => ∃(a:Addr),x=V.ref a/\(∃(xs:List V),SqL K H1 a xs)/\Gb K a g tb D σ H1)):=⟨Gd⟩
instance V3{K:W.Frag}{t0 te:TE}{nt:Nat}{fr:List Nat}{g:TG}{c:TT}{σ:L2.St}{H:Hp}{Q:VK}:Go (LC (Bs K t0) nt fr g c te σ H Q) ((t0 σ H λ(x:V) (H1:Hp) => ∃(a:Addr),x=V.ref a/\(∃(xs:List V),SqL K H1 a xs)/\gh (Itl K a) nt fr g c te σ H1 Q)):=⟨zP⟩
section
variable{K:W.Frag}{H:Hp}{Q:VK}{E:XK}{x:V}{n:String}{p:Addr}{a b c lo hi:Int}{ns:List Int}{m:Int}
instance YS:Go (nR K [.int a,.int lo] H Q E) (Q (.bl (decide (lo<=a))) H):=⟨zX⟩
instance V4:Go (jT K [.int a,.int lo,.int hi] H Q E) (Q (.bl (decide (lo<=a) && decide (a<=hi))) H):=⟨λk=>⟨_,_,lo,hi,rfl,.int _,k⟩⟩
instance YT[h:SqA K H p (ns.map V.int)]:Go (uV K [.ref p,.int m] H Q E) (Sd (0<=m) (∀c:Int,Q (.int c) H)):=⟨λs=>R9 h.e s.1 s.2⟩
instance aaz:Go (zY [.int a] H Q E) (∀x y:Int,∀(p:Addr)(H':Hp),New H H' p (.lst [.int x,.int y,.int 0])->Q (.ref p) H'):=⟨λk=>VG λp x y H' n=>k x y p H' n⟩
instance YW[h:Hat H p (.lst [.int a,.int b,.int c])]:Go (uW [.ref p,.int m] H Q E) (Sd (0<m/\m<1073741824) (∀r a' b' c':Int,0<=r->r<m->∀H',Off p H H'->H' p=some (.lst [.int a',.int b',.int c'])->Q (.int r) H')):=⟨λs=>zZ h.e s.1.1 s.1.2 λr a' b' c' H' h0 h1 f e=>s.2 r a' b' c' h0 h1 H' f e⟩
end
end L2
namespace L2
open PySem PySem.Spec PyProof.Rows
section
variable{g:TG}{tb:TS}{D:Ends}{σ:St}{H:Hp}
variable{K:W.Frag}{a:Addr}{xs:List V}{nt:Nat}{fr:List Nat}{c:TT}{te:TE}{Q:VK}
instance ab6[h:SqA K H a xs]:Go (∃a',V.ref a=.ref a'/\(∃xs,SqL K H a' xs)/\gh (Itl K a') nt fr g c te σ H Q) (gh (Itl K a) nt fr g c te σ H Q):=⟨Ys h.e⟩
instance ab7[h:SqA K H a xs]:Go (∃a',V.ref a=.ref a'/\(∃xs,SqL K H a' xs)/\Gb K a' g tb D σ H) (Gb K a g tb D σ H):=⟨abt h.e⟩
end
instance YX{H0 H:Hp}{M:List Addr}{L:List (Addr×HO)}{I:List Im}{Z:Addr->Hp->Prop}{ws:xD}[F:SH H0 M H L I]:Go (∀p ys H',New H H' p (.lst ys)->aH H' ys (aD ws)->Z p H') (∀H' p ys,ys.length=ws.length->SH H0 M H' ((p,.lst ys)::L) (.tps ys (aD ws)::I)->Z p H'):=⟨λk p ys H' n t=>k H' p ys (by rw[t.1,aJ]) (F.newR n t)⟩
class Kl(L:List (Addr×HO))(a b:Addr):Prop where
 ne:(L.map (·.1)).Nodup->a≠b
section
variable{L R L':List (Addr×HO)}{a b:Addr}{o:HO}{c:Addr×HO}{H0 H:Hp}{M:List Addr}{I:List Im}
instance acw[h:Kl L a b]:Kl (c::L) a b:=⟨λnd=>h.ne (by rw[nI] at nd;exact(List.nodup_cons.mp nd).2)⟩
instance acy{o':HO}[h:LkL L a o]:Kl ((b,o')::L) a b:=⟨λnd z=>by
 rw[nI] at nd;exact(List.nodup_cons.mp nd).1 (by show b∈_;rw[<- z];exact List.mem_map_of_mem (f:=(·.1)) h.m)⟩
instance acz{o':HO}[h:LkL L b o]:Kl ((a,o')::L) a b:=⟨λnd z=>by
 rw[nI] at nd;exact(List.nodup_cons.mp nd).1 (by show a∈_;rw[z];exact List.mem_map_of_mem (f:=(·.1)) h.m)⟩
theorem SH.neC[F:SH H0 M H L I][h:Kl L a b]:a≠b:=h.ne F.nd
class PkC(c:Addr×HO)(L:List (Addr×HO))(R:outParam (List (Addr×HO))):Prop where
 p:Pk c L R
class SbC(L' L:List (Addr×HO)):Prop where
 s:Sb L' L
instance acM{d:Addr×HO}[h:PkC c L R]:PkC c (d::L) (d::R):=⟨.tail h.p⟩
instance acN:PkC c (c::L) L:=⟨.head⟩
instance acO:SbC [] L:=⟨.nil⟩
instance acP[h:PkC c L R][t:SbC L' R]:SbC (c::L') L:=⟨.cons h.p t.s⟩
end
instance aaA{H:Hp}{Q:VK}{v:V}{o0 o1 o2 o3 o4 o5 o6 o7 o8 o9 o10 o11 o12 o13:Option V}{r:St}:Go (fZ 14 (o0::o1::o2::o3::o4::o5::o6::o7::o8::o9::o10::o11::o12::o13::some v::r) H Q) (Q v H):=⟨λh=>⟨v,rfl,h⟩⟩
instance aaB{H:Hp}{v:V}{o0 o1 o2 o3 o4 o5 o6 o7 o8 o9 o10 o11 o12 o13 o:Option V}{r:St}{R:St->Hp->Prop}:Go (bL 14 v (o0::o1::o2::o3::o4::o5::o6::o7::o8::o9::o10::o11::o12::o13::o::r) H R) (R (o0::o1::o2::o3::o4::o5::o6::o7::o8::o9::o10::o11::o12::o13::some v::r) H):=⟨λh=>h⟩
instance aaC{H:Hp}{Q:VK}{v:V}{o0 o1 o2 o3 o4 o5 o6 o7 o8 o9 o10 o11 o12 o13 o14:Option V}{r:St}:Go (fZ 15 (o0::o1::o2::o3::o4::o5::o6::o7::o8::o9::o10::o11::o12::o13::o14::some v::r) H Q) (Q v H):=⟨λh=>⟨v,rfl,h⟩⟩
instance aaD{H:Hp}{v:V}{o0 o1 o2 o3 o4 o5 o6 o7 o8 o9 o10 o11 o12 o13 o14 o:Option V}{r:St}{R:St->Hp->Prop}:Go (bL 15 v (o0::o1::o2::o3::o4::o5::o6::o7::o8::o9::o10::o11::o12::o13::o14::o::r) H R) (R (o0::o1::o2::o3::o4::o5::o6::o7::o8::o9::o10::o11::o12::o13::o14::some v::r) H):=⟨λh=>h⟩
end L2
namespace L2
open PySem PySem.Spec PyProof.Rows PySem.SeqAt
section
variable{X:Cx}{o lo hi:Expr}{to tl th:TE}{pos p2:Pos}
theorem R_(ho:PE X o to)(hl:PE X lo tl)(hh:PE X hi th)
  (ha:∀v,assign (.Subscript o (.Slice (some lo) (some hi) none p2) pos) X.env v=(do
   let ov <- holding [v] (eval o X.env)
   let iv <- holding [v,ov] (eval (.Slice (some lo) (some hi) none p2) X.env)
   standAt pos
   holding [v,ov,iv] (setItem ov iv v)
   release [iv,v,ov] []):=by intro _;rfl):PG X (.Subscript o (.Slice (some lo) (some hi) none p2) pos) (Vy to tl th):=by
 intro pins s σ H v u Q I r h;rw[ha];refine zI (mI (thn (ho pins s σ H _ I h) λov s1 ⟨x,H1,I1,r1,q1⟩=>?_));refine zI (mI (wpAny_Slice (wpAny_evalPart_some (thn (hl pins s1 σ H1 _ I1 q1) λa s2 ⟨y,H2,I2,r2,q2⟩=>wpAny_evalPart_some (thn (hh pins s2 σ H2 _ I2 q2) λc s3 ⟨z,H3,I3,r3,q3⟩=>wpAny_evalPart_none ?_)))));obtain⟨l,b,xs,ys,i,j,rfl,rfl,rfl,rfl,e1,e2,ne,h0,h1,h2,hz,q⟩:=q3;cases r1;cases r;have I4:Inv X pins σ H3 { s3 with heap:=s3.heap.push { cls:=.type "slice", data:=.fields #[a,c,.none] } }:=I3.kept (t':=s3.toks) λb ob z=>uC _ z
 refine zI (wpAny_standAt (zI (mI (JX I4 e1 e2 ne (Heap.IsSliceOf.new ..) r2 r3 h0 h1 h2 hz λs5 I5=>?_))));exact wpAny_release ⟨σ,_,I5,q _ Off.upd bG⟩
end
section
variable{K:W.Frag}{H0 H:Hp}{M:List Addr}{L:List (Addr×HO)}{I:List Im}{l b p:Addr}{xs ys:List V}{Q:VK}{R:Hp->Prop}{R':Prop}{σ:St}{i j:Int}
instance Xj:Go (V.non=V.non/\R') R':=⟨λk=>⟨rfl,k⟩⟩
instance aaE[h:Hat H l (.lst xs)][h2:Hat H b (.lst ys)][F:SH H0 M H L I][n:Kl L l b]:Go (∃(l' b':Addr)(xs' ys':List V)(i' j':Int),V.ref l=.ref l'/\V.ref b=.ref b'/\V.int i=.int i'/\V.int j=.int j'/\H l'=some (.lst xs')/\H b'=some (.lst ys')/\l'≠b' /\
  0<=i'/\i'<=j'/\j'<=xs'.length/\xs'.length+ys'.length<=sizeLine/\∀H',Off l' H H'->H' l'=some (.lst (xs'.take i'.toNat++ys'++xs'.drop j'.toNat))->R H')
  (Sd (0<=i/\i<=j/\j<=xs.length/\xs.length+ys.length<=1000000) (∀H',Off l H H'->H' l=some (.lst (xs.take i.toNat++ys++xs.drop j.toNat))->R H')) :=
 ⟨λs=>Yp h.e h2.e (n.ne F.nd) s.1.1 s.1.2.1 s.1.2.2.1 (bW s.1.2.2.2) s.2⟩
instance YZ{n:Nat}{c:Bool}[h:Hat H l (.lst [.bl c])]:Go (Mw (.ref l) (.int (n:Int)) H Q) (Sd (n<=1000000) (∀p H',New H H' p (.lst ((List.replicate n c).map V.bl))->Q (.ref p) H')):=⟨λs=>Gm h.e s.1 (by have:=s.2;rw[List.map_replicate] at this;exact this)⟩
instance Y0{g:TG}{tb:TS}{D:Ends}:Go (∃j:Int,[V.int i]=[.int j]/\-(2 ^ 62)<=j/\j<2 ^ 62/\zU 0 j.toNat g tb D σ H) (Sd (-(2 ^ 62)<=i/\i<2 ^ 62) (zU 0 i.toNat g tb D σ H)):=⟨λs=>⟨i,rfl,s.1.1,s.1.2,s.2⟩⟩
instance Y4{ws:xD}[h:Hat H p (.lst ys)][t:TpA H ys (aD ws)][h2:Hat H b (.lst [])]:Go (zO K (.ref p) (.ref b) H Q) (Q (.bl (!decide (aD ws=[]))) H):=⟨N7 (zs:=[]) h.e t.e (Gx _) h2.e⟩
end
end L2
namespace L2
open PySem PySem.Spec PyProof.Rows
abbrev N8(x:Str)(p1 p2 p3:Pos)(j:Nat):Expr:=.Subscript (.Name x p1) (.Constant (.int 1) j p2) p3
structure oO(x:Str)(scope:Scope):Prop where
 kind:scope.kind=.function
 co:scope.isCoroutine=false
 gen:scope.isGenerator=false
 loc:scope.names.lookup x=some .local
 V5:∀y∈scope.names,y.2≠.cell
 Ub:(x==("__debug__" : Str))=false
theorem cU.is{P:Program}{w:World}{H:Hp}{h:Heap}{a:Addr}{o:HO}(x:cU P w H h a o):∃ob,h.get? a=some ob:=by
 cases o with
 | lst xs=>obtain⟨_,_,_,_,e⟩:=x;exact⟨_,e⟩
 | tup xs=>obtain⟨_,_,_,ob,e,_⟩:=x;exact⟨_,e⟩
 | dK kvs=>obtain⟨_,_,_,_,ob,_,_,e,_⟩:=x;exact⟨_,e⟩
 | dT kvs=>obtain⟨_,_,_,_,ob,_,_,e,_⟩:=x;exact⟨_,e⟩
 | set S n=>obtain⟨ob,_,_,_,e,_⟩:=x;exact⟨_,e⟩
 | ins C dx fs=>obtain⟨_,_,_,e,_⟩:=x;exact⟨_,e⟩
 | own y=>exact x
 | xd fs=>obtain⟨_,⟨ob,_,_,e,_⟩,_⟩:=x;exact⟨_,e⟩
 | rng lo hi=>obtain⟨_,_,_,e⟩:=x;exact⟨_,e⟩
 | frz ob u=>exact⟨_,x.1⟩
 | tbl ps=>exact⟨_,x⟩
 | met f y=>exact⟨_,x⟩
 | ext φ=>exact x.2.1
def jz(h:Heap)(L:Addr):List (Addr×Obj):=(List.range h.objs.size).filterMap λb=>if b=L then none else (h.get? b).map λo=>(b,o)
theorem eG{h:Heap}{L b:Addr}{o:Obj}(e:h.get? b=some o)(n:b≠L):(b,o)∈jz h L:=by
 unfold jz;refine List.mem_filterMap.mpr ⟨b,List.mem_range.mpr (uB e),?_⟩;rw[yT n,e]
 rfl
theorem iK{h:Heap}{L:Addr}{p:Addr×Obj}(m:p∈jz h L):h.get? p.1=some p.2/\p.1≠L:=by
 unfold jz at m;obtain⟨b,_,e⟩:=List.mem_filterMap.mp m;split at e
 ·cases e
 ·rename_i n;cases q:h.get? b with
  | none=>rw[q] at e;cases e
  | some o =>
   rw[q] at e;cases e;exact⟨q,n⟩
theorem V6{h:Heap}{a:Addr}{m m':xC}(x:h.Ns a m)(y:h.Ns a m'):m=m':=by
 obtain⟨o,es,ep,e,d,_,f⟩:=x;obtain⟨o',es',ep',e',d',_,f'⟩:=y;rw[e] at e';cases e';rw[d] at d';cases d'
 funext k
 rw[<- f k,<- f' k]
theorem Inv.N_{X:Cx}{pins:List (Addr×Obj)}{σ:St}{H:Hp}{s:Shared}{h':Heap}{t':Nat}{D:Addr}{o:HO}{m:xC}(I:Inv X pins σ H s)(k:∀b u,b≠X.env.locals->s.heap.get? b=some u->h'.get? b=some u)
  (hm:s.heap.Ns X.env.locals m) (hm':h'.Ns X.env.locals m) (hn:s.heap.get? D=none) (new:cU X.prog X.w (upd H D o) h' D o):Inv X pins σ (upd H D o) { s with heap:=h',toks:=t' }:=by
 have hD:H D=none:=by
  cases q:H D with
  | none=>rfl
  | some u =>
   obtain⟨ob,e⟩:=(I.hok D u q).is;rw[hn] at e;cases e
 have nL:∀b u,H b=some u->b≠X.env.locals:=λb u e z=>by rw[z,I.free] at e;cases e
 have nD:∀{b:Addr} {u:HO},H b=some u->upd H D o b=some u:=λ{b u} e=>by rw[aR (λz=>by rw[z,hD] at e;cases e)];exact e
 refine I.step (g':=s.gens) (d':=s.drawn) (ch:=[]) (λ_ z=>nomatch z) (λb u n _ _ e _=>k b u n e) (λb u n _ _ e _=>⟨u.slots,k b u n e⟩) (λb u _ e q=>?_) (λb u _ e=>?_) (λb xs e=>nD e) (λb u v e=>nD e) (λb ps e=>⟨#[],by rw[nD e];simp⟩) (λm2 hm2=>?_) (λb u e=>?_) I.bare
 ·rw[aR (λz=>by rw[z,hn] at e;cases e)];exact q
 ·by_cases n:b=X.env.locals
  ·obtain⟨ob,_,_,e2,_⟩:=hm';exact⟨ob,by rw[n];exact e2⟩
  ·exact⟨u,k b u n e⟩
 ·rw[V6 hm2 hm];exact hm'
 ·by_cases hb:b=D
  ·rw[hb,bG] at e;cases e;rw[hb];exact new
  ·rw[aR hb] at e;refine(I.hok b u e).stay (λc v hc q=>k c v ?_ q) (λc q=>nD q) λc xs q=>nD q
   rcases hc with z|z
   ·rw[z];exact nL b u e
   ·exact nL c _ z
def Oa(H:Hp)(f:Addr):Prop:=∃(qual x:Str)(params:Arguments)(p1 p2 p3:Pos)(j:Nat)(scope:Scope)(pm ctv:Value)(c':Addr)(oc:Obj)(vs:xL)(t:Tok),
 H f=some (.frz (W.kla_obj "<lambda>" qual params (N8 x p1 p2 p3 j) scope [] pm c' ctv) (.own f))/\H c'=some (.frz oc (.own c'))/\oc.data=.fields vs/\vs[1]?=some (.str qual t)/\oO x scope /\
 ∀q:Addr,bindArgs (W.kla_fn "<lambda>" qual params (N8 x p1 p2 p3 j) scope [] pm (.ref c') ctv) ⟨[.ref q],[]⟩=pure [(x,.ref q)]
def gD:Value->V
 | .ref a=>.ref a
 | _=>.non
theorem mD:∀{xs:List V} {us:xF},Vals xs us->(∀v∈xs,∃q,v=.ref q)->xs=us.map gD/\∀u∈us,∃q,u=.ref q
 | _,_,.nil,_=>⟨rfl,λ_ h=>by cases h⟩
 | _,_,.cons r t,h=>by
  obtain⟨e1,e2⟩:=mD t λv hv=>h v (zD _ hv)
  obtain⟨q,rfl⟩:=h _ zC;cases r;refine⟨by rw[nI,<- e1];rfl,λu hu=>?_⟩;rcases jI.mp hu with rfl|hu
  ·exact⟨q,rfl⟩
  ·exact e2 u hu
theorem mF:∀{us:xF},(∀u∈us,∃q,u=.ref q)->Vals (us.map gD) us
 | [],_=>.nil
 | u::us,h=>by
  obtain⟨q,rfl⟩:=h u zC;exact .cons rfl (mF λv hv=>h v (zD _ hv))
theorem Inv.grow{X:Cx}{pins:List (Addr×Obj)}{σ:St}{H H':Hp}{s:Shared}{h':Heap}{t':Nat}(I:Inv X pins σ H s)(k:∀b u,H b=none->s.heap.get? b=some u->h'.get? b=some u/\H' b=none)
  (kt:∀b u,H b=some u->(H' b=some u/\∀o,s.heap.get? b=some o->h'.get? b=some o)\/∃ps more,u=.tbl ps/\H' b=some (.tbl (ps++more))/\h'.get? b=some { cls:=.none,data:=.fields (ps++more) })
  (new:∀b u,H b=none->H' b=some u->cU X.prog X.w H' h' b u):Inv X pins σ H' { s with heap:=h',toks:=t' }:=by
 have same:∀{b:Addr} {u:HO},H b=some u->(∀ps,u≠.tbl ps)->H' b=some u/\∀o,s.heap.get? b=some o->h'.get? b=some o:=λ{b u} e n=>by
  rcases kt b u e with z|⟨ps,_,z,_⟩
  ·exact z
  ·exact gN z (n ps)
 obtain⟨m0,⟨oL,esL,epL,eL,rL⟩,_⟩:=id I.loc;have kL:=(k _ _ I.free eL).1;refine I.step (g':=s.gens) (d':=s.drawn) (ch:=[]) (λ_ z=>nomatch z) (λb u n _ _ e q=>(k b u q e).1) (λb u n _ _ e q=>⟨u.slots,(k b u q e).1⟩) (λb u _ e q=>(k b u q e).2) (λb u _ e=>?_) (λb xs e=>(same e (by intro _ z;cases z)).1) (λb u v e=>(same e (by intro _ z;cases z)).1) (λb ps e=>?_) (λm2 hm2=>?_) (λb u e=>?_) I.bare
 ·cases q:H b with
  | none=>exact⟨u,(k b u q e).1⟩
  | some v =>
   rcases kt b v q with z|⟨ps,more,_,_,z⟩
   ·exact⟨u,z.2 u e⟩
   ·exact⟨_,z⟩
 ·rcases kt b _ e with z|⟨ps',more,z,z2,_⟩
  ·exact⟨#[],by rw[z.1];simp⟩
  ·cases z;exact⟨more,z2⟩
 ·obtain⟨o,es,ep,e,r⟩:=hm2;rw[eL] at e;cases e;exact⟨_,es,ep,kL,r⟩
 ·cases q:H b with
  | none=>exact new b u q e
  | some v =>
   rcases kt b v q with z|⟨ps,more,rfl,z2,z3⟩
   ·rw[z.1] at e;cases e;refine(I.hok b _ q).stay (λc o hc e2=>?_) (λc e2=>(same e2 (by intro _ z;cases z)).1) λc xs e2=>(same e2 (by intro _ z;cases z)).1
    rcases hc with rfl|hc
    ·exact z.2 o e2
    ·exact(same hc (by intro _ z;cases z)).2 o e2
   ·rw[z2] at e;cases e;exact z3
def TabOk(pos:Pos)(qual:Str)(ps:xL)(H:Hp):Prop:=ps=#[]\/∃(c':Addr)(oc:Obj)(vs:xL)(t:Tok),ps=#[rawInt pos.line,rawInt pos.col,.ref c']/\H c'=some (.frz oc (.own c'))/\oc.data=.fields vs/\vs[1]?=some (.str qual t)
def Bm(mg:xC)(base:Heap):Prop:=∃bm ob,mg "__builtins__" = some (.ref bm)/\bm≠builtinsNs/\base.get? bm=some ob/\ob.cls=.type "module" /\ ob.dict=some builtinsNs/\ob.data=.plain
def Ob(ts:List Addr)(H:Hp):Prop:=(∀p∈ts,H p=some (.tbl #[]))/\∀b,b ∉ ts->H b=none\/∃o xs,H b=some (.frz o (.lst xs))
theorem Km{P:Program}{w:World}{K:W.Frag}{mg mb:xC}{CX:CXT}{k:Nat}{fa a:Addr}{fd:FuncData}{x:Str}{sp:Sp}{s₁:Shared}{vs:xF}{ns:List Int}{ts:List Addr}
  (KX:K.In s₁.heap) (hns:s₁.heap.Ns mainGlobals mg) (hb:s₁.heap.Ns builtinsNs mb) (hbb:∀x:Str,x ≠ "__name__" -> mb x=bootBuiltins x) (hlim:s₁.heap.NoLimit) (hg:s₁.gens=#[]) (hB:Bm mg s₁.heap)
  (hts:∀p∈ts,s₁.heap.get? p=some (W.tabObj #[])) (hct:∀p∈ts,isCodeTable s₁.heap p) (hKt:∀p∈ts,K.lookup p=none)
  (ha:s₁.heap.get? a=some { cls:=.type "list", data:=.seq vs.toArray }) (hi:IntsAre vs ns) (hl:ns.length<=sizeLine) (hr:Room k callerA)
  (F:∀base:Heap,K.In base->base.Ns mainGlobals mg->Bm mg base->gq P w K mg base CX k fa fd [x] sp) (hbind:∀(s:Shared)(u:Value),BindsTo s fd ⟨[u],[]⟩ [(x,u)])
  (hsp:∀H:Hp,Ob ts H->a ∉ ts->SqL K H a (ns.map V.int)->sp [.ref a] H (λv _=>v=.bl true) λ_ _ _=>False)
  (hCX:∀H e s',CX [] H s₁ (λ_ _ _=>False) e s'->False) :
  codeAny (model P w) callerA (.call (.ref fa) ⟨[.ref a],[]⟩) (λr s'=>r=.ok (.ret (.bool true))/\OldK s₁.heap s'.heap/\s'.os=s₁.os/\AllBare s'.gens) s₁:=by
 have rv:=xg hi;have lenV:=hi.length;have nat:a ∉ ts:=λz=>by
  have:=hts a z;rw[ha] at this;cases this
 have core:∀H:Hp,Ob ts H->SqL K H a (ns.map V.int)->HOk P w H s₁.heap->(∀b,b ∉ ts->H b≠none->b=a)->(H a≠none->K.lookup a=none) ->
   codeAny (model P w) callerA (.call (.ref fa) ⟨[.ref a],[]⟩) (λr s'=>r=.ok (.ret (.bool true))/\OldK s₁.heap s'.heap/\s'.os=s₁.os/\AllBare s'.gens) s₁:=by
  intro H hO hS hok hA hK;have kindOf:∀{b:Addr} {o:Obj},s₁.heap.get? b=some o->H b≠none->o=W.tabObj #[]\/o={ cls:=.type "list", data:=.seq vs.toArray }:=λ{b o} e n=>by
   by_cases hb:b∈ts
   ·left
    have:=hts b hb;rw[e] at this;exact nS this
   ·right
    have:=hA b hb n;rw[this,ha] at e;exact(nS e).symm
  have keep:∀{b:Addr} {o:Obj},s₁.heap.get? b=some o->o≠W.tabObj #[]->o≠{ cls:=.type "list", data:=.seq vs.toArray }->(wF s₁.heap H).get? b=some o:=λ{b o} e n1 n2=>Bp e (by
   cases q:H b with
   | none=>rfl
   | some u =>
    rcases kindOf e (by rw[q];simp) with z|z
    ·exact gN z n1
    ·exact gN z n2)
  have nsK:∀{b:Addr} {m:xC},s₁.heap.Ns b m->(wF s₁.heap H).Ns b m:=λ{b m} ⟨o,es,ep,e,d,r⟩=>⟨o,es,ep,keep e (λz=>by rw[z] at d;cases d) (λz=>by rw[z] at d;cases d),d,r⟩
  have hKb:K.In (wF s₁.heap H):=λb o e=>Bp (KX b o e) (by
   cases q:H b with
   | none=>rfl
   | some u =>
    by_cases hb:b∈ts
    ·rw[hKt b hb] at e;cases e
    ·have z:=hA b hb (by rw[q];simp);rw[z] at e q;rw[hK (by rw[q];simp)] at e;cases e)
  have hBb:Bm mg (wF s₁.heap H):=by
   obtain⟨bm,ob,b1,b2,b3,b4,b5,b6⟩:=hB;exact⟨bm,ob,b1,b2,keep b3 (λz=>by rw[z] at b4;cases b4) (λz=>by rw[z] at b6;cases b6),b4,b5,b6⟩
  have hM:Mod K mg (wF s₁.heap H):=⟨hKb,nsK hns,⟨mb,nsK hb,hbb⟩,let ⟨mc,h1,h2⟩:=hlim;⟨mc,nsK h1,h2⟩⟩;have e0:Fd P w K mg (wF s₁.heap H) callerA [] s₁ H:=⟨rfl,hM,λb o e=>Q6 e,Nat.le_of_eq (JH _ _),trivial,λb hb=>absurd (show b∈([]:List Addr) from hb) (by simp),hok,.of_eq hg⟩;refine codeAny_mono ((F _ hKb (nsK hns) hBb).run callerA [] s₁ H ⟨[.ref a],[]⟩ [.ref a] [.ref a] _ _ hr e0 (hbind s₁ (.ref a)) (.cons rfl .nil) (hsp H hO nat hS)) λr s' h=>?_
  rcases r with e|fl
  ·exact(hCX H e s' h).elim
  ·rcases fl with _|_|_|u
   ·exact False.elim h
   ·exact False.elim h
   ·exact False.elim h
   ·obtain⟨v,H',os,bare,un,hok',r',q⟩:=h;obtain rfl:v=.bl true:=q;obtain rfl:u=Value.bool true:=r';refine⟨rfl,?_,os,bare⟩;have each:∀b o,s₁.heap.get? b=some o->s'.heap.get? b=some o\/(b∈ts/\o=W.tabObj #[]/\∃more,s'.heap.get? b=some (W.tabObj (#[]++more))):=λb o e=>by
     cases q:H b with
     | none=>exact .inl (un.keep b o e q (λz=>absurd (show b∈([]:List Addr) from z) (by simp)) (by simp))
     | some u =>
      by_cases hb:b∈ts
      ·right
       have e1:=hts b hb;rw[e] at e1;obtain⟨more,e2⟩:=un.j7 b #[] (hO.1 b hb);exact⟨hb,nS e1,more,hok' b _ e2⟩
      ·left
       rcases hO.2 b hb with z|⟨ob,xs,z⟩
       ·rw[q] at z;cases z
       ·have e1:=(hok b _ z).1;rw[e] at e1;cases e1;exact(hok' b _ (un.j6 b _ _ z)).1
    refine⟨λb o e=>?_,λb o e=>?_⟩
    ·rcases each b o e with z|⟨hb,rfl,more,z⟩
     ·exact .inl z
     ·exact .inr (.inl ⟨hct b hb,rfl,#[],more,rfl,z⟩)
    ·rcases each b o e with z|⟨_,_,more,z⟩
     ·exact⟨_,z⟩
     ·exact⟨_,z⟩
 cases hk:K.lookup a with
 | some o =>
  have e:=KX a o hk;rw[ha] at e;cases e;refine core (λb=>if b∈ts then some (.tbl #[]) else none) ⟨λp hp=>if_pos hp,λb hb=>.inl (if_neg hb)⟩ (.inr ⟨_,vs.toArray,_,hk,rfl,rfl,rfl,by rw[List.size_toArray,lenV];exact hl,by simpa using rv⟩) (λb u z=>?_) (λb hb z=>absurd (if_neg hb) z) λz=>absurd (if_neg nat) z
  by_cases hb:b∈ts
  ·have z':=(yB hb).symm.trans z;cases z';exact hts b hb
  ·have z':=(yT hb).symm.trans z;cases z'
 | none =>
  refine core (λb=>if b∈ts then some (.tbl #[]) else if b=a then some (.frz { cls:=.type "list", data:=.seq vs.toArray } (.lst (ns.map V.int))) else none) ⟨λp hp=>yB hp,λb hb=>?_⟩ (.inl (.inr ⟨{ cls:=.type "list", data:=.seq vs.toArray },?_⟩)) (λb u z=>?_) (λb hb z=>?_) λ_=>hk
  ·by_cases h:b=a
   ·exact .inr ⟨_,_,(yT hb).trans (yB h)⟩
   ·exact .inl ((yT hb).trans (yT h))
  ·exact(yT nat).trans (yB rfl)
  ·by_cases hb:b∈ts
   ·have z':=(yB hb).symm.trans z;cases z';exact hts b hb
   ·by_cases h:b=a
    ·have z':=((yT hb).trans (yB h)).symm.trans z;cases z';rw[h];exact⟨ha,by rw[wS];exact hl,vs,_,rv,ha⟩
    ·have z':=((yT hb).trans (yT h)).symm.trans z;cases z'
  ·by_cases h:b=a
   ·exact h
   ·exact gN ((yT hb).trans (yT h)) z
theorem Oc{l:W.OpenLaw}{n k:Nat}{q:Program}{loose:List Str}{XP:(Str->Option Value)->Heap->Prop}{YP:World->Heap->Prop}{d:DefRec}{K:Params->W.Frag}{CX:World->CXT}{sp:World->Sp}{x:Str}{ts:List Addr}
  (hn:l.most=some n) (hn2:n<=sizeLine) (hdf:d.params.defaults=[]) (hr:Room k callerA)
  (hY:∀(w:World)(h:Heap),YP w h->(K w.params).In h/\∀p∈ts,h.get? p=some (W.tabObj #[]))
  (F:∀(w:World)(mg:xC)(fa:Addr)(h:Heap),(K w.params).In h->h.Ns mainGlobals mg->mg d.name=some (.ref fa)->(∀p∈ts,(K w.params).lookup p=none/\∃c,W.codeHdIn (K w.params) c p=true) /\
   ∃fd:FuncData,(∀(s:Shared)(u:Value),BindsTo s fd ⟨[u],[]⟩ [(x,u)]) /\
    ∀base:Heap,(K w.params).In base->base.Ns mainGlobals mg->Bm mg base->gq l.prog w (K w.params) mg base (CX w) k fa fd [x] (sp w))
  (hsp:∀(w:World)(H:Hp)(a:Addr)(ns:List Int),ns.length<=n->Ob ts H->a ∉ ts->SqL (K w.params) H a (ns.map V.int)->sp w [.ref a] H (λv _=>v=.bl true) λ_ _ _=>False)
  (hCX:∀(w:World)(H:Hp)(s:Shared)(e:Value)(s':Shared),CX w [] H s (λ_ _ _=>False) e s'->False) :
  W.WalkO q loose XP YP l.row.toRowW d [] (λf vs=>PySem.call f vs):=by
 refine Att.BJ hn hdf λw s₀ s₁ mg mb fa o pm cd doc a vs ns G Y ho hd hcd hmg hobj hints hlen hg=>?_
 obtain⟨KX,hts⟩:=hY w _ Y;obtain⟨hT,fd,hb,hF⟩:=F w mg fa _ KX G.T.g hmg;refine Km KX G.T.g G.T.b G.T.builtins G.T.nolimit hg G.T.bmain hts (λp hp=>?_) (λp hp=>(hT p hp).1) hobj hints (oB hlen hn2) hr hF hb (λH hO hn hS=>hsp w H a ns hlen hO hn hS) λH e s'=>hCX w H s₁ e s'
 obtain⟨c,hc⟩:=(hT p hp).2;obtain⟨o,vs,_,_,_,_,_,_,_,e1,e2,e3,e4,_⟩:=W.codeHd_of_K KX hc;exact⟨c,o,vs,e1,e2,e3,e4⟩
end L2
namespace L2
open PySem PySem.Spec PyProof.Rows PySem.SeqAt
section
variable{H0 H:Hp}{M:List Addr}{L L':List (Addr×HO)}{I:List Im}{P f:Addr}{R:Hp->Prop}{pos:Pos}{qual:Str}{ps:xL}
theorem TabOk.st:∀H H',Tst H H'->TabOk pos qual ps H->TabOk pos qual ps H':=λH H' t h=>by
 rcases h with h|⟨c',oc,vs,t',e,e1,e2⟩
 ·exact .inl h
 ·exact .inr ⟨c',oc,vs,t',e,t _ _ rfl e1,e2⟩
theorem Oa.st:∀H H',Tst H H'->Oa H f->Oa H' f:=λH H' t h=>by
 obtain⟨a1,a2,a3,a4,a5,a6,a7,a8,a9,a10,a11,a12,a13,a14,e1,e2,r⟩:=h;exact⟨a1,a2,a3,a4,a5,a6,a7,a8,a9,a10,a11,a12,a13,a14,t _ _ rfl e1,t _ _ rfl e2,r⟩
abbrev eH(pos:Pos)(qual:Str)(ps:xL):Im:=.fct (TabOk pos qual ps) TabOk.st
class j_(I:List Im)(pos:Pos)(qual:Str)(ps:xL):Prop where
 m:eH pos qual ps∈I
instance acA{g:Im}[h:j_ I pos qual ps]:j_ (g::I) pos qual ps:=⟨zD _ h.m⟩
instance acB:j_ (eH pos qual ps::I) pos qual ps:=⟨zC⟩
theorem SH.tab[F:SH H0 M H L I][h:j_ I pos qual ps]:TabOk pos qual ps H:=F.im _ h.m
instance ab8[F:SH H0 M H L I][u:LkU L P (.tbl ps) L']:Go (∀H',Kp P H H'->H' P=some (.tbl ps)->TabOk pos qual ps H'->R H') (∀H',SH H0 M H' L' (eH pos qual ps::I)->R H'):=⟨λk H' f e t=>k H' ((F.kp f e u.u rfl).lC t)⟩
end
def Uc(c:Nat):Bool:=decide (97<=c) && decide (c<=122)
def Y5(c:Nat):Bool:=decide (48<=c) && decide (c<=57)
structure V7(cs:List Nat):Prop where
 lo:1<=cs.length
 hi:cs.length<=8
 hd:∀c,cs[0]?=some c->Uc c=true
 all:∀c∈cs,(Uc c || Y5 c)=true
structure Rw where
 nm:List Nat
 st:Nat
 sz:Nat
 pn:Nat
structure GoodR(n:Nat)(r:Rw):Prop where
 nm:V7 r.nm
 sz:1<=r.sz
 le:r.st+r.sz<=n
def Apart(r s:Rw):Prop:=r.nm≠s.nm/\(r.st+r.sz<=s.st\/s.st+s.sz<=r.st)
theorem Apart.symm{r s:Rw}(h:Apart r s):Apart s r:=⟨λz=>h.1 z.symm,h.2.elim .inr .inl⟩
def Asc(rs:List Rw):Prop:=rs.Pairwise λr s=>r.st+r.sz<=s.st
theorem Asc.lt{n:Nat}{rs:List Rw}(h:Asc rs)(g:∀r∈rs,GoodR n r):rs.Pairwise λr s=>r.st<s.st:=by
 refine List.Pairwise.imp_of_mem ?_ h;intro a b ha hb hab;have:=(g a ha).sz
 lia
end L2
namespace L2
open PySem PySem.Spec PyProof.Rows
end L2
namespace L2
open PySem PySem.W PySem.Spec PyProof.Rows
section
variable{n:Nat}{rk:Nat->Int}{α β:Type}
def Kr(n:Nat)(rk:Nat->Int):KasT α->(α->Prop)->Prop
 | .ret a,P=>P a
 | .ask i j k,P=>i<n/\j<n/\i≠j/\Kr n rk (k (decide (rk i<rk j))) P
theorem mG{f:α->KasT β}{P:β->Prop}:∀(t:KasT α),Kr n rk t (λa=>Kr n rk (f a) P)->Kr n rk (t.bind f) P
 | .ret _,h=>h
 | .ask i j k,h=>⟨h.1,h.2.1,h.2.2.1,mG (k _) h.2.2.2⟩
theorem Od{cmp:Nat->Nat->(Bool->Shared->Prop)->Shared->Prop}{s:Shared}{P:α->Prop}{Q:α->Shared->Prop}(hc:∀i j C,i<n->j<n->i≠j->C (decide (rk i<rk j)) s->cmp i j C s)(hq:∀a,P a->Q a s):∀(t:KasT α),Kr n rk t P->t.kasWp cmp Q s
 | .ret a,h=>hq a h
 | .ask i j k,h=>hc i j _ h.1 h.2.1 h.2.2.1 (Od hc hq (k _) h.2.2.2)
abbrev Kk(rk:Nat->Int)(p:Array Nat)(k:Nat):Int:=rk (p.getD k 0)
def UpK(rk:Nat->Int)(p:Array Nat)(m:Nat):Prop:=∀i j,i<=j->j<m->Kk rk p i<=Kk rk p j
def oR(rk:Nat->Int)(p:Array Nat)(m:Nat):Prop:=∀i j,i<=j->j<m->Kk rk p j<=Kk rk p i
def Pp(n:Nat)(p:Array Nat):Prop:=p.Perm (List.range n).toArray
theorem Pp.size{p:Array Nat}(h:Pp n p):p.size=n:=by
 have:=h.size_eq;simpa using this
theorem Pp.lt{p:Array Nat}(h:Pp n p){k:Nat}(hk:k<n):p.getD k 0<n:=by
 have hs:=h.size;have e:p.getD k 0=p[k]'(by lia):=by rw[Array.getD_eq_getD_getElem?,Array.getElem?_eq_getElem (by lia)];rfl
 rw[e];have:=(Array.perm_iff_toList_perm.mp h).mem_iff.mp (show p[k]'(by lia)∈p.toList by simp);simpa using this
theorem Pp.ne{p:Array Nat}(h:Pp n p){a b:Nat}(ha:a<n)(hb:b<n)(hab:a≠b):p.getD a 0≠p.getD b 0:=by
 have hs:=h.size;have e:∀k (hk:k<n),p.getD k 0=p.toList[k]'(by simpa[hs] using hk):=λk hk=>by
  rw[Array.getD_eq_getD_getElem?,Array.getElem?_eq_getElem (by lia)]
  rfl
 have nd:p.toList.Nodup:=(Array.perm_iff_toList_perm.mp h).nodup_iff.mpr (by simpa using List.nodup_range);rw[e a ha,e b hb];intro z;exact hab ((List.getElem_inj nd).mp z)
theorem z6{p:Array Nat}{i j:Nat}(hj:j<=p.size)(k:Nat):Kk rk (kas_rev p i j) k=if i<=k/\k<j then Kk rk p (i+j-1-k) else Kk rk p k:=by
 unfold Kk kas_rev;rw[Array.getD_eq_getD_getElem?,getElem?_mirror_all hj,apply_ite (λo:Option Nat=>o.getD 0),apply_ite rk,Array.getD_eq_getD_getElem?,Array.getD_eq_getD_getElem?]
theorem Oe{p:Array Nat}{src d:Nat}(hs:src<p.size)(hd:d<=src)(k:Nat):Kk rk (bubble p src d) k=if k=src-d then Kk rk p src else if src-d<k/\k<=src then Kk rk p (k-1) else Kk rk p k:=by
 have g:∀(q:Array Nat)(j:Nat),q.getD j 0=(q[j]?).getD 0:=λq j=>Array.getD_eq_getD_getElem? ..
 simp only[Kk,g];rw[getElem?_bubble hs d hd]
 repeat' split
 all_goals rfl
theorem Pp.rev{p:Array Nat}(h:Pp n p){i j:Nat}:Pp n (kas_rev p i j):=(mirror_perm _ _ _ _).trans h
theorem Pp.bub{p:Array Nat}(h:Pp n p){i j:Nat}:Pp n (bubble p i j):=(bubble_perm _ _ _).trans h
theorem Gz{p:Array Nat}(hp:Pp n p){P:Nat->Prop}:∀(f m:Nat),1<=m->m+f<=n->UpK rk p m->(∀m',m<=m'->m'<=m+f->UpK rk p m'->(m'=m+f\/Kk rk p m'<Kk rk p (m'-1))->P m')->Kr n rk (kas_asc p f m) P
 | 0,m,_,_,u,k=>k m (uS _) (uS _) u (.inl rfl)
 | f+1,m,h1,h2,u,k=>by
  refine⟨hp.lt (by lia),hp.lt (by lia),hp.ne (by lia) (by lia) (by lia),?_⟩;by_cases hc:rk (p.getD m 0)<rk (p.getD (m-1) 0)
  ·rw[uA hc]
   try dsimp only
   rw[yB rfl];exact k m (uS _) (by lia) u (.inr hc)
  ·rw[gX hc]
   try dsimp only
   rw[yT (by decide)];refine Gz hp f (m+1) (by lia) (by lia) (λi j hij hj=>?_) λm' a b c d=>k m' (by lia) (by lia) c (by rcases d with d|d;exact .inl (by lia);exact .inr d)
   by_cases e:j=m
   ·subst e;by_cases e2:i=j
    ·subst e2;exact Int.le_refl _
    ·have:=u i (j-1) (by lia) (by lia);show Kk rk p i<=Kk rk p j;have:¬ Kk rk p j<Kk rk p (j-1):=hc
     lia
   ·exact u i j hij (by lia)
def Tie(rk:Nat->Int)(p:Array Nat)(m q:Nat):Prop:=q+1<=m/\∀k,m-(q+1)<=k->k<m->Kk rk p k=Kk rk p (m-1)
theorem Ii{p:Array Nat}{m q:Nat}(hm:m<=p.size)(t:Tie rk p m q)(k:Nat):Kk rk (kas_rev p (m-(q+1)) m) k=Kk rk p k:=by
 rw[z6 hm];split
 ·rename_i h;rw[t.2 _ (by lia) (by lia),t.2 k h.1 h.2]
 ·rfl
theorem z7{p p':Array Nat}{m:Nat}(e:∀k,Kk rk p' k=Kk rk p k)(d:oR rk p m):oR rk p' m:=λi j a b=>by rw[e,e];exact d i j a b
theorem mH{p:Array Nat}{m:Nat}(h1:1<=m)(d:oR rk p m)(h:Kk rk p m<=Kk rk p (m-1)):oR rk p (m+1):=λi j hij hj=>by
 by_cases e:j=m
 ·subst e;by_cases e2:i=j
  ·subst e2;exact Int.le_refl _
  ·have:=d i (j-1) (by lia) (by lia)
   lia
 ·exact d i j hij (by lia)
theorem sS{P:Array Nat×Nat×Nat->Prop}:∀(f:Nat)(p:Array Nat)(m q:Nat),Pp n p->1<=m->m+f<=n->oR rk p m->Tie rk p m q->(∀p' m' q',Pp n p'->1<=m'->m'<=n->oR rk p' m'->Tie rk p' m' q'->P (p',m',q'))->Kr n rk (kas_desc f p m q) P
 | 0,p,m,q,hp,h1,h2,d,t,k=>k p m q hp h1 (by lia) d t
 | f+1,p,m,q,hp,h1,h2,d,t,k=>by
  refine⟨hp.lt (by lia),hp.lt (by lia),hp.ne (by lia) (by lia) (by lia),?_⟩;have hs:=hp.size;by_cases hc:rk (p.getD m 0)<rk (p.getD (m-1) 0)
  ·rw[uA hc]
   try dsimp only
   rw[yB rfl];have hc:Kk rk p m<Kk rk p (m-1):=hc;have d2:oR rk p (m+1):=mH h1 d (by lia);by_cases hq:q > 0
   ·rw[yB hq];refine sS f _ (m+1) 0 hp.rev (by lia) (by lia) (z7 (Ii (by lia) t) d2) ⟨by lia,λj a b=>?_⟩ k;rw[show j=m+1-1 by lia]
   ·rw[yT hq];refine sS f _ (m+1) 0 hp (by lia) (by lia) d2 ⟨by lia,λj a b=>?_⟩ k;rw[show j=m+1-1 by lia]
  ·rw[gX hc]
   try dsimp only
   rw[yT (by decide)];have hc:¬ Kk rk p m<Kk rk p (m-1):=hc;refine⟨hp.lt (by lia),hp.lt (by lia),hp.ne (by lia) (by lia) (by lia),?_⟩;by_cases hd:rk (p.getD (m-1) 0)<rk (p.getD m 0)
   ·rw[uA hd]
    try dsimp only
    rw[yB rfl];exact k p m q hp h1 (by lia) d t
   ·rw[gX hd]
    try dsimp only
    rw[yT (by decide)];have hd:¬ Kk rk p (m-1)<Kk rk p m:=hd;have e:Kk rk p m=Kk rk p (m-1):=by lia
    refine sS f p (m+1) (q+1) hp (by lia) (by lia) (mH h1 d (by lia)) ⟨by have:=t.1;lia,λj a b=>?_⟩ k;rw[Nat.add_sub_cancel];by_cases ej:j=m
    ·rw[ej]
    ·rw[t.2 j (by lia) (by lia),e]
theorem Ij{p:Array Nat}{m:Nat}{P:Nat×Array Nat->Prop}(hp:Pp n p)(h1:1<=m)(h2:m<=n)(d:oR rk p m)(k:∀m' p',Pp n p'->1<=m'->m'<=n->UpK rk p' m'->P (m',p')):Kr n rk (kas_tail3 m n p) P:=by
 unfold kas_tail3;refine mG _ (Gz hp.rev _ m h1 (by lia) (λi j hij hj=>?_) λm' a b u _=>k m' _ hp.rev (by lia) (by lia) u);have hs:=hp.size;rw[z6 (by lia),z6 (by lia),yB (by lia),yB (by lia)];exact d _ _ (by lia) (by lia)
theorem Ik{p:Array Nat}{m:Nat}{P:Nat×Array Nat->Prop}(hp:Pp n p)(h1:1<=m)(h2:m<n)(d:oR rk p (m+1))(k:∀m' p',Pp n p'->1<=m'->m'<=n->UpK rk p' m'->P (m',p')):Kr n rk (kas_descPart m n p) P:=by
 unfold kas_descPart;refine mG _ (sS _ p (m+1) 0 hp (by lia) (by lia) d ⟨by lia,λj a b=>by rw[show j=m+1-1 by lia]⟩ λp' m' q' hp' a b d' t'=>?_);have hs:=hp'.size;show Kr n rk (if q' > 0 then kas_tail3 m' n (kas_rev p' (m'-(q'+1)) m') else kas_tail3 m' n p') P;split
 ·exact Ij hp'.rev a b (z7 (Ii (by lia) t') d') k
 ·exact Ij hp' a b d' k
theorem Og{p:Array Nat}{P:Nat×Array Nat->Prop}(hp:Pp n p)(hn:1<=n)(k:∀m' p',Pp n p'->1<=m'->m'<=n->UpK rk p' m'->P (m',p')):Kr n rk (kas_count n p) P:=by
 unfold kas_count;refine mG _ (Gz hp _ 1 (uS _) (by lia) (λi j a b=>by rw[show i=0 by lia,show j=0 by lia];exact Int.le_refl _) λm a b u st=>?_);have hs:=hp.size;by_cases e:m=n
 ·rw[if_pos (by simpa using e)];exact k m p hp a (by lia) u
 ·rw[if_neg (by simpa using e)];have st:Kk rk p m<Kk rk p (m-1):=by
   rcases st with st|st
   ·lia
   ·exact st
  by_cases h1:m > 1
  ·rw[yB h1];refine⟨hp.lt (by lia),hp.lt (by lia),hp.ne (by lia) (by lia) (by lia),?_⟩;by_cases hc:rk (p.getD 0 0)<rk (p.getD (m-1) 0)
   ·rw[uA hc]
    try dsimp only
    rw[yB rfl];exact k m p hp a (by lia) u
   ·rw[gX hc]
    try dsimp only
    rw[yT (by decide)];have hc:¬ Kk rk p 0<Kk rk p (m-1):=hc;have al:∀j,j<m->Kk rk p j=Kk rk p (m-1):=λj hj=>by
     have:=u 0 j (by lia) hj;have:=u j (m-1) (by lia) (by lia)
     lia
    have er:∀j,Kk rk (kas_rev p 0 m) j=Kk rk p j:=λj=>by
     rw[z6 (by lia)];split
     ·rw[al _ (by lia),al j (by lia)]
     ·rfl
    refine Ik hp.rev a (by lia) (z7 er (mH a (λi j a b=>by rw[al i (by lia),al j b];exact Int.le_refl _) (by lia))) k
  ·rw[yT h1];have e1:m=1:=by lia
   subst e1;exact Ik hp a (by lia) (mH a (λi j a b=>by rw[show i=0 by lia,show j=0 by lia];exact Int.le_refl _) (by lia)) k
theorem uX{p:Array Nat}{k:Nat}{P:Nat->Prop}(hp:Pp n p)(hk:k<n)(u:UpK rk p k):∀(f l r:Nat),l<=r->r<=k->r-l<=f->(∀i,i<l->Kk rk p i<=Kk rk p k)->(∀i,r<=i->i<k->Kk rk p k<Kk rk p i)->(∀l',l'<=k->(∀i,i<l'->Kk rk p i<=Kk rk p k)->(∀i,l'<=i->i<k->Kk rk p k<Kk rk p i)->P l')->Kr n rk (kas_place p k f l r) P
 | 0,l,r,h1,h2,h3,a,b,kk=>kk l (by lia) a λi h h'=>b i (by lia) h'
 | f+1,l,r,h1,h2,h3,a,b,kk=>by
  unfold kas_place;by_cases hl:l ≥ r
  ·rw[yB hl];exact kk l (by lia) a λi h h'=>b i (by lia) h'
  ·rw[yT hl];refine⟨hp.lt (by lia),hp.lt (by lia),hp.ne (by lia) (by lia) (by lia),?_⟩;by_cases hc:rk (p.getD k 0)<rk (p.getD ((l+r) / 2) 0)
   ·rw[uA hc]
    try dsimp only
    rw[yB rfl];have hc:Kk rk p k<Kk rk p ((l+r) / 2):=hc;refine uX hp hk u f l ((l+r) / 2) (by lia) (by lia) (by lia) a (λi h h'=>?_) kk;have:=u ((l+r) / 2) i h h'
    lia
   ·rw[gX hc]
    try dsimp only
    rw[yT (by decide)];have hc:¬ Kk rk p k<Kk rk p ((l+r) / 2):=hc;refine uX hp hk u f ((l+r) / 2+1) r (by lia) (by lia) (by lia) (λi h=>?_) b kk;have:=u i ((l+r) / 2) (by lia) (by lia)
    lia
theorem Oh{P:Array Nat->Prop}:∀(f:Nat)(p:Array Nat)(k:Nat),Pp n p->k+f=n->UpK rk p k->(∀p',Pp n p'->UpK rk p' n->P p')->Kr n rk (kas_bin f p k) P
 | 0,p,k,hp,e,u,kk=>kk p hp (by rw[<- e];exact u)
 | f+1,p,k,hp,e,u,kk=>by
  unfold kas_bin;have hs:=hp.size;refine mG _ (uX hp (by lia) u k 0 k (Nat.zero_le _) (uS _) (by lia) (λi h=>gN h (Nat.not_lt_zero _)) (λi h h'=>gN h' (by lia)) λl hl a b=>?_);refine Oh f _ (k+1) hp.bub (by lia) (λi j hij hj=>?_) kk;rw[Oe (by lia) (by lia),Oe (by lia) (by lia),show k-(k-l)=l by lia];by_cases e1:j=l
  ·rw[yB e1];by_cases e2:i=l
   ·rw[yB e2];exact Int.le_refl _
   ·rw[yT e2,yT (by lia)];exact a i (by lia)
  ·rw[yT e1];by_cases e2:i=l
   ·rw[yB e2,yB (by lia)];have:=b (j-1) (by lia) (by lia)
    lia
   ·rw[yT e2];by_cases e3:l<j/\j<=k
    ·rw[yB e3];by_cases e4:l<i/\i<=k
     ·rw[yB e4];exact u _ _ (by lia) (by lia)
     ·rw[yT e4];exact u _ _ (by lia) (by lia)
    ·rw[yT e3,yT (by lia)];exact u _ _ hij (by lia)
theorem Il{P:Array Nat->Prop}(hn:1<=n)(k:∀p,Pp n p->UpK rk p n->P p):Kr n rk (kas_sort n) P:=by
 unfold kas_sort;refine mG _ (Og (Array.Perm.refl _) hn λm p hp a b u=>?_);show Kr n rk (if m<n then kas_bin (n-max m 1) p (max m 1) else .ret p) P;split
 ·rw[show max m 1=m by lia];exact Oh _ p m hp (by lia) u k
 ·exact k p hp (by rw[show n=m by lia];exact u)
end
end L2
namespace L2
open PySem PySem.W PySem.Calls PySem.Spec PyProof.Rows
section
variable{prog:Program}{w:World}{A:Around}{E:xB}{s:Shared}{h₀:Heap}{L:Addr}{m:xC}{news:List (Addr×Obj)}{vs:xF}
theorem Sg:(vs.toArray.zip vs.toArray).map (·.2)=vs.toArray:=by
 apply Array.toList_inj.mp
 rw[Array.toList_map,Array.toList_zip];exact List.map_snd_zip (uS _)
theorem Oi{a:Addr}{n:Nat}{P:PySem.Fin->Shared->Prop}(F:Fr h₀ L s.heap m)(N:News h₀ L s.heap news)(ho:s.heap.get? a=some (seqObj "list" vs.toArray n))(haL:a≠L)(ha0:h₀.get? a=none)(hna:∀p∈news,p.1≠a)(h2:vs.length<2)
  (k:∀h' c,Fr h₀ L h' m->News h₀ L h' ((a,seqObj "list" vs.toArray c)::news)->P (.done (.ret .none)) { s with heap:=h' }):wpAny (model prog w) A (Builtin.«list.sort» ⟨[.ref a],[]⟩) P E s:=by
 have s1:=Heap.SameBut.update s.heap a (Obj.mapSeq λ_=>(#[]:xL));obtain⟨e1,ho1⟩:∃e1,(s.heap.update a (Obj.mapSeq λ_=>(#[]:xL))).get? a=some (seqObj "list" #[] e1):=⟨_,get?_update_seq ho λ_=>#[]⟩;rw[list_sort_plain];refine zI (listItems_at ho rfl (zI (listUpdate_at ho rfl ?_ (by rw[nX,sizeLine_eq];lia) (Nat.zero_le _))));refine zI (seqEpoch_at ho1 rfl (zI (wpAny_newTuple ?_ (by show vs.length<=_;rw[sizeLine_eq];lia))));refine zI (wpAny_newList (mI ?_) (Nat.zero_le _))
 generalize eh:((s.heap.update a (Obj.mapSeq λ_=>(#[]:xL))).push (seqObj "tuple" vs.toArray 0)).push (seqObj "list" #[] 0)=hp
 have up:∀b o,(s.heap.update a (Obj.mapSeq λ_=>(#[]:xL))).get? b=some o->hp.get? b=some o:=λb o e=>by rw[<- eh];exact uC _ (uC _ e)
 have F3:Fr h₀ L hp m:=by rw[<- eh];exact((kas_fr F s1 haL ha0).push _).push _
 have N3:News h₀ L hp news:=(kas_news N s1 hna).grown up;have ho3:hp.get? a=some (seqObj "list" #[] e1):=up _ _ ho1;show wpAny (model prog w) A _ P E { s with heap:=hp }
 dsimp only;have hn2:vs.toArray.size<2:=by rw[nX];lia
 rw[yB hn2,yB hn2];refine zI (rX (zI ?_));rw[StateT.run_pure];refine rX ?_;dsimp only;show wpAny (model prog w) A (seqEpoch a >>= λe=>Builtin.List.listUpdate (.ref a) (λ_=>(vs.toArray.zip vs.toArray).map (·.2)) >>= λ_=>_) P E { s with heap:=hp }
 rw[Sg];have s2:=Heap.SameBut.update hp a (Obj.mapSeq λ_=>vs.toArray);obtain⟨c2,hc2⟩:∃c2,(hp.update a (Obj.mapSeq λ_=>vs.toArray)).get? a=some (seqObj "list" vs.toArray c2):=⟨_,get?_update_seq ho3 λ_=>vs.toArray⟩;refine zI (seqEpoch_at ho3 rfl (zI (listUpdate_at ho3 rfl ?_ (Nat.zero_le _) (by show vs.length<=_;rw[sizeLine_eq];lia))));show wpAny (model prog w) A (if (e1 != e1)=true then _ else _) P E _;simp only[bne_self_eq_false,Bool.false_eq_true,if_false];refine rX (k _ c2 (kas_fr F3 s2 haL ha0) λp hp'=>?_);rcases jI.mp hp' with rfl|hp'
 ·exact⟨hc2,haL,ha0⟩
 ·exact kas_news N3 s2 hna p hp'
inductive F2{α β:Type}(R:α->β->Prop):List α->List β->Prop
 | nil:F2 R [] []
 | cons {a b l m}:R a b->F2 R l m->F2 R (a::l) (b::m)
theorem F2.length_eq{α β:Type}{R:α->β->Prop}:∀{l:List α} {m:List β},F2 R l m->l.length=m.length
 | _,_,.nil=>rfl
 | _,_,.cons _ h=>gL (· + 1) h.length_eq
theorem GC{l:Addr}{Q:xB}(F:Fr h₀ L s.heap m)(N:News h₀ L s.heap news)(hl:s.heap.IsList l vs.toArray)(h2:vs.length<2)
  (k:∀D c h',Fr h₀ L h' m->News h₀ L h' ((D,seqObj "list" vs.toArray c)::news)->(∀q∈news,q.1<D)->Q (.ref D) { s with heap:=h' }):wpAny (model prog w) A (call (.builtin "sorted") [.ref l]) Q E s:=by
 refine Calls.call_function_entry kind_sorted plain_sorted entry_sorted (args_sorted1 _) ?_;unfold Builtin.«sorted»;refine zI (m:=checkCount "sorted" 1 1 _) (rX (zI (collect_list hl ?_ (by rw[sizeLine_eq];lia))));refine zI (wpAny_newList ?_ (by rw[sizeLine_eq];lia))
 generalize eh:((s.heap.push (seqObj "list" #[] 0)).update s.heap.objs.size (Obj.mapSeq (·++vs.toArray)))=hp
 have hsz:hp.objs.size=s.heap.objs.size+1:=by rw[<- eh,Heap.size_update,size_push']
 have keep:∀b o,s.heap.get? b=some o->(hp.push (seqObj "list" vs.toArray 0)).get? b=some o:=λb o q=>by
  have hlt:b<s.heap.objs.size:=uB q;rw[zzG _ _ _ (by rw[hsz];exact qV (nV hlt)),<- eh,zzF _ _ _ _ (qV hlt),zzG _ _ _ (qV hlt)];exact q
 have hoL:(hp.push (seqObj "list" vs.toArray 0)).get? hp.objs.size=some (seqObj "list" vs.toArray 0):=oQ _ rfl;have up1:∀{b:Addr},b<s.heap.objs.size->b<hp.objs.size:=λh=>by rw[hsz];exact nV h
 have hL:L<hp.objs.size:=up1 F.ns.lt;show wpAny _ _ _ _ _ { s with heap:=hp.push (seqObj "list" vs.toArray 0) }
 refine zI (mI (wpAny_call_entry slot_list_sort ⟨_,hoL,rfl⟩ entry_list_sort ?body (args_list_sort _)))
 case body =>
  refine Oi (s:={ s with heap:=hp.push (seqObj "list" vs.toArray 0) }) (F.kept keep) (N.grown keep) hoL (Nat.ne_of_gt hL) (Heap.get?_none_of_le (oB F.above (zzE hL))) (λp hp'=>qV (up1 (uB (N p hp').1))) h2 λh' c F' N'=>?_
  exact⟨_,rfl,rX ⟨_,rfl,k _ c h' F' N' λq hq=>up1 (uB (N q hq).1)⟩⟩
end
theorem Io{α β:Type}{R:α->β->Prop}:∀{l:List α} {m:List β},l.length=m.length->(∀(i:Nat) a b,l[i]?=some a->m[i]?=some b->R a b)->F2 R l m
 | [],[],_,_=>.nil
 | [],_::_,h,_=>nomatch h
 | _::_,[],h,_=>nomatch h
 | a::l,b::m,h,f=>.cons (f 0 a b rfl rfl) (Io (Nat.succ.inj h) λi x y e1 e2=>f (i+1) x y (by simpa using e1) (by simpa using e2))
end L2
namespace L2
open PySem PySem.Spec PyProof.Rows PySem.SeqAt
section
variable{K:W.Frag}{H:Hp}{l p:Addr}{r:List V}
variable{σ:St}
theorem Ip(h:H p=some (.tup r))(hf:∀v∈r,gP v=true):Rep K H (oK r) (.ref p):=by
 simp only[Rep];exact⟨p,r,rfl,SqT.of h,qI hf⟩
theorem Sh:iG (oK r)<=100:=by
 simp only[iG,uJ]
 lia
variable{R:St->Hp->Prop}
theorem V8{n i0 i1 i2:Nat}{a b d:V}(hn:n=3)(hp:SqT K H l [a,b,d])(h:bL i0 a σ H λσ1 H1=>bL i1 b σ1 H1 λσ2 H2=>bL i2 d σ2 H2 R):yX K n (iw (bL i0) (iw (bL i1) (iw (bL i2) Br))) (.ref l) σ H R:=by
 subst hn;exact⟨l,_,rfl,hp,rfl,_,_,rfl,_,_,rfl,_,_,rfl,rfl,h⟩
instance aaF{n i0 i1 i2:Nat}{a b d:V}[h:SqB K H l [a,b,d]]:Go (yX K n (iw (bL i0) (iw (bL i1) (iw (bL i2) Br))) (.ref l) σ H R) (Sd (n=3) (bL i0 a σ H λσ1 H1=>bL i1 b σ1 H1 λσ2 H2=>bL i2 d σ2 H2 R)):=⟨λs=>V8 s.1 h.e s.2⟩
end
end L2
namespace L2
open PySem PySem.W PySem.Spec PyProof.Rows
section
variable{CX:CXT}{P:Program}{w:World}{K:W.Frag}{mg:xC}{base:Heap}{k:Nat}{x:Str}{ps:List Str}{sp:Sp}{ds:xF}
structure Y6(P:Program)(w:World)(K:W.Frag)(mg:xC)(base:Heap)(CX:CXT)(k:Nat)(x:Str)(ps:List Str)(sp:Sp)(ds:xF):Prop where
 ex:∃(f:Addr)(fd:FuncData),gq P w K mg base CX k f fd ps sp/\mg x=some (.ref f)/\W.keepIn K (.ref f)=true/\Binds K fd ps []/\Binds K fd ps ds
theorem Y6.all(D:Y6 P w K mg base CX k x ps sp ds):Def P w K mg base CX k x ps sp :=
 let ⟨f,fd,F,a,b,c,_⟩:=D.ex
 ⟨f,fd,F,a,b,c⟩
end
end L2
namespace L2
open PySem PySem.Spec PyProof.Rows PySem.SeqAt
section
variable{H:Hp}{Q:VK}{p:Addr}
instance aaG:Go (Vx (.ref p) .non H Q) (Q (.bl false) H):=⟨λk=>⟨rfl,k⟩⟩
instance aaH:Go (Vx .non .non H Q) (Q (.bl true) H):=⟨λk=>⟨rfl,k⟩⟩
end
end L2
namespace L2
open PySem PySem.W PySem.Calls PySem.Spec PyProof.Rows
end L2
namespace L2
open PySem PySem.Spec PyProof.Rows PySem.SeqAt
section
variable{X:Cx}{k m:Nat}{nm:Str}{ps:List Str}{sp:Sp}{pos apos:Pos}{e o:Expr}{es:List Expr}{t:TA}{ta:TE}{C:Addr}{pins:List (Addr×Obj)}{EX:St->XK}
theorem z8{pl:Sem Bool}(he:PE (X.tr pins EX) o ta)(c:Cls X.K C)(D:Met X.prog X.w X.K X.mg X.base (CX1 X.prog X.w) k C nm ps sp)(hr:Room m X.A)(ha:PA (X.tr pins EX) (e::es) t)(hk:k<=m:=by decide)
  (h1:starEach (e::es) X.env=(false,eval e X.env)::starEach es X.env:=by rfl) (h2:(backTo pos (starEach es X.env)).any (·.1)=false:=by rfl)
  (h3:eval (.Call (.Attribute o nm apos) (e::es) [] pos) X.env=(do
   let v <- eval o X.env
   standAt apos.atName
   let (g,ahead) <- holding [v] (getMethod v nm pl)
   callWith pos g ahead (backTo pos (starEach (e::es) X.env)) (backToKw pos (keywordEach [] X.env))):=by rfl) :
  PE (X.tr pins EX) (.Call (.Attribute o nm apos) (e::es) [] pos) (Ge C nm EX sp ta t):=by
 obtain⟨f,fd,F,mt,b⟩:=D.ex;exact Nq (pl:=pl) he c mt F hr b ha hk h1 h2 h3
end
theorem Oj{CX:CXT}{P:Program}{w:World}{K:W.Frag}{mg:xC}{base:Heap}{N:List Str}{qual:Str}{scope:Scope}{f:Addr}{cd:Value}{A:Around}{outer:List Env}{s:Shared}{H:Hp}{E:XK}:(j8 CX P w K mg base N qual scope f cd A outer s H E).s₀=s:=rfl
def tEX(th:THd)(D:Ends):St->XK:=λσ cv dx H=>∃C,cv=.ref C/\∀a,H a=none->th D C a dx σ (upd H a (wK a C dx))
class ExA(H:Hp)(a:Addr)(C:outParam Addr)(fs:outParam (List (Str×V))):Prop where
 e:oJ H a C fs
class ExM(K:W.Frag)(C d:Addr)(b:outParam Bool):Prop where
 e:W.exmOne K (.ref C) (.ref d)=some b
def Ir(n:Nat)(C:Addr)(H0:Hp)(E:XK)(f g:Str)(vs:List V)(H1:Hp):Prop:=∃v y,vs=[v,y]/\∀z H',n<=z->H1 z=none->Same H1 H'->ExcAt H' z C (fQ g y [(f,v)])->∃a dx,V.ref z=.ref a/\n<=a/\H0 a=none/\H' a=some (j9 a C dx)/\E (.ref C) dx (del H' a)
section
variable{K:W.Frag}{H H0:Hp}{Q:VK}{σ:St}{D:Ends}{th rest:THd}{tbE:(St->XK)->TS}{t:TA}{ta:TE}{sp:Sp}{EX:St->XK}{E:XK}{C d a:Addr}{dx:xN}{fs:List (Str×V)}{f g m:Str}{v y:V}{n:Nat}{ts:Addr->TS}
instance aaI:Go (Ym (λ_ EX=>tbE EX) th D σ H) (tbE (tEX th D) D σ H):=⟨λh _=>h⟩
instance Xk:Go (Ge C m EX sp ta t σ H Q) (ta σ H λx H1=>∃a dx fs,x=.ref a/\H1 a=some (.ins C dx fs)/\fs.lookup m=none/\t σ H1 λvs H2=>sp (x::vs) H2 Q (EX σ)):=⟨id⟩
instance V9:Go (MP C H0 n E (TX n C f g t) D σ H) (t σ H λvs H1=>Ir n C H0 E f g vs H1):=⟨λh=>h⟩
instance aaJ:Go (TY C ta f σ H Q) (ta σ H λx H1=>∃a fs v,x=.ref a/\oJ H1 a C fs/\fs.lookup f=some v/\Q v H1):=⟨id⟩
instance aaK[h:ExA H a C fs][e:FLk fs f v]{R:V->Prop}:Go (∃a' fs' v',V.ref a=.ref a'/\oJ H a' C fs'/\fs'.lookup f=some v'/\R v') (R v):=⟨λk=>⟨a,fs,v,rfl,h.e,e.e,k⟩⟩
instance acQ{r:List (Str×V)}:FLk ((f,v)::r) f v:=⟨by simp[List.lookup]⟩
class NeS(f g:Str):Prop where
 e:f≠g
instance acR{r:List (Str×V)}[n:NeS f g]:FLk ((g,y)::(f,v)::r) f v:=⟨by
 rw[List.lookup_cons,show (f==g)=false from beq_eq_false_iff_ne.mpr n.e];simp[List.lookup]⟩
instance aaL{o0 o1 o2 o:Option V}{r:St}[e:ExM K C d true]:Go (hAs K d 3 ts rest D C a dx (o0::o1::o2::o::r) H) (ts a (D.forget 3) (o0::o1::o2::some (.ref a)::r) H):=⟨λh=>J6 e.e h⟩
instance aaM{o0 o1 o2 o:Option V}{r:St}:Go (Ends.nx (Ends.forget D 3) (o0::o1::o2::o::r) H) (Ends.nx D (o0::o1::o2::none::r) H):=⟨λh=>h⟩
end
end L2
namespace L2
open PySem PySem.W PySem.Spec PyProof.Rows
theorem len2{α:Type}:∀{l:List α},l.length=2->∃a b,l=[a,b]
 | [a,b],_=>⟨a,b,rfl⟩
def Ud(K:W.Frag)(nm qual:Str)(st:Stmt)(ds:xF)(f:Addr):Prop :=
 ∃(d:Addr) (oc:Value) (od:xN) (kV doc pm:Value) (an:xN) (cdv ct:Value) (osl:Array (Option Value)) (o:Obj) (n:Nat),
  K.lookup f=some ⟨oc,od,.func (W.fnOf nm qual (cW st) (cu st) (aF st) (.ref d) kV doc pm an cdv ct),osl⟩/\W.codeIn K cdv qual=true/\K.lookup d=some o/\o.data=.seq ds.toArray n
def xQ(us ws:xF):List Value:=if ws.length=2 then us++[ws.getD 1 .none,ws.getD 0 .none] else []
def Ol(vs zs:List V):List V:=if zs.length=2 then vs++[zs.getD 1 .non,zs.getD 0 .non] else []
structure V_(P:Program)(w:World)(K:W.Frag)(mg:xC)(base:Heap)(CX:CXT)(k:Nat)(x:Str)(C:Addr)(ps:List Str)(sp:Sp)(ds:xF)(ks:List Str):Prop where
 ex:∃(f:Addr)(fd:FuncData),gq P w K mg base CX k f fd ps sp/\Mk K C f/\mg x=some (.ref C)/\Binds K fd ps []/\Binds K fd ps ds/\Va K fd ps ks xQ Ol
section
variable{CX:CXT}{P:Program}{w:World}{K:W.Frag}{mg:xC}{base:Heap}{k:Nat}{x nm qual:Str}{ps ks:List Str}{sp:Sp}{ds:xF}{C:Addr}
theorem Ko{st:Stmt}{N:List Str}{f:Addr}(h:Ud K nm qual st ds f)(S:aK N ps (aF st))(hm:Mk K C f)(hg:mg x=some (.ref C))(len:∀vs H Q E,sp vs H Q E->vs.length=ps.length)
  (hb:∀(d:Addr)(kV doc pm:Value)(an:xN)(cdv ct:Value)(us:xF),us.length=ps.length->∃c:Option (Array Value)->Sem (List (Str×Value)),bindArgs (W.fnOf nm qual (cW st) (cu st) (aF st) (.ref d) kV doc pm an cdv ct) ⟨us,[]⟩=seqItems? (.ref d) >>= c/\c (some ds.toArray)=pure (ps.zip us))
  (hd:∀(d:Addr)(kV doc pm:Value)(an:xN)(cdv ct:Value)(us:xF),(us++ds).length=ps.length->∃c:Option (Array Value)->Sem (List (Str×Value)),bindArgs (W.fnOf nm qual (cW st) (cu st) (aF st) (.ref d) kV doc pm an cdv ct) ⟨us,[]⟩=seqItems? (.ref d) >>= c/\c (some ds.toArray)=pure (ps.zip (us++ds)))
  (hk:∀(d:Addr)(kV doc pm:Value)(an:xN)(cdv ct:Value)(us ws:xF),(xQ us ws).length=ps.length->∃c:Option (Array Value)->Sem (List (Str×Value)),bindArgs (W.fnOf nm qual (cW st) (cu st) (aF st) (.ref d) kV doc pm an cdv ct) ⟨us,ks.zip ws⟩=seqItems? (.ref d) >>= c/\c (some ds.toArray)=pure (ps.zip (xQ us ws)))
  (hbody:∀(f:Addr)(cdv:Value)(A:Around)(outer:List Env)(s:Shared)(H:Hp)(vs:List V)(Q:VK)(E:XK),Room k (A.deeper (envOfC qual (aF st) s.heap.objs.size f cdv))->sp vs H Q E ->
   ∃t,PSs (j8 CX P w K mg base N qual (aF st) f cdv A outer s H E).nox (cu st) t/\t { nx:=λ_ H'=>Q .non H',rt:=Q } (start N vs) H):V_ P w K mg base CX (k+1) x C ps sp ds ks:=by
 obtain⟨d,oc,od,kV,doc,pm,an,cdv,ct,osl,o,n,lk,hcd,ld,hdt⟩:=h;refine⟨f,W.fnOf nm qual (cW st) (cu st) (aF st) (.ref d) kV doc pm an cdv ct,?_,hm,hg,λs us kin hl=>?_,λs us kin hl=>?_,⟨λs us ws kin hl=>?_,λ{vs us zs ws} r rz=>?_⟩⟩
 ·refine t_ lk hcd S len λA outer s H vs Q E hr hsp=>?_
  obtain⟨t,h,q⟩:=hbody f cdv A outer s H vs Q E hr hsp;exact⟨t,h.nox,q⟩
 ·rw[mP] at hl ⊢;obtain⟨c,h1,h2⟩:=hb d kV doc pm an cdv ct us hl;exact BindsTo.of_defaults rfl (kin _ _ ld) hdt h1 h2
 ·obtain⟨c,h1,h2⟩:=hd d kV doc pm an cdv ct us hl;exact BindsTo.of_defaults rfl (kin _ _ ld) hdt h1 h2
 ·obtain⟨c,h1,h2⟩:=hk d kV doc pm an cdv ct us ws hl;exact BindsTo.of_defaults rfl (kin _ _ ld) hdt h1 h2
 ·unfold xQ Ol;rw[rz.length];rcases rz with _|⟨r1,_|⟨r2,_|⟨r3,r4⟩⟩⟩
  ·exact .nil
  ·exact .nil
  ·exact r.append (.cons r2 (.cons r1 .nil))
  ·rename_i l1 l2;have e:¬ (l2.length+1+1+1=2):=by lia
   simp only[List.length_cons];rw[yT e,yT e];exact .nil
end
section
variable{X:Cx}{CX:CXT}{k m:Nat}{x:Str}{ps ks:List Str}{sp:Sp}{E:XK}{p pos:Pos}{e:Expr}{es:List Expr}{t:TA}{C:Addr}{dv:Value}
theorem Sq(D:V_ X.prog X.w X.K X.mg X.base CX k x C ps sp [dv] ks)(hr:Room m X.A)(ha:PA X (e::es) t)(hk:k+1<=m:=by decide)(hx:Passes CX X E:=by exact uf)(hg:Gl X x:=by rfl)
  (hdb:(x==("__debug__" : Str))=false:=by decide) (h1:starEach (e::es) X.env=(false,eval e X.env)::starEach es X.env:=by rfl) (h2:(backTo pos (starEach es X.env)).any (·.1)=false:=by rfl) :
  PE X (.Call (.Name x p) (e::es) [] pos) (zW C sp E t):=by
 obtain⟨f,fd,F,M,g,b,_,_⟩:=D.ex;exact mC ⟨f,fd,F,M,g,b⟩ hr ha hk hx hg hdb h1 h2
end
end L2
namespace L2
open PySem PySem.Spec PyProof.Rows
end L2
namespace L2
open PySem PySem.W PySem.Calls PySem.Spec PyProof.Rows
def jf(news:List (Addr×Obj))(v:Value)(w:Nat×Nat):Prop:=∃(a:Addr)(o:Obj)(xs:xL)(n:Nat)(t u:Tok),v=.ref a/\(a,o)∈news/\o.cls=.type "tuple" /\ o.data=.seq xs n/\xs.toList=[.int (w.1:Nat) t,.int (w.2:Nat) u]
theorem sU{news:List (Addr×Obj)}{h:Heap}(hh:∀p∈news,h.get? p.1=some p.2):∀{vs:xF} {ks:xD},F2 (jf news) vs ks->∃fs:List Value,KatTups h vs fs/\fs.length=vs.length/\∀v∈fs,∃z t,v=.int z t
 | [],[],_=>⟨[],trivial,rfl,λv hv=>nomatch hv⟩
 | v::vs,c::ks,.cons hv ht=>by
  obtain⟨a,o,xs,n,t,u,rfl,hm,hc,hd,hx⟩:=hv;obtain⟨fs,k,hl,hs⟩:=sU hh ht;have e0:xs[0]?=some (.int (c.1:Nat) t):=by
   rw[<- Array.getElem?_toList,hx]
   rfl
  refine⟨.int (c.1:Nat) t::fs,KatTups.cons (hh _ hm) hc hd e0 k,by simp[hl],λv hv=>?_⟩;rcases jI.mp hv with rfl|hv
  ·exact⟨_,t,rfl⟩
  ·exact hs v hv
theorem oU{news:List (Addr×Obj)}:∀{vs:xF} {ks:xD},F2 (jf news) vs ks->∀{i:Nat},i<vs.length->jf news (vs.getD i .none) (ks.getD i (0,0))
 | _::_,_::_,.cons hv _,0,_=>hv
 | _::vs,_::ks,.cons _ ht,i+1,h=>by
  have:=oU ht (i:=i) (by simpa using h);simpa using this
def rkP(w:Nat×Nat):Int:=(w.1:Int)*1000000+(w.2:Int)
theorem z9{a b:Nat×Nat}(ha:a.2<1000000)(hb:b.2<1000000):rkP a<rkP b ↔ a.1<b.1\/(a.1=b.1/\a.2<b.2):=by
 unfold rkP
 constructor
 ·intro h;by_cases h1:a.1<b.1
  ·exact .inl h1
  ·right
   lia
 ·rintro (h|⟨h,h2⟩) <;> lia
theorem Aa{a b:Nat×Nat}(ha:a.2<1000000)(hb:b.2<1000000)(h:rkP a=rkP b):a=b:=by
 unfold rkP at h;have h1:a.1=b.1:=by lia
 exact Prod.ext h1 (by lia)
theorem getD_mem{α:Type}{l:List α}{i:Nat}{d:α}(h:i<l.length):l.getD i d∈l:=by
 rw[oS,qE h];exact List.getElem_mem h
theorem getD_get{α:Type}{l:List α}{i:Nat}{d:α}(h:i<l.length):l.getD i d=l[i]:=by
 rw[oS,qE h]
 rfl
theorem fO{α:Type}{l:List α}{d:α}:(List.range l.length).map (λi=>l.getD i d)=l:=by
 apply List.ext_getElem?
 intro i;rw[vE];by_cases hi:i<l.length
 ·rw[List.getElem?_range hi,Option.map_some,oS,qE hi]
  rfl
 ·rw[List.getElem?_eq_none (show l.length<=i by lia),List.getElem?_eq_none (by simp;lia)]
  rfl
section
variable{prog:Program}{w:World}{A:Around}{E:xB}{s:Shared}{h₀:Heap}{L:Addr}{m:xC}{news:List (Addr×Obj)}{vs:xF}
theorem Ab{l:Addr}{ks:xD}{Q:xB}(F:Fr h₀ L s.heap m)(N:News h₀ L s.heap news)(hl:s.heap.IsList l vs.toArray)(h64:vs.length<64)(tp:F2 (jf news) vs ks)(nd:ks.Nodup)(sm:∀w∈ks,w.2<1000000)
  (k:∀D (p:List Nat) c h',Fr h₀ L h' m->News h₀ L h' ((D,seqObj "list" (p.map (λi=>vs.getD i Value.none)).toArray c)::news)->(∀q∈news,q.1<D)->p.Perm (List.range vs.length)->(p.Pairwise λi j=>rkP (ks.getD i (0,0))<rkP (ks.getD j (0,0)))->Q (.ref D) { s with heap:=h' }) :
  wpAny (model prog w) A (call (.builtin "sorted") [.ref l]) Q E s:=by
 have hlen:ks.length=vs.length:=tp.length_eq.symm;by_cases h2:vs.length<2
 ·refine GC F N hl h2 λD c h' F' N' lt=>k D (List.range vs.length) c h' F' (by rw[fO];exact N') lt (List.Perm.refl _) ?_
  rw[List.pairwise_iff_getElem];intro i j hi hj hij;rw[List.length_range] at hi hj
  lia
 have h2:2<=vs.length:=by lia
 refine kat_sorted F N hl h2 h64 λD e1 h' F' N' lt=>?_
 have hh:∀p∈news,h'.get? p.1=some p.2:=λp hp=>(N' p (zD _ hp)).1
 obtain⟨fs,kt,fl,Om⟩:=sU hh tp;refine kat_kind (s:={ s with heap:=h' }) (T:=.type "int") kt (by lia) (λv hv=>?_) rfl ?_
 ·obtain⟨z,t,rfl⟩:=Om v hv;exact Looks.of_pure rfl
 ·refine Od (n:=vs.length) (rk:=λi=>rkP (ks.getD i (0,0))) (P:=λp=>Pp vs.length p/\UpK (λi=>rkP (ks.getD i (0,0))) p vs.length) (λi j C hi hj hij hC=>?_) (λp hp=>?_) _ (Il (by lia) λp a b=>⟨a,b⟩)
  ·unfold kas_ask;obtain⟨a,o,xs,n,t,u,ev,hm,hc,hd,hx⟩:=oU tp hi;obtain⟨a',o',xs',n',t',u',ev',hm',hc',hd',hx'⟩:=oU tp hj;have mi:ks.getD i (0,0)∈ks:=getD_mem (by lia);have mj:ks.getD j (0,0)∈ks:=getD_mem (by lia);have ne:ks.getD i (0,0)≠ks.getD j (0,0):=λz=>by
    rw[getD_get (show i<ks.length by lia),getD_get (show j<ks.length by lia)] at z;exact hij ((List.getElem_inj nd).mp z)
   have hr:=z9 (sm _ mi) (sm _ mj);rw[ev,ev'];refine kat_lt (s:={ s with heap:=h' }) (hh _ hm) hd (hh _ hm') hd' ?_
   rw[hx,hx'];refine kat_cons (wpAny_eqBool_int ?_);by_cases e1:(ks.getD i (0,0)).1=(ks.getD j (0,0)).1
   ·have e2:(ks.getD i (0,0)).2≠(ks.getD j (0,0)).2:=λz=>ne (Prod.ext e1 z)
    rw[show ((((ks.getD i (0,0)).1:Nat):Int)==(((ks.getD j (0,0)).1:Nat):Int))=true by rw[e1];simp];refine kat_yes (kat_cons (wpAny_eqBool_int ?_));rw[show ((((ks.getD i (0,0)).2:Nat):Int)==(((ks.getD j (0,0)).2:Nat):Int))=false by rw[beq_eq_false_iff_ne];lia];refine kat_no (kat_one _ _ (lt_int ?_));show C _ _;rw[show decide ((((ks.getD i (0,0)).2:Nat):Int)<(((ks.getD j (0,0)).2:Nat):Int))=decide (rkP (ks.getD i (0,0))<rkP (ks.getD j (0,0))) from decide_eq_decide.mpr (by rw[hr];lia)];exact hC
   ·rw[show ((((ks.getD i (0,0)).1:Nat):Int)==(((ks.getD j (0,0)).1:Nat):Int))=false by rw[beq_eq_false_iff_ne];lia];refine kat_no (oneLt_int ?_);rw[show decide ((((ks.getD i (0,0)).1:Nat):Int)<(((ks.getD j (0,0)).1:Nat):Int))=decide (rkP (ks.getD i (0,0))<rkP (ks.getD j (0,0))) from decide_eq_decide.mpr (by rw[hr];lia)];exact hC
  ·refine KasFin.intro (s:={ s with heap:=h' }) F' N' (UpdF.head λq hq=>qV (lt q hq)) λh2 c F2 N2=>?_
   have pp:p.toList.Perm (List.range vs.length):=by simpa using Array.perm_iff_toList_perm.mp hp.1
   refine k D p.toList c h2 F2 N2 lt pp ?_;have hs:=hp.1.size;have g:∀q (hq:q<p.toList.length),p.toList[q]=p.getD q 0:=λq hq=>by
    rw[Array.getD_eq_getD_getElem?,Array.getElem?_eq_getElem (by simpa using hq)]
    rfl
   rw[List.pairwise_iff_getElem];intro i j hi hj hij;have hi':i<vs.length:=by simpa[hs] using hi
   have hj':j<vs.length:=by simpa[hs] using hj
   have u:rkP (ks.getD (p.getD i 0) (0,0))<=rkP (ks.getD (p.getD j 0) (0,0)):=hp.2 i j (by lia) hj';have li:=hp.1.lt hi';have lj:=hp.1.lt hj';have ndp:p.toList.Nodup:=pp.nodup_iff.mpr List.nodup_range;rw[g i hi,g j hj];have ne:ks.getD (p.getD i 0) (0,0)≠ks.getD (p.getD j 0) (0,0):=λz=>by
    rw[getD_get (show p.getD i 0<ks.length by lia),getD_get (show p.getD j 0<ks.length by lia)] at z;have z:=(List.getElem_inj nd).mp z;rw[<- g i hi,<- g j hj] at z;have:=(List.getElem_inj ndp).mp z
    lia
   have ne2:rkP (ks.getD (p.getD i 0) (0,0))≠rkP (ks.getD (p.getD j 0) (0,0)):=λz=>ne (Aa (sm _ (getD_mem (by lia))) (sm _ (getD_mem (by lia))) z)
   lia
end
def Oo(ws:xD):Prop:=ws.Pairwise λa b=>rkP a<rkP b
end L2
namespace L2
open PySem PySem.Spec PyProof.Rows PySem.SeqAt
theorem eX.kept{K:W.Frag}{H H':Hp}{v:V}{t:Value}(h:eX K H v t)(k:∀a u,v=.ref a->H a=some u->H' a=some u):eX K H' v t:=by
 cases h with
 | non=>exact .non
 | bl b=>exact .bl b
 | int i=>exact .int i
 | str x=>exact .str x
 | flt x=>exact .flt x
 | lst e=>exact .lst (k _ _ rfl e)
 | frz e=>exact .frz (k _ _ rfl e)
 | tup e=>exact .tup (k _ _ rfl e)
 | dK e=>exact .dK (k _ _ rfl e)
 | dT e=>exact .dT (k _ _ rfl e)
 | ins e a b c d f=>exact .ins (k _ _ rfl e) a b c d f
def Y7(x y:V)(b:Bool):Prop:=(x=y/\idV x=true/\b=true)\/∃s t,x=.str s/\y=.str t/\b=(s==t)
theorem Y7.at{A:Around}{s:Shared}{x y:V}{u v:Value}{b:Bool}(h:Y7 x y b)(ru:RelV x u)(rv:RelV y v):EqAt A s u v b:=by
 rcases h with⟨rfl,hi,rfl⟩|⟨p,q,rfl,rfl,rfl⟩
 ·exact J_ hi ru rv
 ·obtain⟨t,rfl⟩:=ru;obtain⟨t',rfl⟩:=rv;exact EqAt.str_str (A:=A) (s:=s) p t q t'
end L2
namespace L2
open PySem PySem.W PySem.Spec PyProof.Rows PySem.SeqAt
theorem SH.over{H0 H H':Hp}{M M2:List Addr}{A R L2:List (Addr×HO)}{I I2:List Im}(F:SH H0 M H (A++R) I)(G:SH H M2 H' L2 I2)(e:A.map (·.1)=M2):SH H0 M H' (L2++R) (I2++I):=by
 have nd:=F.nd;rw[List.map_append,e] at nd;obtain⟨nd1,nd2,nd3⟩:=List.nodup_append.mp nd;have inA:∀{b},b∈M2->∃c∈A,c.1=b:=λh=>by rw[<- e] at h;exact jS.mp h
 have st:Tst H H':=λq u tu hq=>by
  refine G.fr q u (λhm=>?_) hq;obtain⟨c,hc,rfl⟩:=inA hm;have h1:=F.at' c (mN _ hc);have h2:=F.mu c (mN _ hc);rw[hq] at h1;cases h1;rw[h2] at tu;cases tu
 have rn:∀{c},c∈R->c.1 ∉ M2:=λhc hm=>nd3 _ hm _ (jS.mpr ⟨_,hc,rfl⟩) rfl
 refine⟨λb u nb e0=>?_,λf hf=>?_,λc hc=>?_,?_,λc hc=>?_,λc hc=>?_⟩
 ·refine G.fr b u (λhm=>?_) (F.fr b u nb e0);obtain⟨c,hc,rfl⟩:=inA hm;rcases F.ch c (mN _ hc) with h|h
  ·exact nb h
  ·exact h _ u e0 rfl
 ·rcases wT.mp hf with hf|hf
  ·exact G.im f hf
  ·exact Im.stay st (F.im f hf)
 ·rcases wT.mp hc with hc|hc
  ·exact G.at' c hc
  ·exact G.fr _ _ (rn hc) (F.at' c (rV _ hc))
 ·rw[List.map_append];refine List.nodup_append.mpr ⟨G.nd,nd2,λa ha b hb=>?_⟩;obtain⟨c,hc,rfl⟩:=jS.mp ha;obtain⟨d,hd,rfl⟩:=jS.mp hb;rcases G.ch c hc with h|h
  ·exact λz=>rn hd (z▸h)
  ·exact λz=>h d.1 _ (F.at' d (rV _ hd)) z.symm
 ·rcases wT.mp hc with hc|hc
  ·exact G.mu c hc
  ·exact F.mu c (rV _ hc)
 ·rcases wT.mp hc with hc|hc
  ·rcases G.ch c hc with h|h
   ·obtain⟨d,hd,ed⟩:=inA h;rw[<- ed];exact F.ch d (mN _ hd)
   ·by_cases hm:c.1∈M
    ·exact .inl hm
    ·exact .inr λb u e0 z=>h b u (F.fr b u (by rw[z];exact hm) e0) z
  ·exact F.ch c (rV _ hc)
inductive qL(H:Hp):V->Prop
 | flt {v:V} (h:v=.non\/(∃b,v=.bl b)\/(∃i,v=.int i)\/∃z,v=.str z):qL H v
 | lst {q:Addr} {xs:List V} (e:H q=some (.lst xs)):qL H (.ref q)
 | tup {q:Addr} {xs:List V} (e:H q=some (.tup xs)):qL H (.ref q)
theorem qL.kept{H H':Hp}{v:V}(h:qL H v)(k:∀a u,v=.ref a->H a=some u->H' a=some u):qL H' v:=by
 cases h with
 | flt h=>exact .flt h
 | lst e=>exact .lst (k _ _ rfl e)
 | tup e=>exact .tup (k _ _ rfl e)
theorem qL.same{H H':Hp}{v:V}(h:qL H v)(s:Same H H'):qL H' v:=h.kept λa u _ e=>s a u e
theorem qL.ty{H:Hp}{v:V}(h:qL H v)(K:W.Frag):∃n,eX K H v (.type n):=by
 cases h with
 | flt h =>
  rcases h with rfl|⟨b,rfl⟩|⟨i,rfl⟩|⟨z,rfl⟩
  ·exact⟨_,.non⟩
  ·exact⟨_,.bl b⟩
  ·exact⟨_,.int i⟩
  ·exact⟨_,.str z⟩
 | lst e=>exact⟨_,.lst e⟩
 | tup e=>exact⟨_,.tup e⟩
theorem qL.id{H:Hp}{v:V}(h:qL H v):idV v=true:=by
 cases h with
 | flt h=>rcases h with rfl|⟨b,rfl⟩|⟨i,rfl⟩|⟨z,rfl⟩ <;> rfl
 | lst e=>rfl
 | tup e=>rfl
end L2
namespace L2
open PySem PySem.W PySem.Calls PySem.Spec PyProof.Rows
abbrev swBody(x:Str)(p1 p2 p3 p4 p5 p6 p7:Pos)(j j2 j3:Nat):Expr:=.Tuple [.Subscript (.Name x p1) (.Constant (.int 1) j p2) p3,.Subscript (.Name x p4) (.Constant (.int 0) j2 p5) p6] j3 p7
theorem Wa{prog:Program}{w:World}{A:Around}{s:Shared}{f q c':Addr}{x qual:Str}{params:Arguments}{scope:Scope}{pm ctv u u0:Value}{p1 p2 p3 p4 p5 p6 p7:Pos}{j j2 j3:Nat}{its:xF}{Q:xB}{E:xB}
  (hroom:A.depth<recursionLimit) (ho:s.heap.get? f=some (W.kla_obj "<lambda>" qual params (swBody x p1 p2 p3 p4 p5 p6 p7 j j2 j3) scope [] pm c' ctv)) (hcd:s.heap.CodeRec (.ref c') qual) (hlim:s.heap.NoLimit) (S:oO x scope)
  (hbind:bindArgs (W.kla_fn "<lambda>" qual params (swBody x p1 p2 p3 p4 p5 p6 p7 j j2 j3) scope [] pm (.ref c') ctv) ⟨[.ref q],[]⟩=pure [(x,.ref q)])
  (ht:IsTup s.heap q its.toArray) (hi:its[1]?=some u) (hi0:its[0]?=some u0) (h:∀h' tk a,(∀b o,s.heap.get? b=some o->h'.get? b=some o)->s.heap.get? a=none->h'.get? a=some (seqObj "tuple" #[u,u0] 0)->Q (.ref a) { s with heap:=h',toks:=tk }):wpAny (model prog w) A (call (.ref f) [.ref q]) Q E s:=by
 refine wpAny_call ?_;refine W.kla_callFunE hroom ho rfl S.co S.gen rfl hcd ?_;rw[hbind];refine rX ?_;refine wpAny_newFunctionEnv S.V5 (λy hy=>?_) (λh1 hns hsb=>?_) S.kind
 ·rw[rS.mp hy];exact S.loc
 ·have hk1:∀b o,s.heap.get? b=some o->h1.get? b=some o:=λb o e=>hsb.extBut b o (qV (uB e)) (uC _ e)
  have ht1:IsTup h1 q its.toArray:=by
   obtain⟨o,e,r⟩:=ht;exact⟨o,hk1 _ _ e,r⟩
  have hlen:1<its.length:=(qB.mp hi).1;have hsz:s.heap.objs.size<=h1.objs.size:=by
   rw[hsb.1];rw[size_push']
   lia
  refine⟨hlim.keeps hk1,W.kla_codeExpr ?_⟩;refine Tuple_ (spliced_more ?_);refine Subscript_ (wpAny_Name (wpAny_loadName_local S.kind S.loc hns (v:=.ref q) (by simp) ?_) S.Ub);refine wpAny_Constant_int ?_;refine subscriptTail_builtinR (x:=u) (IsTup.typeIs ht1) slot_tuple_getitem.lookup (getItem_tuple (j:=1) ht1 (by decide) (by decide) ?_ (by simpa using hi) ⟨rfl,?_⟩) ?_
  ·rw[nX];unfold seqIndex?;simp
   lia
  ·refine spliced_more ?_;refine Subscript_ (wpAny_Name (wpAny_loadName_local S.kind S.loc hns (v:=.ref q) (by simp) ?_) S.Ub);refine wpAny_Constant_int ?_;refine subscriptTail_builtinR (x:=u0) (IsTup.typeIs ht1) slot_tuple_getitem.lookup (getItem_tuple (j:=0) ht1 (by decide) (by decide) ?_ (by simpa using hi0) ⟨rfl,?_⟩) ?_
   ·have l0:(0:Int)<(its.length:Int):=by lia
    rw[nX];unfold seqIndex?;simp;intro z;rw[z] at hlen;simp at hlen
   ·refine spliced_none (wpAny_newTuple ?_ (by show 2<=sizeLine;decide));exact h _ _ _ (λb o e=>uC _ (hk1 b o e)) (Heap.get?_none_of_le hsz) (oQ _ rfl)
   ·rfl
  ·rfl
def jU(H:Hp)(f:Addr):Prop:=∃(qual x:Str)(params:Arguments)(p1 p2 p3 p4 p5 p6 p7:Pos)(j j2 j3:Nat)(scope:Scope)(pm ctv:Value)(c':Addr)(oc:Obj)(vs:xL)(t:Tok),
 H f=some (.frz (W.kla_obj "<lambda>" qual params (swBody x p1 p2 p3 p4 p5 p6 p7 j j2 j3) scope [] pm c' ctv) (.own f))/\H c'=some (.frz oc (.own c'))/\oc.data=.fields vs/\vs[1]?=some (.str qual t)/\oO x scope /\
 ∀q:Addr,bindArgs (W.kla_fn "<lambda>" qual params (swBody x p1 p2 p3 p4 p5 p6 p7 j j2 j3) scope [] pm (.ref c') ctv) ⟨[.ref q],[]⟩=pure [(x,.ref q)]
section
variable{prog:Program}{w:World}{A:Around}{s:Shared}{h₀:Heap}{L l D kS:Addr}{m:xC}{news:List (Addr×Obj)}{f:Value}
def oV(prog:Program)(w:World)(A:Around)(news:List (Addr×Obj))(f:Value)(v:Value)(k:Nat×Nat)(s:Shared):Prop :=
 ∀(h:Heap)(tk:Nat),(∀p∈news,h.get? p.1=some p.2)->wpAny (model prog w) A (call f [v]) (λu s'=>∃(a:Addr)(h':Heap)(tk':Nat)(t1 t2:Tok),u=.ref a/\s'={ s with heap:=h',toks:=tk' }/\(∀b o,h.get? b=some o->h'.get? b=some o)/\h.get? a=none/\h'.get? a=some (seqObj "tuple" #[.int (k.1:Nat) t1,.int (k.2:Nat) t2] 0)) (λ_ _=>False) { s with heap:=h,toks:=tk }
theorem Iu{α β:Type}{R:α->β->Prop}{b:β}{a:α}:∀{l:List α} {m:List β},F2 R l m->R a b->F2 R (l++[a]) (m++[b])
 | _,_,.nil,h=>.cons h .nil
 | _,_,.cons r t,h=>.cons r (Iu t h)
theorem Iv{α β:Type}{R R':α->β->Prop}(g:∀a b,R a b->R' a b):∀{l:List α} {m:List β},F2 R l m->F2 R' l m
 | _,_,.nil=>.nil
 | _,_,.cons r t=>.cons (g _ _ r) (Iv g t)
theorem sV{KS:xD}{e1:Nat}{Fin:List Value->Nat->Shared->Prop}(nD:D≠kS)(nN:∀p∈news,p.1≠kS)
  (fin:∀(own:List (Addr×Obj)) (us:xF) (ks:xD) (e:Nat) (h:Heap) (tk:Nat),Fr h₀ L h m->News h₀ L h ((kS,seqObj "list" us.toArray e)::(D,seqObj "list" #[] e1)::(own++news))->(∀p∈own,p.1≠kS)->(∀p∈own,p.1≠D)->F2 (jf own) us ks->ks=KS->Fin us e { s with heap:=h,toks:=tk }) :
  ∀(r:xF) (kr:xD) (own:List (Addr×Obj)) (us:xF) (kd:xD) (e:Nat) (h:Heap) (tk:Nat),F2 (λv k=>oV prog w A news f v k s) r kr->kd++kr=KS->Fr h₀ L h m->News h₀ L h ((kS,seqObj "list" us.toArray e)::(D,seqObj "list" #[] e1)::(own++news))->(∀p∈own,p.1≠kS)->(∀p∈own,p.1≠D)->F2 (jf own) us kd ->
   KatKeys prog w A h₀ L m kS f Fin r us e { s with heap:=h,toks:=tk }
 | [],kr,own,us,kd,e,h,tk,t,ek,F,N,n1,n2,g=>by
  cases t;exact KatKeys.nil (fin own us kd e h tk F N n1 n2 g (by simpa using ek))
 | v::r,kr,own,us,kd,e,h,tk,t,ek,F,N,n1,n2,g=>by
  rcases t with _|⟨tv,tr⟩;rename_i k kr;have hh:∀p∈news,h.get? p.1=some p.2:=λp hp=>(N p (zD _ (zD _ (rV _ hp)))).1
  refine KatKeys.cons (mM (tv h tk hh) (λu s' hu=>?_) λ_ _ x=>x);obtain⟨a,h',tk',t1,t2,rfl,rfl,kp,ha,ho⟩:=hu;have F':Fr h₀ L h' m:=⟨F.ns.keeps kp,λb o e=>kp b o (F.keep b o e),F.above⟩;have old:∀{b:Addr} {o:Obj},h.get? b=some o->a≠b:=λ{b o} e z=>by rw[<- z,ha] at e;cases e
  have naS:a≠kS:=old (N _ zC).1;have naD:a≠D:=old (N _ (zD _ zC)).1;have naL:a≠L:=by
   obtain⟨o,_,_,e,_⟩:=F.ns;exact old e
  have na0:h₀.get? a=none:=by
   cases z:h₀.get? a with
   | none=>rfl
   | some o =>
    have:=F.keep a o z;rw[ha] at this;cases this
  have N':News h₀ L h' ((kS,seqObj "list" us.toArray e)::(D,seqObj "list" #[] e1)::(((a,seqObj "tuple" #[.int (k.1:Nat) t1,.int (k.2:Nat) t2] 0)::own)++news)):=λp hp=>by
   rcases jI.mp hp with rfl|hp
   ·exact⟨kp _ _ (N _ zC).1,(N _ zC).2⟩
   ·rcases jI.mp hp with rfl|hp
    ·exact⟨kp _ _ (N _ (zD _ zC)).1,(N _ (zD _ zC)).2⟩
    ·rcases jI.mp hp with rfl|hp
     ·exact⟨ho,naL,na0⟩
     ·have:=N p (zD _ (zD _ hp));exact⟨kp _ _ this.1,this.2⟩
  have n1':∀p∈(a,seqObj "tuple" #[.int (k.1:Nat) t1,.int (k.2:Nat) t2] 0)::own,p.1≠kS:=λp hp=>by
   rcases jI.mp hp with rfl|hp
   ·exact naS
   ·exact n1 p hp
  have n2':∀p∈(a,seqObj "tuple" #[.int (k.1:Nat) t1,.int (k.2:Nat) t2] 0)::own,p.1≠D:=λp hp=>by
   rcases jI.mp hp with rfl|hp
   ·exact naD
   ·exact n2 p hp
  refine KatBack.intro (s:={ s with heap:=h',toks:=tk' }) F' N' (UpdF.head λp hp=>?_) λh2 c F2 N2=>?_
  ·rcases jI.mp hp with rfl|hp
   ·exact nD
   ·rcases wT.mp hp with hp|hp
    ·exact n1' p hp
    ·exact nN p hp
  ·refine sV nD nN fin r kr _ (us++[.ref a]) (kd++[k]) c h2 tk' tr (by rw[vT];exact ek) F2 N2 n1' n2' (Iu (Iv (λv k ⟨a,o,xs,n,t,u,g1,g2,g3⟩=>⟨a,o,xs,n,t,u,g1,zD _ g2,g3⟩) g) ?_);exact⟨a,_,_,0,t1,t2,rfl,zC,rfl,rfl,rfl⟩
end
def Ue(P:Addr)(pos:Pos)(qual:Str):TE:=λ_ H Q=>∃ps,H P=some (.tbl ps)/\TabOk pos qual ps H/\∀f ps' H',Kp P H H'->H' P=some (.tbl ps')->TabOk pos qual ps' H'->jU H' f->Q (.ref f) H'
theorem Ss{X:Cx}{c P:Addr}{qual x:Str}{params:Arguments}{scope:Scope}{p1 p2 p3 p4 p5 p6 p7 pos:Pos}{j j2 j3:Nat}(B:Bm X.mg X.base)(hc:X.env.code=.ref c)(hK:W.codeHdIn X.K c P=true)(hq:X.env.qual++("<lambda>" : Str)=qual)(S:oO x scope)
  (hdef:defaultsOf params X.env=([],[]):=by rfl) (hcl:closureFor scope X.env=pure []:=by rfl)
  (hb:∀(pm ctv:Value)(c' q:Addr),bindArgs (W.kla_fn "<lambda>" qual params (swBody x p1 p2 p3 p4 p5 p6 p7 j j2 j3) scope [] pm (.ref c') ctv) ⟨[.ref q],[]⟩=pure [(x,.ref q)]:=by intros;rfl) :
  PE X (.Lambda params (swBody x p1 p2 p3 p4 p5 p6 p7 j j2 j3) scope pos) (Ue P pos qual):=by
 intro pins s σ H Q I h;obtain⟨ps,eP,tk,q⟩:=h;have hP:s.heap.get? P=some (W.tabObj ps):=I.hok P _ eP;obtain⟨bm,ob,b1,b2,b3,b4,b5,b6⟩:=B;have hg:s.heap.Ns mainGlobals X.mg:=I.ok.mod.glob.keeps I.bk;have nob:∀{b:Addr} {o:Obj},X.base.get? b=some o->b≠P:=λ{b o} e z=>by
  have:=(I.bs b o e).2;rw[z,eP] at this;cases this
 have nG:mainGlobals≠P:=by
  obtain⟨o,_,_,e,_⟩:=I.ok.mod.glob;exact nob e
 have nbG:bm≠mainGlobals:=λz=>by
  obtain⟨o,es,ep,e,hd,_⟩:=I.ok.mod.glob;rw[z,e] at b3;cases b3;rw[hd] at b6;cases b6
 have BA:s.heap.BuiltinsAt X.mg P:=⟨bm,ob,b1,b2,nbG,nob b3,I.bk _ _ b3,b4,b5,b6⟩;have CH:=W.codeHd_of_K I.kIn hK;refine W.kla_eval hdef ?_;rw[hq];have nP:∀{b:Addr},H b=none->b≠P:=λ{b} e z=>by rw[z,eP] at e;cases e
 rcases tk with rfl|⟨c',oc,vs,t,rfl,e1,e2,e3⟩
 ·refine W.kla_makeFunction hcl I.ok.glob hg hc CH hP trivial rfl nG BA λc' ctv h' tk' hx hge hlt hrec hP'=>?_
  obtain⟨c2,oc,vs,t,z,hoc,hd,hv⟩:=hrec;cases z;have fc:H c'=none:=I.hok.fresh hge;have hsz:s.heap.objs.size<=h'.objs.size:=oB hge (zzE hlt);have ff:H h'.objs.size=none:=I.hok.fresh hsz;have ncf:c'≠h'.objs.size:=qV hlt;have ncP:c'≠P:=nP fc;have nfP:h'.objs.size≠P:=nP ff
  generalize hf:h'.objs.size=f at *
  generalize hob:W.kla_obj "<lambda>" qual params (swBody x p1 p2 p3 p4 p5 p6 p7 j j2 j3) scope [] ((X.mg "__name__").getD .none) c' ctv=fo
  let H':Hp:=upd (upd (upd H P (.tbl (#[]++#[rawInt pos.line,rawInt pos.col,.ref c']))) c' (.frz oc (.own c'))) f (.frz fo (.own f))
  have hP2:H' P=some (.tbl #[rawInt pos.line,rawInt pos.col,.ref c']):=by
   show upd _ _ _ _=_;rw[aR (Ne.symm nfP),aR (Ne.symm ncP),bG];simp
  have hc2:H' c'=some (.frz oc (.own c')):=by
   show upd _ _ _ _=_;rw[aR ncf,bG]
  have hf2:H' f=some (.frz fo (.own f)):=bG;have old:∀{b:Addr},b≠P->b≠c'->b≠f->H' b=H b:=λ{b} n1 n2 n3=>by
   show upd _ _ _ _=_;rw[aR n3,aR n2,aR n1]
  have push:∀{b:Addr} {o:Obj},h'.get? b=some o->(h'.push fo).get? b=some o:=λe=>uC _ e
  have I':Inv X pins σ H' { s with heap:=h'.push fo,toks:=tk' }:=by
   refine I.grow (λb u n e=>?_) (λb u e=>?_) λb u n e=>?_
   ·have lt:=uB e;have n2:b≠c':=qV (qS lt hge);have n3:b≠f:=qV (qS lt hsz);exact⟨push (hx b u (nP n) e),by rw[old (nP n) n2 n3];exact n⟩
   ·by_cases hbP:b=P
    ·right
     rw[hbP,eP] at e;cases e;exact⟨#[],#[rawInt pos.line,rawInt pos.col,.ref c'],rfl,by rw[hbP,hP2];simp,by rw[hbP];exact push hP'⟩
    ·left
     have n2:b≠c':=λz=>by rw[z,fc] at e;cases e
     have n3:b≠f:=λz=>by rw[z,ff] at e;cases e
     exact⟨by rw[old hbP n2 n3];exact e,λo e4=>push (hx b o hbP e4)⟩
   ·by_cases hbf:b=f
    ·rw[hbf,hf2] at e;cases e;have e5:(h'.push fo).get? f=some fo:=by
      rw[<- hf];exact oQ _ (by rw[<- hob];rfl)
     rw[hbf];exact⟨e5,_,e5⟩
    ·by_cases hbc:b=c'
     ·rw[hbc,hc2] at e;cases e;rw[hbc];exact⟨push hoc,_,push hoc⟩
     ·have hbP:b≠P:=nP n;rw[old hbP hbc hbf,n] at e;cases e
  refine⟨.ref f,H',I',rfl,q f _ H' (λb u n e=>?_) hP2 (.inr ⟨c',oc,vs,t,rfl,hc2,hd,hv⟩) ⟨qual,x,params,p1,p2,p3,p4,p5,p6,p7,j,j2,j3,scope,_,ctv,c',oc,vs,t,by rw[hf2,<- hob],hc2,hd,hv,S,hb _ _ _⟩⟩;have n2:b≠c':=λz=>by rw[z,fc] at e;cases e
  have n3:b≠f:=λz=>by rw[z,ff] at e;cases e
  rw[old n n2 n3];exact e
 ·have hcode:codeAmong pos (#[rawInt pos.line,rawInt pos.col,Value.ref c']).toList=some (.ref c'):=by
   show (if ((pos.line:Int)==(pos.line:Int) && (pos.col:Int)==(pos.col:Int))=true then some (Value.ref c') else _)=_;simp
  refine W.kla_makeFunctionHit hcl I.ok.glob hg hc CH hP trivial hcode BA λctv h' tk' hx hsz=>?_
  have ff:H h'.objs.size=none:=I.hok.fresh hsz
  generalize hob:({ cls:=Value.type "function", data:=Data.func (W.kla_fn "<lambda>" qual params (swBody x p1 p2 p3 p4 p5 p6 p7 j j2 j3) scope [] ((X.mg "__name__").getD .none) (.ref c') ctv) }:Obj)=fo
  have e5:(h'.push fo).get? h'.objs.size=some fo:=oQ _ (by rw[<- hob];rfl);have k2:∀{b:Addr} {u:HO},H b=some u->upd H h'.objs.size (.frz fo (.own h'.objs.size)) b=some u:=λ{b u} e=>by
   rw[aR (λz=>by rw[z,ff] at e;cases e)];exact e
  refine⟨.ref h'.objs.size,upd H h'.objs.size (.frz fo (.own h'.objs.size)),I.laid (t':=tk') (λb u e=>uC _ (hx b u e)) hsz ⟨e5,_,e5⟩,rfl,q _ _ _ (λb u n e=>k2 e) (k2 eP) (.inr ⟨c',oc,vs,t,rfl,k2 e1,e2,e3⟩) ⟨qual,x,params,p1,p2,p3,p4,p5,p6,p7,j,j2,j3,scope,_,ctv,c',oc,vs,t,by rw[bG,<- hob],k2 e1,e2,e3,S,hb _ _ _⟩⟩
section
variable{prog:Program}{w:World}{A:Around}{E:xB}{s:Shared}{h₀:Heap}{L l a D kS:Addr}{m:xC}{news:List (Addr×Obj)}{vs us:xF}{f:Value}
theorem Oq(h:us.length=vs.length):(us.toArray.zip vs.toArray).map (·.2)=vs.toArray:=by
 apply Array.toList_inj.mp
 rw[Array.toList_map,Array.toList_zip];exact List.map_snd_zip (by simp[h])
theorem Sv{e e1:Nat}{P:PySem.Fin->Shared->Prop}(hl:us.length=vs.length)(h2:vs.length<2)(h:KatFin h₀ L m kS a us e e1 vs (λs'=>P (.done (.ret .none)) s') s) :
  wpAny (model prog w) A (ksk_end a false vs.toArray e1 (.ref kS) us.toArray) P E s:=by
 have hn:vs.toArray.size<2:=by rw[nX];lia
 unfold ksk_end;dsimp only;simp only[Bool.false_eq_true,if_false];rw[yB hn,yB hn];refine zI (rX (zI ?_));rw[StateT.run_pure];refine rX ?_;dsimp only;exact kat_tail (b:=false) (out:=vs) (Oq hl) (by lia) (by lia) rfl h
theorem Ot{e1:Nat}{P:PySem.Fin->Shared->Prop}(hk:s.heap.get? kS=some (seqObj "list" #[] 0))(h2:vs.length<2)
  (h:KatKeys prog w A h₀ L m kS f (λus e s'=>KatFin h₀ L m kS a us e e1 vs (λs4=>P (.done (.ret .none)) s4) s') vs [] 0 s):wpAny (model prog w) A (ksk_rest a f false vs.toArray e1 (.ref kS)) P E s:=by
 unfold ksk_rest;refine zI (wpAny_rule ?_);rw[List.forIn_toArray];refine wpAny_bind (wpAny_mono (kat_fold (n:=vs.length) (by lia) (λx ks e s' C hz hx=>?_) vs [] 0 s (by simp) hk h) (λ_ s' hd=>?_) λ_ _ x=>x)
 ·refine zI (wpAny_attempt (mM hx (λk s'' hk=>?_) λ_ _ hF=>hF.elim));obtain⟨news',g,F',N',U,c⟩:=hk;obtain⟨pre,post,e0,hg,x1,x2⟩:=U.split;subst e0;have nk:=N' (kS,seqObj "list" ks.toArray e) (rV _ zC);have sb:=Heap.SameBut.update s''.heap kS (Obj.mapSeq (·.push k));have ea:ks.toArray.push k=(ks++[k]).toArray:=by simp
  obtain⟨c2,hc2⟩:∃c2,(s''.heap.update kS (Obj.mapSeq (·.push k))).get? kS=some (seqObj "list" (ks++[k]).toArray c2):=⟨_,by rw[<- ea];exact get?_update_seq nk.1 (·.push k)⟩;have z1:ks.toArray.size<=sizeLine:=by rw[nX,sizeLine_eq];lia
  have z2:(ks.toArray.push k).size<=sizeLine:=by rw[Array.size_push,nX,sizeLine_eq];lia
  dsimp only;refine zI (listUpdate_at nk.1 rfl ?_ z1 (Nat.le_succ_of_le z2));exact rX ⟨rfl,k,c2,hc2,c _ c2 (kas_fr F' sb nk.2.1 nk.2.2) (by rw[hg];exact news_set N' x1 x2 sb hc2)⟩
 ·obtain⟨ks,e,hk',hl,fin⟩:=hd;exact zI (listItems_at hk' rfl (Sv hl h2 fin))
theorem Ou{n:Nat}{P:PySem.Fin->Shared->Prop}(F:Fr h₀ L s.heap m)(N:News h₀ L s.heap news)(ho:s.heap.get? a=some (seqObj "list" vs.toArray n))(haL:a≠L)(ha0:h₀.get? a=none)(hna:∀p∈news,p.1≠a)(h2:vs.length<2)
  (h:∀kS e1 h',Fr h₀ L h' m->News h₀ L h' ((kS,seqObj "list" #[] 0)::(a,seqObj "list" #[] e1)::news)->a<kS->(∀q∈news,q.1<kS)->KatKeys prog w A h₀ L m kS f (λus e s'=>KatFin h₀ L m kS a us e e1 vs (λs4=>P (.done (.ret .none)) s4) s') vs [] 0 { s with heap:=h' }) :
  wpAny (model prog w) A (ksk_tree a f false) P E s:=by
 have s1:=Heap.SameBut.update s.heap a (Obj.mapSeq λ_=>(#[]:xL));obtain⟨e1,ho1⟩:∃e1,(s.heap.update a (Obj.mapSeq λ_=>(#[]:xL))).get? a=some (seqObj "list" #[] e1):=⟨_,get?_update_seq ho λ_=>#[]⟩;have F1:=kas_fr F s1 haL ha0;have N1:=kas_news N s1 hna;unfold ksk_tree;refine zI (listItems_at ho rfl (zI (listUpdate_at ho rfl ?_ (by rw[nX,sizeLine_eq];lia) (Nat.zero_le _))))
 generalize hg:s.heap.update a (Obj.mapSeq λ_=>(#[]:xL))=g at *
 refine zI (seqEpoch_at ho1 rfl (zI (wpAny_newTuple (zI (wpAny_newList (mI ?_) (Nat.zero_le _))) (by show vs.length<=_;rw[sizeLine_eq];lia))))
 generalize hp:g.push (seqObj "tuple" vs.toArray 0)=g2
 have sz2:g2.objs.size=g.objs.size+1:=by rw[<- hp,size_push']
 have up:∀b o,g.get? b=some o->(g2.push (seqObj "list" #[] 0)).get? b=some o:=λb o e=>uC _ (by rw[<- hp];exact uC _ e)
 have la:a<g2.objs.size:=by rw[sz2];exact nV (uB ho1)
 have lN:∀q∈news,q.1<g2.objs.size:=λq hq=>by rw[sz2];exact nV (uB (N1 q hq).1)
 have lL:L<g2.objs.size:=by rw[sz2];exact nV F1.ns.lt
 have F3:Fr h₀ L (g2.push (seqObj "list" #[] 0)) m:=by rw[<- hp];exact(F1.push _).push _
 have hk:(g2.push (seqObj "list" #[] 0)).get? g2.objs.size=some (seqObj "list" #[] 0):=oQ _ rfl;show wpAny (model prog w) A _ P E { s with heap:=g2.push (seqObj "list" #[] 0) }
 refine Ot (s:={ s with heap:=g2.push (seqObj "list" #[] 0) }) (kS:=g2.objs.size) hk h2 (h _ e1 _ F3 (λp hp'=>?_) la lN)
 rcases jI.mp hp' with rfl|hp'
 ·exact⟨hk,Nat.ne_of_gt lL,Heap.get?_none_of_le (oB F.above (zzE lL))⟩
 ·rcases jI.mp hp' with rfl|hp'
  ·exact⟨up _ _ ho1,haL,ha0⟩
  ·exact⟨up _ _ (N1 p hp').1,(N1 p hp').2⟩
theorem Ck{q:Addr}{Q:xB}(F:Fr h₀ L s.heap m)(N:News h₀ L s.heap news)(hl:s.heap.IsList l vs.toArray)(h2:vs.length<2)
  (h:∀D kS e1 h',Fr h₀ L h' m->News h₀ L h' ((kS,seqObj "list" #[] 0)::(D,seqObj "list" #[] e1)::news)->D<kS->(∀q∈news,q.1<D)->KatKeys prog w A.in1.in1 h₀ L m kS (.ref q) (λus e s'=>KatFin h₀ L m kS D us e e1 vs (λs4=>Q (.ref D) s4) s') vs [] 0 { s with heap:=h' }) :
  wpAny (model prog w) A (call (.builtin "sorted") [.ref l] [(Str.ofString "key", .ref q)]) Q E s:=by
 refine call_function_entry_kw kind_sorted plain_sorted entry_sorted (ksk_s1 _ _) ?_;unfold Builtin.«sorted»;refine zI (m:=checkCount "sorted" 1 1 _) (rX (zI (collect_list hl ?_ (by rw[sizeLine_eq];lia))));refine zI (wpAny_newList ?_ (by rw[sizeLine_eq];lia))
 generalize eh:((s.heap.push (seqObj "list" #[] 0)).update s.heap.objs.size (Obj.mapSeq (·++vs.toArray)))=hp
 have hsz:hp.objs.size=s.heap.objs.size+1:=by rw[<- eh,Heap.size_update,size_push']
 have keep:∀b o,s.heap.get? b=some o->(hp.push (seqObj "list" vs.toArray 0)).get? b=some o:=λb o q=>by
  have hlt:b<s.heap.objs.size:=uB q;rw[zzG _ _ _ (by rw[hsz];exact qV (nV hlt)),<- eh,zzF _ _ _ _ (qV hlt),zzG _ _ _ (qV hlt)];exact q
 have hoL:(hp.push (seqObj "list" vs.toArray 0)).get? hp.objs.size=some (seqObj "list" vs.toArray 0):=oQ _ rfl;have up1:∀{b:Addr},b<s.heap.objs.size->b<hp.objs.size:=λh=>by rw[hsz];exact nV h
 have hL:L<hp.objs.size:=up1 F.ns.lt;show wpAny _ _ _ _ _ { s with heap:=hp.push (seqObj "list" vs.toArray 0) }
 refine zI (mI (wpAny_call_entry_kw slot_list_sort ⟨_,hoL,rfl⟩ entry_list_sort ?body (ksk_l1 _ _)))
 case body =>
  show wpAny (model prog w) A.in1.in1 (Builtin.«list.sort» ⟨[.ref hp.objs.size],[(Str.ofString "key", .ref q)]⟩) _ _ _;rw[ksk_t1];refine Ou (s:={ s with heap:=hp.push (seqObj "list" vs.toArray 0) }) (F.kept keep) (N.grown keep) hoL (Nat.ne_of_gt hL) (Heap.get?_none_of_le (oB F.above (zzE hL))) (λp hp'=>qV (up1 (uB (N p hp').1))) h2 λkS e1 h' F' N' l0 l1=>?_
  exact kat_keys_mono (h _ kS e1 h' F' N' l0 λq hq=>up1 (uB (N q hq).1)) λus e s' hl' hd=>hd.mono λs4 hq=>⟨_,rfl,rX ⟨_,rfl,hq⟩⟩
theorem Kq{own:List (Addr×Obj)}{ks:xD}{C:Bool->Shared->Prop}{i j:Nat}(hh:∀p∈own,s.heap.get? p.1=some p.2)(tp:F2 (jf own) us ks)(nd:ks.Nodup)(sm:∀w∈ks,w.2<1000000)(hi:i<us.length)(hj:j<us.length)(hij:i≠j)(hC:C (decide (rkP (ks.getD i (0,0))<rkP (ks.getD j (0,0)))) s) :
  kas_ask prog w A (tuples' true) us i j C s:=by
 have hlen:ks.length=us.length:=tp.length_eq.symm;unfold kas_ask;obtain⟨a,o,xs,n,t,u,ev,hm,hc,hd,hx⟩:=oU tp hi;obtain⟨a',o',xs',n',t',u',ev',hm',hc',hd',hx'⟩:=oU tp hj;have mi:ks.getD i (0,0)∈ks:=getD_mem (by lia);have mj:ks.getD j (0,0)∈ks:=getD_mem (by lia);have ne:ks.getD i (0,0)≠ks.getD j (0,0):=λz=>by
  rw[getD_get (show i<ks.length by lia),getD_get (show j<ks.length by lia)] at z;exact hij ((List.getElem_inj nd).mp z)
 have hr:=z9 (sm _ mi) (sm _ mj);rw[ev,ev'];refine kat_lt (hh _ hm) hd (hh _ hm') hd' ?_;rw[hx,hx'];refine kat_cons (wpAny_eqBool_int ?_);by_cases e1:(ks.getD i (0,0)).1=(ks.getD j (0,0)).1
 ·have e2:(ks.getD i (0,0)).2≠(ks.getD j (0,0)).2:=λz=>ne (Prod.ext e1 z)
  rw[show ((((ks.getD i (0,0)).1:Nat):Int)==(((ks.getD j (0,0)).1:Nat):Int))=true by rw[e1];simp];refine kat_yes (kat_cons (wpAny_eqBool_int ?_));rw[show ((((ks.getD i (0,0)).2:Nat):Int)==(((ks.getD j (0,0)).2:Nat):Int))=false by rw[beq_eq_false_iff_ne];lia];refine kat_no (kat_one _ _ (lt_int ?_));show C _ _;rw[show decide ((((ks.getD i (0,0)).2:Nat):Int)<(((ks.getD j (0,0)).2:Nat):Int))=decide (rkP (ks.getD i (0,0))<rkP (ks.getD j (0,0))) from decide_eq_decide.mpr (by rw[hr];lia)];exact hC
 ·rw[show ((((ks.getD i (0,0)).1:Nat):Int)==(((ks.getD j (0,0)).1:Nat):Int))=false by rw[beq_eq_false_iff_ne];lia];refine kat_no (oneLt_int ?_);rw[show decide ((((ks.getD i (0,0)).1:Nat):Int)<(((ks.getD j (0,0)).1:Nat):Int))=decide (rkP (ks.getD i (0,0))<rkP (ks.getD j (0,0))) from decide_eq_decide.mpr (by rw[hr];lia)];exact hC
theorem Sw{ks:xD}{n:Nat}{p:Array Nat}(hlen:ks.length=n)(nd:ks.Nodup)(sm:∀w∈ks,w.2<1000000)(hp:Pp n p)(up:UpK (λi=>rkP (ks.getD i (0,0))) p n):p.toList.Perm (List.range n)/\p.toList.Pairwise λi j=>rkP (ks.getD i (0,0))<rkP (ks.getD j (0,0)):=by
 have pp:p.toList.Perm (List.range n):=by simpa using Array.perm_iff_toList_perm.mp hp
 refine⟨pp,?_⟩;have hs:=hp.size;have g:∀q (hq:q<p.toList.length),p.toList[q]=p.getD q 0:=λq hq=>by
  rw[Array.getD_eq_getD_getElem?,Array.getElem?_eq_getElem (by simpa using hq)]
  rfl
 rw[List.pairwise_iff_getElem];intro i j hi hj hij;have hi':i<n:=by simpa[hs] using hi
 have hj':j<n:=by simpa[hs] using hj
 have u:rkP (ks.getD (p.getD i 0) (0,0))<=rkP (ks.getD (p.getD j 0) (0,0)):=up i j (by lia) hj';have li:=hp.lt hi';have lj:=hp.lt hj';have ndp:p.toList.Nodup:=pp.nodup_iff.mpr List.nodup_range;rw[g i hi,g j hj];have ne:ks.getD (p.getD i 0) (0,0)≠ks.getD (p.getD j 0) (0,0):=λz=>by
  rw[getD_get (show p.getD i 0<ks.length by lia),getD_get (show p.getD j 0<ks.length by lia)] at z;have z:=(List.getElem_inj nd).mp z;rw[<- g i hi,<- g j hj] at z;have:=(List.getElem_inj ndp).mp z
  lia
 have ne2:rkP (ks.getD (p.getD i 0) (0,0))≠rkP (ks.getD (p.getD j 0) (0,0)):=λz=>ne (Aa (sm _ (getD_mem (by lia))) (sm _ (getD_mem (by lia))) z)
 lia
theorem Ac{q:Addr}{ks:xD}{Q:xB}(F:Fr h₀ L s.heap m)(N:News h₀ L s.heap news)(hl:s.heap.IsList l vs.toArray)(h64:vs.length<64)(tt:F2 (λv k=>oV prog w A.in1.in1 news (.ref q) v k s) vs ks)(nd:ks.Nodup)(sm:∀w∈ks,w.2<1000000)
  (k:∀D (p:List Nat) c h' tk,Fr h₀ L h' m->News h₀ L h' ((D,seqObj "list" (p.map (λi=>vs.getD i Value.none)).toArray c)::news)->(∀q∈news,q.1<D)->p.Perm (List.range vs.length)->(p.Pairwise λi j=>rkP (ks.getD i (0,0))<rkP (ks.getD j (0,0)))->Q (.ref D) { s with heap:=h',toks:=tk }) :
  wpAny (model prog w) A (call (.builtin "sorted") [.ref l] [(Str.ofString "key", .ref q)]) Q E s:=by
 have hlen:ks.length=vs.length:=tt.length_eq.symm;by_cases h2:vs.length<2
 ·refine Ck F N hl h2 λD kS e1 h' F' N' l0 l1=>?_
  have nN:∀p∈news,p.1≠kS:=λp hp=>qV (Nat.lt_trans (l1 p hp) l0)
  refine sV (KS:=ks) (s:=s) (qV l0) nN (λown us kd e h tk F2 N2 n1 n2 g ek=>?_) vs ks [] [] [] 0 h' s.toks tt rfl F' N' (λ_ hp=>nomatch hp) (λ_ hp=>nomatch hp) .nil;refine KatFin.intro (s:={ s with heap:=h,toks:=tk }) F2 N2 (UpdF.head λp hp=>?_) λh3 c F3 N3=>?_
  ·rcases jI.mp hp with rfl|hp
   ·exact qV l0
   ·exact(wT.mp hp).elim (n1 p) (nN p)
  ·refine KasFin.intro (s:={ s with heap:=h3,toks:=tk }) F3 N3 (UpdF.tail (Nat.ne_of_gt l0) (UpdF.head λp hp=>(wT.mp hp).elim (n2 p) λz=>qV (l1 p z))) λh4 c4 F4 N4=>?_
   refine k D (List.range vs.length) c4 h4 tk F4 (λp hp=>?_) l1 (List.Perm.refl _) ?_
   ·rw[fO] at hp;rcases jI.mp hp with rfl|hp
    ·exact N4 _ (zD _ zC)
    ·exact N4 p (zD _ (zD _ (rV _ hp)))
   ·rw[List.pairwise_iff_getElem];intro i j hi hj hij;rw[List.length_range] at hi hj
    lia
 ·have h2:2<=vs.length:=by lia
  refine kat_sortedK (b:=false) (f:=.ref q) F N hl h2 h64 (ksk_s1 _ _) (λx=>ksk_l1 _ _) (λx=>ksk_t1 q x) λD kS e1 h' F' N' l0 l1=>?_
  have nN:∀p∈news,p.1≠kS:=λp hp=>qV (Nat.lt_trans (l1 p hp) l0)
  refine sV (KS:=ks) (s:=s) (qV l0) nN (λown us kd e h tk F2 N2 n1 n2 g ek=>?_) vs ks [] [] [] 0 h' s.toks tt rfl F' N' (λ_ hp=>nomatch hp) (λ_ hp=>nomatch hp) .nil;subst ek;have ul:us.length=vs.length:=by rw[g.length_eq,hlen]
  have hh:∀p∈own,h.get? p.1=some p.2:=λp hp=>(N2 p (zD _ (zD _ (mN _ hp)))).1
  obtain⟨fs,kt,fl,Om⟩:=sU hh g;refine kat_kind (s:={ s with heap:=h,toks:=tk }) (T:=.type "int") kt (by lia) (λv hv=>?_) rfl ?_
  ·obtain⟨z,t,rfl⟩:=Om v hv;exact Looks.of_pure rfl
  ·refine Od (n:=vs.length) (rk:=λi=>rkP (kd.getD i (0,0))) (P:=λp=>Pp vs.length p/\UpK (λi=>rkP (kd.getD i (0,0))) p vs.length) (λi j C hi hj hij hC=>?_) (λp hp=>?_) _ (Il (by lia) λp a b=>⟨a,b⟩)
   ·exact Kq (us:=us) (s:={ s with heap:=h,toks:=tk }) hh g nd sm (by rw[ul];exact hi) (by rw[ul];exact hj) hij hC
   ·obtain⟨pp,pw⟩:=Sw hlen nd sm hp.1 hp.2;refine KatFin.intro (s:={ s with heap:=h,toks:=tk }) F2 N2 (UpdF.head λp hp=>?_) λh3 c F3 N3=>?_
    ·rcases jI.mp hp with rfl|hp
     ·exact qV l0
     ·exact(wT.mp hp).elim (n1 p) (nN p)
    ·refine KasFin.intro (s:={ s with heap:=h3,toks:=tk }) F3 N3 (UpdF.tail (Nat.ne_of_gt l0) (UpdF.head λp hp=>(wT.mp hp).elim (n2 p) λz=>qV (l1 p z))) λh4 c4 F4 N4=>?_
     refine k D p.toList c4 h4 tk F4 (λp hp=>?_) l1 pp pw;rcases jI.mp hp with rfl|hp
     ·exact N4 _ (zD _ zC)
     ·exact N4 p (zD _ (zD _ (rV _ hp)))
end
def swP(w:Nat×Nat):Nat×Nat:=(w.2,w.1)
theorem Iw{a b:Nat×Nat}(h:swP a=swP b):a=b:=by
 unfold swP at h;exact Prod.ext (gL Prod.snd h) (gL Prod.fst h)
def lD(ws:xD):Prop:=ws.Pairwise λa b=>rkP (swP a)<rkP (swP b)
theorem xR{α β:Type}{g:α->β}(hg:∀a b,g a=g b->a=b){l:List α}(h:l.Nodup):(l.map g).Nodup:=List.pairwise_map.mpr (h.imp λn e=>n (hg _ _ e))
section
variable{H0 H:Hp}{M:List Addr}{L L':List (Addr×HO)}{I:List Im}{Q:VK}{f P:Addr}{pos:Pos}{qual:Str}{ps:xL}{σ:St}{R:Hp->Prop}
theorem jU.st:∀H H',Tst H H'->jU H f->jU H' f:=λH H' t h=>by
 obtain⟨a1,a2,a3,a4,a5,a6,a7,a8,a9,a10,a11,a12,a13,a14,a15,a16,a17,a18,a19,a20,e1,e2,r⟩:=h;exact⟨a1,a2,a3,a4,a5,a6,a7,a8,a9,a10,a11,a12,a13,a14,a15,a16,a17,a18,a19,a20,t _ _ rfl e1,t _ _ rfl e2,r⟩
abbrev Wb(f:Addr):Im:=.fct (λH=>jU H f) jU.st
class Y8(I:List Im)(f:Addr):Prop where
 m:Wb f∈I
instance acC:Y8 (Wb f::I) f:=⟨zC⟩
instance aaN[F:SH H0 M H L I][e:LkL L P (.tbl ps)][t:j_ I pos qual ps]:Go (Ue P pos qual σ H Q) (∀(f:Addr)(ps':xL)(H':Hp),Kp P H H'->H' P=some (.tbl ps')->TabOk pos qual ps' H'->jU H' f->Q (.ref f) H'):=⟨λk=>⟨ps,F.raw e.m,F.im _ t.m,k⟩⟩
instance aaO[F:SH H0 M H L I][u:LkU L P (.tbl ps) L']:Go (∀H',Kp P H H'->H' P=some (.tbl ps)->TabOk pos qual ps H'->jU H' f->R H') (∀H',SH H0 M H' L' (Wb f::eH pos qual ps::I)->R H'):=⟨λk H' f e t g=>k H' (((F.kp f e u.u rfl).lC t).lC g)⟩
end
section
variable{P:Program}{w:World}{K:W.Frag}{mg:xC}{base:Heap}{CX:CXT}{k:Nat}{x:Str}{st:Stmt}{c:Addr}{N ps:List Str}{sp:Sp}
def Iz(K:W.Frag)(mg:xC)(x:Str)(st:Stmt)(c:Addr):Prop:=∃(f:Addr)(fd:FuncData),Fun K x x st f fd/\fd.code=.ref c/\mg x=some (.ref f)
theorem Sx(h:Iz K mg x st c)(S:aK N ps (aF st))(len:∀vs H Q E,sp vs H Q E->vs.length=ps.length)
  (hb:∀(kV doc pm:Value)(an:xN)(cdv ct:Value)(us:xF),us.length=ps.length->bindArgs (W.fnOf x x (cW st) (cu st) (aF st) .none kV doc pm an cdv ct) ⟨us,[]⟩=pure (ps.zip us))
  (hbody:∀(f:Addr)(A:Around)(outer:List Env)(s:Shared)(H:Hp)(vs:List V)(Q:VK)(E:XK),Room k (A.deeper (envOfC x (aF st) s.heap.objs.size f (.ref c)))->sp vs H Q E ->
   ∃t,PSs (j8 CX P w K mg base N x (aF st) f (.ref c) A outer s H E).nox (cu st) t/\t { nx:=λ_ H'=>Q .non H',rt:=Q } (start N vs) H):Def P w K mg base CX (k+1) x ps sp:=by
 obtain⟨f,fd,F,hc,m⟩:=h;refine⟨f,fd,?_,m,F.kp,F.binds hb⟩;obtain⟨oc,od,kV,doc,pm,an,cdv,ct,osl,rfl,lk,hcd⟩:=F.ex;obtain rfl:cdv=.ref c:=hc;refine t_ lk hcd S len λA outer s H vs Q E hr hsp=>?_
 obtain⟨t,h,q⟩:=hbody f A outer s H vs Q E hr hsp;exact⟨t,h.nox,q⟩
end
end L2
namespace L2
open PySem PySem.W PySem.Spec PyProof.Rows
end L2
namespace L2
open PySem PySem.Spec PyProof.Rows PySem.SeqAt
abbrev flD(v:V):PyData:=pyD (jR v)
inductive ThD(H:Hp):V->PyData->Prop
 | flat {v:V} (h:gP v=true) (z:Shm 500 1 (flD v)):ThD H v (flD v)
 | lst {p:Addr} {vs:List V} (e:H p=some (.lst vs)) (h:∀v∈vs,gP v=true) (z:Shm 500 1 (.list (vs.map flD))):ThD H (.ref p) (.list (vs.map flD))
 | tup {p:Addr} {vs:List V} (e:H p=some (.tup vs)) (h:∀v∈vs,gP v=true) (z:Shm 500 1 (.tuple (vs.map flD))):ThD H (.ref p) (.tuple (vs.map flD))
 | dct {p:Addr} (e:H p=some (.dK [])):ThD H (.ref p) (.dict [])
section
variable{H H':Hp}{v:V}{d:PyData}{K:W.Frag}
theorem ThD.kept(h:ThD H v d)(k:∀a u,v=.ref a->H a=some u->H' a=some u):ThD H' v d:=by
 cases h with
 | flat h z=>exact .flat h z
 | lst e h z=>exact .lst (k _ _ rfl e) h z
 | tup e h z=>exact .tup (k _ _ rfl e) h z
 | dct e=>exact .dct (k _ _ rfl e)
theorem ThD.ty(h:ThD H v d):∃n,eX K H v (.type n):=by
 cases h with
 | flat h z =>
  cases v with
  | non=>exact⟨_,.non⟩
  | bl b=>exact⟨_,.bl b⟩
  | int i=>exact⟨_,.int i⟩
  | str x=>exact⟨_,.str x⟩
  | _=>simp[gP] at h
 | lst e h z=>exact⟨_,.lst e⟩
 | tup e h z=>exact⟨_,.tup e⟩
 | dct e=>exact⟨_,.dK e⟩
end
section
variable{H:Hp}{x:Str}{Q:VK}
instance (priority:=high) Xl:Go (rEq (.str x) (.str x) H Q) (Q (.bl true) H):=⟨λk=>⟨rfl,by simpa using k⟩⟩
end
end L2
set_option maxHeartbeats 400000
namespace L2
open PySem PySem.Spec PyProof.Rows PySem.SeqAt
end L2
set_option maxHeartbeats 1000000
namespace L2
open PySem PySem.Spec PyProof.Rows PySem.SeqAt
mutual
def TrH(H:Hp):Dt->V->Prop
 | .non,v=>v=.non
 | .bl b,v=>v=.bl b
 | .int i,v=>v=.int i
 | .str x,v=>v=.str x
 | .lst ds,v=>∃p xs,v=.ref p/\H p=some (.lst xs)/\fB H ds xs
 | .tup ds,v=>∃p xs,v=.ref p/\H p=some (.tup xs)/\fB H ds xs
def fB(H:Hp):List Dt->List V->Prop
 | [],xs=>xs=[]
 | d::ds,xs=>∃x r,xs=x::r/\TrH H d x/\fB H ds r
end
mutual
theorem TrH.same{H H':Hp}(s:Same H H'):∀{d:Dt} {v:V},TrH H d v->TrH H' d v
 | .non,v,h=>h
 | .bl _,v,h=>h
 | .int _,v,h=>h
 | .str _,v,h=>h
 | .lst ds,v,h=>by
  simp only[TrH] at h ⊢;obtain⟨p,xs,e,hp,hs⟩:=h;exact⟨p,xs,e,s _ _ hp,fB.same s hs⟩
 | .tup ds,v,h=>by
  simp only[TrH] at h ⊢;obtain⟨p,xs,e,hp,hs⟩:=h;exact⟨p,xs,e,s _ _ hp,fB.same s hs⟩
theorem fB.same{H H':Hp}(s:Same H H'):∀{ds:List Dt} {xs:List V},fB H ds xs->fB H' ds xs
 | [],xs,h=>h
 | d::ds,xs,h=>by
  simp only[fB] at h ⊢;obtain⟨x,r,e,h1,h2⟩:=h;exact⟨x,r,e,TrH.same s h1,fB.same s h2⟩
end
theorem fB.len{H:Hp}:∀{ds:List Dt} {xs:List V},fB H ds xs->xs.length=ds.length
 | [],xs,h=>by simp only[fB] at h;rw[h];rfl
 | d::ds,xs,h=>by
  simp only[fB] at h;obtain⟨x,r,rfl,h1,h2⟩:=h;rw[zzD,zzD,h2.len]
theorem fB.at{H:Hp}:∀{ds:List Dt} {xs:List V},fB H ds xs->∀{i:Nat} {v:V},xs[i]?=some v->∃d,ds[i]?=some d/\TrH H d v
 | [],xs,h,i,v,e=>by simp only[fB] at h;rw[h] at e;cases e
 | d::ds,xs,h,i,v,e=>by
  simp only[fB] at h;obtain⟨x,r,rfl,h1,h2⟩:=h;cases i with
  | zero=>cases e;exact⟨d,rfl,h1⟩
  | succ i=>exact h2.at (i:=i) e
theorem fB.of{H:Hp}:∀{ds:List Dt} {xs:List V},xs.length=ds.length->(∀(i:Nat)(v:V),xs[i]?=some v->∃d,ds[i]?=some d/\TrH H d v)->fB H ds xs
 | [],xs,hl,_=>by simp only[fB];exact List.eq_nil_of_length_eq_zero hl
 | d::ds,[],hl,_=>by cases hl
 | d::ds,x::r,hl,h=>by
  simp only[fB];refine⟨x,r,rfl,?_,fB.of (by simpa using hl) λi v e=>h (i+1) v e⟩;obtain⟨d',e,t⟩:=h 0 x rfl;cases e;exact t
mutual
def Wc:Dt->Prop
 | .lst ds=>ds.length<=1000/\Ov ds
 | .tup ds=>ds.length<=1000/\Ov ds
 | _=>True
def Ov:List Dt->Prop
 | []=>True
 | d::ds=>Wc d/\Ov ds
end
def Al(H:Hp)(B:List Addr):Prop:=∀b∈B,∃xs,H b=some (.lst xs)
theorem Al.same{H H':Hp}{B:List Addr}(h:Al H B)(s:Same H H'):Al H' B:=λb hb=>(h b hb).imp λu e=>s _ _ e
section
variable{H:Hp}{ds:List Dt}{xs:List V}
theorem fB.take(h:fB H ds xs)(n:Nat):fB H (ds.take n) (xs.take n):=fB.of (by rw[nE,nE,h.len]) λi v e=>by
 rw[List.getElem?_take] at e ⊢;by_cases hi:i<n
 ·rw[yB hi] at e ⊢;exact h.at e
 ·rw[yT hi] at e;cases e
theorem fB.drop(h:fB H ds xs)(n:Nat):fB H (ds.drop n) (xs.drop n):=fB.of (by rw[zzH,zzH,h.len]) λi v e=>by
 rw[List.getElem?_drop] at e ⊢;exact h.at e
theorem fB.one{d:Dt}{v:V}(h:TrH H d v):fB H [d] [v]:=by
 simp only[fB];exact⟨v,[],rfl,h,rfl⟩
theorem TrH.flat{v:V}(h:gP v=true):TrH H (jR v) v:=by
 cases v <;> simp[gP] at h <;> simp[jR,TrH]
theorem TrH.lst{p:Addr}(h:H p=some (.lst xs))(t:fB H ds xs):TrH H (.lst ds) (.ref p):=by
 simp only[TrH];exact⟨p,xs,rfl,h,t⟩
theorem TrH.tup{p:Addr}(h:H p=some (.tup xs))(t:fB H ds xs):TrH H (.tup ds) (.ref p):=by
 simp only[TrH];exact⟨p,xs,rfl,h,t⟩
end
def Sm(n:Nat)(ds:List Dt):Prop:=∀d∈ds,iG d<=n/\Wc d
theorem Sm.take{n:Nat}{ds:List Dt}(h:Sm n ds)(k:Nat):Sm n (ds.take k):=λd hd=>h d (oC hd)
theorem Sm.drop{n:Nat}{ds:List Dt}(h:Sm n ds)(k:Nat):Sm n (ds.drop k):=λd hd=>h d (oP hd)
theorem Sm.one{n:Nat}{d:Dt}(h:iG d<=n)(w:Wc d):Sm n [d]:=λe he=>by rw[rS.mp he];exact⟨h,w⟩
end L2
set_option maxHeartbeats 4000000
namespace L2
open PySem PySem.Spec PyProof.Rows PySem.SeqAt
end L2
namespace L2
open PySem PySem.W PySem.Spec PyProof.Rows
end L2
namespace L2
open PySem PySem.Spec PyProof.Rows PySem.SeqAt
end L2
namespace L2
open PySem PySem.Spec PyProof.Rows
end L2
set_option maxHeartbeats 1000000
namespace L2
open PySem PyProof.Rows
namespace TS
def gal:Bool->Keyed->Array Keyed->Nat->Nat->Nat->StateT SortSt Sem (Option Nat):=sortPriv% PySem.Builtin.gallop
structure Ord(prog:Program)(w:World)(A:Around)(κ:SortKind)(s:Shared)(M:Keyed->Prop)(lt:Keyed->Keyed->Bool):Prop where
 ir:∀x,M x->lt x x=false
 nt:∀x y z,M x->M y->M z->lt x z=true->lt x y=true\/lt y z=true
 as:∀x y,M x->M y->lt x y=true->lt y x=false
 as_:∀x y,M x->M y->wpAny (model prog w) A (keyLt' κ x.1 y.1) (λb s'=>s'=s/\b=lt x y) (λ_ _=>False) s
section
variable{prog:Program}{w:World}{A:Around}{E:xB}{s:Shared}{κ:SortKind}{M:Keyed->Prop}{lt:Keyed->Keyed->Bool}
theorem Cm(O:Ord prog w A κ s M lt){st:SortSt}{x y:Keyed}{Q:Option Bool->SortSt->Prop}(hk:kindOf st=κ)(hx:M x)(hy:M y)(h:Q (some (lt x y)) st):wpS (model prog w) A E s (lt' x y) Q st:=by
 rw[lt'_eq];refine zS (wpS_get ?_);rw[hk];refine zS (wpS_lift (wpAny_attempt (mM (O.as_ x y hx hy) (λb s' hb=>?_) λ_ _ hF=>hF.elim)));obtain⟨rfl,rfl⟩:=hb;exact⟨rfl,yA h⟩
theorem aV{st:SortSt}{arr:xE}{i:Nat}{x:Keyed}{Q:Keyed->SortSt->Prop}(e:arr[i]?=some x)(h:Q x st):wpS (model prog w) A E s (elem' arr i) Q st:=by
 rw[elem'_eq,e];exact yA h
def bey(left:Bool)(lt:Keyed->Keyed->Bool)(key x:Keyed):Bool:=if left=true then lt x key else !(lt key x)
theorem uY(O:Ord prog w A κ s M lt){st:SortSt}{left:Bool}{key x:Keyed}{arr:xE}{i:Nat}{Q:Option Bool->SortSt->Prop}(hk:kindOf st=κ)(e:arr[i]?=some x)(hx:M x)(hy:M key)(h:Q (some (bey left lt key x)) st) :
  wpS (model prog w) A E s (do let x <- elem' arr i;if left=true then lt' x key else do let r <- lt' key x;pure (Option.map (λx=>!x) r)) Q st:=by
 refine zS (aV e ?_);unfold bey at h;cases left with
 | true=>exact Cm O hk hx hy h
 | false=>exact zS (Cm O hk hy hx (yA h))
theorem Wd(O:Ord prog w A κ s M lt){st:SortSt}{left:Bool}{key:Keyed}{arr:xE}{base n hint:Nat}{X:Nat->Keyed}{Q:Option Nat->SortSt->Prop}(hk:kindOf st=κ)(hX:∀i,i<n->arr[base+i]?=some (X i)/\M (X i))(hy:M key)
  (Y9:∀i j,i<=j->j<n->TS.bey left lt key (X j)=true->TS.bey left lt key (X i)=true) (hn:hint<n)
  (h:∀k,k<=n->(∀i,i<k->TS.bey left lt key (X i)=true)->(∀i,k<=i->i<n->TS.bey left lt key (X i)=false)->Q (some k) st):wpS (model prog w) A E s (gal left key arr base n hint) Q st:=by
 obtain⟨bey,hbe⟩:∃b:Nat->Bool,∀i,b i=TS.bey left lt key (X i):=⟨_,λ_=>rfl⟩;have mono:∀i j,i<=j->j<n->bey j=true->bey i=true:=λi j a b c=>by rw[hbe] at c ⊢;exact Y9 i j a b c
 have down:∀i j,j<=i->i<n->bey j=false->bey i=false:=λi j a b c=>by
  cases e:bey i with
  | false=>rfl
  | true=>rw[mono j i a b e] at c;cases c
 replace h:∀k,k<=n->(∀i,i<k->bey i=true)->(∀i,k<=i->i<n->bey i=false)->Q (some k) st:=λk a b c=>h k a (λi hi=>by rw[<- hbe];exact b i hi) (λi h1 h2=>by rw[<- hbe];exact c i h1 h2)
 unfold gal;refine zS (uY (x:=X hint) O hk (hX _ hn).1 (hX _ hn).2 hy ?_);dsimp only;rw[<- hbe];cases hb:bey hint with
 | true =>
  rw[yB rfl];refine zS (wpS_mono (wpS_forRange (I:=λx c st'=>st=st'/\∃la o,c=(none,la,o)/\la<o/\x+1<=o/\hint+la<n/\bey (hint+la)=true)
   (Q:=λc st'=>st=st'/\∃la o,c=(none,la,o)/\la<o/\hint+la<n/\bey (hint+la)=true/\(o ≥ n-hint\/(hint+o<n/\bey (hint+o)=false))) ?_ ?_ ⟨rfl,0,1,rfl,by lia,by lia,by lia,hb⟩) ?_)
  ·rintro x c st' _ hx ⟨rfl,la,o,rfl,h1,h2,h3,h4⟩;dsimp only;by_cases hg:o ≥ n-hint
   ·rw[yB hg];exact yA ⟨rfl,la,o,rfl,h1,h3,h4,.inl hg⟩
   ·rw[yT hg];refine zS (uY (x:=X (hint+o)) O hk (hX _ (by lia)).1 (hX _ (by lia)).2 hy ?_);dsimp only;rw[<- hbe];cases hb2:bey (hint+o) with
    | true =>
     rw[if_neg (by simp)];exact yA ⟨rfl,_,_,rfl,by lia,by lia,by lia,hb2⟩
    | false =>
     rw[if_pos (by simp)];exact yA ⟨rfl,la,o,rfl,h1,h3,h4,.inr ⟨by lia,hb2⟩⟩
  ·rintro c st' ⟨rfl,la,o,rfl,h1,h2,h3,h4⟩;exact⟨rfl,la,o,rfl,h1,h3,h4,.inl (by lia)⟩
  rintro c st' ⟨rfl,la,o,rfl,h1,h3,h4,h5⟩;dsimp only;have f1:∀i,i<hint+la+1->bey i=true:=λi hi=>mono i (hint+la) (by lia) h3 h4
  have f2:∀i,hint+min o (n-hint)<=i->i<n->bey i=false:=λi hi h7=>by
   rcases h5 with h5|⟨h5,h6⟩
   ·lia
   ·exact down i (hint+o) (by lia) h7 h6
  refine zS (wpS_mono (wpS_forRange (I:=λx c st'=>st=st'/\∃lo hi,c=(none,lo,hi)/\lo<=hi/\hi<=n/\hi-lo<=n-x/\(∀i,i<lo->bey i=true)/\∀i,hi<=i->i<n->bey i=false)
   (Q:=λc st'=>st=st'/\∃lo hi,c=(none,lo,hi)/\hi<=n/\(∀i,i<hi->bey i=true)/\∀i,hi<=i->i<n->bey i=false) ?_ ?_ ?_) ?_)
  ·rintro x c st' _ hx ⟨rfl,lo,hi,rfl,h1,h2,h3,h4,h5⟩;dsimp only;by_cases hg:lo ≥ hi
   ·rw[yB hg];exact yA ⟨rfl,lo,hi,rfl,h2,λi hi'=>h4 i (by lia),h5⟩
   ·rw[yT hg];refine zS (uY (x:=X (lo+(hi-lo) / 2)) O hk (hX _ (by lia)).1 (hX _ (by lia)).2 hy ?_);show wpS _ _ _ _ _ _ _;dsimp only;rw[<- hbe];cases hb2:bey (lo+(hi-lo) / 2) with
    | true =>
     rw[yB rfl];refine yA ⟨rfl,_,_,rfl,by lia,h2,by lia,λi hi'=>?_,h5⟩;exact mono i (lo+(hi-lo) / 2) (by lia) (by lia) hb2
    | false =>
     rw[if_neg (by simp)];refine yA ⟨rfl,_,_,rfl,by lia,by lia,by lia,h4,λi h6 h7=>?_⟩;exact down i (lo+(hi-lo) / 2) h6 h7 hb2
  ·rintro c st' ⟨rfl,lo,hi,rfl,h1,h2,h3,h4,h5⟩;have h3:hi-lo<=n-n:=by rw[show max 0 n=n by lia] at h3;exact h3
   exact⟨rfl,lo,hi,rfl,h2,λi hi'=>h4 i (by lia),h5⟩
  ·exact⟨rfl,_,_,rfl,by lia,by lia,by lia,f1,f2⟩
  ·rintro c st' ⟨rfl,lo,hi,rfl,h2,h4,h5⟩;exact yA (h hi h2 h4 h5)
 | false =>
  rw[if_neg (by simp)];refine zS (wpS_mono (wpS_forRange (I:=λx c st'=>st=st'/\∃la o,c=(none,la,o)/\la<o/\x+1<=o/\la<=hint/\bey (hint-la)=false)
   (Q:=λc st'=>st=st'/\∃la o,c=(none,la,o)/\la<o/\la<=hint/\bey (hint-la)=false/\(o ≥ hint+1\/(o<=hint/\bey (hint-o)=true))) ?_ ?_ ⟨rfl,0,1,rfl,by lia,by lia,by lia,hb⟩) ?_)
  ·rintro x c st' _ hx ⟨rfl,la,o,rfl,h1,h2,h3,h4⟩;dsimp only;by_cases hg:o ≥ hint+1
   ·rw[yB hg];exact yA ⟨rfl,la,o,rfl,h1,h3,h4,.inl hg⟩
   ·rw[yT hg];refine zS (uY (x:=X (hint-o)) O hk (hX _ (by lia)).1 (hX _ (by lia)).2 hy ?_);dsimp only;rw[<- hbe];cases hb2:bey (hint-o) with
    | false =>
     rw[if_neg (by simp)];exact yA ⟨rfl,_,_,rfl,by lia,by lia,by lia,hb2⟩
    | true =>
     rw[if_pos (by simp)];exact yA ⟨rfl,la,o,rfl,h1,h3,h4,.inr ⟨by lia,hb2⟩⟩
  ·rintro c st' ⟨rfl,la,o,rfl,h1,h2,h3,h4⟩;exact⟨rfl,la,o,rfl,h1,h3,h4,.inl (by lia)⟩
  rintro c st' ⟨rfl,la,o,rfl,h1,h3,h4,h5⟩;dsimp only;have f1:∀i,i<hint+1-min o (hint+1)->bey i=true:=λi hi=>by
   rcases h5 with h5|⟨h5,h6⟩
   ·lia
   ·exact mono i (hint-o) (by lia) (by lia) h6
  have f2:∀i,hint-la<=i->i<n->bey i=false:=λi hi h7=>down i (hint-la) (by lia) h7 h4
  refine zS (wpS_mono (wpS_forRange (I:=λx c st'=>st=st'/\∃lo hi,c=(none,lo,hi)/\lo<=hi/\hi<=n/\hi-lo<=n-x/\(∀i,i<lo->bey i=true)/\∀i,hi<=i->i<n->bey i=false)
   (Q:=λc st'=>st=st'/\∃lo hi,c=(none,lo,hi)/\hi<=n/\(∀i,i<hi->bey i=true)/\∀i,hi<=i->i<n->bey i=false) ?_ ?_ ?_) ?_)
  ·rintro x c st' _ hx ⟨rfl,lo,hi,rfl,h1,h2,h3,h4,h5⟩;dsimp only;by_cases hg:lo ≥ hi
   ·rw[yB hg];exact yA ⟨rfl,lo,hi,rfl,h2,λi hi'=>h4 i (by lia),h5⟩
   ·rw[yT hg];refine zS (uY (x:=X (lo+(hi-lo) / 2)) O hk (hX _ (by lia)).1 (hX _ (by lia)).2 hy ?_);show wpS _ _ _ _ _ _ _;dsimp only;rw[<- hbe];cases hb2:bey (lo+(hi-lo) / 2) with
    | true =>
     rw[yB rfl];refine yA ⟨rfl,_,_,rfl,by lia,h2,by lia,λi hi'=>?_,h5⟩;exact mono i (lo+(hi-lo) / 2) (by lia) (by lia) hb2
    | false =>
     rw[if_neg (by simp)];refine yA ⟨rfl,_,_,rfl,by lia,by lia,by lia,h4,λi h6 h7=>?_⟩;exact down i (lo+(hi-lo) / 2) h6 h7 hb2
  ·rintro c st' ⟨rfl,lo,hi,rfl,h1,h2,h3,h4,h5⟩;have h3:hi-lo<=n-n:=by rw[show max 0 n=n by lia] at h3;exact h3
   exact⟨rfl,lo,hi,rfl,h2,λi hi'=>h4 i (by lia),h5⟩
  ·exact⟨rfl,_,_,rfl,by lia,by lia,by lia,f1,f2⟩
  ·rintro c st' ⟨rfl,lo,hi,rfl,h2,h4,h5⟩;exact yA (h hi h2 h4 h5)
end
end TS
end L2
namespace L2
open PySem PyProof.Rows
namespace TS
section
variable{lt:Keyed->Keyed->Bool}
def le(lt:Keyed->Keyed->Bool)(x y:Keyed):Prop:=lt y x=false
structure Or(M:Keyed->Prop)(lt:Keyed->Keyed->Bool):Prop where
 ir:∀x,M x->lt x x=false
 nt:∀x y z,M x->M y->M z->lt x z=true->lt x y=true\/lt y z=true
 as:∀x y,M x->M y->lt x y=true->lt y x=false
variable{M:Keyed->Prop}
theorem Or.tr(O:Or M lt){x y z:Keyed}(hx:M x)(hy:M y)(hz:M z)(h1:le lt x y)(h2:le lt y z):le lt x z:=by
 unfold le at *;cases e:lt z x with
 | false=>rfl
 | true =>
  rcases O.nt z y x hz hy hx e with h|h
  ·rw[h2] at h;cases h
  ·rw[h1] at h;cases h
theorem Or.of(O:Or M lt){x y:Keyed}(hx:M x)(hy:M y)(h:lt x y=true):le lt x y:=O.as x y hx hy h
theorem Or.rf(O:Or M lt){x:Keyed}(hx:M x):le lt x x:=O.ir x hx
abbrev Up(lt:Keyed->Keyed->Bool)(l:List Keyed):Prop:=l.Pairwise (le lt)
structure MI(lt:Keyed->Keyed->Bool)(la lb out:List Keyed)(i j:Nat):Prop where
 il:i<=la.length
 jl:j<=lb.length
 pm:out.Perm (la.take i++lb.take j)
 so:Up lt out
 ab:∀x∈out,∀y,y∈la.drop i\/y∈lb.drop j->le lt x y
variable{la lb out:List Keyed}{i j k:Nat}
theorem MI.sw(m:MI lt la lb out i j):MI lt lb la out j i:=⟨m.jl,m.il,m.pm.trans List.perm_append_comm,m.so,λx hx y hy=>m.ab x hx y hy.symm⟩
theorem d8{l:List Keyed}(h:Up lt l)(i:Nat):Up lt (l.drop i):=h.sublist (List.drop_sublist i l)
theorem d9{l:List Keyed}(h:Up lt l)(i:Nat):Up lt (l.take i):=h.sublist (List.take_sublist i l)
theorem uZ{l:List Keyed}(h:Up lt l)(i:Nat):∀x∈l.take i,∀y∈l.drop i,le lt x y:=by
 rw[<- qA i l] at h;exact(zzA.mp h).2.2
theorem MI.A(m:MI lt la lb out i j)(sa:Up lt la)(hk:i+k<=la.length)(h:∀x∈(la.drop i).take k,∀y∈lb.drop j,le lt x y):MI lt la lb (out++(la.drop i).take k) (i+k) j:=by
 refine⟨hk,m.jl,?_,?_,?_⟩
 ·rw[List.take_add];refine(m.pm.append_right _).trans ?_;rw[vT,vT];exact List.Perm.append_left _ List.perm_append_comm
 ·refine zzA.mpr ⟨m.so,d9 (d8 sa i) k,λx hx y hy=>m.ab x hx y (.inl (oC hy))⟩
 ·intro x hx y hy;have e:la.drop (i+k)=(la.drop i).drop k:=by rw[List.drop_drop]
  rcases wT.mp hx with hx|hx
  ·rcases hy with hy|hy
   ·rw[e] at hy;exact m.ab x hx y (.inl (oP hy))
   ·exact m.ab x hx y (.inr hy)
  ·rcases hy with hy|hy
   ·rw[e] at hy;exact uZ (d8 sa i) k x hx y hy
   ·exact h x hx y hy
theorem MI.B(m:MI lt la lb out i j)(sb:Up lt lb)(hk:j+k<=lb.length)(h:∀y∈(lb.drop j).take k,∀x∈la.drop i,le lt y x):MI lt la lb (out++(lb.drop j).take k) i (j+k):=(m.sw.A sb hk h).sw
theorem take_one{l:List Keyed}{x:Keyed}(h:l[i]?=some x):(l.drop i).take 1=[x]/\i+1<=l.length/\l.drop i=x::l.drop (i+1):=by
 obtain⟨h1,h2⟩:=qB.mp h;have e:l.drop i=x::l.drop (i+1):=by rw[List.drop_eq_getElem_cons h1,h2]
 exact⟨by rw[e];rfl,h1,e⟩
theorem MI.a1(m:MI lt la lb out i j)(sa:Up lt la){x:Keyed}(hx:la[i]?=some x)(h:∀y∈lb.drop j,le lt x y):MI lt la lb (out++[x]) (i+1) j:=by
 obtain⟨e,hl,_⟩:=take_one hx;have:=m.A (k:=1) sa hl (λz hz y hy=>by rw[e] at hz;rw[rS.mp hz];exact h y hy);rw[e] at this;exact this
theorem MI.b1(m:MI lt la lb out i j)(sb:Up lt lb){y:Keyed}(hy:lb[j]?=some y)(h:∀x∈la.drop i,le lt y x):MI lt la lb (out++[y]) i (j+1):=(m.sw.a1 sb hy h).sw
theorem jg(O:Or M lt){l:List Keyed}(hM:∀x∈l,M x)(h:Up lt l){x:Keyed}(hx:l[i]?=some x):∀y∈l.drop i,le lt x y:=λy hy=>by
 obtain⟨_,_,e⟩:=take_one hx;have hs:=d8 h i;rw[e] at hy hs;rcases jI.mp hy with rfl|hy
 ·exact O.rf (hM _ (wE hx))
 ·exact(List.pairwise_cons.mp hs).1 y hy
theorem MI.fin(m:MI lt la lb out i j){P Q:List Keyed}(hp:P.Perm (la.drop i)/\Q.Perm (lb.drop j)\/P.Perm (lb.drop j)/\Q.Perm (la.drop i))(uP:Up lt P)(uQ:Up lt Q)(h:∀x∈P,∀y∈Q,le lt x y):(out++P++Q).Perm (la++lb)/\Up lt (out++P++Q):=by
 have hm:∀y,y∈P++Q->y∈la.drop i\/y∈lb.drop j:=λy hy=>by
  rcases wT.mp hy with hy|hy
  ·rcases hp with⟨h1,_⟩|⟨h1,_⟩
   ·exact .inl (h1.mem_iff.mp hy)
   ·exact .inr (h1.mem_iff.mp hy)
  ·rcases hp with⟨_,h1⟩|⟨_,h1⟩
   ·exact .inr (h1.mem_iff.mp hy)
   ·exact .inl (h1.mem_iff.mp hy)
 constructor
 ·rw[vT];have h1:(P++Q).Perm (la.drop i++lb.drop j):=by
   rcases hp with⟨h1,h2⟩|⟨h1,h2⟩
   ·exact h1.append h2
   ·exact(h1.append h2).trans List.perm_append_comm
  refine(m.pm.append h1).trans ?_;refine List.Perm.trans (l₂:=(la.take i++la.drop i)++(lb.take j++lb.drop j)) ?_ (by rw[qA,qA]);rw[vT,vT];refine List.Perm.append_left _ ?_;rw[<- vT,<- vT];exact List.Perm.append_right _ List.perm_append_comm
 ·rw[vT];exact zzA.mpr ⟨m.so,zzA.mpr ⟨uP,uQ,h⟩,λx hx y hy=>m.ab x hx y (hm y hy)⟩
theorem jE{α:Type}(a:Array α)(i j:Nat):(a.extract i j).toList=(a.toList.drop i).take (j-i):=by
 simp[List.extract_eq_take_drop]
theorem sW{α:Type}(a:Array α)(i:Nat):(a.extract i).toList=a.toList.drop i:=by
 rw[jE];exact List.take_of_length_le (by simp)
theorem aQ{α:Type}{a:Array α}{i:Nat}{x:α}(h:a.toList[i]?=some x):a[i]?=some x:=by simpa using h
end
end TS
end L2
namespace L2
open PySem PyProof.Rows
namespace TS
def mlo:Array Keyed->Array Keyed->StateT SortSt Sem (Array Keyed):=sortPriv% PySem.Builtin.mergeLo
section
variable{prog:Program}{w:World}{A:Around}{E:xB}{s:Shared}{κ:SortKind}{M:Keyed->Prop}{lt:Keyed->Keyed->Bool}
theorem Ord.or(O:Ord prog w A κ s M lt):Or M lt:=⟨O.ir,O.nt,O.as⟩
theorem seg_at{arr:xE}{base n:Nat}{seg:List Keyed}(hs:seg=(arr.toList.drop base).take n)(hl:base+n<=arr.size):seg.length=n/\∀i (h:i<seg.length),arr[base+i]?=some seg[i]:=by
 have l1:seg.length=n:=by rw[hs,nE,zzH,mS];lia
 refine⟨l1,λi h=>aQ ?_⟩;have e:seg[i]?=arr.toList[base+i]?:=by rw[hs,List.getElem?_take,yB (by lia),List.getElem?_drop]
 rw[<- e,qE h]
theorem Y_{l:List Keyed}(O:Or M lt)(hM:∀x∈l,M x)(u:Up lt l){i j:Nat}(hij:i<=j)(hj:j<l.length):le lt (l[i]'(by lia)) l[j]:=by
 rcases Nat.lt_or_eq_of_le hij with h|rfl
 ·exact List.pairwise_iff_getElem.mp u i j (by lia) hj h
 ·exact O.rf (hM _ (List.getElem_mem hj))
theorem eY(O:Ord prog w A κ s M lt){st:SortSt}{left:Bool}{key:Keyed}{arr:xE}{base n hint:Nat}{seg:List Keyed}{Q:Option Nat->SortSt->Prop}(hk:kindOf st=κ)(hs:seg=(arr.toList.drop base).take n)(hl:base+n<=arr.size)(Ml:∀x∈seg,M x)(u:Up lt seg)(My:M key)(hh:hint<n)
  (h:∀k,k<=n->(∀x∈seg.take k,bey left lt key x=true)->(∀x∈seg.drop k,bey left lt key x=false)->Q (some k) st):wpS (model prog w) A E s (gal left key arr base n hint) Q st:=by
 obtain⟨l1,hat⟩:=seg_at hs hl;have gd:∀i (hi:i<n),seg.getD i (Value.none,Value.none)=seg[i]'(by lia):=λi hi=>by rw[oS,qE (by lia)];rfl
 refine Wd (X:=λi=>seg.getD i (Value.none,Value.none)) O hk (λi hi=>?_) My (λi j hij hj hb=>?_) hh λk hk1 f1 f2=>h k hk1 (λx hx=>?_) λx hx=>?_
 ·rw[gd i hi];exact⟨hat i (by lia),Ml _ (List.getElem_mem _)⟩
 ·have hle:=Y_ O.or Ml u hij (by lia:j<seg.length);rw[<- gd i (by lia),<- gd j hj] at hle;have Mi:M (seg.getD i (Value.none,Value.none)):=by rw[gd i (by lia)];exact Ml _ (List.getElem_mem _)
  have Mj:M (seg.getD j (Value.none,Value.none)):=by rw[gd j hj];exact Ml _ (List.getElem_mem _)
  unfold bey at hb ⊢;cases left with
  | true =>
   rw[yB rfl] at hb ⊢;rcases O.nt _ _ _ Mj Mi My hb with z|z
   ·rw[show lt _ _=false from hle] at z;cases z
   ·exact z
  | false =>
   rw[if_neg (by simp)] at hb ⊢;have:le lt (seg.getD j (Value.none,Value.none)) key:=by unfold le;simpa using hb
   have:=O.or.tr Mi Mj My hle this;unfold le at this;rw[this]
   rfl
 ·obtain⟨i,hi,rfl⟩:=List.mem_iff_getElem.mp hx;rw[nE] at hi;rw[List.getElem_take,<- gd i (by lia)];exact f1 i (by lia)
 ·obtain⟨i,hi,rfl⟩:=List.mem_iff_getElem.mp hx;rw[zzH] at hi;rw[List.getElem_drop,<- gd (k+i) (by lia)];exact f2 (k+i) (by lia) (by lia)
structure SG(st st':SortSt):Prop where
 k:kindOf st'=kindOf st
 a:arrOf st'=arrOf st
 p:pendingOf st'=pendingOf st
 f:failedOf st'=failedOf st
theorem SG.rf{st:SortSt}:SG st st:=⟨rfl,rfl,rfl,rfl⟩
theorem SG.set{st st':SortSt}(h:SG st st')(g:Nat):SG st (SortSt.mk' (kindOf st') (arrOf st') (pendingOf st') g (failedOf st')):=⟨h.k,h.a,h.p,h.f⟩
structure Pre(M:Keyed->Prop)(lt:Keyed->Keyed->Bool)(la lb:List Keyed):Prop where
 Ma:∀x∈la,M x
 Mb:∀x∈lb,M x
 ua:Up lt la
 ub:Up lt lb
 na:la≠[]
 nb:lb≠[]
 lo:∀y,lb[0]?=some y->∀x∈la,le lt y x
 hi:∀y∈lb,∀x,la[la.length-1]?=some x->le lt y x
abbrev Good(lt:Keyed->Keyed->Bool)(la lb:List Keyed)(r:xE):Prop:=r.toList.Perm (la++lb)/\Up lt r.toList
variable{a b out:xE}{i j:Nat}
theorem dH(P:Pre M lt a.toList b.toList)(m:MI lt a.toList b.toList out.toList i j)(h:j=b.size\/i=a.size):Good lt a.toList b.toList (out++a.extract i++b.extract j):=by
 have e:(out++a.extract i++b.extract j).toList=out.toList++a.toList.drop i++b.toList.drop j:=by rw[mT,mT,sW,sW]
 unfold Good;rw[e];refine m.fin (.inl ⟨List.Perm.refl _,List.Perm.refl _⟩) (d8 P.ua i) (d8 P.ub j) λx hx y hy=>?_
 rcases h with rfl|rfl
 ·rw[List.drop_of_length_le (by simp)] at hy;cases hy
 ·rw[List.drop_of_length_le (by simp)] at hx;cases hx
theorem dI(P:Pre M lt a.toList b.toList)(m:MI lt a.toList b.toList out.toList i j)(h:i+1=a.size):Good lt a.toList b.toList (out++b.extract j++a.extract i):=by
 have e:(out++b.extract j++a.extract i).toList=out.toList++b.toList.drop j++a.toList.drop i:=by rw[mT,mT,sW,sW]
 unfold Good;rw[e];refine m.fin (.inr ⟨List.Perm.refl _,List.Perm.refl _⟩) (d8 P.ub j) (d8 P.ua i) λy hy x hx=>?_
 refine P.hi y (oP hy) x ?_;rw[List.drop_eq_getElem_cons (by simp;lia),List.drop_of_length_le (by simp;lia),List.mem_singleton] at hx;rw[hx,show a.toList.length-1=i by simp;lia];simp
theorem eE{l:xE}{i:Nat}(h:i<l.size):∃x,l.toList[i]?=some x:=⟨l.toList[i]'(by simpa using h),List.getElem?_eq_getElem (by simpa using h)⟩
def MB(lt:Keyed->Keyed->Bool)(a b out:xE)(i j n:Nat):Prop:=MI lt a.toList b.toList out.toList i j/\i+1<a.size/\j<b.size/\n<=i+j
theorem cY(o:xE)(x:Keyed):(o.push x).toList=o.toList++[x]:=by simp
theorem app_list(o:xE)(l:xE)(i k:Nat):(o++l.extract i (i+k)).toList=o.toList++(l.toList.drop i).take k:=by rw[mT,jE,show i+k-i=k by lia]
theorem Wf(O:Ord prog w A κ s M lt){st:SortSt}{Q:Array Keyed->SortSt->Prop}(hk:kindOf st=κ)(P:Pre M lt a.toList b.toList)(h:∀r st',SG st st'->Good lt a.toList b.toList r->Q r st'):wpS (model prog w) A E s (mlo a b) Q st:=by
 have sa:0<a.size:=by have:=List.length_pos_iff.mpr P.na;simpa using this
 have sb:0<b.size:=by have:=List.length_pos_iff.mpr P.nb;simpa using this
 obtain⟨b0,hb0⟩:=eE sb;have m0:MI lt a.toList b.toList (#[b0]:xE).toList 0 1:=by
  have:MI lt a.toList b.toList [] 0 0:=⟨by lia,by lia,by simp,List.Pairwise.nil,λx hx=>by cases hx⟩;exact this.b1 P.ub hb0 (λx hx=>P.lo b0 hb0 x (oP hx))
 unfold mlo;refine zS (wpS_lift (wpAny_rule ⟨rfl,?_⟩));refine zS (aV (aQ hb0) ?_);dsimp only;by_cases h1:(1==b.size)=true
 ·rw[yB h1];exact yA (h _ _ SG.rf (dH P m0 (.inl (gS h1))))
 rw[yT h1];have h1:1<b.size:=by have:¬ 1=b.size:=λe=>h1 (by rw[<- e];rfl);lia
 by_cases h2:(0+1==a.size)=true
 ·rw[yB h2];exact yA (h _ _ SG.rf (dI P m0 (gS h2)))
 rw[yT h2];have h2:0+1<a.size:=by have:¬ 0+1=a.size:=λe=>h2 (by rw[<- e];rfl);lia
 refine zS (wpS_get ?_);refine zS (wpS_mono (wpS_forRange (I:=λx c st'=>SG st st'/\∃out i j g,c=(none,out,i,j,g)/\MB lt a b out i j (x+1))
  (Q:=λc st'=>SG st st'/\∃r t,c=(some r,t)/\Good lt a.toList b.toList r) ?_ ?_ ⟨SG.rf,_,_,_,_,rfl,m0,h2,h1,by lia⟩) ?_)
 ·rintro x c st1 _ hx ⟨g1,out,i,j,g,rfl,mb⟩;dsimp only;refine zS (wpS_mono (wpS_forRange (I:=λy c st'=>st1=st'/\∃out i j u v,c=(none,out,i,j,u,v)/\MB lt a b out i j (x+1+y))
   (Q:=λc st'=>st1=st'/\∃r out i j u v,c=(r,out,i,j,u,v)/\((∃z,r=some z/\Good lt a.toList b.toList z)\/(r=none/\MB lt a b out i j (x+2)))) ?_ ?_ ⟨rfl,_,_,_,_,_,rfl,mb⟩) ?_)
  ·clear mb;rintro y c st2 _ hy ⟨rfl,out,i,j,u,v,rfl,m,q1,q2,q3⟩;dsimp only;obtain⟨xa,ea⟩:=eE (l:=a) (show i<a.size by lia);obtain⟨xb,eb⟩:=eE q2;have Mxa:=P.Ma _ (wE ea);have Mxb:=P.Mb _ (wE eb);have kk:kindOf st1=κ:=g1.k.trans hk;refine zS (aV (aQ eb) ?_);refine zS (aV (aQ ea) ?_);refine zS (Cm O kk Mxb Mxa ?_);dsimp only;cases hl:lt xb xa with
   | true =>
    rw[yB rfl];refine zS (aV (aQ eb) ?_);have m2:MI lt a.toList b.toList (out.push xb).toList i (j+1):=by
     rw[cY];exact m.b1 P.ub eb λz hz=>O.or.tr Mxb Mxa (P.Ma _ (oP hz)) (O.or.of Mxb Mxa hl) (jg O.or P.Ma P.ua ea z hz)
    by_cases c1:(j+1==b.size)=true
    ·rw[yB c1];exact yA ⟨rfl,_,_,_,_,_,_,rfl,.inl ⟨_,rfl,dH P m2 (.inl (gS c1))⟩⟩
    rw[yT c1];have c1:j+1<b.size:=by have:¬ j+1=b.size:=λe=>c1 (by rw[<- e];simp);lia
    by_cases c2:v+1 ≥ g
    ·rw[yB c2];exact yA ⟨rfl,_,_,_,_,_,_,rfl,.inr ⟨rfl,m2,q1,c1,by lia⟩⟩
    ·rw[yT c2];exact yA ⟨rfl,_,_,_,_,_,rfl,m2,q1,c1,by lia⟩
   | false =>
    rw[if_neg (by simp)];refine zS (aV (aQ ea) ?_);have m2:MI lt a.toList b.toList (out.push xa).toList (i+1) j:=by
     rw[cY];exact m.a1 P.ua ea λz hz=>O.or.tr Mxa Mxb (P.Mb _ (oP hz)) hl (jg O.or P.Mb P.ub eb z hz)
    by_cases c1:(i+1+1==a.size)=true
    ·rw[yB c1];exact yA ⟨rfl,_,_,_,_,_,_,rfl,.inl ⟨_,rfl,dI P m2 (gS c1)⟩⟩
    rw[yT c1];have c1:i+1+1<a.size:=by have:¬ i+1+1=a.size:=λe=>c1 (by rw[<- e];simp);lia
    by_cases c2:u+1 ≥ g
    ·rw[yB c2];exact yA ⟨rfl,_,_,_,_,_,_,rfl,.inr ⟨rfl,m2,c1,q2,by lia⟩⟩
    ·rw[yT c2];exact yA ⟨rfl,_,_,_,_,_,rfl,m2,c1,q2,by lia⟩
  ·rintro c st2 ⟨rfl,out,i,j,u,v,rfl,m,q1,q2,q3⟩;exact gN q3 (by lia)
  clear mb;rintro c st2 ⟨rfl,r,out,i,j,u,v,rfl,hr⟩;dsimp only;rcases hr with⟨z,rfl,gz⟩|⟨rfl,mb⟩
  ·exact yA ⟨g1,_,_,rfl,gz⟩
  dsimp only;refine zS (wpS_lift (wpAny_rule ⟨rfl,?_⟩));refine zS (wpS_mono (wpS_forRange (I:=λy c st'=>SG st st'/\∃out i j g u v,c=(none,out,i,j,g,u,v)/\MB lt a b out i j (x+2+y))
   (Q:=λc st'=>SG st st'/\∃r out i j g u v,c=(r,out,i,j,g,u,v)/\((∃z,r=some z/\Good lt a.toList b.toList z)\/(r=none/\MB lt a b out i j (x+2)))) ?_ ?_ ⟨g1,_,_,_,_,_,_,rfl,mb⟩) ?_)
  ·clear mb;rintro y c st2 _ hy ⟨g2,out,i,j,g,u,v,rfl,m,q1,q2,q3⟩;dsimp only;obtain⟨xb,eb⟩:=eE q2;have Mxb:=P.Mb _ (wE eb);have hbz:=jg O.or P.Mb P.ub eb;by_cases cg:g > 1
   ·rw[yB cg];refine zS (wpS_modify ?_);have g3:=g2.set (g-1);have kk:kindOf (SortSt.mk' (kindOf st2) (arrOf st2) (pendingOf st2) (g-1) (failedOf st2))=κ:=g3.k.trans hk;refine zS (aV (aQ eb) ?_);refine wpS_bind (eY O kk (seg:=a.toList.drop i) (List.take_of_length_le (by simp)).symm (by lia) (λz hz=>P.Ma _ (List.mem_of_mem_drop hz)) (d8 P.ua _) Mxb (by lia) λk1 hk1 d1 d2=>?_);dsimp only;have d1':∀z∈(a.toList.drop i).take k1,le lt z xb:=λz hz=>by
     have h6:=d1 z hz;unfold bey at h6;rw[if_neg (by simp)] at h6;unfold le;simpa using h6
    have d2':∀z∈a.toList.drop (i+k1),le lt xb z:=λz hz=>by
     have h6:=d2 z (by rw[List.drop_drop];exact hz);unfold bey at h6;rw[if_neg (by simp)] at h6;exact O.or.of Mxb (P.Ma _ (List.mem_of_mem_drop hz)) (by simpa using h6)
    by_cases c0:k1 > 0
    ·rw[yB c0];have m3:MI lt a.toList b.toList (out++a.extract i (i+k1)).toList (i+k1) j:=by
      rw[app_list];refine m.A P.ua (by simp;lia) λz hz x hx=>?_
      exact O.or.tr (P.Ma _ (oP (oC hz))) Mxb (P.Mb _ (oP hx)) (d1' z hz) (hbz x hx)
     by_cases c6:(i+k1+1==a.size)=true
     ·rw[yB c6];exact yA ⟨g3,_,_,_,_,_,_,_,rfl,.inl ⟨_,rfl,dI P m3 (gS c6)⟩⟩
     rw[yT c6];by_cases c7:(i+k1==a.size)=true
     ·rw[yB c7];exact yA ⟨g3,_,_,_,_,_,_,_,rfl,.inl ⟨_,rfl,dH P m3 (.inr (gS c7))⟩⟩
     rw[yT c7];have q4:i+k1+1<a.size:=by
      have z1:¬ i+k1+1=a.size:=λe=>c6 (by rw[<- e];simp)
      have z2:¬ i+k1=a.size:=λe=>c7 (by rw[<- e];simp)
      lia
     have f3:=d2';refine zS (aV (aQ eb) ?_);have m4:MI lt a.toList b.toList ((out++a.extract i (i+k1)).push xb).toList (i+k1) (j+1):=by
      rw[cY];exact m3.b1 P.ub eb f3
     by_cases c1:(j+1==b.size)=true
     ·rw[yB c1];exact yA ⟨g3,_,_,_,_,_,_,_,rfl,.inl ⟨_,rfl,dH P m4 (.inl (gS c1))⟩⟩
     rw[yT c1];have c1:j+1<b.size:=by have:¬ j+1=b.size:=λe=>c1 (by rw[<- e];simp);lia
     obtain⟨xa,ea⟩:=eE (l:=a) (show i+k1<a.size by lia);have Mxa:=P.Ma _ (wE ea);refine zS (aV (aQ ea) ?_);refine wpS_bind (eY O kk (seg:=b.toList.drop (j+1)) (List.take_of_length_le (by simp)).symm (by lia) (λz hz=>P.Mb _ (List.mem_of_mem_drop hz)) (d8 P.ub _) Mxa (by lia) λk2 hk2 e1 e2=>?_);dsimp only;by_cases c2:k2 > 0
     ·rw[yB c2];have m6:MI lt a.toList b.toList (((out++a.extract i (i+k1)).push xb)++b.extract (j+1) (j+1+k2)).toList (i+k1) (j+1+k2):=by
       rw[app_list];refine m4.B P.ub (by simp;lia) λz hz x hx=>?_
       have h6:=e1 z hz;unfold bey at h6;rw[yB rfl] at h6;have Mz:=P.Mb _ (oP (oC hz));exact O.or.tr Mz Mxa (P.Ma _ (oP hx)) (O.or.of Mz Mxa h6) (jg O.or P.Ma P.ua ea x hx)
      by_cases c5:(j+1+k2==b.size)=true
      ·rw[yB c5];exact yA ⟨g3,_,_,_,_,_,_,_,rfl,.inl ⟨_,rfl,dH P m6 (.inl (gS c5))⟩⟩
      rw[yT c5];have q5:j+1+k2<b.size:=by have:¬ j+1+k2=b.size:=λe=>c5 (by rw[<- e];simp);lia
      have m4:=m6;have f4:∀z∈b.toList.drop (j+1+k2),le lt xa z:=λz hz=>by
       have h6:=e2 z (by rw[List.drop_drop];exact hz);unfold bey at h6;rw[yB rfl] at h6;exact h6
      refine zS (aV (aQ ea) ?_);have m5:MI lt a.toList b.toList ((((out++a.extract i (i+k1)).push xb)++b.extract (j+1) (j+1+k2)).push xa).toList ((i+k1)+1) (j+1+k2):=by
       rw[cY];exact m4.a1 P.ua ea f4
      by_cases c3:((i+k1)+1+1==a.size)=true
      ·rw[yB c3];exact yA ⟨g3,_,_,_,_,_,_,_,rfl,.inl ⟨_,rfl,dI P m5 (gS c3)⟩⟩
      rw[yT c3];have c3:(i+k1)+1+1<a.size:=by have:¬ (i+k1)+1+1=a.size:=λe=>c3 (by rw[<- e];simp);lia
      by_cases c4:(decide (k1<7) && decide (k2<7))=true
      ·rw[yB c4];exact yA ⟨g3,_,_,_,_,_,_,_,rfl,.inr ⟨rfl,m5,c3,q5,by lia⟩⟩
      ·rw[yT c4];exact yA ⟨g3,_,_,_,_,_,_,rfl,m5,c3,q5,by lia⟩
     ·rw[yT c2];have q5:j+1<b.size:=c1;have f4:∀z∈b.toList.drop (j+1),le lt xa z:=λz hz=>by
       have h6:=e2 z (by rw[show k2=0 by lia];exact hz);unfold bey at h6;rw[yB rfl] at h6;exact h6
      refine zS (aV (aQ ea) ?_);have m5:MI lt a.toList b.toList (((out++a.extract i (i+k1)).push xb).push xa).toList ((i+k1)+1) (j+1):=by
       rw[cY];exact m4.a1 P.ua ea f4
      by_cases c3:((i+k1)+1+1==a.size)=true
      ·rw[yB c3];exact yA ⟨g3,_,_,_,_,_,_,_,rfl,.inl ⟨_,rfl,dI P m5 (gS c3)⟩⟩
      rw[yT c3];have c3:(i+k1)+1+1<a.size:=by have:¬ (i+k1)+1+1=a.size:=λe=>c3 (by rw[<- e];simp);lia
      by_cases c4:(decide (k1<7) && decide (k2<7))=true
      ·rw[yB c4];exact yA ⟨g3,_,_,_,_,_,_,_,rfl,.inr ⟨rfl,m5,c3,q5,by lia⟩⟩
      ·rw[yT c4];exact yA ⟨g3,_,_,_,_,_,_,rfl,m5,c3,q5,by lia⟩
    ·rw[yT c0];have m3:=m;have q4:=q1;have f3:∀z∈a.toList.drop i,le lt xb z:=λz hz=>d2' z (by rw[show k1=0 by lia];exact hz)
     refine zS (aV (aQ eb) ?_);have m4:MI lt a.toList b.toList (out.push xb).toList (i) (j+1):=by
      rw[cY];exact m3.b1 P.ub eb f3
     by_cases c1:(j+1==b.size)=true
     ·rw[yB c1];exact yA ⟨g3,_,_,_,_,_,_,_,rfl,.inl ⟨_,rfl,dH P m4 (.inl (gS c1))⟩⟩
     rw[yT c1];have c1:j+1<b.size:=by have:¬ j+1=b.size:=λe=>c1 (by rw[<- e];simp);lia
     obtain⟨xa,ea⟩:=eE (l:=a) (show i<a.size by lia);have Mxa:=P.Ma _ (wE ea);refine zS (aV (aQ ea) ?_);refine wpS_bind (eY O kk (seg:=b.toList.drop (j+1)) (List.take_of_length_le (by simp)).symm (by lia) (λz hz=>P.Mb _ (List.mem_of_mem_drop hz)) (d8 P.ub _) Mxa (by lia) λk2 hk2 e1 e2=>?_);dsimp only;by_cases c2:k2 > 0
     ·rw[yB c2];have m6:MI lt a.toList b.toList ((out.push xb)++b.extract (j+1) (j+1+k2)).toList (i) (j+1+k2):=by
       rw[app_list];refine m4.B P.ub (by simp;lia) λz hz x hx=>?_
       have h6:=e1 z hz;unfold bey at h6;rw[yB rfl] at h6;have Mz:=P.Mb _ (oP (oC hz));exact O.or.tr Mz Mxa (P.Ma _ (oP hx)) (O.or.of Mz Mxa h6) (jg O.or P.Ma P.ua ea x hx)
      by_cases c5:(j+1+k2==b.size)=true
      ·rw[yB c5];exact yA ⟨g3,_,_,_,_,_,_,_,rfl,.inl ⟨_,rfl,dH P m6 (.inl (gS c5))⟩⟩
      rw[yT c5];have q5:j+1+k2<b.size:=by have:¬ j+1+k2=b.size:=λe=>c5 (by rw[<- e];simp);lia
      have m4:=m6;have f4:∀z∈b.toList.drop (j+1+k2),le lt xa z:=λz hz=>by
       have h6:=e2 z (by rw[List.drop_drop];exact hz);unfold bey at h6;rw[yB rfl] at h6;exact h6
      refine zS (aV (aQ ea) ?_);have m5:MI lt a.toList b.toList (((out.push xb)++b.extract (j+1) (j+1+k2)).push xa).toList ((i)+1) (j+1+k2):=by
       rw[cY];exact m4.a1 P.ua ea f4
      by_cases c3:((i)+1+1==a.size)=true
      ·rw[yB c3];exact yA ⟨g3,_,_,_,_,_,_,_,rfl,.inl ⟨_,rfl,dI P m5 (gS c3)⟩⟩
      rw[yT c3];have c3:(i)+1+1<a.size:=by have:¬ (i)+1+1=a.size:=λe=>c3 (by rw[<- e];simp);lia
      by_cases c4:(decide (k1<7) && decide (k2<7))=true
      ·rw[yB c4];exact yA ⟨g3,_,_,_,_,_,_,_,rfl,.inr ⟨rfl,m5,c3,q5,by lia⟩⟩
      ·rw[yT c4];exact yA ⟨g3,_,_,_,_,_,_,rfl,m5,c3,q5,by lia⟩
     ·rw[yT c2];have q5:j+1<b.size:=c1;have f4:∀z∈b.toList.drop (j+1),le lt xa z:=λz hz=>by
       have h6:=e2 z (by rw[show k2=0 by lia];exact hz);unfold bey at h6;rw[yB rfl] at h6;exact h6
      refine zS (aV (aQ ea) ?_);have m5:MI lt a.toList b.toList ((out.push xb).push xa).toList ((i)+1) (j+1):=by
       rw[cY];exact m4.a1 P.ua ea f4
      by_cases c3:((i)+1+1==a.size)=true
      ·rw[yB c3];exact yA ⟨g3,_,_,_,_,_,_,_,rfl,.inl ⟨_,rfl,dI P m5 (gS c3)⟩⟩
      rw[yT c3];have c3:(i)+1+1<a.size:=by have:¬ (i)+1+1=a.size:=λe=>c3 (by rw[<- e];simp);lia
      by_cases c4:(decide (k1<7) && decide (k2<7))=true
      ·rw[yB c4];exact yA ⟨g3,_,_,_,_,_,_,_,rfl,.inr ⟨rfl,m5,c3,q5,by lia⟩⟩
      ·rw[yT c4];exact yA ⟨g3,_,_,_,_,_,_,rfl,m5,c3,q5,by lia⟩
   ·rw[yT cg];refine zS (wpS_modify ?_);have g3:=g2.set g;have kk:kindOf (SortSt.mk' (kindOf st2) (arrOf st2) (pendingOf st2) g (failedOf st2))=κ:=g3.k.trans hk;refine zS (aV (aQ eb) ?_);refine wpS_bind (eY O kk (seg:=a.toList.drop i) (List.take_of_length_le (by simp)).symm (by lia) (λz hz=>P.Ma _ (List.mem_of_mem_drop hz)) (d8 P.ua _) Mxb (by lia) λk1 hk1 d1 d2=>?_);dsimp only;have d1':∀z∈(a.toList.drop i).take k1,le lt z xb:=λz hz=>by
     have h6:=d1 z hz;unfold bey at h6;rw[if_neg (by simp)] at h6;unfold le;simpa using h6
    have d2':∀z∈a.toList.drop (i+k1),le lt xb z:=λz hz=>by
     have h6:=d2 z (by rw[List.drop_drop];exact hz);unfold bey at h6;rw[if_neg (by simp)] at h6;exact O.or.of Mxb (P.Ma _ (List.mem_of_mem_drop hz)) (by simpa using h6)
    by_cases c0:k1 > 0
    ·rw[yB c0];have m3:MI lt a.toList b.toList (out++a.extract i (i+k1)).toList (i+k1) j:=by
      rw[app_list];refine m.A P.ua (by simp;lia) λz hz x hx=>?_
      exact O.or.tr (P.Ma _ (oP (oC hz))) Mxb (P.Mb _ (oP hx)) (d1' z hz) (hbz x hx)
     by_cases c6:(i+k1+1==a.size)=true
     ·rw[yB c6];exact yA ⟨g3,_,_,_,_,_,_,_,rfl,.inl ⟨_,rfl,dI P m3 (gS c6)⟩⟩
     rw[yT c6];by_cases c7:(i+k1==a.size)=true
     ·rw[yB c7];exact yA ⟨g3,_,_,_,_,_,_,_,rfl,.inl ⟨_,rfl,dH P m3 (.inr (gS c7))⟩⟩
     rw[yT c7];have q4:i+k1+1<a.size:=by
      have z1:¬ i+k1+1=a.size:=λe=>c6 (by rw[<- e];simp)
      have z2:¬ i+k1=a.size:=λe=>c7 (by rw[<- e];simp)
      lia
     have f3:=d2';refine zS (aV (aQ eb) ?_);have m4:MI lt a.toList b.toList ((out++a.extract i (i+k1)).push xb).toList (i+k1) (j+1):=by
      rw[cY];exact m3.b1 P.ub eb f3
     by_cases c1:(j+1==b.size)=true
     ·rw[yB c1];exact yA ⟨g3,_,_,_,_,_,_,_,rfl,.inl ⟨_,rfl,dH P m4 (.inl (gS c1))⟩⟩
     rw[yT c1];have c1:j+1<b.size:=by have:¬ j+1=b.size:=λe=>c1 (by rw[<- e];simp);lia
     obtain⟨xa,ea⟩:=eE (l:=a) (show i+k1<a.size by lia);have Mxa:=P.Ma _ (wE ea);refine zS (aV (aQ ea) ?_);refine wpS_bind (eY O kk (seg:=b.toList.drop (j+1)) (List.take_of_length_le (by simp)).symm (by lia) (λz hz=>P.Mb _ (List.mem_of_mem_drop hz)) (d8 P.ub _) Mxa (by lia) λk2 hk2 e1 e2=>?_);dsimp only;by_cases c2:k2 > 0
     ·rw[yB c2];have m6:MI lt a.toList b.toList (((out++a.extract i (i+k1)).push xb)++b.extract (j+1) (j+1+k2)).toList (i+k1) (j+1+k2):=by
       rw[app_list];refine m4.B P.ub (by simp;lia) λz hz x hx=>?_
       have h6:=e1 z hz;unfold bey at h6;rw[yB rfl] at h6;have Mz:=P.Mb _ (oP (oC hz));exact O.or.tr Mz Mxa (P.Ma _ (oP hx)) (O.or.of Mz Mxa h6) (jg O.or P.Ma P.ua ea x hx)
      by_cases c5:(j+1+k2==b.size)=true
      ·rw[yB c5];exact yA ⟨g3,_,_,_,_,_,_,_,rfl,.inl ⟨_,rfl,dH P m6 (.inl (gS c5))⟩⟩
      rw[yT c5];have q5:j+1+k2<b.size:=by have:¬ j+1+k2=b.size:=λe=>c5 (by rw[<- e];simp);lia
      have m4:=m6;have f4:∀z∈b.toList.drop (j+1+k2),le lt xa z:=λz hz=>by
       have h6:=e2 z (by rw[List.drop_drop];exact hz);unfold bey at h6;rw[yB rfl] at h6;exact h6
      refine zS (aV (aQ ea) ?_);have m5:MI lt a.toList b.toList ((((out++a.extract i (i+k1)).push xb)++b.extract (j+1) (j+1+k2)).push xa).toList ((i+k1)+1) (j+1+k2):=by
       rw[cY];exact m4.a1 P.ua ea f4
      by_cases c3:((i+k1)+1+1==a.size)=true
      ·rw[yB c3];exact yA ⟨g3,_,_,_,_,_,_,_,rfl,.inl ⟨_,rfl,dI P m5 (gS c3)⟩⟩
      rw[yT c3];have c3:(i+k1)+1+1<a.size:=by have:¬ (i+k1)+1+1=a.size:=λe=>c3 (by rw[<- e];simp);lia
      by_cases c4:(decide (k1<7) && decide (k2<7))=true
      ·rw[yB c4];exact yA ⟨g3,_,_,_,_,_,_,_,rfl,.inr ⟨rfl,m5,c3,q5,by lia⟩⟩
      ·rw[yT c4];exact yA ⟨g3,_,_,_,_,_,_,rfl,m5,c3,q5,by lia⟩
     ·rw[yT c2];have q5:j+1<b.size:=c1;have f4:∀z∈b.toList.drop (j+1),le lt xa z:=λz hz=>by
       have h6:=e2 z (by rw[show k2=0 by lia];exact hz);unfold bey at h6;rw[yB rfl] at h6;exact h6
      refine zS (aV (aQ ea) ?_);have m5:MI lt a.toList b.toList (((out++a.extract i (i+k1)).push xb).push xa).toList ((i+k1)+1) (j+1):=by
       rw[cY];exact m4.a1 P.ua ea f4
      by_cases c3:((i+k1)+1+1==a.size)=true
      ·rw[yB c3];exact yA ⟨g3,_,_,_,_,_,_,_,rfl,.inl ⟨_,rfl,dI P m5 (gS c3)⟩⟩
      rw[yT c3];have c3:(i+k1)+1+1<a.size:=by have:¬ (i+k1)+1+1=a.size:=λe=>c3 (by rw[<- e];simp);lia
      by_cases c4:(decide (k1<7) && decide (k2<7))=true
      ·rw[yB c4];exact yA ⟨g3,_,_,_,_,_,_,_,rfl,.inr ⟨rfl,m5,c3,q5,by lia⟩⟩
      ·rw[yT c4];exact yA ⟨g3,_,_,_,_,_,_,rfl,m5,c3,q5,by lia⟩
    ·rw[yT c0];have m3:=m;have q4:=q1;have f3:∀z∈a.toList.drop i,le lt xb z:=λz hz=>d2' z (by rw[show k1=0 by lia];exact hz)
     refine zS (aV (aQ eb) ?_);have m4:MI lt a.toList b.toList (out.push xb).toList (i) (j+1):=by
      rw[cY];exact m3.b1 P.ub eb f3
     by_cases c1:(j+1==b.size)=true
     ·rw[yB c1];exact yA ⟨g3,_,_,_,_,_,_,_,rfl,.inl ⟨_,rfl,dH P m4 (.inl (gS c1))⟩⟩
     rw[yT c1];have c1:j+1<b.size:=by have:¬ j+1=b.size:=λe=>c1 (by rw[<- e];simp);lia
     obtain⟨xa,ea⟩:=eE (l:=a) (show i<a.size by lia);have Mxa:=P.Ma _ (wE ea);refine zS (aV (aQ ea) ?_);refine wpS_bind (eY O kk (seg:=b.toList.drop (j+1)) (List.take_of_length_le (by simp)).symm (by lia) (λz hz=>P.Mb _ (List.mem_of_mem_drop hz)) (d8 P.ub _) Mxa (by lia) λk2 hk2 e1 e2=>?_);dsimp only;by_cases c2:k2 > 0
     ·rw[yB c2];have m6:MI lt a.toList b.toList ((out.push xb)++b.extract (j+1) (j+1+k2)).toList (i) (j+1+k2):=by
       rw[app_list];refine m4.B P.ub (by simp;lia) λz hz x hx=>?_
       have h6:=e1 z hz;unfold bey at h6;rw[yB rfl] at h6;have Mz:=P.Mb _ (oP (oC hz));exact O.or.tr Mz Mxa (P.Ma _ (oP hx)) (O.or.of Mz Mxa h6) (jg O.or P.Ma P.ua ea x hx)
      by_cases c5:(j+1+k2==b.size)=true
      ·rw[yB c5];exact yA ⟨g3,_,_,_,_,_,_,_,rfl,.inl ⟨_,rfl,dH P m6 (.inl (gS c5))⟩⟩
      rw[yT c5];have q5:j+1+k2<b.size:=by have:¬ j+1+k2=b.size:=λe=>c5 (by rw[<- e];simp);lia
      have m4:=m6;have f4:∀z∈b.toList.drop (j+1+k2),le lt xa z:=λz hz=>by
       have h6:=e2 z (by rw[List.drop_drop];exact hz);unfold bey at h6;rw[yB rfl] at h6;exact h6
      refine zS (aV (aQ ea) ?_);have m5:MI lt a.toList b.toList (((out.push xb)++b.extract (j+1) (j+1+k2)).push xa).toList ((i)+1) (j+1+k2):=by
       rw[cY];exact m4.a1 P.ua ea f4
      by_cases c3:((i)+1+1==a.size)=true
      ·rw[yB c3];exact yA ⟨g3,_,_,_,_,_,_,_,rfl,.inl ⟨_,rfl,dI P m5 (gS c3)⟩⟩
      rw[yT c3];have c3:(i)+1+1<a.size:=by have:¬ (i)+1+1=a.size:=λe=>c3 (by rw[<- e];simp);lia
      by_cases c4:(decide (k1<7) && decide (k2<7))=true
      ·rw[yB c4];exact yA ⟨g3,_,_,_,_,_,_,_,rfl,.inr ⟨rfl,m5,c3,q5,by lia⟩⟩
      ·rw[yT c4];exact yA ⟨g3,_,_,_,_,_,_,rfl,m5,c3,q5,by lia⟩
     ·rw[yT c2];have q5:j+1<b.size:=c1;have f4:∀z∈b.toList.drop (j+1),le lt xa z:=λz hz=>by
       have h6:=e2 z (by rw[show k2=0 by lia];exact hz);unfold bey at h6;rw[yB rfl] at h6;exact h6
      refine zS (aV (aQ ea) ?_);have m5:MI lt a.toList b.toList ((out.push xb).push xa).toList ((i)+1) (j+1):=by
       rw[cY];exact m4.a1 P.ua ea f4
      by_cases c3:((i)+1+1==a.size)=true
      ·rw[yB c3];exact yA ⟨g3,_,_,_,_,_,_,_,rfl,.inl ⟨_,rfl,dI P m5 (gS c3)⟩⟩
      rw[yT c3];have c3:(i)+1+1<a.size:=by have:¬ (i)+1+1=a.size:=λe=>c3 (by rw[<- e];simp);lia
      by_cases c4:(decide (k1<7) && decide (k2<7))=true
      ·rw[yB c4];exact yA ⟨g3,_,_,_,_,_,_,_,rfl,.inr ⟨rfl,m5,c3,q5,by lia⟩⟩
      ·rw[yT c4];exact yA ⟨g3,_,_,_,_,_,_,rfl,m5,c3,q5,by lia⟩
  ·rintro c st2 ⟨g2,out,i,j,g,u,v,rfl,m,q1,q2,q3⟩;exact gN q3 (by lia)
  clear mb;rintro c st2 ⟨g2,r,out,i,j,g,u,v,rfl,hr⟩;dsimp only;rcases hr with⟨z,rfl,gz⟩|⟨rfl,mb⟩
  ·exact yA ⟨g2,_,_,rfl,gz⟩
  dsimp only;refine zS (wpS_modify (yA ⟨g2.set _,_,_,_,_,rfl,mb⟩))
 ·rintro c st' ⟨g1,out,i,j,g,rfl,m,q1,q2,q3⟩;exact gN q3 (by lia)
 ·rintro c st' ⟨g1,r,t,rfl,gd⟩;exact yA (h _ _ g1 gd)
end
end TS
end L2
namespace L2
open PySem PyProof.Rows
namespace TS
def mhi:Array Keyed->Array Keyed->StateT SortSt Sem (Array Keyed):=sortPriv% PySem.Builtin.mergeHi
section
variable{lt:Keyed->Keyed->Bool}{M:Keyed->Prop}{la lb rv:List Keyed}{i j t:Nat}
structure MH(lt:Keyed->Keyed->Bool)(la lb rv:List Keyed)(i j:Nat):Prop where
 il:i<=la.length
 jl:j<=lb.length
 pm:rv.Perm (la.drop i++lb.drop j)
 so:Up lt rv
 ab:∀x,x∈la.take i\/x∈lb.take j->∀y∈rv,le lt x y
theorem MH.sw(m:MH lt la lb rv i j):MH lt lb la rv j i:=⟨m.jl,m.il,m.pm.trans List.perm_append_comm,m.so,λx hx y hy=>m.ab x hx.symm y hy⟩
theorem Ow{l:List Keyed}(h1:t<=i)(h2:i<=l.length):(l.take i).drop t++l.drop i=l.drop t:=by
 have:l.drop t=(l.take i++l.drop i).drop t:=by rw[qA]
 rw[this,List.drop_append_of_le_length (by rw[nE];lia)]
theorem iB{l:List Keyed}(h1:t<=i):l.take t=(l.take i).take t:=by rw[List.take_take,Nat.min_eq_left h1]
theorem MH.A(m:MH lt la lb rv i j)(ua:Up lt la)(h1:t<=i)(h:∀y∈lb.take j,∀x∈(la.take i).drop t,le lt y x):MH lt la lb ((la.take i).drop t++rv) t j:=by
 refine⟨oB h1 m.il,m.jl,?_,?_,?_⟩
 ·rw[<- Ow h1 m.il,vT];exact List.Perm.append_left _ m.pm
 ·exact zzA.mpr ⟨d8 (d9 ua i) t,m.so,λx hx y hy=>m.ab x (.inl (oP hx)) y hy⟩
 ·intro x hx y hy;rcases wT.mp hy with hy|hy
  ·rcases hx with hx|hx
   ·rw[iB h1] at hx;exact uZ (d9 ua i) t x hx y hy
   ·exact h x hx y hy
  ·rcases hx with hx|hx
   ·rw[iB h1] at hx;exact m.ab x (.inl (oC hx)) y hy
   ·exact m.ab x (.inr hx) y hy
theorem MH.B(m:MH lt la lb rv i j)(ub:Up lt lb)(h1:t<=j)(h:∀x∈la.take i,∀y∈(lb.take j).drop t,le lt x y):MH lt la lb ((lb.take j).drop t++rv) i t:=(m.sw.A ub h1 h).sw
theorem Cp{l:List Keyed}{x:Keyed}(h0:1<=i)(h:l[i-1]?=some x):(l.take i).drop (i-1)=[x]:=by
 obtain⟨h1,h2⟩:=qB.mp h;rw[List.drop_eq_getElem_cons (by rw[nE];lia),List.drop_of_length_le (by rw[nE];lia),List.getElem_take,h2]
theorem MH.a1(m:MH lt la lb rv i j)(ua:Up lt la){x:Keyed}(h0:1<=i)(hx:la[i-1]?=some x)(h:∀y∈lb.take j,le lt y x):MH lt la lb (x::rv) (i-1) j:=by
 have e:=Cp h0 hx;have:=m.A (t:=i-1) ua (by lia) (λy hy z hz=>by rw[e] at hz;rw[rS.mp hz];exact h y hy);rw[e] at this;exact this
theorem MH.b1(m:MH lt la lb rv i j)(ub:Up lt lb){y:Keyed}(h0:1<=j)(hy:lb[j-1]?=some y)(h:∀x∈la.take i,le lt x y):MH lt la lb (y::rv) i (j-1):=(m.sw.a1 ub h0 hy h).sw
theorem jh(O:Or M lt){l:List Keyed}(hM:∀x∈l,M x)(h:Up lt l){x:Keyed}(h0:1<=i)(hx:l[i-1]?=some x):∀y∈l.take i,le lt y x:=λy hy=>by
 have e:=Cp h0 hx;have hl:i-1<l.length:=(qB.mp hx).1;have hc:=uZ (d9 h i) (i-1);rw[<- qA (i-1) (l.take i),e] at hy;rcases wT.mp hy with hy|hy
 ·exact hc y hy x (by rw[e];exact zC)
 ·rw[rS.mp hy];exact O.rf (hM _ (wE hx))
theorem MH.fin(m:MH lt la lb rv i j){P Q:List Keyed}(hp:P.Perm (la.take i)/\Q.Perm (lb.take j)\/P.Perm (lb.take j)/\Q.Perm (la.take i))(uP:Up lt P)(uQ:Up lt Q)(h:∀x∈P,∀y∈Q,le lt x y):(P++Q++rv).Perm (la++lb)/\Up lt (P++Q++rv):=by
 have hm:∀y,y∈P++Q->y∈la.take i\/y∈lb.take j:=λy hy=>by
  rcases wT.mp hy with hy|hy
  ·rcases hp with⟨h1,_⟩|⟨h1,_⟩
   ·exact .inl (h1.mem_iff.mp hy)
   ·exact .inr (h1.mem_iff.mp hy)
  ·rcases hp with⟨_,h1⟩|⟨_,h1⟩
   ·exact .inr (h1.mem_iff.mp hy)
   ·exact .inl (h1.mem_iff.mp hy)
 constructor
 ·have h1:(P++Q).Perm (la.take i++lb.take j):=by
   rcases hp with⟨h1,h2⟩|⟨h1,h2⟩
   ·exact h1.append h2
   ·exact(h1.append h2).trans List.perm_append_comm
  refine(h1.append m.pm).trans ?_;refine List.Perm.trans (l₂:=(la.take i++la.drop i)++(lb.take j++lb.drop j)) ?_ (by rw[qA,qA]);rw[vT,vT];refine List.Perm.append_left _ ?_;rw[<- vT,<- vT];exact List.Perm.append_right _ List.perm_append_comm
 ·exact zzA.mpr ⟨zzA.mpr ⟨uP,uQ,h⟩,m.so,λx hx y hy=>m.ab x (hm x hx) y hy⟩
end
section
variable{prog:Program}{w:World}{A:Around}{E:xB}{s:Shared}{κ:SortKind}{M:Keyed->Prop}{lt:Keyed->Keyed->Bool}{a b out:xE}{i j:Nat}
theorem oW{α:Type}(a:Array α)(i:Nat):(a.extract 0 i).toList=a.toList.take i:=by rw[jE];rfl
theorem cD(P:Pre M lt a.toList b.toList)(m:MH lt a.toList b.toList out.toList.reverse i j)(h:i=0\/j=0):Good lt a.toList b.toList (a.extract 0 i++b.extract 0 j++out.reverse):=by
 have e:(a.extract 0 i++b.extract 0 j++out.reverse).toList=a.toList.take i++b.toList.take j++out.toList.reverse:=by rw[mT,mT,oW,oW,Array.toList_reverse]
 unfold Good;rw[e];refine m.fin (.inl ⟨List.Perm.refl _,List.Perm.refl _⟩) (d9 P.ua i) (d9 P.ub j) λx hx y hy=>?_
 rcases h with rfl|rfl
 ·cases hx
 ·cases hy
theorem dZ(P:Pre M lt a.toList b.toList)(m:MH lt a.toList b.toList out.toList.reverse i j)(h:j=1):Good lt a.toList b.toList (b.extract 0 j++a.extract 0 i++out.reverse):=by
 have e:(b.extract 0 j++a.extract 0 i++out.reverse).toList=b.toList.take j++a.toList.take i++out.toList.reverse:=by rw[mT,mT,oW,oW,Array.toList_reverse]
 unfold Good;rw[e];refine m.fin (.inr ⟨List.Perm.refl _,List.Perm.refl _⟩) (d9 P.ub j) (d9 P.ua i) λy hy x hx=>?_
 subst h;refine P.lo y ?_ x (oC hx);cases hb:b.toList with
 | nil=>exact gN hb P.nb
 | cons z r =>
  rw[hb] at hy;rw[show (z::r).take 1=[z] from rfl,rS] at hy;rw[hy]
  rfl
def HB(lt:Keyed->Keyed->Bool)(a b out:xE)(i j n:Nat):Prop:=MH lt a.toList b.toList out.toList.reverse i j/\1<=i/\2<=j/\i+j+n<=a.size+b.size
theorem dU(o:xE)(x:Keyed):(o.push x).toList.reverse=x::o.toList.reverse:=by simp
theorem mJ(o:xE)(l:xE)(i k:Nat):(o++(l.extract k i).reverse).toList.reverse=(l.toList.take i).drop k++o.toList.reverse:=by
 rw[mT,List.reverse_append,Array.toList_reverse,List.reverse_reverse,jE,List.drop_take]
theorem Wg(O:Ord prog w A κ s M lt){st:SortSt}{Q:Array Keyed->SortSt->Prop}(hk:kindOf st=κ)(P:Pre M lt a.toList b.toList)(h:∀r st',SG st st'->Good lt a.toList b.toList r->Q r st'):wpS (model prog w) A E s (mhi a b) Q st:=by
 have sa:0<a.size:=by have:=List.length_pos_iff.mpr P.na;simpa using this
 have sb:0<b.size:=by have:=List.length_pos_iff.mpr P.nb;simpa using this
 obtain⟨a0,ha0⟩:=eE (l:=a) (show a.size-1<a.size by lia);have m0:MH lt a.toList b.toList (#[a0]:xE).toList.reverse (a.size-1) b.size:=by
  have:MH lt a.toList b.toList [] a.size b.size:=⟨by simp,by simp,by rw[List.drop_of_length_le (by simp),List.drop_of_length_le (by simp)];exact List.Perm.refl _,List.Pairwise.nil,λx hx y hy=>by cases hy⟩;exact this.a1 P.ua sa ha0 (λx hx=>P.hi x (oC hx) a0 (by rw[mS];exact ha0))
 unfold mhi;refine zS (wpS_lift (wpAny_rule ⟨rfl,?_⟩));refine zS (aV (aQ ha0) ?_);dsimp only;by_cases h1:(a.size-1==0)=true
 ·rw[yB h1];exact yA (h _ _ SG.rf (cD P m0 (.inl (gS h1))))
 rw[yT h1];have h1:1<=a.size-1:=by have:¬ a.size-1=0:=λe=>h1 (by rw[e];rfl);lia
 by_cases h2:(b.size==1)=true
 ·rw[yB h2];exact yA (h _ _ SG.rf (dZ P m0 (gS h2)))
 rw[yT h2];have h2:2<=b.size:=by have:¬ b.size=1:=λe=>h2 (by rw[e];rfl);lia
 refine zS (wpS_get ?_);refine zS (wpS_mono (wpS_forRange (I:=λx c st'=>SG st st'/\∃i j out g,c=(none,i,j,out,g)/\HB lt a b out i j (x+1))
  (Q:=λc st'=>SG st st'/\∃r t,c=(some r,t)/\Good lt a.toList b.toList r) ?_ ?_ ⟨SG.rf,_,_,_,_,rfl,m0,h1,h2,by lia⟩) ?_)
 ·rintro x c st1 _ hx ⟨g1,i,j,out,g,rfl,mb⟩;dsimp only;refine zS (wpS_mono (wpS_forRange (I:=λy c st'=>st1=st'/\∃i j out u v,c=(none,i,j,out,u,v)/\HB lt a b out i j (x+1+y))
   (Q:=λc st'=>st1=st'/\∃r i j out u v,c=(r,i,j,out,u,v)/\((∃z,r=some z/\Good lt a.toList b.toList z)\/(r=none/\HB lt a b out i j (x+2)))) ?_ ?_ ⟨rfl,_,_,_,_,_,rfl,mb⟩) ?_)
  ·clear mb;rintro y c st2 _ hy ⟨rfl,i,j,out,u,v,rfl,m,q1,q2,q3⟩;dsimp only;have il:i<=a.size:=by have:=m.il;simpa using this
   have jl:j<=b.size:=by have:=m.jl;simpa using this
   obtain⟨xa,ea⟩:=eE (l:=a) (show i-1<a.size by lia);obtain⟨xb,eb⟩:=eE (l:=b) (show j-1<b.size by lia);have Mxa:=P.Ma _ (wE ea);have Mxb:=P.Mb _ (wE eb);have kk:kindOf st1=κ:=g1.k.trans hk;refine zS (aV (aQ eb) ?_);refine zS (aV (aQ ea) ?_);refine zS (Cm O kk Mxb Mxa ?_);dsimp only;cases hl:lt xb xa with
   | true =>
    rw[yB rfl];refine zS (aV (aQ ea) ?_);have m2:MH lt a.toList b.toList (out.push xa).toList.reverse (i-1) j:=by
     rw[dU];exact m.a1 P.ua q1 ea λz hz=>O.or.tr (P.Mb _ (oC hz)) Mxb Mxa (jh O.or P.Mb P.ub (by lia) eb z hz) (O.or.of Mxb Mxa hl)
    by_cases c1:(i-1==0)=true
    ·rw[yB c1];exact yA ⟨rfl,_,_,_,_,_,_,rfl,.inl ⟨_,rfl,cD P m2 (.inl (gS c1))⟩⟩
    rw[yT c1];have c1:1<=i-1:=by have:¬ i-1=0:=λe=>c1 (by rw[e];rfl);lia
    by_cases c2:u+1 ≥ g
    ·rw[yB c2];exact yA ⟨rfl,_,_,_,_,_,_,rfl,.inr ⟨rfl,m2,c1,q2,by lia⟩⟩
    ·rw[yT c2];exact yA ⟨rfl,_,_,_,_,_,rfl,m2,c1,q2,by lia⟩
   | false =>
    rw[if_neg (by simp)];refine zS (aV (aQ eb) ?_);have m2:MH lt a.toList b.toList (out.push xb).toList.reverse i (j-1):=by
     rw[dU];exact m.b1 P.ub (by lia) eb λz hz=>O.or.tr (P.Ma _ (oC hz)) Mxa Mxb (jh O.or P.Ma P.ua q1 ea z hz) hl
    by_cases c1:(j-1==1)=true
    ·rw[yB c1];exact yA ⟨rfl,_,_,_,_,_,_,rfl,.inl ⟨_,rfl,dZ P m2 (gS c1)⟩⟩
    rw[yT c1];have c1:2<=j-1:=by have:¬ j-1=1:=λe=>c1 (by rw[e];rfl);lia
    by_cases c2:v+1 ≥ g
    ·rw[yB c2];exact yA ⟨rfl,_,_,_,_,_,_,rfl,.inr ⟨rfl,m2,q1,c1,by lia⟩⟩
    ·rw[yT c2];exact yA ⟨rfl,_,_,_,_,_,rfl,m2,q1,c1,by lia⟩
  ·rintro c st2 ⟨rfl,i,j,out,u,v,rfl,m,q1,q2,q3⟩;exact gN q3 (by lia)
  clear mb;rintro c st2 ⟨rfl,r,i,j,out,u,v,rfl,hr⟩;dsimp only;rcases hr with⟨z,rfl,gz⟩|⟨rfl,mb⟩
  ·exact yA ⟨g1,_,_,rfl,gz⟩
  dsimp only;refine zS (wpS_lift (wpAny_rule ⟨rfl,?_⟩));refine zS (wpS_mono (wpS_forRange (I:=λy c st'=>SG st st'/\∃i j out g u v,c=(none,i,j,out,g,u,v)/\HB lt a b out i j (x+2+y))
   (Q:=λc st'=>SG st st'/\∃r i j out g u v,c=(r,i,j,out,g,u,v)/\((∃z,r=some z/\Good lt a.toList b.toList z)\/(r=none/\HB lt a b out i j (x+2)))) ?_ ?_ ⟨g1,_,_,_,_,_,_,rfl,mb⟩) ?_)
  ·clear mb;rintro y c st2 _ hy ⟨g2,i,j,out,g,u,v,rfl,m,q1,q2,q3⟩;dsimp only;have il:i<=a.size:=by have:=m.il;simpa using this
   have jl:j<=b.size:=by have:=m.jl;simpa using this
   obtain⟨xb,eb⟩:=eE (l:=b) (show j-1<b.size by lia);have Mxb:=P.Mb _ (wE eb);have hbz:=jh O.or P.Mb P.ub (by lia) eb;by_cases cg:g > 1
   ·rw[yB cg];refine zS (wpS_modify ?_);have g3:=g2.set (g-1);have kk:kindOf (SortSt.mk' (kindOf st2) (arrOf st2) (pendingOf st2) (g-1) (failedOf st2))=κ:=g3.k.trans hk;refine zS (aV (aQ eb) ?_);refine zS (eY O kk (seg:=a.toList.take i) rfl (by lia) (λz hz=>P.Ma _ (oC hz)) (d9 P.ua _) Mxb (by lia) λk1 hk1 d1 d2=>?_);dsimp only;have d1':∀z∈a.toList.take k1,le lt z xb:=λz hz=>by
     have h6:=d1 z (by rw[<- iB hk1];exact hz);unfold bey at h6;rw[if_neg (by simp)] at h6;unfold le;simpa using h6
    have d2':∀z∈(a.toList.take i).drop k1,le lt xb z:=λz hz=>by
     have h6:=d2 z hz;unfold bey at h6;rw[if_neg (by simp)] at h6;exact O.or.of Mxb (P.Ma _ (List.mem_of_mem_take (List.mem_of_mem_drop hz))) (by simpa using h6)
    by_cases c0:i-k1 > 0
    ·rw[yB c0];have m3:MH lt a.toList b.toList (out++(a.extract k1 i).reverse).toList.reverse k1 j:=by
      rw[mJ];refine m.A P.ua hk1 λx hx z hz=>?_
      exact O.or.tr (P.Mb _ (oC hx)) Mxb (P.Ma _ (oC (oP hz))) (hbz x hx) (d2' z hz)
     by_cases c6:(k1==0)=true
     ·rw[yB c6];exact yA ⟨g3,_,_,_,_,_,_,_,rfl,.inl ⟨_,rfl,cD P m3 (.inl (gS c6))⟩⟩
     rw[yT c6];have q4:1<=k1:=by
      have z1:¬ k1=0:=λe=>c6 (by rw[e];rfl)
      lia
     have f3:=d1';refine zS (aV (aQ eb) ?_);have m4:MH lt a.toList b.toList ((out++(a.extract k1 i).reverse).push xb).toList.reverse (k1) (j-1):=by
      rw[dU];exact m3.b1 P.ub (by lia) eb f3
     by_cases c1:(j-1==1)=true
     ·rw[yB c1];exact yA ⟨g3,_,_,_,_,_,_,_,rfl,.inl ⟨_,rfl,dZ P m4 (gS c1)⟩⟩
     rw[yT c1];have c1:2<=j-1:=by have:¬ j-1=1:=λe=>c1 (by rw[e];rfl);lia
     obtain⟨xa,ea⟩:=eE (l:=a) (show k1-1<a.size by lia);have Mxa:=P.Ma _ (wE ea);refine zS (aV (aQ ea) ?_);refine zS (eY O kk (seg:=b.toList.take (j-1)) rfl (by lia) (λz hz=>P.Mb _ (oC hz)) (d9 P.ub _) Mxa (by lia) λk2 hk2 e1 e2=>?_);dsimp only;have e1':∀z∈b.toList.take k2,le lt z xa:=λz hz=>by
      have h6:=e1 z (by rw[<- iB hk2];exact hz);unfold bey at h6;rw[yB rfl] at h6;exact O.or.of (P.Mb _ (oC hz)) Mxa h6
     by_cases c2:j-1-k2 > 0
     ·rw[yB c2];have m6:MH lt a.toList b.toList (((out++(a.extract k1 i).reverse).push xb)++(b.extract k2 (j-1)).reverse).toList.reverse (k1) k2:=by
       rw[mJ];refine m4.B P.ub hk2 λx hx z hz=>?_
       have h6:=e2 z hz;unfold bey at h6;rw[yB rfl] at h6;have Mz:=P.Mb _ (oC (oP hz));exact O.or.tr (P.Ma _ (oC hx)) Mxa Mz (jh O.or P.Ma P.ua (by lia) ea x hx) h6
      by_cases c5:(k2==1)=true
      ·rw[yB c5];exact yA ⟨g3,_,_,_,_,_,_,_,rfl,.inl ⟨_,rfl,dZ P m6 (gS c5)⟩⟩
      rw[yT c5];by_cases c8:(k2==0)=true
      ·rw[yB c8];exact yA ⟨g3,_,_,_,_,_,_,_,rfl,.inl ⟨_,rfl,cD P m6 (.inr (gS c8))⟩⟩
      rw[yT c8];have q5:2<=k2:=by
       have z1:¬ k2=1:=λe=>c5 (by rw[e];rfl)
       have z2:¬ k2=0:=λe=>c8 (by rw[e];rfl)
       lia
      have m4:=m6;have f4:∀z∈b.toList.take k2,le lt z xa:=e1';refine zS (aV (aQ ea) ?_);have m5:MH lt a.toList b.toList ((((out++(a.extract k1 i).reverse).push xb)++(b.extract k2 (j-1)).reverse).push xa).toList.reverse ((k1)-1) k2:=by
       rw[dU];exact m4.a1 P.ua (by lia) ea f4
      by_cases c3:((k1)-1==0)=true
      ·rw[yB c3];exact yA ⟨g3,_,_,_,_,_,_,_,rfl,.inl ⟨_,rfl,cD P m5 (.inl (gS c3))⟩⟩
      rw[yT c3];have c3:1<=(k1)-1:=by have:¬ (k1)-1=0:=λe=>c3 (by rw[e];rfl);lia
      by_cases c4:(decide (i-k1<7) && decide (j-1-k2<7))=true
      ·rw[yB c4];exact yA ⟨g3,_,_,_,_,_,_,_,rfl,.inr ⟨rfl,m5,c3,q5,by lia⟩⟩
      ·rw[yT c4];exact yA ⟨g3,_,_,_,_,_,_,rfl,m5,c3,q5,by lia⟩
     ·rw[yT c2];have q5:2<=j-1:=c1;have f4:∀z∈b.toList.take (j-1),le lt z xa:=λz hz=>e1' z (by rw[show k2=j-1 by lia];exact hz)
      refine zS (aV (aQ ea) ?_);have m5:MH lt a.toList b.toList (((out++(a.extract k1 i).reverse).push xb).push xa).toList.reverse ((k1)-1) (j-1):=by
       rw[dU];exact m4.a1 P.ua (by lia) ea f4
      by_cases c3:((k1)-1==0)=true
      ·rw[yB c3];exact yA ⟨g3,_,_,_,_,_,_,_,rfl,.inl ⟨_,rfl,cD P m5 (.inl (gS c3))⟩⟩
      rw[yT c3];have c3:1<=(k1)-1:=by have:¬ (k1)-1=0:=λe=>c3 (by rw[e];rfl);lia
      by_cases c4:(decide (i-k1<7) && decide (j-1-k2<7))=true
      ·rw[yB c4];exact yA ⟨g3,_,_,_,_,_,_,_,rfl,.inr ⟨rfl,m5,c3,q5,by lia⟩⟩
      ·rw[yT c4];exact yA ⟨g3,_,_,_,_,_,_,rfl,m5,c3,q5,by lia⟩
    ·rw[yT c0];have m3:=m;have q4:=q1;have f3:∀z∈a.toList.take i,le lt z xb:=λz hz=>d1' z (by rw[show k1=i by lia];exact hz)
     refine zS (aV (aQ eb) ?_);have m4:MH lt a.toList b.toList (out.push xb).toList.reverse (i) (j-1):=by
      rw[dU];exact m3.b1 P.ub (by lia) eb f3
     by_cases c1:(j-1==1)=true
     ·rw[yB c1];exact yA ⟨g3,_,_,_,_,_,_,_,rfl,.inl ⟨_,rfl,dZ P m4 (gS c1)⟩⟩
     rw[yT c1];have c1:2<=j-1:=by have:¬ j-1=1:=λe=>c1 (by rw[e];rfl);lia
     obtain⟨xa,ea⟩:=eE (l:=a) (show i-1<a.size by lia);have Mxa:=P.Ma _ (wE ea);refine zS (aV (aQ ea) ?_);refine zS (eY O kk (seg:=b.toList.take (j-1)) rfl (by lia) (λz hz=>P.Mb _ (oC hz)) (d9 P.ub _) Mxa (by lia) λk2 hk2 e1 e2=>?_);dsimp only;have e1':∀z∈b.toList.take k2,le lt z xa:=λz hz=>by
      have h6:=e1 z (by rw[<- iB hk2];exact hz);unfold bey at h6;rw[yB rfl] at h6;exact O.or.of (P.Mb _ (oC hz)) Mxa h6
     by_cases c2:j-1-k2 > 0
     ·rw[yB c2];have m6:MH lt a.toList b.toList ((out.push xb)++(b.extract k2 (j-1)).reverse).toList.reverse (i) k2:=by
       rw[mJ];refine m4.B P.ub hk2 λx hx z hz=>?_
       have h6:=e2 z hz;unfold bey at h6;rw[yB rfl] at h6;have Mz:=P.Mb _ (oC (oP hz));exact O.or.tr (P.Ma _ (oC hx)) Mxa Mz (jh O.or P.Ma P.ua (by lia) ea x hx) h6
      by_cases c5:(k2==1)=true
      ·rw[yB c5];exact yA ⟨g3,_,_,_,_,_,_,_,rfl,.inl ⟨_,rfl,dZ P m6 (gS c5)⟩⟩
      rw[yT c5];by_cases c8:(k2==0)=true
      ·rw[yB c8];exact yA ⟨g3,_,_,_,_,_,_,_,rfl,.inl ⟨_,rfl,cD P m6 (.inr (gS c8))⟩⟩
      rw[yT c8];have q5:2<=k2:=by
       have z1:¬ k2=1:=λe=>c5 (by rw[e];rfl)
       have z2:¬ k2=0:=λe=>c8 (by rw[e];rfl)
       lia
      have m4:=m6;have f4:∀z∈b.toList.take k2,le lt z xa:=e1';refine zS (aV (aQ ea) ?_);have m5:MH lt a.toList b.toList (((out.push xb)++(b.extract k2 (j-1)).reverse).push xa).toList.reverse ((i)-1) k2:=by
       rw[dU];exact m4.a1 P.ua (by lia) ea f4
      by_cases c3:((i)-1==0)=true
      ·rw[yB c3];exact yA ⟨g3,_,_,_,_,_,_,_,rfl,.inl ⟨_,rfl,cD P m5 (.inl (gS c3))⟩⟩
      rw[yT c3];have c3:1<=(i)-1:=by have:¬ (i)-1=0:=λe=>c3 (by rw[e];rfl);lia
      by_cases c4:(decide (i-k1<7) && decide (j-1-k2<7))=true
      ·rw[yB c4];exact yA ⟨g3,_,_,_,_,_,_,_,rfl,.inr ⟨rfl,m5,c3,q5,by lia⟩⟩
      ·rw[yT c4];exact yA ⟨g3,_,_,_,_,_,_,rfl,m5,c3,q5,by lia⟩
     ·rw[yT c2];have q5:2<=j-1:=c1;have f4:∀z∈b.toList.take (j-1),le lt z xa:=λz hz=>e1' z (by rw[show k2=j-1 by lia];exact hz)
      refine zS (aV (aQ ea) ?_);have m5:MH lt a.toList b.toList ((out.push xb).push xa).toList.reverse ((i)-1) (j-1):=by
       rw[dU];exact m4.a1 P.ua (by lia) ea f4
      by_cases c3:((i)-1==0)=true
      ·rw[yB c3];exact yA ⟨g3,_,_,_,_,_,_,_,rfl,.inl ⟨_,rfl,cD P m5 (.inl (gS c3))⟩⟩
      rw[yT c3];have c3:1<=(i)-1:=by have:¬ (i)-1=0:=λe=>c3 (by rw[e];rfl);lia
      by_cases c4:(decide (i-k1<7) && decide (j-1-k2<7))=true
      ·rw[yB c4];exact yA ⟨g3,_,_,_,_,_,_,_,rfl,.inr ⟨rfl,m5,c3,q5,by lia⟩⟩
      ·rw[yT c4];exact yA ⟨g3,_,_,_,_,_,_,rfl,m5,c3,q5,by lia⟩
   ·rw[yT cg];refine zS (wpS_modify ?_);have g3:=g2.set g;have kk:kindOf (SortSt.mk' (kindOf st2) (arrOf st2) (pendingOf st2) g (failedOf st2))=κ:=g3.k.trans hk;refine zS (aV (aQ eb) ?_);refine zS (eY O kk (seg:=a.toList.take i) rfl (by lia) (λz hz=>P.Ma _ (oC hz)) (d9 P.ua _) Mxb (by lia) λk1 hk1 d1 d2=>?_);dsimp only;have d1':∀z∈a.toList.take k1,le lt z xb:=λz hz=>by
     have h6:=d1 z (by rw[<- iB hk1];exact hz);unfold bey at h6;rw[if_neg (by simp)] at h6;unfold le;simpa using h6
    have d2':∀z∈(a.toList.take i).drop k1,le lt xb z:=λz hz=>by
     have h6:=d2 z hz;unfold bey at h6;rw[if_neg (by simp)] at h6;exact O.or.of Mxb (P.Ma _ (List.mem_of_mem_take (List.mem_of_mem_drop hz))) (by simpa using h6)
    by_cases c0:i-k1 > 0
    ·rw[yB c0];have m3:MH lt a.toList b.toList (out++(a.extract k1 i).reverse).toList.reverse k1 j:=by
      rw[mJ];refine m.A P.ua hk1 λx hx z hz=>?_
      exact O.or.tr (P.Mb _ (oC hx)) Mxb (P.Ma _ (oC (oP hz))) (hbz x hx) (d2' z hz)
     by_cases c6:(k1==0)=true
     ·rw[yB c6];exact yA ⟨g3,_,_,_,_,_,_,_,rfl,.inl ⟨_,rfl,cD P m3 (.inl (gS c6))⟩⟩
     rw[yT c6];have q4:1<=k1:=by
      have z1:¬ k1=0:=λe=>c6 (by rw[e];rfl)
      lia
     have f3:=d1';refine zS (aV (aQ eb) ?_);have m4:MH lt a.toList b.toList ((out++(a.extract k1 i).reverse).push xb).toList.reverse (k1) (j-1):=by
      rw[dU];exact m3.b1 P.ub (by lia) eb f3
     by_cases c1:(j-1==1)=true
     ·rw[yB c1];exact yA ⟨g3,_,_,_,_,_,_,_,rfl,.inl ⟨_,rfl,dZ P m4 (gS c1)⟩⟩
     rw[yT c1];have c1:2<=j-1:=by have:¬ j-1=1:=λe=>c1 (by rw[e];rfl);lia
     obtain⟨xa,ea⟩:=eE (l:=a) (show k1-1<a.size by lia);have Mxa:=P.Ma _ (wE ea);refine zS (aV (aQ ea) ?_);refine zS (eY O kk (seg:=b.toList.take (j-1)) rfl (by lia) (λz hz=>P.Mb _ (oC hz)) (d9 P.ub _) Mxa (by lia) λk2 hk2 e1 e2=>?_);dsimp only;have e1':∀z∈b.toList.take k2,le lt z xa:=λz hz=>by
      have h6:=e1 z (by rw[<- iB hk2];exact hz);unfold bey at h6;rw[yB rfl] at h6;exact O.or.of (P.Mb _ (oC hz)) Mxa h6
     by_cases c2:j-1-k2 > 0
     ·rw[yB c2];have m6:MH lt a.toList b.toList (((out++(a.extract k1 i).reverse).push xb)++(b.extract k2 (j-1)).reverse).toList.reverse (k1) k2:=by
       rw[mJ];refine m4.B P.ub hk2 λx hx z hz=>?_
       have h6:=e2 z hz;unfold bey at h6;rw[yB rfl] at h6;have Mz:=P.Mb _ (oC (oP hz));exact O.or.tr (P.Ma _ (oC hx)) Mxa Mz (jh O.or P.Ma P.ua (by lia) ea x hx) h6
      by_cases c5:(k2==1)=true
      ·rw[yB c5];exact yA ⟨g3,_,_,_,_,_,_,_,rfl,.inl ⟨_,rfl,dZ P m6 (gS c5)⟩⟩
      rw[yT c5];by_cases c8:(k2==0)=true
      ·rw[yB c8];exact yA ⟨g3,_,_,_,_,_,_,_,rfl,.inl ⟨_,rfl,cD P m6 (.inr (gS c8))⟩⟩
      rw[yT c8];have q5:2<=k2:=by
       have z1:¬ k2=1:=λe=>c5 (by rw[e];rfl)
       have z2:¬ k2=0:=λe=>c8 (by rw[e];rfl)
       lia
      have m4:=m6;have f4:∀z∈b.toList.take k2,le lt z xa:=e1';refine zS (aV (aQ ea) ?_);have m5:MH lt a.toList b.toList ((((out++(a.extract k1 i).reverse).push xb)++(b.extract k2 (j-1)).reverse).push xa).toList.reverse ((k1)-1) k2:=by
       rw[dU];exact m4.a1 P.ua (by lia) ea f4
      by_cases c3:((k1)-1==0)=true
      ·rw[yB c3];exact yA ⟨g3,_,_,_,_,_,_,_,rfl,.inl ⟨_,rfl,cD P m5 (.inl (gS c3))⟩⟩
      rw[yT c3];have c3:1<=(k1)-1:=by have:¬ (k1)-1=0:=λe=>c3 (by rw[e];rfl);lia
      by_cases c4:(decide (i-k1<7) && decide (j-1-k2<7))=true
      ·rw[yB c4];exact yA ⟨g3,_,_,_,_,_,_,_,rfl,.inr ⟨rfl,m5,c3,q5,by lia⟩⟩
      ·rw[yT c4];exact yA ⟨g3,_,_,_,_,_,_,rfl,m5,c3,q5,by lia⟩
     ·rw[yT c2];have q5:2<=j-1:=c1;have f4:∀z∈b.toList.take (j-1),le lt z xa:=λz hz=>e1' z (by rw[show k2=j-1 by lia];exact hz)
      refine zS (aV (aQ ea) ?_);have m5:MH lt a.toList b.toList (((out++(a.extract k1 i).reverse).push xb).push xa).toList.reverse ((k1)-1) (j-1):=by
       rw[dU];exact m4.a1 P.ua (by lia) ea f4
      by_cases c3:((k1)-1==0)=true
      ·rw[yB c3];exact yA ⟨g3,_,_,_,_,_,_,_,rfl,.inl ⟨_,rfl,cD P m5 (.inl (gS c3))⟩⟩
      rw[yT c3];have c3:1<=(k1)-1:=by have:¬ (k1)-1=0:=λe=>c3 (by rw[e];rfl);lia
      by_cases c4:(decide (i-k1<7) && decide (j-1-k2<7))=true
      ·rw[yB c4];exact yA ⟨g3,_,_,_,_,_,_,_,rfl,.inr ⟨rfl,m5,c3,q5,by lia⟩⟩
      ·rw[yT c4];exact yA ⟨g3,_,_,_,_,_,_,rfl,m5,c3,q5,by lia⟩
    ·rw[yT c0];have m3:=m;have q4:=q1;have f3:∀z∈a.toList.take i,le lt z xb:=λz hz=>d1' z (by rw[show k1=i by lia];exact hz)
     refine zS (aV (aQ eb) ?_);have m4:MH lt a.toList b.toList (out.push xb).toList.reverse (i) (j-1):=by
      rw[dU];exact m3.b1 P.ub (by lia) eb f3
     by_cases c1:(j-1==1)=true
     ·rw[yB c1];exact yA ⟨g3,_,_,_,_,_,_,_,rfl,.inl ⟨_,rfl,dZ P m4 (gS c1)⟩⟩
     rw[yT c1];have c1:2<=j-1:=by have:¬ j-1=1:=λe=>c1 (by rw[e];rfl);lia
     obtain⟨xa,ea⟩:=eE (l:=a) (show i-1<a.size by lia);have Mxa:=P.Ma _ (wE ea);refine zS (aV (aQ ea) ?_);refine zS (eY O kk (seg:=b.toList.take (j-1)) rfl (by lia) (λz hz=>P.Mb _ (oC hz)) (d9 P.ub _) Mxa (by lia) λk2 hk2 e1 e2=>?_);dsimp only;have e1':∀z∈b.toList.take k2,le lt z xa:=λz hz=>by
      have h6:=e1 z (by rw[<- iB hk2];exact hz);unfold bey at h6;rw[yB rfl] at h6;exact O.or.of (P.Mb _ (oC hz)) Mxa h6
     by_cases c2:j-1-k2 > 0
     ·rw[yB c2];have m6:MH lt a.toList b.toList ((out.push xb)++(b.extract k2 (j-1)).reverse).toList.reverse (i) k2:=by
       rw[mJ];refine m4.B P.ub hk2 λx hx z hz=>?_
       have h6:=e2 z hz;unfold bey at h6;rw[yB rfl] at h6;have Mz:=P.Mb _ (oC (oP hz));exact O.or.tr (P.Ma _ (oC hx)) Mxa Mz (jh O.or P.Ma P.ua (by lia) ea x hx) h6
      by_cases c5:(k2==1)=true
      ·rw[yB c5];exact yA ⟨g3,_,_,_,_,_,_,_,rfl,.inl ⟨_,rfl,dZ P m6 (gS c5)⟩⟩
      rw[yT c5];by_cases c8:(k2==0)=true
      ·rw[yB c8];exact yA ⟨g3,_,_,_,_,_,_,_,rfl,.inl ⟨_,rfl,cD P m6 (.inr (gS c8))⟩⟩
      rw[yT c8];have q5:2<=k2:=by
       have z1:¬ k2=1:=λe=>c5 (by rw[e];rfl)
       have z2:¬ k2=0:=λe=>c8 (by rw[e];rfl)
       lia
      have m4:=m6;have f4:∀z∈b.toList.take k2,le lt z xa:=e1';refine zS (aV (aQ ea) ?_);have m5:MH lt a.toList b.toList (((out.push xb)++(b.extract k2 (j-1)).reverse).push xa).toList.reverse ((i)-1) k2:=by
       rw[dU];exact m4.a1 P.ua (by lia) ea f4
      by_cases c3:((i)-1==0)=true
      ·rw[yB c3];exact yA ⟨g3,_,_,_,_,_,_,_,rfl,.inl ⟨_,rfl,cD P m5 (.inl (gS c3))⟩⟩
      rw[yT c3];have c3:1<=(i)-1:=by have:¬ (i)-1=0:=λe=>c3 (by rw[e];rfl);lia
      by_cases c4:(decide (i-k1<7) && decide (j-1-k2<7))=true
      ·rw[yB c4];exact yA ⟨g3,_,_,_,_,_,_,_,rfl,.inr ⟨rfl,m5,c3,q5,by lia⟩⟩
      ·rw[yT c4];exact yA ⟨g3,_,_,_,_,_,_,rfl,m5,c3,q5,by lia⟩
     ·rw[yT c2];have q5:2<=j-1:=c1;have f4:∀z∈b.toList.take (j-1),le lt z xa:=λz hz=>e1' z (by rw[show k2=j-1 by lia];exact hz)
      refine zS (aV (aQ ea) ?_);have m5:MH lt a.toList b.toList ((out.push xb).push xa).toList.reverse ((i)-1) (j-1):=by
       rw[dU];exact m4.a1 P.ua (by lia) ea f4
      by_cases c3:((i)-1==0)=true
      ·rw[yB c3];exact yA ⟨g3,_,_,_,_,_,_,_,rfl,.inl ⟨_,rfl,cD P m5 (.inl (gS c3))⟩⟩
      rw[yT c3];have c3:1<=(i)-1:=by have:¬ (i)-1=0:=λe=>c3 (by rw[e];rfl);lia
      by_cases c4:(decide (i-k1<7) && decide (j-1-k2<7))=true
      ·rw[yB c4];exact yA ⟨g3,_,_,_,_,_,_,_,rfl,.inr ⟨rfl,m5,c3,q5,by lia⟩⟩
      ·rw[yT c4];exact yA ⟨g3,_,_,_,_,_,_,rfl,m5,c3,q5,by lia⟩
  ·rintro c st2 ⟨g2,i,j,out,g,u,v,rfl,m,q1,q2,q3⟩;exact gN q3 (by lia)
  clear mb;rintro c st2 ⟨g2,r,i,j,out,g,u,v,rfl,hr⟩;dsimp only;rcases hr with⟨z,rfl,gz⟩|⟨rfl,mb⟩
  ·exact yA ⟨g2,_,_,rfl,gz⟩
  dsimp only;refine zS (wpS_modify (yA ⟨g2.set _,_,_,_,_,rfl,mb⟩))
 ·rintro c st' ⟨g1,i,j,out,g,rfl,m,q1,q2,q3⟩;exact gN q3 (by lia)
 ·rintro c st' ⟨g1,r,t,rfl,gd⟩;exact yA (h _ _ g1 gd)
end
end TS
end L2
namespace L2
open PySem PyProof.Rows
namespace TS
theorem Ox{T D:List Keyed}{x:Keyed}:(T++x::D).take (T.length+1)=T++[x]:=by
 rw[List.take_append,mE (by lia),show T.length+1-T.length=1 by lia]
 rfl
theorem Oz{T D:List Keyed}{x:Keyed}{n:Nat}:(T++x::D).drop (T.length+1+n)=D.drop n:=by
 rw[List.drop_append,List.drop_of_length_le (by lia),show T.length+1+n-T.length=n+1 by lia,List.drop_succ_cons,List.nil_append]
theorem Cq{base:Nat}{f:Array Keyed->Keyed×Nat->Array Keyed}(hf:∀a p j,f a (p,j)=a.setIfInBounds (base+j) p):∀(m:List Keyed)(n:Nat)(arr:xE),base+n+m.length<=arr.size->((m.zipIdx n).foldl f arr).toList=arr.toList.take (base+n)++m++arr.toList.drop (base+n+m.length)
 | [],n,arr,h=>by simp
 | x::r,n,arr,h=>by
  rw[zzD] at h;rw[List.zipIdx_cons,List.foldl_cons,hf,Cq hf r (n+1) _ (by simp;lia)];have e:(arr.setIfInBounds (base+n) x).toList=arr.toList.take (base+n)++x::arr.toList.drop (base+n+1):=by
   rw[Array.toList_setIfInBounds,List.set_eq_take_append_cons_drop,if_pos (by simp;lia)]
  obtain⟨T,hT⟩:∃T,T=arr.toList.take (base+n):=⟨_,rfl⟩;have lt:T.length=base+n:=by rw[hT,nE,mS];lia
  rw[e,zzD,<- hT,show base+(n+1)=T.length+1 by lia,Ox,Oz,List.drop_drop,show base+n+1+r.length=base+n+(r.length+1) by lia];simp
def mat:Nat->StateT SortSt Sem Bool:=sortPriv% PySem.Builtin.mergeAt
section
variable{prog:Program}{w:World}{A:Around}{E:xB}{s:Shared}{κ:SortKind}{M:Keyed->Prop}{lt:Keyed->Keyed->Bool}
theorem OD{σ:Type}{Mo:Model}{x:σ}{Q:PUnit->σ->Prop}{st:σ}(h:Q ⟨⟩ x):wpS Mo A E s (set x:StateT σ Sem PUnit) Q st:=by
 unfold wpS;rw[StateT.run_set];exact rX ⟨rfl,h⟩
abbrev seg(l:List Keyed)(i n:Nat):List Keyed:=(l.drop i).take n
variable{l:List Keyed}{sa na nb k:Nat}
theorem oX(h:sa+na<=l.length):(seg l sa na).length=na:=by rw[nE,zzH];lia
theorem Cr:seg l sa na++seg l (sa+na) nb=seg l sa (na+nb):=by
 unfold seg;rw[List.take_add,List.drop_drop]
theorem IK:l.take sa++seg l sa na++l.drop (sa+na)=l:=by
 unfold seg;rw[vT,show l.drop (sa+na)=(l.drop sa).drop na by rw[List.drop_drop],qA,qA]
theorem IV{x:Keyed}(h:x∈seg l sa na):x∈l:=oP (oC h)
theorem Cu:(seg l sa na).drop k=seg l (sa+k) (na-k):=by
 unfold seg;rw[List.drop_take,List.drop_drop]
theorem Cv(h:k<=na):(seg l sa na).take k=seg l sa k:=by
 unfold seg;rw[List.take_take,Nat.min_eq_left h]
theorem Ad{i:Nat}(h:i<na):(seg l sa na)[i]?=l[sa+i]?:=by
 unfold seg;rw[List.getElem?_take,yB h,List.getElem?_drop]
theorem Wh(O:Ord prog w A κ s M lt){st:SortSt}{i sa na sb nb p q:Nat}{Q:Bool->SortSt->Prop}(hk:kindOf st=κ)(hf:failedOf st=none)(e1:(pendingOf st)[i]?=some (sa,na,p))(e2:(pendingOf st)[i+1]?=some (sb,nb,q))(hsb:sb=sa+na)(hz:sb+nb<=(arrOf st).size)(n1:1<=na)(n2:1<=nb)
  (hM:∀x∈(arrOf st).toList,M x) (u1:Up lt (seg (arrOf st).toList sa na)) (u2:Up lt (seg (arrOf st).toList sb nb))
  (h:∀st' res,kindOf st'=κ->failedOf st'=none->pendingOf st'=((pendingOf st).setIfInBounds i (sa,na+nb,p)).eraseIdxIfInBounds (i+1)->res.Perm (seg (arrOf st).toList sa na++seg (arrOf st).toList sb nb)->Up lt res->(arrOf st').toList=(arrOf st).toList.take sa++res++(arrOf st).toList.drop (sb+nb)->Q true st'):wpS (model prog w) A E s (mat i) Q st:=by
 unfold mat;refine zS (wpS_get ?_);rw[e1,e2];dsimp only;subst hsb;obtain⟨l,hl⟩:∃l,l=(arrOf st).toList:=⟨_,rfl⟩;rw[<- hl] at hM u1 u2 h;have zl:sa+na+nb<=l.length:=by rw[hl,mS];exact hz
 obtain⟨st2,hst2⟩:∃st2:SortSt,st2=setPending st (((pendingOf st).setIfInBounds i (sa,na+nb,p)).eraseIdxIfInBounds (i+1)):=⟨_,rfl⟩;have k2:kindOf st2=κ:=by rw[hst2];exact hk
 have f2:failedOf st2=none:=by rw[hst2];exact hf
 have a2:arrOf st2=arrOf st:=by rw[hst2]
 have p2:pendingOf st2=((pendingOf st).setIfInBounds i (sa,na+nb,p)).eraseIdxIfInBounds (i+1):=by rw[hst2]
 refine zS (OD ?_);show wpS _ _ _ _ _ _ (setPending st (((pendingOf st).setIfInBounds i (sa,na+nb,p)).eraseIdxIfInBounds (i+1)));rw[<- hst2];have lA:=oX (l:=l) (sa:=sa) (na:=na) (by lia);have lB:=oX (l:=l) (sa:=sa+na) (na:=nb) (by lia);obtain⟨SA,hA⟩:∃SA,SA=seg l sa na:=⟨_,rfl⟩;obtain⟨SB,hB⟩:∃SB,SB=seg l (sa+na) nb:=⟨_,rfl⟩;have MA:∀x∈SA,M x:=λx hx=>hM x (IV (by rw[<- hA];exact hx))
 have MB:∀x∈SB,M x:=λx hx=>hM x (IV (by rw[<- hB];exact hx))
 have whole:l=l.take sa++(SA++SB)++l.drop (sa+na+nb):=by
  rw[hA,hB,Cr,show sa+na+nb=sa+(na+nb) by lia];exact IK.symm
 rw[<- hA] at u1 lA;rw[<- hB] at u2 lB;rw[<- hA,<- hB] at h;obtain⟨y0,ey⟩:∃y,SB[0]?=some y:=⟨SB[0]'(by lia),by simp⟩;obtain⟨x9,ex⟩:∃x,SA[na-1]?=some x:=⟨SA[na-1]'(by lia),by simp⟩;have gy:(arrOf st)[sa+na]?=some y0:=aQ (by rw[<- hl,<- ey,hB,Ad (by lia)];rfl);have gx:(arrOf st)[sa+na-1]?=some x9:=aQ (by rw[<- hl,<- ex,hA,Ad (by lia)];congr 1;lia);have My:=MB _ (wE ey);have Mx:=MA _ (wE ex);have hy:=jg O.or MB u2 ey;rw[List.drop_zero] at hy;have hx:=jh (i:=na) O.or MA u1 n1 ex;rw[mE (by lia)] at hx;have plain:(∀x∈SA,∀y∈SB,le lt x y)->Q true st2:=λhc=>h st2 (SA++SB) k2 f2 p2 (List.Perm.refl _) (zzA.mpr ⟨u1,u2,hc⟩) (by rw[a2,<- hl];exact whole)
 have hz1:sa+na<=(arrOf st).size:=by lia
 refine zS (aV gy ?_);refine zS (eY O k2 (arr:=arrOf st) (seg:=SA) (by rw[hA,hl]) hz1 MA u1 My (by lia) λk hk1 d1 d2=>?_);dsimp only;have d1':∀z∈SA.take k,le lt z y0:=λz hz=>by
  have h6:=d1 z hz;unfold bey at h6;rw[if_neg (by simp)] at h6;unfold le;simpa using h6
 have d2':∀z∈SA.drop k,le lt y0 z:=λz hz=>by
  have h6:=d2 z hz;unfold bey at h6;rw[if_neg (by simp)] at h6;exact O.or.of My (MA _ (List.mem_of_mem_drop hz)) (by simpa using h6)
 by_cases c1:(na-k==0)=true
 ·rw[yB c1];have c1:na-k=0:=gS c1;refine yA (plain λx hx1 y hy1=>O.or.tr (MA x hx1) My (MB y hy1) (d1' x (by rw[mE (by lia)];exact hx1)) (hy y hy1))
 rw[yT c1];have c1:k<na:=by have:¬ na-k=0:=λe=>c1 (by rw[e];rfl);lia
 rw[show sa+k+(na-k)-1=sa+na-1 by lia];refine zS (aV gx ?_);refine zS (eY O k2 (arr:=arrOf st) (seg:=SB) (by rw[hB,hl]) hz MB u2 Mx (by lia) λm hm1 d3 d4=>?_);dsimp only;have d3':∀z∈SB.take m,le lt z x9:=λz hz=>by
  have h6:=d3 z hz;unfold bey at h6;rw[yB rfl] at h6;exact O.or.of (MB _ (oC hz)) Mx h6
 have d4':∀z∈SB.drop m,le lt x9 z:=λz hz=>by
  have h6:=d4 z hz;unfold bey at h6;rw[yB rfl] at h6;exact h6
 by_cases c2:(m==0)=true
 ·rw[yB c2];have c2:m=0:=gS c2;refine yA (plain λx hx1 y hy1=>O.or.tr (MA x hx1) Mx (MB y hy1) (hx x hx1) (d4' y (by rw[c2];exact hy1)))
 rw[yT c2];have c2:1<=m:=by have:¬ m=0:=λe=>c2 (by rw[e];rfl);lia
 obtain⟨X,hX⟩:∃X,X=(arrOf st).extract (sa+k) (sa+na):=⟨_,rfl⟩;obtain⟨Y,hY⟩:∃Y,Y=(arrOf st).extract (sa+na) (sa+na+m):=⟨_,rfl⟩;have tX:X.toList=SA.drop k:=by rw[hX,jE,<- hl,hA,Cu,show sa+na-(sa+k)=na-k by lia]
 have tY:Y.toList=SB.take m:=by rw[hY,jE,<- hl,hB,Cv hm1,show sa+na+m-(sa+na)=m by lia]
 have lX:(SA.drop k).length=na-k:=by rw[zzH,lA]
 have P:Pre M lt X.toList Y.toList:=by
  rw[tX,tY];refine⟨λz hz=>MA z (oP hz),λz hz=>MB z (oC hz),d8 u1 k,d9 u2 m,λe=>?_,λe=>?_,λy hy1 x hx1=>?_,λy hy1 x hx1=>?_⟩
  ·rw[e] at lX;simp at lX
   lia
  ·have:=gL List.length e;rw[nE,lB] at this;simp at this
   lia
  ·rw[List.getElem?_take,yB (by lia),ey] at hy1;cases hy1;exact d2' x hx1
  ·rw[lX,List.getElem?_drop,show k+(na-k-1)=na-1 by lia,ex] at hx1;cases hx1;exact d3' y hy1
 have after:∀(r:xE)(st3:SortSt),SG st2 st3->Good lt X.toList Y.toList r->Q true (setArr st3 (r.toList.zipIdx.foldl (λa x=>match x with|(p,j)=>a.setIfInBounds (sa+k+j) p) (arrOf st3))):=λr st3 g gd=>by
  rw[tX,tY] at gd;have lr:r.toList.length=na-k+m:=by
   rw[gd.1.length_eq,yY,lX,nE,lB,Nat.min_eq_left hm1]
  refine h _ (SA.take k++r.toList++SB.drop m) (g.k.trans k2) (g.f.trans f2) (g.p.trans p2) ?_ ?_ ?_
  ·refine List.Perm.trans (l₂:=SA.take k++(SA.drop k++SB.take m)++SB.drop m) ((gd.1.append_left _).append_right _) ?_;rw[<- vT,qA,vT,qA]
  ·refine zzA.mpr ⟨zzA.mpr ⟨d9 u1 k,gd.2,λx hx1 y hy1=>?_⟩,d8 u2 m,λx hx1 y hy1=>?_⟩
   ·rcases wT.mp (gd.1.mem_iff.mp hy1) with hy1|hy1
    ·exact uZ u1 k x hx1 y hy1
    ·exact O.or.tr (MA x (oC hx1)) My (MB y (oC hy1)) (d1' x hx1) (hy y (oC hy1))
   ·have My1:=MB y (oP hy1);rcases wT.mp hx1 with hx1|hx1
    ·exact O.or.tr (MA x (oC hx1)) My My1 (d1' x hx1) (hy y (oP hy1))
    ·rcases wT.mp (gd.1.mem_iff.mp hx1) with hx1|hx1
     ·exact O.or.tr (MA x (oP hx1)) Mx My1 (hx x (oP hx1)) (d4' y hy1)
     ·exact uZ u2 m x hx1 y hy1
  ·have e:=Cq (base:=sa+k) (f:=λa (x:Keyed×Nat)=>match x with|(p,j)=>a.setIfInBounds (sa+k+j) p) (λ_ _ _=>rfl) r.toList 0 (arrOf st3) (by rw[g.a,a2,lr];lia)
   refine e.trans ?_;rw[g.a,a2,<- hl,lr,Nat.add_zero,show sa+k+(na-k+m)=sa+na+m by lia];have e1:l.take (sa+k)=l.take sa++SA.take k:=by rw[List.take_add,hA,Cv hk1]
   have e2:l.drop (sa+na+m)=SB.drop m++l.drop (sa+na+nb):=by
    rw[hB,Cu,show l.drop (sa+na+nb)=(l.drop (sa+na+m)).drop (nb-m) by rw[List.drop_drop,show sa+na+m+(nb-m)=sa+na+nb by lia]];exact(qA _ _).symm
   rw[e1,e2];simp only[List.append_assoc]
 by_cases c3:na-k<=m
 ·rw[yB c3];refine zS (Wf O k2 (a:=(arrOf st).extract (sa+k) (sa+na)) (b:=(arrOf st).extract (sa+na) (sa+na+m)) (by rw[<- hX,<- hY];exact P) λr st3 g gd=>?_);refine zS (wpS_modify (zS (wpS_get (yA ?_))));have hq:=after r st3 g (by rw[hX,hY];exact gd);have e:(failedOf st3).isNone=true:=by rw[g.f,f2];rfl
  show Q (failedOf st3).isNone _;rw[e];exact hq
 ·rw[yT c3];refine zS (Wg O k2 (a:=(arrOf st).extract (sa+k) (sa+na)) (b:=(arrOf st).extract (sa+na) (sa+na+m)) (by rw[<- hX,<- hY];exact P) λr st3 g gd=>?_);refine zS (wpS_modify (zS (wpS_get (yA ?_))));have hq:=after r st3 g (by rw[hX,hY];exact gd);have e:(failedOf st3).isNone=true:=by rw[g.f,f2];rfl
  show Q (failedOf st3).isNone _;rw[e];exact hq
end
end TS
end L2
namespace L2
open PySem PyProof.Rows
namespace TS
def cnt:Nat->Nat->StateT SortSt Sem (Option Nat):=sortPriv% PySem.Builtin.countRun
def bns:Nat->Nat->Nat->StateT SortSt Sem Bool:=sortPriv% PySem.Builtin.binarySort
def X(a:xE)(i:Nat):Keyed:=(a[i]?).getD (Value.none,Value.none)
theorem Wi{a:xE}{i:Nat}(h:i<a.size):a[i]?=some (X a i):=by
 unfold X;rw[getElem?_pos a i h]
 rfl
theorem OJ{a b:xE}{i j:Nat}(h:a[i]?=b[j]?):X a i=X b j:=by unfold X;rw[h]
theorem nu{a:xE}{i j:Nat}(hj:j<=a.size)(k:Nat):X (mirror a i j ((j-i) / 2)) k=if i<=k/\k<j then X a (i+j-1-k) else X a k:=by
 have e:=getElem?_mirror_all (i:=i) hj k;by_cases h1:i<=k/\k<j
 ·rw[yB h1] at e ⊢;exact OJ e
 ·rw[yT h1] at e ⊢;exact OJ e
theorem Ug{a:xE}{src d:Nat}(hs:src<a.size)(hd:d<=src)(k:Nat):X (bubble a src d) k=if k=src-d then X a src else if src-d<k/\k<=src then X a (k-1) else X a k:=by
 have e:=getElem?_bubble hs d hd k;by_cases h1:k=src-d
 ·rw[yB h1] at e ⊢;exact OJ e
 ·rw[yT h1] at e ⊢;by_cases h2:src-d<k/\k<=src
  ·rw[yB h2] at e ⊢;exact OJ e
  ·rw[yT h2] at e ⊢;exact OJ e
section
variable{prog:Program}{w:World}{A:Around}{E:xB}{s:Shared}{κ:SortKind}{M:Keyed->Prop}{lt:Keyed->Keyed->Bool}
structure SK(a₀:xE)(κ:SortKind)(p:Array (Nat×Nat×Nat))(f0:Nat->Option Keyed)(lo:Nat)(st:SortSt):Prop where
 perm:(arrOf st).Perm a₀
 kind:kindOf st=κ
 fail:failedOf st=none
 pend:pendingOf st=p
 fr:∀k,k<lo->(arrOf st)[k]?=f0 k
variable{a₀:xE}{p:Array (Nat×Nat×Nat)}{f0:Nat->Option Keyed}{lo:Nat}
theorem SK.size{st:SortSt}(h:SK a₀ κ p f0 lo st):(arrOf st).size=a₀.size:=h.perm.size_eq
theorem SK.m{st:SortSt}(h:SK a₀ κ p f0 lo st)(hM:∀x∈a₀.toList,M x){i:Nat}(hi:i<a₀.size):M (X (arrOf st) i):=by
 have hi':i<(arrOf st).size:=by rw[h.size];exact hi
 have e:=Wi hi';refine hM _ ((Array.perm_iff_toList_perm.mp h.perm).mem_iff.mp ?_);rw[Array.mem_toList_iff];exact Array.mem_of_getElem? e
theorem SK.set{st:SortSt}(h:SK a₀ κ p f0 lo st){xs:xE}(hp:xs.Perm (arrOf st))(hf:∀k,k<lo->xs[k]?=(arrOf st)[k]?):SK a₀ κ p f0 lo (setArr st xs):=⟨hp.trans h.perm,h.kind,h.fail,h.pend,λk hk=>(hf k hk).trans (h.fr k hk)⟩
theorem iW(O:Ord prog w A κ s M lt)(hM:∀x∈a₀.toList,M x){st:SortSt}{i j:Nat}{Q:Option Bool->SortSt->Prop}(hB:SK a₀ κ p f0 lo st)(hi:i<a₀.size)(hj:j<a₀.size)(h:Q (some (lt (X (arrOf st) i) (X (arrOf st) j))) st):wpS (model prog w) A E s (ltAt' i j) Q st:=by
 rw[ltAt'_eq];refine zS (wpS_get ?_);refine zS (aV (Wi (by rw[hB.size];exact hi)) ?_);refine zS (aV (Wi (by rw[hB.size];exact hj)) ?_);exact Cm O hB.kind (hB.m hM hi) (hB.m hM hj) h
def UpI(lt:Keyed->Keyed->Bool)(a:xE)(lo hi:Nat):Prop:=∀i j,lo<=i->i<=j->j<hi->le lt (X a i) (X a j)
def DnI(lt:Keyed->Keyed->Bool)(a:xE)(lo hi:Nat):Prop:=∀i j,lo<=i->i<=j->j<hi->le lt (X a j) (X a i)
def EqI(lt:Keyed->Keyed->Bool)(a:xE)(lo hi:Nat):Prop:=∀i j,lo<=i->i<hi->lo<=j->j<hi->le lt (X a i) (X a j)
theorem Wj(O:Ord prog w A κ s M lt)(hM:∀x∈a₀.toList,M x){st:SortSt}{n ok:Nat}{Q:Bool->SortSt->Prop}(hn:lo+n<=a₀.size)(hok:ok<=n)(hB:SK a₀ κ p f0 lo st)(hs:UpI lt (arrOf st) lo (lo+ok))
  (h:∀st',SK a₀ κ p f0 lo st'->UpI lt (arrOf st') lo (lo+n)->Q true st'):wpS (model prog w) A E s (bns lo n ok) Q st:=by
 unfold bns;refine zS (wpS_mono (wpS_forRange (I:=λk c st'=>c=(none,())/\SK a₀ κ p f0 lo st'/\UpI lt (arrOf st') lo (lo+min k n))
  (Q:=λc st'=>c=(none,())/\SK a₀ κ p f0 lo st'/\UpI lt (arrOf st') lo (lo+n)) ?step ?fin ?init) ?post)
 case post =>
  rintro c st' ⟨rfl,hB',hs'⟩;exact yA (h st' hB' hs')
 case init =>
  refine⟨rfl,hB,λi j h0 hij hj=>?_⟩;by_cases h1:ok=0
  ·have:i=j:=by lia
   subst this;exact O.or.rf (hB.m hM (by lia))
  ·exact hs i j h0 hij (by lia)
 case fin =>
  rintro c st' ⟨hc,hB',hs'⟩;refine⟨hc,hB',?_⟩
  rwa [show min (max (max ok 1) n) n=n by lia] at hs'
 case step =>
  rintro k c st' hak hkn ⟨rfl,hB',hs'⟩;rw[show min k n=k by lia] at hs';have hk:lo+k<a₀.size:=by lia
  refine zS (wpS_mono (wpS_forRange (I:=λx c st''=>st'=st''/\∃l r,c=(none,l,r)/\l<=r/\r<=k/\r-l<=k-x /\
    (∀i,i<l->le lt (X (arrOf st') (lo+i)) (X (arrOf st') (lo+k)))/\(∀i,r<=i->i<k->le lt (X (arrOf st') (lo+k)) (X (arrOf st') (lo+i))))
   (Q:=λc st''=>st'=st''/\∃l r,c=(none,l,r)/\l<=k /\
    (∀i,i<l->le lt (X (arrOf st') (lo+i)) (X (arrOf st') (lo+k)))/\(∀i,l<=i->i<k->le lt (X (arrOf st') (lo+k)) (X (arrOf st') (lo+i)))) ?istep ?ifin ?iinit) ?ipost)
  case iinit=>exact⟨rfl,0,k,rfl,by lia,by lia,by lia,λi hi=>by lia,λi h1 h2=>by lia⟩
  case ifin =>
   rintro c st'' ⟨rfl,l,r,rfl,hlr,hrk,hm,hlo,hhi⟩;have:l=r:=by lia
   subst this;exact⟨rfl,l,l,rfl,hrk,hlo,hhi⟩
  case istep =>
   rintro x c st'' _ hxk ⟨rfl,l,r,rfl,hlr,hrk,hm,hlo,hhi⟩;dsimp only;by_cases hge:l ≥ r
   ·rw[yB hge];have:l=r:=by lia
    subst this;exact yA ⟨rfl,l,l,rfl,hrk,hlo,hhi⟩
   ·rw[yT hge];have hmid:lo+(l+r) / 2<a₀.size:=by lia
    refine zS (iW O hM hB' hk hmid ?_);dsimp only;cases hless:lt (X (arrOf st') (lo+k)) (X (arrOf st') (lo+(l+r) / 2)) with
    | true =>
     rw[yB rfl];refine yA ⟨rfl,l,(l+r) / 2,rfl,by lia,by lia,by lia,hlo,λi h1 h2=>?_⟩;exact O.or.tr (hB'.m hM hk) (hB'.m hM hmid) (hB'.m hM (by lia)) (O.or.of (hB'.m hM hk) (hB'.m hM hmid) hless) (hs' _ _ (by lia) (by lia) (by lia))
    | false =>
     rw[if_neg (by simp)];refine yA ⟨rfl,(l+r) / 2+1,r,rfl,by lia,by lia,by lia,λi h1=>?_,hhi⟩;exact O.or.tr (hB'.m hM (by lia)) (hB'.m hM hmid) (hB'.m hM hk) (hs' _ _ (by lia) (by lia) (by lia)) hless
  case ipost =>
   rintro c st'' ⟨rfl,l,r,rfl,hlk,hlo,hhi⟩;dsimp only;have hks:lo+k<(arrOf st').size:=by rw[hB'.size];exact hk
   refine zS (wpS_modify (yA ⟨rfl,hB'.set (bubble_perm _ _ _) (λz hz=>?_),?_⟩))
   ·show (bubble (arrOf st') (lo+k) (lo+k-(lo+l)))[z]?=(arrOf st')[z]?;rw[getElem?_bubble hks _ (by lia),yT (by lia),yT (by lia)]
   rw[show min (k+1) n=k+1 by lia];intro i j h0 hij hj;show le lt (X (bubble (arrOf st') (lo+k) (lo+k-(lo+l))) i) (X (bubble (arrOf st') (lo+k) (lo+k-(lo+l))) j);rw[Ug hks (by lia),Ug hks (by lia),show lo+k-(lo+k-(lo+l))=lo+l by lia];have hlo':∀z,lo<=z->z<lo+l->le lt (X (arrOf st') z) (X (arrOf st') (lo+k)):=λz z1 z2=>by have:=hlo (z-lo) (by lia);rwa [show lo+(z-lo)=z by lia] at this
   have hhi':∀z,lo+l<=z->z<lo+k->le lt (X (arrOf st') (lo+k)) (X (arrOf st') z):=λz z1 z2=>by have:=hhi (z-lo) (by lia) (by lia);rwa [show lo+(z-lo)=z by lia] at this
   repeat' split
   all_goals first
    | (exfalso;lia)
    | exact O.or.rf (hB'.m hM (by lia))
    | exact hlo' _ (by lia) (by lia)
    | exact hhi' _ (by lia) (by lia)
    | exact hs' _ _ (by lia) (by lia) (by lia)
theorem oY(O:Or M lt){a:xE}{hi:Nat}(hm:∀z,lo<=z->z<=hi->M (X a z))(h0:lo<hi)(u:UpI lt a lo hi)(h:le lt (X a (hi-1)) (X a hi)):UpI lt a lo (hi+1):=λi j a1 a2 a3=>by
 by_cases hj:j<hi
 ·exact u i j a1 a2 hj
 ·have:j=hi:=by lia
  subst this;by_cases hi':i=j
  ·subst hi';exact O.rf (hm _ a1 (by lia))
  ·exact O.tr (hm _ a1 (by lia)) (hm _ (by lia) (by lia)) (hm _ (by lia) (by lia)) (u i (j-1) a1 (by lia) (by lia)) h
theorem ji(O:Or M lt){a:xE}{hi:Nat}(hm:∀z,lo<=z->z<=hi->M (X a z))(h0:lo<hi)(u:DnI lt a lo hi)(h:le lt (X a hi) (X a (hi-1))):DnI lt a lo (hi+1):=λi j a1 a2 a3=>by
 by_cases hj:j<hi
 ·exact u i j a1 a2 hj
 ·have:j=hi:=by lia
  subst this;by_cases hi':i=j
  ·subst hi';exact O.rf (hm _ a1 (by lia))
  ·exact O.tr (hm _ (by lia) (by lia)) (hm _ (by lia) (by lia)) (hm _ a1 (by lia)) h (u i (j-1) a1 (by lia) (by lia))
theorem u6{a:xE}{hi q:Nat}(hz:hi<=a.size)(h0:lo<=q)(hq:q<=hi)(u:DnI lt a lo hi)(e:EqI lt a q hi):DnI lt (mirror a q hi ((hi-q) / 2)) lo hi:=λi j a1 a2 a3=>by
 rw[nu hz,nu hz]
 repeat' split
 all_goals first
  | (exfalso;lia)
  | exact e _ _ (by lia) (by lia) (by lia) (by lia)
  | exact u _ _ (by lia) (by lia) (by lia)
theorem Ae{a:xE}{hi:Nat}(hz:hi<=a.size)(u:DnI lt a lo hi):UpI lt (mirror a lo hi ((hi-lo) / 2)) lo hi:=λi j a1 a2 a3=>by
 rw[nu hz,nu hz,yB (by lia),yB (by lia)];exact u _ _ (by lia) (by lia) (by lia)
theorem SK.mir{st:SortSt}(h:SK a₀ κ p f0 lo st){i j:Nat}(hi:lo<=i)(hj:j<=a₀.size):SK a₀ κ p f0 lo (setArr st (mirror (arrOf st) i j ((j-i) / 2))):=h.set (mirror_perm _ _ _ _) λk hk=>by rw[getElem?_mirror_all (by rw[h.size];exact hj),yT (by lia)]
theorem Wk(O:Ord prog w A κ s M lt)(hM:∀x∈a₀.toList,M x){st:SortSt}{nrem:Nat}{Q:Option Nat->SortSt->Prop}(hn:lo+nrem<=a₀.size)(h1:1<=nrem)(hB:SK a₀ κ p f0 lo st)
  (h:∀n st',1<=n->n<=nrem->SK a₀ κ p f0 lo st'->UpI lt (arrOf st') lo (lo+n)->Q (some n) st'):wpS (model prog w) A E s (cnt lo nrem) Q st:=by
 unfold cnt;refine zS (wpS_mono (wpS_forRange (I:=λx c st'=>st=st'/\c=(none,x)/\UpI lt (arrOf st) lo (lo+x))
  (Q:=λc st'=>st=st'/\∃n,c=(none,n)/\1<=n/\n<=nrem/\UpI lt (arrOf st) lo (lo+n)/\(n=nrem\/lt (X (arrOf st) (lo+n)) (X (arrOf st) (lo+n-1))=true)) ?_ ?_ ⟨rfl,rfl,λi j h0 hij hj=>by rw[show i=j by lia];exact O.or.rf (hB.m hM (by lia))⟩) ?_)
 ·rintro x c st' a1 a2 ⟨rfl,rfl,u⟩;dsimp only;refine zS (iW O hM hB (by lia) (by lia) ?_);dsimp only;cases hl:lt (X (arrOf st) (lo+x)) (X (arrOf st) (lo+x-1)) with
  | true =>
   rw[yB rfl];exact yA ⟨rfl,x,rfl,by lia,by lia,u,.inr hl⟩
  | false =>
   rw[if_neg (by simp)];have hm:∀z,lo<=z->z<=lo+x->M (X (arrOf st) z):=λz _ _=>hB.m hM (by lia)
   exact yA ⟨rfl,rfl,oY (hi:=lo+x) O.or hm (by lia) u hl⟩
 ·rintro c st' ⟨rfl,rfl,u⟩;rw[show max 1 nrem=nrem by lia] at u ⊢;exact⟨rfl,nrem,rfl,h1,uS _,u,.inl rfl⟩
 rintro c st' ⟨rfl,n,rfl,n1,n2,up,hb⟩;dsimp only;by_cases c0:(n==nrem)=true
 ·rw[yB c0];exact yA (h n st n1 n2 hB up)
 rw[yT c0];have c0:n+1<=nrem:=by have:¬ n=nrem:=λe=>c0 (by rw[e];simp);lia
 have hb:lt (X (arrOf st) (lo+n)) (X (arrOf st) (lo+n-1))=true:=hb.elim (λe=>gN e (by lia)) id;have mm:∀z,lo<=z->z<=lo+n->M (X (arrOf st) z):=λz _ _=>hB.m hM (by lia)
 have hle:=O.or.of (mm _ (by lia) (by lia)) (mm _ (by lia) (by lia)) hb;by_cases c2:n > 1
 ·rw[yB c2];refine zS (iW O hM hB (by lia) (by lia) ?_);dsimp only;cases hr:lt (X (arrOf st) lo) (X (arrOf st) (lo+n-1)) with
  | true =>
   rw[yB rfl];exact yA (h n st n1 n2 hB up)
  | false =>
   rw[if_neg (by simp)];have eqA:EqI lt (arrOf st) lo (lo+n):=λi j a1 a2 a3 a4=>O.or.tr (mm _ a1 (by lia)) (mm _ (by lia) (by lia)) (mm _ a3 (by lia)) (up i (lo+n-1) a1 (by lia) (by lia)) (O.or.tr (mm _ (by lia) (by lia)) (mm _ (by lia) (by lia)) (mm _ a3 (by lia)) hr (up lo j (by lia) a3 a4))
   have dA:DnI lt (arrOf st) lo (lo+n):=λi j a1 a2 a3=>eqA j i (by lia) a3 a1 (by lia)
   refine zS (wpS_modify ?_);have z1:lo+n<=(arrOf st).size:=by rw[hB.size];lia
   have b1:=hB.mir (i:=lo) (j:=lo+n) (uS _) (by lia);have d1:DnI lt (mirror (arrOf st) lo (lo+n) ((lo+n-lo) / 2)) lo (lo+(n+1)):=by
    rw[show lo+(n+1)=lo+n+1 by lia];refine ji O.or (λz _ _=>b1.m hM (by lia)) (by lia) (u6 z1 (uS _) (by lia) dA eqA) ?_;rw[nu z1,nu z1,yT (by lia),yB (by lia)];exact O.or.tr (mm _ (by lia) (by lia)) (mm _ (by lia) (by lia)) (mm _ (by lia) (by lia)) hle (eqA _ _ (by lia) (by lia) (by lia) (by lia))
   show wpS _ _ _ _ _ _ (setArr st (mirror (arrOf st) lo (lo+n) ((lo+n-lo) / 2)));obtain⟨s1,e1⟩:∃s1,s1=setArr st (mirror (arrOf st) lo (lo+n) ((lo+n-lo) / 2)):=⟨_,rfl⟩;have d1:DnI lt (arrOf s1) lo (lo+(n+1)):=by rw[e1];exact d1
   rw[<- e1] at b1 ⊢;refine zS (wpS_lift (wpAny_rule ⟨rfl,?_⟩));refine zS (wpS_mono (wpS_forRange (I:=λx c st'=>∃q,c=(none,x,q)/\SK a₀ κ p f0 lo st'/\DnI lt (arrOf st') lo (lo+x)/\q+1<=x/\EqI lt (arrOf st') (lo+x-(q+1)) (lo+x))
    (Q:=λc st'=>∃m q,c=(none,m,q)/\n+1<=m/\m<=nrem/\SK a₀ κ p f0 lo st'/\DnI lt (arrOf st') lo (lo+m)/\q+1<=m/\EqI lt (arrOf st') (lo+m-(q+1)) (lo+m)) ?_ ?_ ⟨0,rfl,b1,d1,by lia,λi j a1 a2 a3 a4=>by rw[show i=j by lia];exact O.or.rf (SK.m b1 hM (by lia))⟩) ?_)
   ·rintro x c st' a1 a2 ⟨q,rfl,b1,dn,hq,eq⟩;dsimp only;refine zS (iW O hM b1 (by lia) (by lia) ?_);dsimp only;have mm:∀z,lo<=z->z<=lo+x->M (X (arrOf st') z):=λz _ _=>b1.m hM (by lia)
    cases hl:lt (X (arrOf st') (lo+x)) (X (arrOf st') (lo+x-1)) with
    | true =>
     rw[yB rfl];have hle:=O.or.of (mm _ (by lia) (by lia)) (mm _ (by lia) (by lia)) hl;have one:∀(a:xE),(∀z,lo<=z->z<=lo+x->M (X a z))->EqI lt a (lo+(x+1)-(0+1)) (lo+(x+1)):=λa ha i j a1 a2 a3 a4=>by
      rw[show i=j by lia];exact O.or.rf (ha _ (by lia) (by lia))
     by_cases c1:q > 0
     ·rw[yB c1];refine zS (wpS_modify (yA ?_));have b2:=b1.mir (i:=lo+x-(q+1)) (j:=lo+x) (by lia) (by lia);have z1:lo+x<=(arrOf st').size:=by rw[b1.size];lia
      have mm2:∀z,lo<=z->z<=lo+x->M (X (mirror (arrOf st') (lo+x-(q+1)) (lo+x) ((lo+x-(lo+x-(q+1))) / 2)) z):=λz _ _=>b2.m hM (by lia)
      have d2:=u6 z1 (by lia) (by lia) dn eq;refine⟨0,rfl,b2,?_,by lia,one _ mm2⟩;show DnI lt (mirror (arrOf st') (lo+x-(q+1)) (lo+x) ((lo+x-(lo+x-(q+1))) / 2)) lo (lo+x+1);refine ji O.or mm2 (by lia) d2 ?_;rw[nu z1,nu z1,yT (by lia),yB (by lia)];exact O.or.tr (mm _ (by lia) (by lia)) (mm _ (by lia) (by lia)) (mm _ (by lia) (by lia)) hle (eq _ _ (by lia) (by lia) (by lia) (by lia))
     ·rw[yT c1];refine yA ⟨0,rfl,b1,?_,by lia,one _ mm⟩;rw[show lo+(x+1)=lo+x+1 by lia];exact ji O.or mm (by lia) dn hle
    | false =>
     rw[if_neg (by simp)];refine zS (iW O hM b1 (by lia) (by lia) ?_);dsimp only;cases hl2:lt (X (arrOf st') (lo+x-1)) (X (arrOf st') (lo+x)) with
     | true =>
      rw[yB rfl];exact yA ⟨x,q,rfl,a1,by lia,b1,dn,hq,eq⟩
     | false =>
      rw[if_neg (by simp)];refine yA ⟨q+1,rfl,b1,?_,by lia,λi j a3 a4 a5 a6=>?_⟩
      ·rw[show lo+(x+1)=lo+x+1 by lia];exact ji O.or mm (by lia) dn hl2
      ·have r1:∀z,lo+x-(q+1)<=z->z<lo+x->le lt (X (arrOf st') z) (X (arrOf st') (lo+x)):=λz z1 z2=>O.or.tr (mm _ (by lia) (by lia)) (mm _ (by lia) (by lia)) (mm _ (by lia) (by lia)) (eq z (lo+x-1) (by lia) (by lia) (by lia) (by lia)) hl
       have r2:∀z,lo+x-(q+1)<=z->z<lo+x->le lt (X (arrOf st') (lo+x)) (X (arrOf st') z):=λz z1 z2=>O.or.tr (mm _ (by lia) (by lia)) (mm _ (by lia) (by lia)) (mm _ (by lia) (by lia)) hl2 (eq (lo+x-1) z (by lia) (by lia) (by lia) (by lia))
       by_cases w1:i=lo+x
       ·by_cases w2:j=lo+x
        ·rw[w1,w2];exact O.or.rf (mm _ (by lia) (by lia))
        ·rw[w1];exact r2 j (by lia) (by lia)
       ·by_cases w2:j=lo+x
        ·rw[w2];exact r1 i (by lia) (by lia)
        ·exact eq i j (by lia) (by lia) (by lia) (by lia)
   ·rintro c st' ⟨q,rfl,b1,dn,hq,eq⟩;rw[show max (n+1) nrem=nrem by lia] at dn hq eq ⊢;exact⟨nrem,q,rfl,by lia,by lia,b1,dn,hq,eq⟩
   rintro c st3 ⟨m,q,rfl,w1,w2,b3,d3,hq,eq⟩;dsimp only;by_cases c1:q > 0
   ·rw[yB c1];refine zS (wpS_modify ?_);have b4:=b3.mir (i:=lo+m-(q+1)) (j:=lo+m) (by lia) (by lia);have d4:=u6 (show lo+m<=(arrOf st3).size by rw[b3.size];lia) (by lia) (by lia) d3 eq;show wpS _ _ _ _ _ _ (setArr st3 (mirror (arrOf st3) (lo+m-(q+1)) (lo+m) ((lo+m-(lo+m-(q+1))) / 2)));obtain⟨s4,e4⟩:∃s4,s4=setArr st3 (mirror (arrOf st3) (lo+m-(q+1)) (lo+m) ((lo+m-(lo+m-(q+1))) / 2)):=⟨_,rfl⟩;have d4:DnI lt (arrOf s4) lo (lo+m):=by rw[e4];exact d4
    rw[<- e4] at b4 ⊢;refine zS (wpS_modify ?_);have b5:=b4.mir (i:=lo) (j:=lo+m) (uS _) (by lia);have u5:UpI lt (arrOf (setArr s4 (mirror (arrOf s4) lo (lo+m) ((lo+m-lo) / 2)))) lo (lo+m):=Ae (by rw[b4.size];lia) d4;show wpS _ _ _ _ _ _ (setArr s4 (mirror (arrOf s4) lo (lo+m) ((lo+m-lo) / 2)));obtain⟨s5,e5⟩:∃s5,s5=setArr s4 (mirror (arrOf s4) lo (lo+m) ((lo+m-lo) / 2)):=⟨_,rfl⟩;rw[<- e5] at b5 u5 ⊢;refine zS (wpS_mono (wpS_forRange (I:=λx c st'=>s5=st'/\c=(none,x)/\UpI lt (arrOf s5) lo (lo+x))
     (Q:=λc st'=>s5=st'/\∃n,c=(none,n)/\1<=n/\n<=nrem/\UpI lt (arrOf s5) lo (lo+n)) ?_ ?_ ⟨rfl,rfl,u5⟩) ?_)
    ·rintro x c st' a1 a2 ⟨rfl,rfl,u⟩;dsimp only;refine zS (iW O hM b5 (by lia) (by lia) ?_);dsimp only;cases hl:lt (X (arrOf s5) (lo+x)) (X (arrOf s5) (lo+x-1)) with
     | true =>
      rw[yB rfl];exact yA ⟨rfl,x,rfl,by lia,by lia,u⟩
     | false =>
      rw[if_neg (by simp)];have hm:∀z,lo<=z->z<=lo+x->M (X (arrOf s5) z):=λz _ _=>b5.m hM (by lia)
      exact yA ⟨rfl,rfl,oY (hi:=lo+x) O.or hm (by lia) u hl⟩
    ·rintro c st' ⟨rfl,rfl,u⟩;exact⟨rfl,_,rfl,by lia,by lia,u⟩
    rintro c st' ⟨rfl,n5,rfl,k1,k2,u⟩;exact yA (h n5 _ k1 k2 b5 u)
   ·rw[yT c1];refine zS (wpS_modify ?_);have b5:=b3.mir (i:=lo) (j:=lo+m) (uS _) (by lia);have u5:UpI lt (arrOf (setArr st3 (mirror (arrOf st3) lo (lo+m) ((lo+m-lo) / 2)))) lo (lo+m):=Ae (by rw[b3.size];lia) d3;show wpS _ _ _ _ _ _ (setArr st3 (mirror (arrOf st3) lo (lo+m) ((lo+m-lo) / 2)));obtain⟨s5,e5⟩:∃s5,s5=setArr st3 (mirror (arrOf st3) lo (lo+m) ((lo+m-lo) / 2)):=⟨_,rfl⟩;rw[<- e5] at b5 u5 ⊢;refine zS (wpS_mono (wpS_forRange (I:=λx c st'=>s5=st'/\c=(none,x)/\UpI lt (arrOf s5) lo (lo+x))
     (Q:=λc st'=>s5=st'/\∃n,c=(none,n)/\1<=n/\n<=nrem/\UpI lt (arrOf s5) lo (lo+n)) ?_ ?_ ⟨rfl,rfl,u5⟩) ?_)
    ·rintro x c st' a1 a2 ⟨rfl,rfl,u⟩;dsimp only;refine zS (iW O hM b5 (by lia) (by lia) ?_);dsimp only;cases hl:lt (X (arrOf s5) (lo+x)) (X (arrOf s5) (lo+x-1)) with
     | true =>
      rw[yB rfl];exact yA ⟨rfl,x,rfl,by lia,by lia,u⟩
     | false =>
      rw[if_neg (by simp)];have hm:∀z,lo<=z->z<=lo+x->M (X (arrOf s5) z):=λz _ _=>b5.m hM (by lia)
      exact yA ⟨rfl,rfl,oY (hi:=lo+x) O.or hm (by lia) u hl⟩
    ·rintro c st' ⟨rfl,rfl,u⟩;exact⟨rfl,_,rfl,by lia,by lia,u⟩
    rintro c st' ⟨rfl,n5,rfl,k1,k2,u⟩;exact yA (h n5 _ k1 k2 b5 u)
 ·rw[yT c2];have d1:DnI lt (arrOf st) lo (lo+(n+1)):=by
   rw[show lo+(n+1)=lo+n+1 by lia];refine ji O.or mm (by lia) (λi j a1 a2 a3=>?_) hle;rw[show i=j by lia];exact O.or.rf (mm _ (by lia) (by lia))
  refine zS (wpS_lift (wpAny_rule ⟨rfl,?_⟩));refine zS (wpS_mono (wpS_forRange (I:=λx c st'=>∃q,c=(none,x,q)/\SK a₀ κ p f0 lo st'/\DnI lt (arrOf st') lo (lo+x)/\q+1<=x/\EqI lt (arrOf st') (lo+x-(q+1)) (lo+x))
   (Q:=λc st'=>∃m q,c=(none,m,q)/\n+1<=m/\m<=nrem/\SK a₀ κ p f0 lo st'/\DnI lt (arrOf st') lo (lo+m)/\q+1<=m/\EqI lt (arrOf st') (lo+m-(q+1)) (lo+m)) ?_ ?_ ⟨0,rfl,hB,d1,by lia,λi j a1 a2 a3 a4=>by rw[show i=j by lia];exact O.or.rf (SK.m hB hM (by lia))⟩) ?_)
  ·rintro x c st' a1 a2 ⟨q,rfl,b1,dn,hq,eq⟩;dsimp only;refine zS (iW O hM b1 (by lia) (by lia) ?_);dsimp only;have mm:∀z,lo<=z->z<=lo+x->M (X (arrOf st') z):=λz _ _=>b1.m hM (by lia)
   cases hl:lt (X (arrOf st') (lo+x)) (X (arrOf st') (lo+x-1)) with
   | true =>
    rw[yB rfl];have hle:=O.or.of (mm _ (by lia) (by lia)) (mm _ (by lia) (by lia)) hl;have one:∀(a:xE),(∀z,lo<=z->z<=lo+x->M (X a z))->EqI lt a (lo+(x+1)-(0+1)) (lo+(x+1)):=λa ha i j a1 a2 a3 a4=>by
     rw[show i=j by lia];exact O.or.rf (ha _ (by lia) (by lia))
    by_cases c1:q > 0
    ·rw[yB c1];refine zS (wpS_modify (yA ?_));have b2:=b1.mir (i:=lo+x-(q+1)) (j:=lo+x) (by lia) (by lia);have z1:lo+x<=(arrOf st').size:=by rw[b1.size];lia
     have mm2:∀z,lo<=z->z<=lo+x->M (X (mirror (arrOf st') (lo+x-(q+1)) (lo+x) ((lo+x-(lo+x-(q+1))) / 2)) z):=λz _ _=>b2.m hM (by lia)
     have d2:=u6 z1 (by lia) (by lia) dn eq;refine⟨0,rfl,b2,?_,by lia,one _ mm2⟩;show DnI lt (mirror (arrOf st') (lo+x-(q+1)) (lo+x) ((lo+x-(lo+x-(q+1))) / 2)) lo (lo+x+1);refine ji O.or mm2 (by lia) d2 ?_;rw[nu z1,nu z1,yT (by lia),yB (by lia)];exact O.or.tr (mm _ (by lia) (by lia)) (mm _ (by lia) (by lia)) (mm _ (by lia) (by lia)) hle (eq _ _ (by lia) (by lia) (by lia) (by lia))
    ·rw[yT c1];refine yA ⟨0,rfl,b1,?_,by lia,one _ mm⟩;rw[show lo+(x+1)=lo+x+1 by lia];exact ji O.or mm (by lia) dn hle
   | false =>
    rw[if_neg (by simp)];refine zS (iW O hM b1 (by lia) (by lia) ?_);dsimp only;cases hl2:lt (X (arrOf st') (lo+x-1)) (X (arrOf st') (lo+x)) with
    | true =>
     rw[yB rfl];exact yA ⟨x,q,rfl,a1,by lia,b1,dn,hq,eq⟩
    | false =>
     rw[if_neg (by simp)];refine yA ⟨q+1,rfl,b1,?_,by lia,λi j a3 a4 a5 a6=>?_⟩
     ·rw[show lo+(x+1)=lo+x+1 by lia];exact ji O.or mm (by lia) dn hl2
     ·have r1:∀z,lo+x-(q+1)<=z->z<lo+x->le lt (X (arrOf st') z) (X (arrOf st') (lo+x)):=λz z1 z2=>O.or.tr (mm _ (by lia) (by lia)) (mm _ (by lia) (by lia)) (mm _ (by lia) (by lia)) (eq z (lo+x-1) (by lia) (by lia) (by lia) (by lia)) hl
      have r2:∀z,lo+x-(q+1)<=z->z<lo+x->le lt (X (arrOf st') (lo+x)) (X (arrOf st') z):=λz z1 z2=>O.or.tr (mm _ (by lia) (by lia)) (mm _ (by lia) (by lia)) (mm _ (by lia) (by lia)) hl2 (eq (lo+x-1) z (by lia) (by lia) (by lia) (by lia))
      by_cases w1:i=lo+x
      ·by_cases w2:j=lo+x
       ·rw[w1,w2];exact O.or.rf (mm _ (by lia) (by lia))
       ·rw[w1];exact r2 j (by lia) (by lia)
      ·by_cases w2:j=lo+x
       ·rw[w2];exact r1 i (by lia) (by lia)
       ·exact eq i j (by lia) (by lia) (by lia) (by lia)
  ·rintro c st' ⟨q,rfl,b1,dn,hq,eq⟩;rw[show max (n+1) nrem=nrem by lia] at dn hq eq ⊢;exact⟨nrem,q,rfl,by lia,by lia,b1,dn,hq,eq⟩
  rintro c st3 ⟨m,q,rfl,w1,w2,b3,d3,hq,eq⟩;dsimp only;by_cases c1:q > 0
  ·rw[yB c1];refine zS (wpS_modify ?_);have b4:=b3.mir (i:=lo+m-(q+1)) (j:=lo+m) (by lia) (by lia);have d4:=u6 (show lo+m<=(arrOf st3).size by rw[b3.size];lia) (by lia) (by lia) d3 eq;show wpS _ _ _ _ _ _ (setArr st3 (mirror (arrOf st3) (lo+m-(q+1)) (lo+m) ((lo+m-(lo+m-(q+1))) / 2)));obtain⟨s4,e4⟩:∃s4,s4=setArr st3 (mirror (arrOf st3) (lo+m-(q+1)) (lo+m) ((lo+m-(lo+m-(q+1))) / 2)):=⟨_,rfl⟩;have d4:DnI lt (arrOf s4) lo (lo+m):=by rw[e4];exact d4
   rw[<- e4] at b4 ⊢;refine zS (wpS_modify ?_);have b5:=b4.mir (i:=lo) (j:=lo+m) (uS _) (by lia);have u5:UpI lt (arrOf (setArr s4 (mirror (arrOf s4) lo (lo+m) ((lo+m-lo) / 2)))) lo (lo+m):=Ae (by rw[b4.size];lia) d4;show wpS _ _ _ _ _ _ (setArr s4 (mirror (arrOf s4) lo (lo+m) ((lo+m-lo) / 2)));obtain⟨s5,e5⟩:∃s5,s5=setArr s4 (mirror (arrOf s4) lo (lo+m) ((lo+m-lo) / 2)):=⟨_,rfl⟩;rw[<- e5] at b5 u5 ⊢;refine zS (wpS_mono (wpS_forRange (I:=λx c st'=>s5=st'/\c=(none,x)/\UpI lt (arrOf s5) lo (lo+x))
    (Q:=λc st'=>s5=st'/\∃n,c=(none,n)/\1<=n/\n<=nrem/\UpI lt (arrOf s5) lo (lo+n)) ?_ ?_ ⟨rfl,rfl,u5⟩) ?_)
   ·rintro x c st' a1 a2 ⟨rfl,rfl,u⟩;dsimp only;refine zS (iW O hM b5 (by lia) (by lia) ?_);dsimp only;cases hl:lt (X (arrOf s5) (lo+x)) (X (arrOf s5) (lo+x-1)) with
    | true =>
     rw[yB rfl];exact yA ⟨rfl,x,rfl,by lia,by lia,u⟩
    | false =>
     rw[if_neg (by simp)];have hm:∀z,lo<=z->z<=lo+x->M (X (arrOf s5) z):=λz _ _=>b5.m hM (by lia)
     exact yA ⟨rfl,rfl,oY (hi:=lo+x) O.or hm (by lia) u hl⟩
   ·rintro c st' ⟨rfl,rfl,u⟩;exact⟨rfl,_,rfl,by lia,by lia,u⟩
   rintro c st' ⟨rfl,n5,rfl,k1,k2,u⟩;exact yA (h n5 _ k1 k2 b5 u)
  ·rw[yT c1];refine zS (wpS_modify ?_);have b5:=b3.mir (i:=lo) (j:=lo+m) (uS _) (by lia);have u5:UpI lt (arrOf (setArr st3 (mirror (arrOf st3) lo (lo+m) ((lo+m-lo) / 2)))) lo (lo+m):=Ae (by rw[b3.size];lia) d3;show wpS _ _ _ _ _ _ (setArr st3 (mirror (arrOf st3) lo (lo+m) ((lo+m-lo) / 2)));obtain⟨s5,e5⟩:∃s5,s5=setArr st3 (mirror (arrOf st3) lo (lo+m) ((lo+m-lo) / 2)):=⟨_,rfl⟩;rw[<- e5] at b5 u5 ⊢;refine zS (wpS_mono (wpS_forRange (I:=λx c st'=>s5=st'/\c=(none,x)/\UpI lt (arrOf s5) lo (lo+x))
    (Q:=λc st'=>s5=st'/\∃n,c=(none,n)/\1<=n/\n<=nrem/\UpI lt (arrOf s5) lo (lo+n)) ?_ ?_ ⟨rfl,rfl,u5⟩) ?_)
   ·rintro x c st' a1 a2 ⟨rfl,rfl,u⟩;dsimp only;refine zS (iW O hM b5 (by lia) (by lia) ?_);dsimp only;cases hl:lt (X (arrOf s5) (lo+x)) (X (arrOf s5) (lo+x-1)) with
    | true =>
     rw[yB rfl];exact yA ⟨rfl,x,rfl,by lia,by lia,u⟩
    | false =>
     rw[if_neg (by simp)];have hm:∀z,lo<=z->z<=lo+x->M (X (arrOf s5) z):=λz _ _=>b5.m hM (by lia)
     exact yA ⟨rfl,rfl,oY (hi:=lo+x) O.or hm (by lia) u hl⟩
   ·rintro c st' ⟨rfl,rfl,u⟩;exact⟨rfl,_,rfl,by lia,by lia,u⟩
   rintro c st' ⟨rfl,n5,rfl,k1,k2,u⟩;exact yA (h n5 _ k1 k2 b5 u)
end
end TS
end L2
namespace L2
open PySem PyProof.Rows
namespace TS
abbrev R3:=Nat×Nat×Nat
def iH(lt:Keyed->Keyed->Bool)(l:List Keyed):List R3->Nat->Nat->Prop
 | [],s,e=>s=e
 | x::r,s,e=>x.1=s/\1<=x.2.1/\Up lt (seg l s x.2.1)/\iH lt l r (s+x.2.1) e
section
variable{lt:Keyed->Keyed->Bool}{l l':List Keyed}
theorem iH.le:∀{r:List R3} {s e:Nat},iH lt l r s e->s+r.length<=e
 | [],s,e,h=>by have h:s=e:=h;simp;lia
 | x::r,s,e,h=>by
  obtain⟨_,h1,_,h2⟩:=h;have:=h2.le;rw[zzD]
  lia
theorem iH.cg:∀{r:List R3} {s e:Nat},(∀i n,s<=i->i+n<=e->seg l' i n=seg l i n)->iH lt l r s e->iH lt l' r s e
 | [],_,_,_,h=>h
 | x::r,s,e,hc,h=>by
  obtain⟨h1,h2,h3,h4⟩:=h;have hl:=h4.le;refine⟨h1,h2,?_,iH.cg (λi n a b=>hc i n (by lia) b) h4⟩;rw[hc s x.2.1 (uS _) (by lia)];exact h3
theorem iH.app:∀{r r2:List R3} {s e:Nat},iH lt l (r++r2) s e ↔ ∃m,iH lt l r s m/\iH lt l r2 m e
 | [],r2,s,e=>⟨λh=>⟨s,rfl,h⟩,λ⟨m,h1,h2⟩=>by have h1:s=m:=h1;subst h1;exact h2⟩
 | x::r,r2,s,e=>by
  constructor
  ·rintro ⟨h1,h2,h3,h4⟩;obtain⟨m,h5,h6⟩:=iH.app.mp h4;exact⟨m,⟨h1,h2,h3,h5⟩,h6⟩
  ·rintro ⟨m,⟨h1,h2,h3,h4⟩,h5⟩;exact⟨h1,h2,h3,iH.app.mpr ⟨m,h4,h5⟩⟩
theorem O1{e i n:Nat}(h:l'.take e=l.take e)(hi:i+n<=e):seg l' i n=seg l i n:=by
 have k:∀m:List Keyed,seg m i n=((m.take e).drop i).take n:=λm=>by
  rw[List.drop_take,List.take_take,Nat.min_eq_left (by lia)]
 rw[k,k,h]
theorem GD{s i n:Nat}(h:l'.drop s=l.drop s)(hi:s<=i):seg l' i n=seg l i n:=by
 have k:∀m:List Keyed,seg m i n=((m.drop s).drop (i-s)).take n:=λm=>by
  rw[List.drop_drop,show s+(i-s)=i by lia]
 rw[k,k,h]
theorem O2{α:Type}{x y v:α}:∀(pre post:List α),((pre++x::y::post).set pre.length v).eraseIdx (pre.length+1)=pre++v::post
 | [],post=>rfl
 | z::pre,post=>by
  show z::(((pre++x::y::post).set pre.length v).eraseIdx (pre.length+1))=_;rw[O2 pre post]
  rfl
theorem two_of{α:Type}{p:Array α}{i:Nat}(h:i+1<p.size):∃pre x y post,p.toList=pre++x::y::post/\pre.length=i/\p[i]?=some x/\p[i+1]?=some y:=by
 refine⟨p.toList.take i,p.toList[i]'(by simp;lia),p.toList[i+1]'(by simp;lia),p.toList.drop (i+2),?_,by rw[List.length_take,Array.length_toList];lia,by simp[show i<p.size by lia],by simp[h]⟩;rw[<- List.drop_eq_getElem_cons,<- List.drop_eq_getElem_cons,qA]
theorem Wl{a:xE}{lo n:Nat}(hz:lo+n<=a.size)(h:UpI lt a lo (lo+n)):Up lt (seg a.toList lo n):=by
 refine List.pairwise_iff_getElem.mpr λi j hi hj hij=>?_
 have ln:=oX (l:=a.toList) (sa:=lo) (na:=n) (by simpa using hz);have g:∀i (hi:i<(seg a.toList lo n).length),(seg a.toList lo n)[i]=X a (lo+i):=λi hi=>by
  have e:=Ad (l:=a.toList) (sa:=lo) (na:=n) (i:=i) (by lia);rw[qE hi] at e;unfold X;rw[<- Array.getElem?_toList,<- e]
  rfl
 rw[g i hi,g j hj];exact h _ _ (by lia) (by lia) (by lia)
end
section
variable{prog:Program}{w:World}{A:Around}{E:xB}{s:Shared}{κ:SortKind}{M:Keyed->Prop}{lt:Keyed->Keyed->Bool}{a₀:xE}
structure SI(lt:Keyed->Keyed->Bool)(a₀:xE)(κ:SortKind)(e:Nat)(st:SortSt):Prop where
 perm:(arrOf st).Perm a₀
 kind:kindOf st=κ
 fail:failedOf st=none
 runs:iH lt (arrOf st).toList (pendingOf st).toList 0 e
theorem SI.size{e:Nat}{st:SortSt}(h:SI lt a₀ κ e st):(arrOf st).size=a₀.size:=h.perm.size_eq
theorem GF(O:Ord prog w A κ s M lt)(hM:∀x∈a₀.toList,M x){st:SortSt}{i e:Nat}{Q:Bool->SortSt->Prop}(hS:SI lt a₀ κ e st)(he:e<=a₀.size)(hi:i+1<(pendingOf st).size)
  (h:∀st',SI lt a₀ κ e st'->(pendingOf st').size+1=(pendingOf st).size->(arrOf st').toList.drop e=(arrOf st).toList.drop e->Q true st'):wpS (model prog w) A E s (mat i) Q st:=by
 obtain⟨pre,x,y,post,ep,lp,g1,g2⟩:=two_of hi;have hr:=hS.runs;rw[ep] at hr;obtain⟨m,r1,⟨x1,x2,x3,⟨y1,y2,y3,r4⟩⟩⟩:=iH.app.mp hr;obtain⟨sx,nx,px⟩:=x;obtain⟨sy,ny,py⟩:=y;dsimp only at x1 x2 x3 y1 y2 y3 r4;subst x1;have l4:=r4.le;have l1:=r1.le;have ms:∀z∈(arrOf st).toList,M z:=λz hz=>hM z ((Array.perm_iff_toList_perm.mp hS.perm).mem_iff.mp hz)
 refine Wh O hS.kind hS.fail g1 g2 y1 (by rw[hS.size];lia) x2 y2 ms x3 (by rw[y1];exact y3) λst' res k1 k2 k3 pr up ea=>?_
 rw[y1] at pr ea;have lr:res.length=nx+ny:=by
  rw[pr.length_eq,yY,oX (by rw[mS,hS.size];lia),oX (by rw[mS,hS.size];lia)]
 have lt0:((arrOf st).toList.take sx).length=sx:=by rw[nE,mS,hS.size];lia
 have tk:(arrOf st').toList.take sx=(arrOf st).toList.take sx:=by
  rw[ea,vT,List.take_append_of_le_length (by lia),mE (by lia)]
 have dp:(arrOf st').toList.drop (sx+nx+ny)=(arrOf st).toList.drop (sx+nx+ny):=by
  have e1:((arrOf st).toList.take sx++res).length=sx+nx+ny:=by rw[yY];lia
  rw[ea,<- e1,List.drop_left,e1]
 have sg:seg (arrOf st').toList sx (nx+ny)=res:=by
  unfold seg;rw[ea,vT];have:=List.drop_left (l₁:=(arrOf st).toList.take sx) (l₂:=res++(arrOf st).toList.drop (sx+nx+ny));rw[lt0] at this;rw[this,<- lr,List.take_left]
 have pp:(pendingOf st').toList=pre++(sx,nx+ny,px)::post:=by
  rw[k3,Array.toList_eraseIdxIfInBounds,Array.toList_setIfInBounds,ep,<- lp,O2]
 refine h st' ⟨?_,k1,k2,?_⟩ ?_ ?_
 ·refine Array.Perm.trans ?_ hS.perm;rw[Array.perm_iff_toList_perm,ea];have w:(arrOf st).toList=(arrOf st).toList.take sx++(seg (arrOf st).toList sx nx++seg (arrOf st).toList (sx+nx) ny)++(arrOf st).toList.drop (sx+nx+ny):=by
   rw[Cr,show sx+nx+ny=sx+(nx+ny) by lia];exact IK.symm
  exact((pr.append_left _).append_right _).trans (by rw[<- w])
 ·rw[pp];refine iH.app.mpr ⟨sx,r1.cg λi n a b=>O1 tk b,rfl,by show 1<=nx+ny;lia,by rw[sg];exact up,?_⟩;show iH lt _ post (sx+(nx+ny)) e;rw[show sx+(nx+ny)=sx+nx+ny by lia];exact r4.cg λi n a b=>GD dp a
 ·rw[<- mS,pp,<- mS,ep];simp
  lia
 ·have:=gL (List.drop (e-(sx+nx+ny))) dp;rw[List.drop_drop,List.drop_drop,show sx+nx+ny+(e-(sx+nx+ny))=e by lia] at this;exact this
end
end TS
end L2
namespace L2
open PySem PyProof.Rows
namespace TS
section
variable{lt:Keyed->Keyed->Bool}{l:List Keyed}{a₀:xE}{κ:SortKind}
theorem iH.alike:∀{r r2:List R3} {s e:Nat},r2.map (λx=>(x.1,x.2.1))=r.map (λx=>(x.1,x.2.1))->iH lt l r s e->iH lt l r2 s e
 | [],[],_,_,_,h=>h
 | [],_::_,_,_,e,_=>by cases e
 | _::_,[],_,_,e,_=>by cases e
 | x::r,y::r2,s,e,he,h=>by
  obtain⟨h1,h2,h3,h4⟩:=h;rw[nI,nI] at he;have e1:=List.cons.inj he;have e2:=Prod.mk.inj e1.1;refine⟨e2.1.trans h1,by rw[e2.2];exact h2,by rw[e2.2];exact h3,?_⟩;rw[e2.2];exact iH.alike e1.2 h4
theorem SI.pw{e:Nat}{st:SortSt}(h:SI lt a₀ κ e st)(i:Nat)(f:R3->R3)(hf:∀x,((f x).1,(f x).2.1)=(x.1,x.2.1)):SI lt a₀ κ e (setPending st ((pendingOf st).modify i f)):=by
 refine⟨h.perm,h.kind,h.fail,iH.alike ?_ h.runs⟩;show ((pendingOf st).modify i f).toList.map _=_;rw[Array.toList_modify]
 apply List.ext_getElem?
 intro j;rw[vE,vE,List.getElem?_modify];cases (pendingOf st).toList[j]? with
 | none=>rfl
 | some x =>
  show some _=some _
  congr 1
  dsimp only;by_cases hj:i=j
  ·rw[yB hj];exact hf x
  ·rw[yT hj]
theorem SI.push{lo n:Nat}{st:SortSt}(h:SI lt a₀ κ lo st)(u:Up lt (seg (arrOf st).toList lo n))(hn:1<=n):SI lt a₀ κ (lo+n) (setPending st ((pendingOf st).push (lo,n,0))):=by
 refine⟨h.perm,h.kind,h.fail,?_⟩;show iH lt (arrOf st).toList ((pendingOf st).push (lo,n,0)).toList 0 (lo+n);rw[Array.toList_push];exact iH.app.mpr ⟨lo,h.runs,rfl,hn,u,rfl⟩
end
section
variable{prog:Program}{w:World}{A:Around}{E:xB}{s:Shared}{κ:SortKind}{M:Keyed->Prop}{lt:Keyed->Keyed->Bool}{a₀:xE}
theorem sX{σ α:Type}{Mo:Model}{c:Prop}[Decidable c]{m1 m2:StateT σ Sem α}{Q:α->σ->Prop}{st:σ}(h1:c->wpS Mo A E s m1 Q st)(h2:¬ c->wpS Mo A E s m2 Q st):wpS Mo A E s (if c then m1 else m2) Q st:=by
 by_cases h:c
 ·rw[yB h];exact h1 h
 ·rw[yT h];exact h2 h
theorem Za{n:Nat}{c:Prop}[Decidable c](hn:¬ n<=1):(if c then n-2-1 else n-2)+1<n:=by split <;> lia
theorem Sy(O:Ord prog w A κ s M lt)(hM:∀x∈a₀.toList,M x){st:SortSt}{Q:Unit->SortSt->Prop}(h1:1<=a₀.size)(hS:SI lt a₀ κ 0 st)
  (h:∀st',(arrOf st').Perm a₀->failedOf st'=none->Up lt (arrOf st').toList->Q () st'):wpS (model prog w) A E s sortRuns' Q st:=by
 unfold sortRuns';refine zS (wpS_get ?_);have sz:=hS.size;refine zS (wpS_mono (wpS_forRange (I:=λx c st'=>∃lo,c=(none,lo)/\x<=lo/\lo<=a₀.size/\SI lt a₀ κ lo st') (Q:=λc st'=>c=(none,a₀.size)/\SI lt a₀ κ a₀.size st') ?_ ?_ ⟨0,rfl,uS _,by lia,hS⟩) ?_)
 ·rintro x c st' _ hx ⟨lo,rfl,h2,h3,hS'⟩;dsimp only;simp only[sz];by_cases c0:lo ≥ a₀.size
  ·rw[yB c0];have:lo=a₀.size:=by lia
   subst this;exact yA ⟨rfl,hS'⟩
  rw[yT c0];have K0:SK a₀ κ (pendingOf st') (λk=>(arrOf st')[k]?) lo st':=⟨hS'.perm,hS'.kind,hS'.fail,rfl,λ_ _=>rfl⟩;have back:∀(st3:SortSt)(n:Nat),lo+n<=a₀.size->SK a₀ κ (pendingOf st') (λk=>(arrOf st')[k]?) lo st3->UpI lt (arrOf st3) lo (lo+n)->SI lt a₀ κ lo st3/\Up lt (seg (arrOf st3).toList lo n):=λst3 n hz K3 u=>by
   have tk:(arrOf st3).toList.take lo=(arrOf st').toList.take lo:=by
    apply List.ext_getElem?
    intro j;rw[List.getElem?_take,List.getElem?_take];by_cases hj:j<lo
    ·rw[yB hj,yB hj,Array.getElem?_toList,Array.getElem?_toList];exact K3.fr j hj
    ·rw[yT hj,yT hj]
   refine⟨⟨K3.perm,K3.kind,K3.fail,?_⟩,Wl (by rw[K3.size];exact hz) u⟩;rw[K3.pend];exact hS'.runs.cg λi n a b=>O1 tk b
  refine zS (Wk O hM (nrem:=a₀.size-lo) (by lia) (by lia) K0 λn st2 n1 n2 K2 u2=>?_);dsimp only;refine sX (λc1=>?_) λc1=>?_
  ·refine zS (wpS_lift (wpAny_rule ⟨rfl,?_⟩));refine zS (Wj O hM (by lia) (by lia) K2 u2 λst3 K3 u3'=>?_);rw[if_neg (by simp)];obtain⟨S3,u3⟩:=back st3 _ (by lia) K3 u3'
   generalize hfo:min (a₀.size-lo) _=fo at u3 ⊢
   have f1:1<=fo:=by lia
   have f2:lo+fo<=a₀.size:=by lia
   refine zS (wpS_get ?_);cases hb:(pendingOf st3).back? with
   | none =>
    dsimp only;exact zS (wpS_modify (yA ⟨lo+fo,rfl,by lia,by lia,S3.push u3 (by lia)⟩))
   | some v =>
    obtain⟨s1,n1,q1⟩:=v;dsimp only;refine zS (wpS_mono (wpS_forRange (I:=λ_ c st4=>c=(none,())/\SI lt a₀ κ lo st4/\Up lt (seg (arrOf st4).toList lo fo)) (Q:=λc st4=>c=(none,())/\SI lt a₀ κ lo st4/\Up lt (seg (arrOf st4).toList lo fo)) ?_ (λ_ _ hh=>hh) ⟨rfl,S3,u3⟩) ?_)
    ·rintro y c st4 _ _ ⟨rfl,S4,u4⟩;refine zS (wpS_get ?_);by_cases g:(pendingOf st4).size > 1
     ·rw[yB g];obtain⟨v,hv⟩:∃v,(pendingOf st4)[(pendingOf st4).size-2]?=some v:=⟨_,getElem?_pos _ _ (by lia)⟩;obtain⟨v1,v2,v3⟩:=v;rw[hv];dsimp only;refine sX (λ_=>yA ⟨rfl,S4,u4⟩) λ_=>?_
      refine zS (GF (i:=(pendingOf st4).size-2) O hM S4 (by lia) (by lia) λst5 S5 _ dp=>?_);rw[if_neg (by simp)];exact yA ⟨rfl,S5,by rw[GD dp (uS _)];exact u4⟩
     ·rw[yT g];exact yA ⟨rfl,S4,u4⟩
    ·rintro c st4 ⟨rfl,S4,u4⟩;dsimp only;refine zS (wpS_modify (zS (wpS_modify (yA ⟨lo+fo,rfl,by lia,by lia,?_⟩))));exact SI.push (SI.pw S4 ((pendingOf st4).size-1) (λx=>(x.1,x.2.1,_)) λx=>rfl) u4 (by lia)
  ·obtain⟨S3,u3⟩:=back st2 n (by lia) K2 u2;obtain⟨st3,e3⟩:∃st3,st3=st2:=⟨_,rfl⟩;rw[<- e3] at S3 u3 ⊢;refine zS (wpS_get ?_);cases hb:(pendingOf st3).back? with
   | none =>
    dsimp only;exact zS (wpS_modify (yA ⟨lo+n,rfl,by lia,by lia,S3.push u3 (by lia)⟩))
   | some v =>
    obtain⟨s1,n1,q1⟩:=v;dsimp only;refine zS (wpS_mono (wpS_forRange (I:=λ_ c st4=>c=(none,())/\SI lt a₀ κ lo st4/\Up lt (seg (arrOf st4).toList lo n)) (Q:=λc st4=>c=(none,())/\SI lt a₀ κ lo st4/\Up lt (seg (arrOf st4).toList lo n)) ?_ (λ_ _ hh=>hh) ⟨rfl,S3,u3⟩) ?_)
    ·rintro y c st4 _ _ ⟨rfl,S4,u4⟩;refine zS (wpS_get ?_);by_cases g:(pendingOf st4).size > 1
     ·rw[yB g];obtain⟨v,hv⟩:∃v,(pendingOf st4)[(pendingOf st4).size-2]?=some v:=⟨_,getElem?_pos _ _ (by lia)⟩;obtain⟨v1,v2,v3⟩:=v;rw[hv];dsimp only;refine sX (λ_=>yA ⟨rfl,S4,u4⟩) λ_=>?_
      refine zS (GF (i:=(pendingOf st4).size-2) O hM S4 (by lia) (by lia) λst5 S5 _ dp=>?_);rw[if_neg (by simp)];exact yA ⟨rfl,S5,by rw[GD dp (uS _)];exact u4⟩
     ·rw[yT g];exact yA ⟨rfl,S4,u4⟩
    ·rintro c st4 ⟨rfl,S4,u4⟩;dsimp only;refine zS (wpS_modify (zS (wpS_modify (yA ⟨lo+n,rfl,by lia,by lia,?_⟩))));exact SI.push (SI.pw S4 ((pendingOf st4).size-1) (λx=>(x.1,x.2.1,_)) λx=>rfl) u4 (by lia)
 ·rintro c st' ⟨lo,rfl,h2,h3,hS'⟩;have:lo=a₀.size:=by
   rw[show max 0 (arrOf st).size=a₀.size by rw[sz];lia] at h2
   lia
  subst this;exact⟨rfl,hS'⟩
 ·rintro c st' ⟨rfl,hS'⟩;dsimp only;have fin:∀st5,SI lt a₀ κ a₀.size st5->(pendingOf st5).size<=1->Q () st5:=λst5 S5 hp=>by
   refine h st5 S5.perm S5.fail ?_;have r:=S5.runs;rw[<- mS] at hp;cases e:(pendingOf st5).toList with
   | nil =>
    rw[e] at r;have r:0=a₀.size:=r
    lia
   | cons z t =>
    rw[e] at hp r;cases t with
    | cons _ _=>simp at hp
    | nil =>
     obtain⟨_,_,u,r2⟩:=r;have r2:0+z.2.1=a₀.size:=r2;have e2:seg (arrOf st5).toList 0 z.2.1=(arrOf st5).toList:=mE (by rw[List.drop_zero,mS,S5.size];lia);rw[e2] at u;exact u
  refine zS (wpS_mono (wpS_forRange (I:=λx c st4=>c=(none,())/\SI lt a₀ κ a₀.size st4/\(pendingOf st4).size+x<=a₀.size) (Q:=λc st4=>c=(none,())/\SI lt a₀ κ a₀.size st4/\(pendingOf st4).size<=1) ?_ ?_ ⟨rfl,hS',?_⟩) ?_)
  ·rintro x c st4 _ hx ⟨rfl,S4,hp⟩;refine zS (wpS_get ?_);refine sX (λc1=>yA ⟨rfl,S4,c1⟩) λc1=>?_
   have c1:¬ (pendingOf st4).size<=1:=c1;refine zS (GF O hM S4 (uS _) ?hi λst5 S5 hz _=>?_)
   rotate_left
   ·rw[if_neg (by simp)];exact yA ⟨rfl,S5,by lia⟩
   exact Za c1
  ·rintro c st4 ⟨rfl,S4,hp⟩;refine⟨rfl,S4,?_⟩;rw[show max 0 (arrOf st).size=a₀.size by rw[sz];lia] at hp
   lia
  ·have:=hS'.runs.le;rw[mS] at this
   lia
  ·rintro c st4 ⟨rfl,S4,hp⟩;exact yA (fin st4 S4 hp)
end
end TS
end L2
set_option maxHeartbeats 4000000
namespace L2
open PySem PySem.W PySem.Calls PySem.Spec PyProof.Rows
namespace TS
theorem perm_back{α β:Type}{f:α->β}{l' m:List β}(h:l'.Perm m):∀l:List α,m=l.map f->∃p:List α,p.Perm l/\l'=p.map f:=by
 induction h with
 | nil =>
  intro l e;cases l with
  | nil=>exact⟨[],List.Perm.refl _,rfl⟩
  | cons _ _=>cases e
 | cons x _ ih =>
  intro l e;cases l with
  | nil=>cases e
  | cons a t =>
   have e:=List.cons.inj e;obtain⟨p,h1,h2⟩:=ih t e.2;exact⟨a::p,h1.cons a,by rw[nI,<- h2,e.1]⟩
 | swap x y t =>
  intro l e;cases l with
  | nil=>cases e
  | cons a r =>
   cases r with
   | nil=>cases (List.cons.inj e).2
   | cons b r =>
    have e1:=List.cons.inj e;have e2:=List.cons.inj e1.2;exact⟨b::a::r,List.Perm.swap _ _ _,by rw[nI,nI,e1.1,e2.1,e2.2]⟩
 | trans _ _ ih1 ih2 =>
  intro l e;obtain⟨p,h3,e2⟩:=ih2 l e;obtain⟨q,h4,e3⟩:=ih1 p e2;exact⟨q,h4.trans h3,e3⟩
section
variable{prog:Program}{w:World}{A:Around}{E:xB}{s:Shared}{κ:SortKind}{us vs:xF}{r:Nat->Int}
theorem Wm(hl:us.length=vs.length){i:Nat}(hi:i<us.length):(us.zip vs)[i]?=some (us.getD i Value.none,vs.getD i Value.none):=by
 rw[List.getElem?_zip_eq_some,getD_get hi,getD_get (show i<vs.length by lia)];exact⟨qE hi,qE (by lia)⟩
theorem Cw{Q:SortSt->Shared->Prop}(hl:us.length=vs.length)(h1:1<=vs.length)(ask:∀i j (C:Bool->Shared->Prop),i<us.length->j<us.length->C (decide (r i<r j)) s->kas_ask prog w A κ us i j C s)
  (hw:∀i j,i<us.length->j<us.length->us.getD i Value.none=us.getD j Value.none->r i=r j)
  (h:∀(st':SortSt)(p:List Nat),p.Perm (List.range vs.length)->(p.Pairwise λi j=>r i<=r j)->(arrOf st').map (·.2)=(p.map λi=>vs.getD i Value.none).toArray->failedOf st'=none->Q st' s) :
  wpAny (model prog w) A (sortRuns'.run (SortSt.mk' κ (us.toArray.zip vs.toArray) #[] 7 none)) (λr s'=>Q r.2 s') E s:=by
 classical
 let f:Nat->Keyed:=λi=>(us.getD i Value.none,vs.getD i Value.none)
 have ez:(us.toArray.zip vs.toArray).toList=(List.range vs.length).map f:=by
  rw[Array.toList_zip]
  apply List.ext_getElem?
  intro j;by_cases hj:j<us.length
  ·rw[show us.toArray.toList=us from rfl,show vs.toArray.toList=vs from rfl,Wm hl hj,vE,List.getElem?_range (by lia)]
   rfl
  ·rw[List.getElem?_eq_none (by simp;lia),List.getElem?_eq_none (by simp;lia)]
 have sz:(us.toArray.zip vs.toArray).size=vs.length:=by rw[<- Array.length_toList,ez];simp
 let R:Keyed->Int:=λx=>if hx:∃i,i<vs.length/\f i=x then r hx.choose else 0
 have hR:∀i,i<vs.length->R (f i)=r i:=λi hi=>by
  have hx:∃j,j<vs.length/\f j=f i:=⟨i,hi,rfl⟩;show (if hx:∃j,j<vs.length/\f j=f i then r hx.choose else 0)=r i;rw[dif_pos hx];have:=hx.choose_spec;exact hw _ _ (by lia) (by lia) (gL Prod.fst this.2)
 let M:Keyed->Prop:=λx=>∃i,i<vs.length/\f i=x
 have O:Ord prog w A κ s M (λx y=>decide (R x<R y)):=by
  refine⟨λx _=>by simp,λx y z _ _ _ hh=>?_,λx y _ _ hh=>?_,λx y hx hy=>?_⟩
  ·have:=of_decide_eq_true hh;by_cases c:R x<R y
   ·exact .inl (uA c)
   ·exact .inr (uA (by lia))
  ·have:=of_decide_eq_true hh;exact gX (by lia)
  ·obtain⟨i,hi,rfl⟩:=hx;obtain⟨j,hj,rfl⟩:=hy;rw[hR i hi,hR j hj];exact ask i j _ (by lia) (by lia) ⟨rfl,rfl⟩
 have key:=Sy (E:=E) O (a₀:=us.toArray.zip vs.toArray) (λx hx=>by
  rw[ez] at hx;obtain⟨i,hi,rfl⟩:=jS.mp hx;exact⟨i,by simpa using hi,rfl⟩) (st:=SortSt.mk' κ (us.toArray.zip vs.toArray) #[] 7 none) (Q:=λ_ st'=>Q st' s) (by lia) ⟨Array.Perm.refl _,rfl,rfl,rfl⟩ λst' pm hf up=>?_
 ·exact mM key (λrr s' hh=>by obtain⟨rfl,hq⟩:=hh;exact hq) λ_ _ e=>e
 ·obtain⟨p,hp,ep⟩:=perm_back (f:=f) (Array.perm_iff_toList_perm.mp pm) (List.range vs.length) ez;refine h st' p hp ?_ ?_ hf
  ·rw[ep] at up;refine(List.pairwise_map.mp up).imp_of_mem λ{i j} hi hj hh=>?_
   have li:i<vs.length:=by simpa using hp.mem_iff.mp hi
   have lj:j<vs.length:=by simpa using hp.mem_iff.mp hj
   have hh:decide (R (f j)<R (f i))=false:=hh;rw[hR i li,hR j lj] at hh;have:=of_decide_eq_false hh
   lia
  ·apply Array.toList_inj.mp
   rw[Array.toList_map,ep,List.map_map]
   rfl
end
end TS
end L2
namespace L2
open PySem PySem.W PySem.Calls PySem.Spec PyProof.Rows
section
variable{prog:Program}{w:World}{A:Around}{E:xB}{s:Shared}{h₀:Heap}{L l a D kS:Addr}{m:xC}{news:List (Addr×Obj)}{vs us:xF}{f:Value}{own:List (Addr×Obj)}{ks:xD}
theorem xT{C:Bool->Shared->Prop}{i j:Nat}(hh:∀p∈own,s.heap.get? p.1=some p.2)(tp:F2 (jf own) us ks)(sm:∀w∈ks,w.2<1000000)(hi:i<us.length)(hj:j<us.length)(hC:C (decide (rkP (ks.getD i (0,0))<rkP (ks.getD j (0,0)))) s) :
  kas_ask prog w A (tuples' true) us i j C s:=by
 have hlen:ks.length=us.length:=tp.length_eq.symm;unfold kas_ask;obtain⟨a,o,xs,n,t,u,ev,hm,hc,hd,hx⟩:=oU tp hi;obtain⟨a',o',xs',n',t',u',ev',hm',hc',hd',hx'⟩:=oU tp hj;have hr:=z9 (sm _ (getD_mem (d:=(0,0)) (show i<ks.length by lia))) (sm _ (getD_mem (d:=(0,0)) (show j<ks.length by lia)));obtain⟨x,hx0⟩:∃x,x=ks.getD i (0,0):=⟨_,rfl⟩;obtain⟨y,hy0⟩:∃y,y=ks.getD j (0,0):=⟨_,rfl⟩;rw[<- hx0] at hx hr hC;rw[<- hy0] at hx' hr hC;have z1:xs.size=2:=by rw[<- mS,hx];rfl
 have z2:xs'.size=2:=by rw[<- mS,hx'];rfl
 rw[ev,ev'];refine kat_lt (hh _ hm) hd (hh _ hm') hd' ?_;rw[hx,hx'];refine kat_cons (wpAny_eqBool_int ?_);by_cases e1:x.1=y.1
 ·rw[show (((x.1:Nat):Int)==((y.1:Nat):Int))=true by rw[e1];simp];refine kat_yes (kat_cons (wpAny_eqBool_int ?_));by_cases e2:x.2=y.2
  ·rw[show (((x.2:Nat):Int)==((y.2:Nat):Int))=true by rw[e2];simp];refine kat_yes (kat_nil ?_);rw[z1,z2,show decide (2<2)=decide (rkP x<rkP y) from decide_eq_decide.mpr (by rw[hr];lia)];exact hC
  ·rw[show (((x.2:Nat):Int)==((y.2:Nat):Int))=false by rw[beq_eq_false_iff_ne];lia];refine kat_no (kat_one _ _ (lt_int ?_));show C _ _;rw[show decide (((x.2:Nat):Int)<((y.2:Nat):Int))=decide (rkP x<rkP y) from decide_eq_decide.mpr (by rw[hr];lia)];exact hC
 ·rw[show (((x.1:Nat):Int)==((y.1:Nat):Int))=false by rw[beq_eq_false_iff_ne];lia];refine kat_no (oneLt_int ?_);rw[show decide (((x.1:Nat):Int)<((y.1:Nat):Int))=decide (rkP x<rkP y) from decide_eq_decide.mpr (by rw[hr];lia)];exact hC
theorem xU{h:Heap}(hh:∀p∈own,h.get? p.1=some p.2)(tp:F2 (jf own) us ks){i j:Nat}(hi:i<us.length)(hj:j<us.length)(e:us.getD i Value.none=us.getD j Value.none):rkP (ks.getD i (0,0))=rkP (ks.getD j (0,0)):=by
 obtain⟨a,o,xs,n,t,u,ev,hm,hc,hd,hx⟩:=oU tp hi;obtain⟨a',o',xs',n',t',u',ev',hm',hc',hd',hx'⟩:=oU tp hj;rw[ev,ev'] at e;cases e;have e3:=hh _ hm;rw[hh _ hm'] at e3;cases e3;rw[hd'] at hd;cases hd;rw[hx'] at hx;have g1:=List.cons.inj hx;have g2:=List.cons.inj g1.2;injection g1.1 with g3 _
 injection g2.1 with g4 _
 unfold rkP
 lia
theorem IW{p:List Nat}{n:Nat}(hlen:ks.length=n)(nd:ks.Nodup)(sm:∀w∈ks,w.2<1000000)(pp:p.Perm (List.range n))(up:p.Pairwise λi j=>rkP (ks.getD i (0,0))<=rkP (ks.getD j (0,0))):p.Pairwise λi j=>rkP (ks.getD i (0,0))<rkP (ks.getD j (0,0)):=by
 have ndp:p.Nodup:=pp.nodup_iff.mpr List.nodup_range;refine(up.and ndp).imp_of_mem λ{i j} hi hj z=>?_
 have li:i<ks.length:=by rw[hlen];simpa using pp.mem_iff.mp hi
 have lj:j<ks.length:=by rw[hlen];simpa using pp.mem_iff.mp hj
 have ne2:rkP (ks.getD i (0,0))≠rkP (ks.getD j (0,0)):=λe=>by
  have:=Aa (sm _ (getD_mem li)) (sm _ (getD_mem lj)) e;rw[getD_get li,getD_get lj] at this;exact z.2 ((List.getElem_inj nd).mp this)
 have:=z.1
 lia
theorem tail_any{st:SortSt}{e e1:Nat}{out:xF}{P:PySem.Fin->Shared->Prop}(hout:(arrOf st).map (·.2)=out.toArray)(hz:out.length<=1000)(hu:us.length<=1000)(hf:failedOf st=none)
  (h:KatFin h₀ L m kS a us e e1 out (λs'=>P (.done (.ret .none)) s') s):wpAny (model prog w) A (ksk_tail a false e1 (.ref kS) st) P E s:=by
 obtain⟨nw,g,F',N',U,k⟩:=h;obtain⟨pre,post,rfl,hg,x1,x2⟩:=U.split;have nk:=N' (kS,seqObj "list" us.toArray e) (rV _ zC);have sb:=Heap.SameBut.update s.heap kS (Obj.mapSeq λ_=>(#[]:xL));obtain⟨ck,hck⟩:∃ck,(s.heap.update kS (Obj.mapSeq λ_=>(#[]:xL))).get? kS=some (seqObj "list" #[] ck):=⟨_,get?_update_seq nk.1 λ_=>#[]⟩;obtain⟨nw2,g2,F2,N2,U2,k2⟩:=k _ ck (kas_fr F' sb nk.2.1 nk.2.2) (by rw[hg];exact news_set N' x1 x2 sb hck);obtain⟨pre2,post2,rfl,hg2,y1,y2⟩:=U2.split;have na:=N2 (a,seqObj "list" #[] e1) (rV _ zC)
 generalize hw:s.heap.update kS (Obj.mapSeq λ_=>(#[]:xL))=w1 at *
 have sb2:=Heap.SameBut.update w1 a (Obj.mapSeq λ_=>out.toArray);obtain⟨c2,hc2⟩:∃c2,(w1.update a (Obj.mapSeq λ_=>out.toArray)).get? a=some (seqObj "list" out.toArray c2):=⟨_,get?_update_seq na.1 λ_=>out.toArray⟩;have z1:us.toArray.size<=sizeLine:=by rw[nX,sizeLine_eq];lia
 have z2:out.toArray.size<=sizeLine:=by rw[nX,sizeLine_eq];lia
 unfold ksk_tail;simp only[Bool.false_eq_true,if_false];rw[hout];refine zI (listUpdate_at nk.1 rfl ?_ z1 (Nat.zero_le _));rw[hw];refine zI (wpAny_letGo (zI (seqEpoch_at na.1 rfl (zI (listUpdate_at na.1 rfl ?_ (Nat.zero_le _) (Nat.le_succ_of_le z2))))));rw[hf];simp only[bne_self_eq_false,Bool.false_eq_true,if_false];exact rX (k2 _ c2 (kas_fr F2 sb2 na.2.1 na.2.2) (by rw[hg2];exact news_set N2 y1 y2 sb2 hc2))
theorem SJ{e e1:Nat}{P:PySem.Fin->Shared->Prop}{κ:SortKind}{r:Nat->Int}(hl:us.length=vs.length)(h2:2<=vs.length)(hz:vs.length<=1000)(hk:wpAny (model prog w) A (keyKind' us.toArray) (λk s'=>k=κ/\s'=s) (λ_ _=>False) s)
  (ask:∀i j (C:Bool->Shared->Prop),i<us.length->j<us.length->C (decide (r i<r j)) s->kas_ask prog w A κ us i j C s) (hw:∀i j,i<us.length->j<us.length->us.getD i Value.none=us.getD j Value.none->r i=r j)
  (h:∀p:List Nat,p.Perm (List.range vs.length)->(p.Pairwise λi j=>r i<=r j)->KatFin h₀ L m kS a us e e1 (p.map λi=>vs.getD i Value.none) (λs'=>P (.done (.ret .none)) s') s) :
  wpAny (model prog w) A (ksk_end a false vs.toArray e1 (.ref kS) us.toArray) P E s:=by
 have hn:¬ vs.toArray.size<2:=by rw[nX];lia
 unfold ksk_end;dsimp only;simp only[Bool.false_eq_true,if_false];rw[yT hn,yT hn];refine zI (mM hk (λk s' hh=>?_) λ_ _ x=>x.elim);obtain⟨rfl,rfl⟩:=hh;refine zI (mM (TS.Cw (Q:=λst' s''=>s''=s'/\∃p:List Nat,p.Perm (List.range vs.length)/\(p.Pairwise λi j=>r i<=r j)/\(arrOf st').map (·.2)=(p.map λi=>vs.getD i Value.none).toArray/\failedOf st'=none) hl (by lia) ask hw λst' p a1 a2 a3 a4=>⟨rfl,p,a1,a2,a3,a4⟩) (λz s'' hz'=>?_) λ_ _ x=>x);obtain⟨⟨⟩,st'⟩:=z;obtain⟨rfl,p,a1,a2,a3,a4⟩:=hz';exact tail_any a3 (by rw[wS,a1.length_eq,List.length_range];exact hz) (by lia) a4 (h p a1 a2)
theorem fold_any{Fin:List Value->Nat->Shared->Prop}{body:Value->PUnit->Sem (ForInStep PUnit)}
  (hb:∀x ks e (s:Shared) (C:Value->Nat->Shared->Prop),List.length ks<=999->wpAny (model prog w) A (call f [x]) (KatBack h₀ L m kS ks e C) (λ_ _=>False) s ->
   wpAny (model prog w) A (body x ⟨⟩) (λr s'=>r=.yield ⟨⟩/\∃k c,s'.heap.get? kS=some (seqObj "list" (ks++[k]).toArray c)/\C k c s') E s):∀(r ks:xF)(e:Nat)(s:Shared),ks.length+r.length<=1000 ->
   s.heap.get? kS=some (seqObj "list" ks.toArray e)->KatKeys prog w A h₀ L m kS f Fin r ks e s ->
   wpAny (model prog w) A (forIn r PUnit.unit body) (λ_ s'=>∃zs e,s'.heap.get? kS=some (seqObj "list" zs.toArray e)/\zs.length=ks.length+r.length/\Fin zs e s') E s:=by
 intro r
 induction r with
 | nil =>
  intro ks e s hl hk h;rw[List.forIn_nil];exact rX ⟨ks,e,hk,rfl,h⟩
 | cons x r ih =>
  intro ks e s hl hk h;rw[zzD] at hl;rw[List.forIn_cons];refine zI (mM (hb x ks e s (λk c s'=>KatKeys prog w A h₀ L m kS f Fin r (ks++[k]) c s') (by lia) h) (λq s' hq=>?_) λ_ _ z=>z);obtain⟨rfl,k,c,hk',h2⟩:=hq;refine mM (ih (ks++[k]) c s' (by rw[yY,List.length_singleton];lia) hk' h2) (λ_ s'' hd=>?_) λ_ _ z=>z
  obtain⟨zs,e',g1,g2,g3⟩:=hd;exact⟨zs,e',g1,by rw[g2,yY,List.length_singleton,zzD];lia,g3⟩
theorem O3{e1:Nat}{P:PySem.Fin->Shared->Prop}(hk:s.heap.get? kS=some (seqObj "list" #[] 0))(hz:vs.length<=1000)
  (h:KatKeys prog w A h₀ L m kS f (λus e s'=>us.length=vs.length->wpAny (model prog w) A (ksk_end a false vs.toArray e1 (.ref kS) us.toArray) P E s') vs [] 0 s):wpAny (model prog w) A (ksk_rest a f false vs.toArray e1 (.ref kS)) P E s:=by
 unfold ksk_rest;refine zI (wpAny_rule ?_);rw[List.forIn_toArray];refine zI (mM (fold_any (λx ks e s' C hz hx=>?_) vs [] 0 s (by rw[List.length_nil];lia) hk h) (λ_ s' hd=>?_) λ_ _ x=>x)
 ·refine zI (wpAny_attempt (mM hx (λk s'' hk=>?_) λ_ _ hF=>hF.elim));obtain⟨nw,g,F',N',U,c⟩:=hk;obtain⟨pre,post,rfl,hg,x1,x2⟩:=U.split;have nk:=N' (kS,seqObj "list" ks.toArray e) (rV _ zC);have sb:=Heap.SameBut.update s''.heap kS (Obj.mapSeq (·.push k));have ea:ks.toArray.push k=(ks++[k]).toArray:=by simp
  obtain⟨c2,hc2⟩:∃c2,(s''.heap.update kS (Obj.mapSeq (·.push k))).get? kS=some (seqObj "list" (ks++[k]).toArray c2):=⟨_,by rw[<- ea];exact get?_update_seq nk.1 (·.push k)⟩;have z1:ks.toArray.size<=sizeLine:=by rw[nX,sizeLine_eq];lia
  have z2:(ks.toArray.push k).size<=sizeLine:=by rw[Array.size_push,nX,sizeLine_eq];lia
  dsimp only;refine zI (listUpdate_at nk.1 rfl ?_ z1 (Nat.le_succ_of_le z2));exact rX ⟨rfl,k,c2,hc2,c _ c2 (kas_fr F' sb nk.2.1 nk.2.2) (by rw[hg];exact news_set N' x1 x2 sb hc2)⟩
 ·obtain⟨zs,e,hk',hl,fin⟩:=hd;rw[List.length_nil,Nat.zero_add] at hl;exact zI (listItems_at hk' rfl (fin hl))
theorem O4{n:Nat}{P:PySem.Fin->Shared->Prop}(F:Fr h₀ L s.heap m)(N:News h₀ L s.heap news)(ho:s.heap.get? a=some (seqObj "list" vs.toArray n))(haL:a≠L)(ha0:h₀.get? a=none)(hna:∀p∈news,p.1≠a)(hz:vs.length<=1000)
  (h:∀kS e1 h',Fr h₀ L h' m->News h₀ L h' ((kS,seqObj "list" #[] 0)::(a,seqObj "list" #[] e1)::news)->a<kS->(∀q∈news,q.1<kS)->KatKeys prog w A h₀ L m kS f (λus e s'=>us.length=vs.length->wpAny (model prog w) A (ksk_end a false vs.toArray e1 (.ref kS) us.toArray) P E s') vs [] 0 { s with heap:=h' }) :
  wpAny (model prog w) A (ksk_tree a f false) P E s:=by
 have s1:=Heap.SameBut.update s.heap a (Obj.mapSeq λ_=>(#[]:xL));obtain⟨e1,ho1⟩:∃e1,(s.heap.update a (Obj.mapSeq λ_=>(#[]:xL))).get? a=some (seqObj "list" #[] e1):=⟨_,get?_update_seq ho λ_=>#[]⟩;have F1:=kas_fr F s1 haL ha0;have N1:=kas_news N s1 hna;unfold ksk_tree;refine zI (listItems_at ho rfl (zI (listUpdate_at ho rfl ?_ (by rw[nX,sizeLine_eq];lia) (Nat.zero_le _))))
 generalize hg:s.heap.update a (Obj.mapSeq λ_=>(#[]:xL))=g at *
 refine zI (seqEpoch_at ho1 rfl (zI (wpAny_newTuple (zI (wpAny_newList (mI ?_) (Nat.zero_le _))) (by show vs.length<=_;rw[sizeLine_eq];lia))))
 generalize hp:g.push (seqObj "tuple" vs.toArray 0)=g2
 have sz2:g2.objs.size=g.objs.size+1:=by rw[<- hp,size_push']
 have up:∀b o,g.get? b=some o->(g2.push (seqObj "list" #[] 0)).get? b=some o:=λb o e=>uC _ (by rw[<- hp];exact uC _ e)
 have la:a<g2.objs.size:=by rw[sz2];exact nV (uB ho1)
 have lN:∀q∈news,q.1<g2.objs.size:=λq hq=>by rw[sz2];exact nV (uB (N1 q hq).1)
 have lL:L<g2.objs.size:=by rw[sz2];exact nV F1.ns.lt
 have F3:Fr h₀ L (g2.push (seqObj "list" #[] 0)) m:=by rw[<- hp];exact(F1.push _).push _
 have hk:(g2.push (seqObj "list" #[] 0)).get? g2.objs.size=some (seqObj "list" #[] 0):=oQ _ rfl;show wpAny (model prog w) A _ P E { s with heap:=g2.push (seqObj "list" #[] 0) }
 refine O3 (s:={ s with heap:=g2.push (seqObj "list" #[] 0) }) (kS:=g2.objs.size) hk hz (h _ e1 _ F3 (λp hp'=>?_) la lN)
 rcases jI.mp hp' with rfl|hp'
 ·exact⟨hk,Nat.ne_of_gt lL,Heap.get?_none_of_le (oB F.above (zzE lL))⟩
 ·rcases jI.mp hp' with rfl|hp'
  ·exact⟨up _ _ ho1,haL,ha0⟩
  ·exact⟨up _ _ (N1 p hp').1,(N1 p hp').2⟩
theorem Cy{q:Addr}{Q:xB}(F:Fr h₀ L s.heap m)(N:News h₀ L s.heap news)(hl:s.heap.IsList l vs.toArray)(hz:vs.length<=1000)
  (h:∀D kS e1 h' (P:PySem.Fin->Shared->Prop) (E:xB),(∀s4,Q (.ref D) s4->P (.done (.ret .none)) s4)->Fr h₀ L h' m->News h₀ L h' ((kS,seqObj "list" #[] 0)::(D,seqObj "list" #[] e1)::news)->D<kS->(∀q∈news,q.1<D)->KatKeys prog w A.in1.in1 h₀ L m kS (.ref q) (λus e s'=>us.length=vs.length->wpAny (model prog w) A.in1.in1 (ksk_end D false vs.toArray e1 (.ref kS) us.toArray) P E s') vs [] 0 { s with heap:=h' }) :
  wpAny (model prog w) A (call (.builtin "sorted") [.ref l] [(Str.ofString "key", .ref q)]) Q E s:=by
 refine call_function_entry_kw kind_sorted plain_sorted entry_sorted (ksk_s1 _ _) ?_;unfold Builtin.«sorted»;refine zI (m:=checkCount "sorted" 1 1 _) (rX (zI (collect_list hl ?_ (by rw[sizeLine_eq];lia))));refine zI (wpAny_newList ?_ (by rw[sizeLine_eq];lia))
 generalize eh:((s.heap.push (seqObj "list" #[] 0)).update s.heap.objs.size (Obj.mapSeq (·++vs.toArray)))=hp
 have hsz:hp.objs.size=s.heap.objs.size+1:=by rw[<- eh,Heap.size_update,size_push']
 have keep:∀b o,s.heap.get? b=some o->(hp.push (seqObj "list" vs.toArray 0)).get? b=some o:=λb o q=>by
  have hlt:b<s.heap.objs.size:=uB q;rw[zzG _ _ _ (by rw[hsz];exact qV (nV hlt)),<- eh,zzF _ _ _ _ (qV hlt),zzG _ _ _ (qV hlt)];exact q
 have hoL:(hp.push (seqObj "list" vs.toArray 0)).get? hp.objs.size=some (seqObj "list" vs.toArray 0):=oQ _ rfl;have up1:∀{b:Addr},b<s.heap.objs.size->b<hp.objs.size:=λh=>by rw[hsz];exact nV h
 have hL:L<hp.objs.size:=up1 F.ns.lt;show wpAny _ _ _ _ _ { s with heap:=hp.push (seqObj "list" vs.toArray 0) }
 refine zI (mI (wpAny_call_entry_kw slot_list_sort ⟨_,hoL,rfl⟩ entry_list_sort ?body (ksk_l1 _ _)))
 case body =>
  show wpAny (model prog w) A.in1.in1 (Builtin.«list.sort» ⟨[.ref hp.objs.size],[(Str.ofString "key", .ref q)]⟩) _ _ _;rw[ksk_t1];refine O4 (s:={ s with heap:=hp.push (seqObj "list" vs.toArray 0) }) (F.kept keep) (N.grown keep) hoL (Nat.ne_of_gt hL) (Heap.get?_none_of_le (oB F.above (zzE hL))) (λp hp'=>qV (up1 (uB (N p hp').1))) hz λkS e1 h' F' N' l0 l1=>?_
  exact h _ kS e1 h' _ _ (λs4 hq=>⟨_,rfl,rX ⟨_,rfl,hq⟩⟩) F' N' l0 λq hq=>up1 (uB (N q hq).1)
theorem u9{h:Heap}(hs:s.heap=h)(hh:∀p∈own,h.get? p.1=some p.2)(tp:F2 (jf own) us ks)(h0:0<us.length):wpAny (model prog w) A (keyKind' us.toArray) (λk s'=>k=tuples' true/\s'=s) (λ_ _=>False) s:=by
 subst hs;obtain⟨fs,kt,fl,Om⟩:=sU hh tp;refine kat_kind (T:=.type "int") kt (by lia) (λv hv=>?_) rfl ⟨rfl,rfl⟩;obtain⟨z,t,rfl⟩:=Om v hv;exact Looks.of_pure rfl
theorem wL{q:Addr}{ks:xD}{Q:xB}(F:Fr h₀ L s.heap m)(N:News h₀ L s.heap news)(hl:s.heap.IsList l vs.toArray)(hz:vs.length<=1000)(tt:F2 (λv k=>oV prog w A.in1.in1 news (.ref q) v k s) vs ks)(nd:ks.Nodup)(sm:∀w∈ks,w.2<1000000)
  (k:∀D (p:List Nat) c h' tk,Fr h₀ L h' m->News h₀ L h' ((D,seqObj "list" (p.map (λi=>vs.getD i Value.none)).toArray c)::news)->(∀q∈news,q.1<D)->p.Perm (List.range vs.length)->(p.Pairwise λi j=>rkP (ks.getD i (0,0))<rkP (ks.getD j (0,0)))->Q (.ref D) { s with heap:=h',toks:=tk }) :
  wpAny (model prog w) A (call (.builtin "sorted") [.ref l] [(Str.ofString "key", .ref q)]) Q E s:=by
 by_cases h64:vs.length<64
 ·exact Ac F N hl h64 tt nd sm k
 have hlen:ks.length=vs.length:=tt.length_eq.symm;refine Cy F N hl hz λD kS e1 h' P E' hP F' N' l0 l1=>?_
 have nN:∀p∈news,p.1≠kS:=λp hp=>qV (Nat.lt_trans (l1 p hp) l0)
 refine sV (KS:=ks) (s:=s) (qV l0) nN (λown us kd e h tk F2 N2 n1 n2 g ek ul=>?_) vs ks [] [] [] 0 h' s.toks tt rfl F' N' (λ_ hp=>nomatch hp) (λ_ hp=>nomatch hp) .nil;subst ek;have hh:∀p∈own,h.get? p.1=some p.2:=λp hp=>(N2 p (zD _ (zD _ (mN _ hp)))).1
 refine SJ (h₀:=h₀) (L:=L) (m:=m) (e:=e) (s:={ s with heap:=h,toks:=tk }) (r:=λi=>rkP (kd.getD i (0,0))) (κ:=tuples' true) ul (by lia) hz (u9 (s:={ s with heap:=h,toks:=tk }) rfl hh g (by lia)) (λi j C hi hj hC=>xT (s:={ s with heap:=h,toks:=tk }) hh g sm hi hj hC) (λi j hi hj e=>xU hh g hi hj e) λp pp up=>?_
 refine KatFin.intro (s:={ s with heap:=h,toks:=tk }) F2 N2 (UpdF.head λp hp=>?_) λh3 c F3 N3=>?_
 ·rcases jI.mp hp with rfl|hp
  ·exact qV l0
  ·exact(wT.mp hp).elim (n1 p) (nN p)
 ·refine KasFin.intro (s:={ s with heap:=h3,toks:=tk }) F3 N3 (UpdF.tail (Nat.ne_of_gt l0) (UpdF.head λp hp=>(wT.mp hp).elim (n2 p) λz=>qV (l1 p z))) λh4 c4 F4 N4=>?_
  refine hP _ (k D p c4 h4 tk F4 (λp hp=>?_) l1 pp (IW hlen nd sm pp up));rcases jI.mp hp with rfl|hp
  ·exact N4 _ (zD _ zC)
  ·exact N4 p (zD _ (zD _ (rV _ hp)))
theorem O5{n:Nat}{P:PySem.Fin->Shared->Prop}(F:Fr h₀ L s.heap m)(N:News h₀ L s.heap news)(ho:s.heap.get? a=some (seqObj "list" vs.toArray n))(haL:a≠L)(ha0:h₀.get? a=none)(hna:∀p∈news,p.1≠a)(h2:2<=vs.length)(hz:vs.length<=1000)(tp:F2 (jf news) vs ks)(sm:∀w∈ks,w.2<1000000)
  (k:∀(p:List Nat) h' c,Fr h₀ L h' m->News h₀ L h' ((a,seqObj "list" (p.map λi=>vs.getD i Value.none).toArray c)::news)->p.Perm (List.range vs.length)->(p.Pairwise λi j=>rkP (ks.getD i (0,0))<=rkP (ks.getD j (0,0)))->P (.done (.ret .none)) { s with heap:=h' }) :
  wpAny (model prog w) A (Builtin.«list.sort» ⟨[.ref a],[]⟩) P E s:=by
 have s1:=Heap.SameBut.update s.heap a (Obj.mapSeq λ_=>(#[]:xL));obtain⟨e1,ho1⟩:∃e1,(s.heap.update a (Obj.mapSeq λ_=>(#[]:xL))).get? a=some (seqObj "list" #[] e1):=⟨_,get?_update_seq ho λ_=>#[]⟩;rw[list_sort_plain];refine zI (listItems_at ho rfl (zI (listUpdate_at ho rfl ?_ (by rw[nX,sizeLine_eq];lia) (Nat.zero_le _))));refine zI (seqEpoch_at ho1 rfl (zI (wpAny_newTuple ?_ (by show vs.length<=_;rw[sizeLine_eq];lia))));refine zI (wpAny_newList (mI ?_) (Nat.zero_le _))
 generalize eh:((s.heap.update a (Obj.mapSeq λ_=>(#[]:xL))).push (seqObj "tuple" vs.toArray 0)).push (seqObj "list" #[] 0)=hp
 have up:∀b o,(s.heap.update a (Obj.mapSeq λ_=>(#[]:xL))).get? b=some o->hp.get? b=some o:=λb o e=>by rw[<- eh];exact uC _ (uC _ e)
 have F3:Fr h₀ L hp m:=by rw[<- eh];exact((kas_fr F s1 haL ha0).push _).push _
 have N3:News h₀ L hp news:=(kas_news N s1 hna).grown up;have ho3:hp.get? a=some (seqObj "list" #[] e1):=up _ _ ho1;show wpAny (model prog w) A _ P E { s with heap:=hp }
 dsimp only;have hn2:¬ vs.toArray.size<2:=by rw[nX];lia
 rw[yT hn2,yT hn2];have hh:∀p∈news,hp.get? p.1=some p.2:=λp hp'=>(N3 p hp').1
 refine zI (mM (u9 (s:={ s with heap:=hp }) rfl hh tp (by lia)) (λkd s' hd=>?_) λ_ _ x=>x.elim)
 obtain⟨rfl,rfl⟩:=hd;refine zI (mM (TS.Cw (s:={ s with heap:=hp }) (r:=λi=>rkP (ks.getD i (0,0))) (Q:=λst' s''=>s''={ s with heap:=hp }/\∃p:List Nat,p.Perm (List.range vs.length)/\(p.Pairwise λi j=>rkP (ks.getD i (0,0))<=rkP (ks.getD j (0,0)))/\(arrOf st').map (·.2)=(p.map λi=>vs.getD i Value.none).toArray/\failedOf st'=none) rfl (by lia) (λi j C hi hj hC=>xT (s:={ s with heap:=hp }) hh tp sm hi hj hC) (λi j hi hj e=>xU hh tp hi hj e) λst' p a1 a2 a3 a4=>⟨rfl,p,a1,a2,a3,a4⟩) (λz s'' hz'=>?_) λ_ _ x=>x)
 obtain⟨⟨⟩,st'⟩:=z;obtain⟨rfl,p,pp,up',a3,a4⟩:=hz';dsimp only;rw[a3];obtain⟨out,hout⟩:∃out,out=p.map λi=>vs.getD i Value.none:=⟨_,rfl⟩
 rw[<- hout];have ol:out.length=vs.length:=by rw[hout,wS,pp.length_eq,List.length_range]
 have s2:=Heap.SameBut.update hp a (Obj.mapSeq λ_=>out.toArray);obtain⟨c2,hc2⟩:∃c2,(hp.update a (Obj.mapSeq λ_=>out.toArray)).get? a=some (seqObj "list" out.toArray c2):=⟨_,get?_update_seq ho3 λ_=>out.toArray⟩;refine zI (seqEpoch_at ho3 rfl (zI (listUpdate_at ho3 rfl ?_ (Nat.zero_le _) (by rw[nX,sizeLine_eq];lia))));rw[a4];simp only[bne_self_eq_false,Bool.false_eq_true,if_false];refine rX (k p _ c2 (kas_fr F3 s2 haL ha0) (λq hp'=>?_) pp up');rw[<- hout] at hp';rcases jI.mp hp' with rfl|hp'
 ·exact⟨hc2,haL,ha0⟩
 ·exact kas_news N3 s2 hna q hp'
theorem nA{ks:xD}{Q:xB}(F:Fr h₀ L s.heap m)(N:News h₀ L s.heap news)(hl:s.heap.IsList l vs.toArray)(hz:vs.length<=1000)(tp:F2 (jf news) vs ks)(nd:ks.Nodup)(sm:∀w∈ks,w.2<1000000)
  (k:∀D (p:List Nat) c h',Fr h₀ L h' m->News h₀ L h' ((D,seqObj "list" (p.map (λi=>vs.getD i Value.none)).toArray c)::news)->(∀q∈news,q.1<D)->p.Perm (List.range vs.length)->(p.Pairwise λi j=>rkP (ks.getD i (0,0))<rkP (ks.getD j (0,0)))->Q (.ref D) { s with heap:=h' }) :
  wpAny (model prog w) A (call (.builtin "sorted") [.ref l]) Q E s:=by
 by_cases h64:vs.length<64
 ·exact Ab F N hl h64 tp nd sm k
 have h2:2<=vs.length:=by lia
 refine Calls.call_function_entry kind_sorted plain_sorted entry_sorted (args_sorted1 _) ?_;unfold Builtin.«sorted»;refine zI (m:=checkCount "sorted" 1 1 _) (rX (zI (collect_list hl ?_ (by rw[sizeLine_eq];lia))));refine zI (wpAny_newList ?_ (by rw[sizeLine_eq];lia))
 generalize eh:((s.heap.push (seqObj "list" #[] 0)).update s.heap.objs.size (Obj.mapSeq (·++vs.toArray)))=hp
 have hsz:hp.objs.size=s.heap.objs.size+1:=by rw[<- eh,Heap.size_update,size_push']
 have keep:∀b o,s.heap.get? b=some o->(hp.push (seqObj "list" vs.toArray 0)).get? b=some o:=λb o q=>by
  have hlt:b<s.heap.objs.size:=uB q;rw[zzG _ _ _ (by rw[hsz];exact qV (nV hlt)),<- eh,zzF _ _ _ _ (qV hlt),zzG _ _ _ (qV hlt)];exact q
 have hoL:(hp.push (seqObj "list" vs.toArray 0)).get? hp.objs.size=some (seqObj "list" vs.toArray 0):=oQ _ rfl;have up1:∀{b:Addr},b<s.heap.objs.size->b<hp.objs.size:=λh=>by rw[hsz];exact nV h
 have hL:L<hp.objs.size:=up1 F.ns.lt;show wpAny _ _ _ _ _ { s with heap:=hp.push (seqObj "list" vs.toArray 0) }
 refine zI (mI (wpAny_call_entry slot_list_sort ⟨_,hoL,rfl⟩ entry_list_sort ?body (args_list_sort _)))
 case body =>
  refine O5 (s:={ s with heap:=hp.push (seqObj "list" vs.toArray 0) }) (F.kept keep) (N.grown keep) hoL (Nat.ne_of_gt hL) (Heap.get?_none_of_le (oB F.above (zzE hL))) (λp hp'=>qV (up1 (uB (N p hp').1))) h2 hz tp sm λp h' c F' N' pp up=>?_
  exact⟨_,rfl,rX ⟨_,rfl,k _ p c h' F' N' (λq hq=>up1 (uB (N q hq).1)) pp (IW tp.length_eq.symm nd sm pp up)⟩⟩
end
end L2
namespace L2
open PySem PySem.W PySem.Calls PySem.Spec PyProof.Rows PySem.SeqAt
def I_(K:W.Frag):List V->Hp->VK->Prop:=λvs H Q=>∃(l:Addr)(xs:List V)(ws:xD),vs=[.ref l]/\SqL K H l xs/\aH H xs (aD ws)/\(ws.length<=1000/\ws.Nodup/\∀w∈ws,w.2<1000000)/\∀qs:List (Nat×Nat),qs.Perm ws/\Oo qs->∀D zs H',New H H' D (.lst zs)->aH H' zs (aD qs)->Q (.ref D) H'
theorem Cz{X:Cx}:iy X (.builtin "sorted") (I_ X.K):=by
 intro pins s σ H vs us Q I rv h;obtain⟨l,xs,ws,rfl,hq,tp,⟨Ja,nd,sm⟩,q⟩:=h;obtain⟨u,rfl,r⟩:=vals1 rv;cases r;obtain⟨its,rv,p,hz⟩:=I.list hq;obtain⟨m,hm,_⟩:=id I.loc;have hlen:its.length=xs.length:=rv.length.symm;have hw:xs.length=ws.length:=by rw[tp.1,aJ]
 have nL:∀{b:Addr} {u:HO},H b=some u->b≠X.env.locals:=λ{b u} e z=>by rw[z,I.free] at e;cases e
 have refs:∀v∈xs,∃q,v=V.ref q:=λv hv=>by
  obtain⟨i,hi,e⟩:=List.getElem_of_mem hv;obtain⟨r,q,_,e2,_⟩:=gj tp (i:=i) (v:=v) (by rw[<- e];simp);exact⟨q,e2⟩
 obtain⟨xb,ub⟩:=mD rv refs;have F0:Fr { objs:=#[] } X.env.locals s.heap m:=⟨hm,λb o e=>by
  have e:Heap.get? { objs:=#[] } b=some o:=e;simp[Heap.get?] at e,Nat.zero_le _⟩
 have N0:News { objs:=#[] } X.env.locals s.heap (jz s.heap X.env.locals):=λp hp=>⟨(iK hp).1,(iK hp).2,rfl⟩
 have f2:F2 (jf (jz s.heap X.env.locals)) its ws:=Io (by lia) λi v c hv hc=>by
  have hx:xs[i]?=some (gD v):=by rw[xb,vE,hv];rfl
  obtain⟨r,q,e1,e2,e3⟩:=gj tp hx;obtain⟨q',rfl⟩:=ub v (wE hv);cases e2;unfold aD at e1;rw[vE,hc] at e1;cases e1;obtain⟨_,its2,rv2,ob,et,ec,n2,ed⟩:=I.hok _ _ e3;rcases rv2 with _|⟨⟨tk,rfl⟩,_|⟨⟨tk2,rfl⟩,_|_⟩⟩;exact⟨_,ob,_,n2,tk,tk2,rfl,eG et (nL e3),ec,ed,rfl⟩
 refine nA F0 N0 p.isList (by lia) f2 nd sm λD ps c h' F N hD pp up=>?_
 have hn:s.heap.get? D=none:=by
  cases e:s.heap.get? D with
  | none=>rfl
  | some o =>
   have:=hD (D,o) (eG e (N (D,seqObj "list" _ c) zC).2.1);exact gN this (gE _)
 have hn2:H D=none:=by
  cases e:H D with
  | none=>rfl
  | some u =>
   obtain⟨ob,e2⟩:=(I.hok D u e).is;rw[hn] at e2;cases e2
 have plt:∀i∈ps,i<its.length:=λi hi=>by simpa using pp.mem_iff.mp hi
 have hin:∀u∈ps.map (λi=>its.getD i Value.none),∃q,u=Value.ref q:=λu hu=>by
  obtain⟨i,hi,rfl⟩:=jS.mp hu;exact ub _ (getD_mem (plt i hi))
 have eb:(ps.map λi=>its.getD i Value.none).map gD=ps.map λi=>xs.getD i .non:=by
  rw[List.map_map];refine List.map_congr_left λi hi=>?_
  have:=plt i hi;show gD (its.getD i .none)=xs.getD i .non;rw[xb,oS,oS,vE,qE this]
  rfl
 have lo:ps.length=xs.length:=by rw[pp.length_eq,List.length_range,hlen]
 have nw:New H (upd H D (.lst ((ps.map λi=>its.getD i Value.none).map gD))) D (.lst ((ps.map λi=>its.getD i Value.none).map gD)):=New.mk' hn2;refine⟨.ref D,upd H D (.lst ((ps.map λi=>its.getD i Value.none).map gD)),I.N_ (t':=s.toks) (λb u n e=>(N (b,u) (zD _ (eG e n))).1) hm F.ns hn ?_,rfl,q (ps.map λi=>ws.getD i (0,0)) ⟨?_,List.pairwise_map.mpr up⟩ D _ _ nw ?_⟩
 ·refine⟨by rw[wS,wS,lo];exact hz,_,c,mF hin,?_⟩;exact(N (D,seqObj "list" _ c) zC).1
 ·have:=pp.map λi=>ws.getD i (0,0)
  rw[show its.length=ws.length by lia,fO] at this;exact this
 ·rw[eb];refine⟨by rw[wS,aJ,wS],λj r e=>?_⟩;unfold aD at e;rw[List.map_map,vE] at e;cases e0:ps[j]? with
  | none=>rw[e0] at e;cases e
  | some i =>
   rw[e0] at e;have hi:=plt i (wE e0);have hx:xs[i]?=some (xs.getD i .non):=by rw[getD_get (show i<xs.length by lia)];simp
   obtain⟨r2,q2,g1,g2,g3⟩:=gj tp hx;unfold aD at g1;rw[vE,qE (show i<ws.length by lia)] at g1;refine⟨q2,by rw[vE,e0,Option.map_some,g2],?_⟩;have g4:=nw.s _ _ g3;rw[eb] at g4;rw[g4];have e:[V.int ((ws.getD i (0,0)).1:Nat),V.int ((ws.getD i (0,0)).2:Nat)]=r:=by simpa using e
   rw[<- e,getD_get (show i<ws.length by lia)];cases g1
   rfl
def Jb(K:W.Frag):List V->Hp->VK->Prop:=λvs H Q=>∃(l:Addr)(xs:List V)(ws:xD),vs=[.ref l]/\SqL K H l xs/\aH H xs (aD ws)/\(xs.length<=1000/\ws.Pairwise (λa b=>a.1<b.1)/\∀w∈ws,w.2<1000000)/\∀D H',New H H' D (.lst xs)->Q (.ref D) H'
theorem CG{X:Cx}:iy X (.builtin "sorted") (Jb X.K):=by
 intro pins s σ H vs us Q I rv h;obtain⟨l,xs,ws,rfl,hq,tp,⟨Ja,ri,sm⟩,q⟩:=h;obtain⟨u,rfl,r⟩:=vals1 rv;cases r;obtain⟨its,rv,p,hz⟩:=I.list hq;obtain⟨m,hm,_⟩:=id I.loc;have hlen:its.length=xs.length:=rv.length.symm;have hw:xs.length=ws.length:=by rw[tp.1,aJ]
 have nL:∀{b:Addr} {u:HO},H b=some u->b≠X.env.locals:=λ{b u} e z=>by rw[z,I.free] at e;cases e
 have refs:∀v∈xs,∃q,v=V.ref q:=λv hv=>by
  obtain⟨i,hi,e⟩:=List.getElem_of_mem hv;obtain⟨r,q,_,e2,_⟩:=gj tp (i:=i) (v:=v) (by rw[<- e];simp);exact⟨q,e2⟩
 obtain⟨xb,ub⟩:=mD rv refs;have F0:Fr { objs:=#[] } X.env.locals s.heap m:=⟨hm,λb o e=>by
  have e:Heap.get? { objs:=#[] } b=some o:=e;simp[Heap.get?] at e,Nat.zero_le _⟩
 have N0:News { objs:=#[] } X.env.locals s.heap (jz s.heap X.env.locals):=λp hp=>⟨(iK hp).1,(iK hp).2,rfl⟩
 have f2:F2 (jf (jz s.heap X.env.locals)) its ws:=Io (by lia) λi v c hv hc=>by
  have hx:xs[i]?=some (gD v):=by rw[xb,vE,hv];rfl
  obtain⟨r,q,e1,e2,e3⟩:=gj tp hx;obtain⟨q',rfl⟩:=ub v (wE hv);cases e2;unfold aD at e1;rw[vE,hc] at e1;cases e1;obtain⟨_,its2,rv2,ob,et,ec,n2,ed⟩:=I.hok _ _ e3;rcases rv2 with _|⟨⟨tk,rfl⟩,_|⟨⟨tk2,rfl⟩,_|_⟩⟩;exact⟨_,ob,_,n2,tk,tk2,rfl,eG et (nL e3),ec,ed,rfl⟩
 have nd:ws.Nodup:=ri.imp λh z=>by rw[z] at h;lia
 refine nA F0 N0 p.isList (by lia) f2 nd sm λD ps c h' F N hD pp up=>?_
 have hn:s.heap.get? D=none:=by
  cases e:s.heap.get? D with
  | none=>rfl
  | some o =>
   have:=hD (D,o) (eG e (N (D,seqObj "list" _ c) zC).2.1);exact gN this (gE _)
 have hn2:H D=none:=by
  cases e:H D with
  | none=>rfl
  | some u =>
   obtain⟨ob,e2⟩:=(I.hok D u e).is;rw[hn] at e2;cases e2
 have plt:∀i∈ps,i<its.length:=λi hi=>by simpa using pp.mem_iff.mp hi
 have hin:∀u∈ps.map (λi=>its.getD i Value.none),∃q,u=Value.ref q:=λu hu=>by
  obtain⟨i,hi,rfl⟩:=jS.mp hu;exact ub _ (getD_mem (plt i hi))
 have eb:(ps.map λi=>its.getD i Value.none).map gD=ps.map λi=>xs.getD i .non:=by
  rw[List.map_map];refine List.map_congr_left λi hi=>?_
  have:=plt i hi;show gD (its.getD i .none)=xs.getD i .non;rw[xb,oS,oS,vE,qE this]
  rfl
 have lo:ps.length=xs.length:=by rw[pp.length_eq,List.length_range,hlen]
 have nw:New H (upd H D (.lst ((ps.map λi=>its.getD i Value.none).map gD))) D (.lst ((ps.map λi=>its.getD i Value.none).map gD)):=New.mk' hn2;have pr:ps=List.range xs.length:=by
  have pp2:ps.Perm (List.range xs.length):=by rw[<- hlen];exact pp
  refine List.Perm.eq_of_pairwise (le:=λa b:Nat=>a<b) (λa b _ _ h1 h2=>by lia) (up.imp_of_mem λ{i j} hi hj z=>?_) List.pairwise_lt_range pp2;have li:i<ws.length:=by have:=plt i hi;lia
  have lj:j<ws.length:=by have:=plt j hj;lia
  by_cases c:i<j
  ·exact c
  ·exfalso
   have mono:j≠i->rkP (ws.getD j (0,0))<rkP (ws.getD i (0,0)):=λne=>by
    have h2:=List.pairwise_iff_getElem.mp ri j i lj li (by lia);rw[getD_get li,getD_get lj,z9 (sm _ (List.getElem_mem lj)) (sm _ (List.getElem_mem li))];exact .inl h2
   by_cases e:j=i
   ·subst e;lia
   ·have:=mono e;lia
 have ex:(ps.map λi=>its.getD i Value.none).map gD=xs:=by rw[eb,pr,fO]
 rw[ex] at nw;refine⟨.ref D,upd H D (.lst xs),I.N_ (t':=s.toks) (λb u n e=>(N (b,u) (zD _ (eG e n))).1) hm F.ns hn ?_,rfl,q D _ nw⟩;refine⟨by rw[<- lo] at hz ⊢;exact hz,_,c,by have:=mF hin;rw[ex] at this;exact this,?_⟩;exact(N (D,seqObj "list" _ c) zC).1
def Jc(K:W.Frag):List V->V->Hp->VK->Prop:=λvs y H Q=>∃(l f:Addr)(xs:List V)(ws:xD),vs=[.ref l]/\y=.ref f/\jU H f/\SqL K H l xs/\aH H xs (aD ws)/\(ws.length<=1000/\ws.Nodup/\∀w∈ws,w.1<1000000)/\∀qs:List (Nat×Nat),qs.Perm ws/\lD qs->∀D zs H',New H H' D (.lst zs)->aH H' zs (aD qs)->Q (.ref D) H'
theorem GJ{X:Cx}{pins:List (Addr×Obj)}{s:Shared}{σ:St}{H:Hp}{Q:VK}{l f:Addr}{xs:List V}{ws:xD}(I:Inv X pins σ H s)(hq:SqL X.K H l xs)(tp:aH H xs (aD ws))(Ja:ws.length<=1000)(nd:ws.Nodup)(sm:∀w∈ws,w.1<1000000)
  (kt:∀(s1:Shared) (q:Addr) (u u0:Value) {R:xB},(∀b v o,H b=some v->s.heap.get? b=some o->s1.heap.get? b=some o)->(∀b o,X.base.get? b=some o->s1.heap.get? b=some o)->IsTup s1.heap q [u0,u].toArray ->
   (∀h' tk a,(∀b o,s1.heap.get? b=some o->h'.get? b=some o)->s1.heap.get? a=none->h'.get? a=some (seqObj "tuple" #[u,u0] 0)->R (.ref a) { s1 with heap:=h',toks:=tk })->wpAny (model X.prog X.w) X.A.in1.in1 (call (.ref f) [.ref q]) R (λ_ _=>False) s1)
  (q:∀qs:List (Nat×Nat),qs.Perm ws/\lD qs->∀D zs H',New H H' D (.lst zs)->aH H' zs (aD qs)->Q (.ref D) H') :
  wpAny (model X.prog X.w) X.A (call (.builtin "sorted") [.ref l] [(Str.ofString "key", .ref f)]) (EP X pins σ Q) X.xe s:=by
 obtain⟨its,rv,p,hz⟩:=I.list hq;obtain⟨m,hm,_⟩:=id I.loc;have hlen:its.length=xs.length:=rv.length.symm;have hw:xs.length=ws.length:=by rw[tp.1,aJ]
 have nL:∀{b:Addr} {u:HO},H b=some u->b≠X.env.locals:=λ{b u} e z=>by rw[z,I.free] at e;cases e
 have refs:∀v∈xs,∃q,v=V.ref q:=λv hv=>by
  obtain⟨i,hi,e⟩:=List.getElem_of_mem hv;obtain⟨r,q,_,e2,_⟩:=gj tp (i:=i) (v:=v) (by rw[<- e];simp);exact⟨q,e2⟩
 obtain⟨xb,ub⟩:=mD rv refs;have F0:Fr { objs:=#[] } X.env.locals s.heap m:=⟨hm,λb o e=>by
  have e:Heap.get? { objs:=#[] } b=some o:=e;simp[Heap.get?] at e,Nat.zero_le _⟩
 have N0:News { objs:=#[] } X.env.locals s.heap (jz s.heap X.env.locals):=λp hp=>⟨(iK hp).1,(iK hp).2,rfl⟩
 have f2:F2 (λv k=>oV X.prog X.w X.A.in1.in1 (jz s.heap X.env.locals) (.ref f) v k s) its (ws.map swP):=Io (by rw[wS];lia) λi v c hv hc h tk hh=>by
  have hx:xs[i]?=some (gD v):=by rw[xb,vE,hv];rfl
  obtain⟨r,q,e1',e2,e3⟩:=gj tp hx;obtain⟨q',rfl⟩:=ub v (wE hv);cases e2;unfold aD at e1';rw[vE] at e1' hc;cases ew:ws[i]? with
  | none=>rw[ew] at hc;cases hc
  | some w =>
   rw[ew] at e1' hc;cases e1';cases hc;have kp:∀b o,b≠X.env.locals->s.heap.get? b=some o->h.get? b=some o:=λb o n e=>hh (b,o) (eG e n)
   have lb:∀b o,X.base.get? b=some o->h.get? b=some o:=λb o e=>kp b o (qV (qS (uB e) (oB I.ok.bsz I.ok.above))) (I.bk b o e)
   obtain⟨_,its2,rv2,ob,et,ec2,n2,ed2⟩:=I.hok _ _ e3;rcases rv2 with _|⟨⟨tk1,rfl⟩,_|⟨⟨tk2,rfl⟩,_|_⟩⟩;exact kt { s with heap:=h,toks:=tk } q _ _ (λb u o e1 e2=>kp _ _ (nL e1) e2) lb ⟨ob,kp _ _ (nL e3) et,ec2,n2,ed2⟩ λh' tk' a k2 ha ho=>⟨a,h',tk',tk2,tk1,rfl,rfl,k2,ha,ho⟩
 refine wL F0 N0 p.isList (by lia) f2 (xR (λa b=>Iw) nd) (λw hw=>by obtain⟨v,hv,rfl⟩:=jS.mp hw;exact sm v hv) λD ps c h' tk' F N hD pp up=>?_
 have hn:s.heap.get? D=none:=by
  cases e:s.heap.get? D with
  | none=>rfl
  | some o =>
   have:=hD (D,o) (eG e (N (D,seqObj "list" _ c) zC).2.1);exact gN this (gE _)
 have hn2:H D=none:=by
  cases e:H D with
  | none=>rfl
  | some u =>
   obtain⟨ob,e2⟩:=(I.hok D u e).is;rw[hn] at e2;cases e2
 have plt:∀i∈ps,i<its.length:=λi hi=>by simpa using pp.mem_iff.mp hi
 have hin:∀u∈ps.map (λi=>its.getD i Value.none),∃q,u=Value.ref q:=λu hu=>by
  obtain⟨i,hi,rfl⟩:=jS.mp hu;exact ub _ (getD_mem (plt i hi))
 have eb:(ps.map λi=>its.getD i Value.none).map gD=ps.map λi=>xs.getD i .non:=by
  rw[List.map_map];refine List.map_congr_left λi hi=>?_
  have:=plt i hi;show gD (its.getD i .none)=xs.getD i .non;rw[xb,oS,oS,vE,qE this]
  rfl
 have lo:ps.length=xs.length:=by rw[pp.length_eq,List.length_range,hlen]
 have nw:New H (upd H D (.lst ((ps.map λi=>its.getD i Value.none).map gD))) D (.lst ((ps.map λi=>its.getD i Value.none).map gD)):=New.mk' hn2;refine⟨.ref D,upd H D (.lst ((ps.map λi=>its.getD i Value.none).map gD)),I.N_ (t':=tk') (λb u n e=>(N (b,u) (zD _ (eG e n))).1) hm F.ns hn ?_,rfl,q (ps.map λi=>ws.getD i (0,0)) ⟨?_,List.pairwise_map.mpr (up.imp_of_mem λ{i j} hi hj z=>?_)⟩ D _ _ nw ?_⟩
 ·refine⟨by rw[wS,wS,lo];exact hz,_,c,mF hin,?_⟩;exact(N (D,seqObj "list" _ c) zC).1
 ·have:=pp.map λi=>ws.getD i (0,0)
  rw[show its.length=ws.length by lia,fO] at this;exact this
 ·have g:∀i∈ps,(ws.map swP).getD i (0,0)=swP (ws.getD i (0,0)):=λi hi=>by
   have:=plt i hi;rw[oS,oS,vE,qE (show i<ws.length by lia)]
   rfl
  rw[<- g i hi,<- g j hj];exact z
 ·rw[eb];refine⟨by rw[wS,aJ,wS],λj r e=>?_⟩;unfold aD at e;rw[List.map_map,vE] at e;cases e0:ps[j]? with
  | none=>rw[e0] at e;cases e
  | some i =>
   rw[e0] at e;have hi:=plt i (wE e0);have hx:xs[i]?=some (xs.getD i .non):=by rw[getD_get (show i<xs.length by lia)];simp
   obtain⟨r2,q2,g1,g2,g3⟩:=gj tp hx;unfold aD at g1;rw[vE,qE (show i<ws.length by lia)] at g1;refine⟨q2,by rw[vE,e0,Option.map_some,g2],?_⟩;have g4:=nw.s _ _ g3;rw[eb] at g4;rw[g4];have e:[V.int ((ws.getD i (0,0)).1:Nat),V.int ((ws.getD i (0,0)).2:Nat)]=r:=by simpa using e
   rw[<- e,getD_get (show i<ws.length by lia)];cases g1
   rfl
theorem CJ{X:Cx}{K:W.Frag}{k:Nat}(hK:X.K=K)(hr:Room k X.A):Nu X "sorted" "key" (Jc K):=by
 intro pins s σ H vs us y u Q I rv ry h;subst hK;obtain⟨l,f,xs,ws,rfl,rfl,lam,hq,tp,⟨Ja,nd,sm⟩,q⟩:=h;cases ry;rcases rv with _|⟨r,_|_⟩;cases r;obtain⟨qual,x,params,p1,p2,p3,p4,p5,p6,p7,j,j2,j3,scope,pm,ctv,c',oc,cv,t,ef,ec,ed,e1,S,hb⟩:=lam;refine GJ I hq tp Ja nd sm (λs1 q u u0 R kp lb it hR=>?_) q;exact Wa (A:=X.A.in1.in1) (s:=s1) (show X.A.depth<_ from hr.depth) (kp _ _ _ ef (I.hok f _ ef).1) ⟨c',oc,cv,t,rfl,kp _ _ _ ec (I.hok c' _ ec).1,ed,e1⟩ (I.ok.mod.nolimit.keeps lb) S (hb _) (its:=[u0,u]) it rfl rfl hR
section
variable{K:W.Frag}{H0 H:Hp}{M:List Addr}{L:List (Addr×HO)}{I:List Im}{Q:VK}{l f:Addr}{ys:List V}{ws:xD}
instance Xm[h:SqA K H l ys][t:TpA H ys (aD ws)]:Go (I_ K [.ref l] H Q) (Sd (ws.length<=1000/\ws.Nodup/\∀w∈ws,w.2<1000000) (∀qs:List (Nat×Nat),qs.Perm ws/\Oo qs->∀D zs H',New H H' D (.lst zs)->aH H' zs (aD qs)->Q (.ref D) H')):=⟨λs=>⟨l,ys,ws,rfl,h.e,t.e,s.1,s.2⟩⟩
instance Xn[h:SqA K H l ys][t:TpA H ys (aD ws)]:Go (Jb K [.ref l] H Q) (Sd (ys.length<=1000/\ws.Pairwise (λa b=>a.1<b.1)/\∀w∈ws,w.2<1000000) (∀D H',New H H' D (.lst ys)->Q (.ref D) H')):=⟨λs=>⟨l,ys,ws,rfl,h.e,t.e,s.1,s.2⟩⟩
instance Xo[F:SH H0 M H L I][b:Y8 I f][h:SqA K H l ys][t:TpA H ys (aD ws)]:Go (Jc K [.ref l] (.ref f) H Q) (Sd (ws.length<=1000/\ws.Nodup/\∀w∈ws,w.1<1000000) (∀qs:List (Nat×Nat),qs.Perm ws/\lD qs->∀D zs H',New H H' D (.lst zs)->aH H' zs (aD qs)->Q (.ref D) H')):=⟨λs=>⟨l,f,ys,ws,rfl,rfl,F.im _ b.m,h.e,t.e,s.1,s.2⟩⟩
end
end L2
set_option maxHeartbeats 1000000
namespace L2
open PySem PySem.Spec PyProof.Rows
section
variable{P:List Value->Prop}
theorem el1(h:∀a,P [a]):∀us:List Value,us.length=1->P us
 | [a],_=>h a
theorem el2(h:∀a b,P [a,b]):∀us:List Value,us.length=2->P us
 | [a,b],_=>h a b
theorem el3(h:∀a b c,P [a,b,c]):∀us:List Value,us.length=3->P us
 | [a,b,c],_=>h a b c
theorem el4(h:∀a b c d,P [a,b,c,d]):∀us:List Value,us.length=4->P us
 | [a,b,c,d],_=>h a b c d
theorem el5(h:∀a b c d e,P [a,b,c,d,e]):∀us:List Value,us.length=5->P us
 | [a,b,c,d,e],_=>h a b c d e
end
class ImI(f:Im)(I:List Im):Prop where
 m:f∈I
class SbI(I' I:List Im):Prop where
 s:∀f∈I',f∈I
section
variable{f g:Im}{I I':List Im}
instance acS[h:ImI f I]:ImI f (g::I):=⟨zD _ h.m⟩
instance acT:ImI f (f::I):=⟨zC⟩
instance acU:SbI [] I:=⟨λ_ h=>gN h vF⟩
instance acV[h:ImI f I][t:SbI I' I]:SbI (f::I') I:=⟨λg hg=>(jI.mp hg).elim (λe=>e▸h.m) (t.s g)⟩
end
class EnT(D':Ends)(G:outParam (L2.St->Hp->Prop))(D:outParam Ends):Prop where
 nx:∀σ H,G σ H->D'.nx σ H
 rt:∀v H,D.rt v H->D'.rt v H
 bk:∀σ H,D.bk σ H->D'.bk σ H
 ct:∀σ H,D.ct σ H->D'.ct σ H
section
variable{σ:L2.St}{H:Hp}{D D':Ends}{s u:TS}{G:L2.St->Hp->Prop}
theorem ab9(k:∀D',EnT D' (u D) D->s D' σ H):Q_ s u D σ H:=k ⟨u D,D.rt,D.bk,D.ct⟩ ⟨λ_ _ h=>h,λ_ _ h=>h,λ_ _ h=>h,λ_ _ h=>h⟩
theorem SM(h:EnT D' G D)(k:G σ H):Ends.nx D' σ H:=h.nx σ H k
end
end L2
namespace M22
abbrev Sc:=List (Nat×Nat)×Nat×Nat
def stp(st:Sc)(b:Bool):Sc:=if b then (st.1,st.2.1+1,st.2.2+1) else if 0<st.2.1 then (st.1++[(st.2.2-st.2.1,st.2.1)],0,st.2.2+1) else (st.1,0,st.2.2+1)
def scan(fs:xI):Sc:=fs.foldl stp ([],0,0)
def ao(fs:xI):List (Nat×Nat):=if 0<(scan fs).2.1 then (scan fs).1++[((scan fs).2.2-(scan fs).2.1,(scan fs).2.1)] else (scan fs).1
theorem scan_snoc(fs:xI)(b:Bool):scan (fs++[b])=stp (scan fs) b:=by unfold scan;rw[List.foldl_append];rfl
theorem snoc_ind{P:List Bool->Prop}(h0:P [])(h1:∀fs b,P fs->P (fs++[b]))(fs:xI):P fs:=by
 have:∀r:List Bool,P r.reverse:=by
  intro r
  induction r with
  | nil=>exact h0
  | cons a t ih=>rw[List.reverse_cons];exact h1 _ _ ih
 have:=this fs.reverse
 rwa [List.reverse_reverse] at this
theorem scan_len(fs:xI):(scan fs).2.2=fs.length:=by
 refine snoc_ind (P:=λfs=>(scan fs).2.2=fs.length) rfl (λfs b ih=>?_) fs;rw[scan_snoc,yY,List.length_singleton,<- ih];unfold stp;split
 ·rfl
 ·split <;> rfl
theorem u_(fs:xI):(scan (fs++[false])).1=ao fs/\(scan (fs++[false])).2.1=0:=by
 rw[scan_snoc];unfold stp ao;simp only[Bool.false_eq_true,if_false];split <;> exact⟨rfl,rfl⟩
structure Ok(fs:xI)(st:Sc):Prop where
 le:st.2.1<=fs.length
 tail:∀j,fs.length-st.2.1<=j->j<fs.length->fs[j]?=some true
 edge:st.2.1=0->fs=[]\/fs[fs.length-1]?=some false
 hs:∀x∈st.1,1<=x.2/\x.1+x.2<=fs.length/\∀j,x.1<=j->j<x.1+x.2->fs[j]?=some true
 sm:(st.1.map (·.2)).sum+st.2.1=fs.count true
theorem jV(fs:xI):Ok fs (scan fs):=by
 refine snoc_ind (P:=λfs=>Ok fs (scan fs)) ⟨by decide,λj _ h=>gN h (Nat.not_lt_zero _),λ_=>.inl rfl,(λx hx=>by cases hx),rfl⟩ (λfs b ih=>?_) fs;obtain⟨h1,h2,h3,h4,h5⟩:=ih;have up:∀j,j<fs.length->(fs++[b])[j]?=fs[j]?:=λj hj=>wP hj
 have at_:(fs++[b])[fs.length]?=some b:=by rw[nK (uS _),Nat.sub_self];rfl
 have hl:(fs++[b]).length=fs.length+1:=by simp
 have sl:=scan_len fs;have old:∀x∈(scan fs).1,1<=x.2/\x.1+x.2<=(fs++[b]).length/\∀j,x.1<=j->j<x.1+x.2->(fs++[b])[j]?=some true:=λx hx=>by
  obtain⟨a1,a2,a3⟩:=h4 x hx;exact⟨a1,by lia,λj p q=>by rw[up j (by lia)];exact a3 j p q⟩
 have hc:(fs++[b]).count true=fs.count true+(if b then 1 else 0):=by rw[List.count_append];cases b <;> rfl
 rw[scan_snoc];unfold stp;cases b with
 | true =>
  rw[yB rfl];refine⟨by show _+1<=_;lia,λj p q=>?_,λh=>gN h (Nat.succ_ne_zero _),old,?_⟩
  ·by_cases hj:j<fs.length
   ·rw[up j hj];have p':(fs++[true]).length-((scan fs).2.1+1)<=j:=p;exact h2 j (by lia) hj
   ·rw[show j=fs.length by lia];exact at_
  ·show _+(_+1)=_;rw[hc,<- h5];simp only[if_true]
   lia
 | false =>
  simp only[Bool.false_eq_true,if_false] at hc ⊢;by_cases hz:0<(scan fs).2.1
  ·rw[yB hz];refine⟨Nat.zero_le _,λj p q=>?_,λ_=>.inr (by rw[hl];exact at_),λx hx=>?_,?_⟩
   ·have p':(fs++[false]).length-0<=j:=p
    lia
   ·rcases wT.mp hx with hx|hx
    ·exact old x hx
    ·rw[rS.mp hx];refine⟨hz,by show _-_+_<=_;lia,λj p q=>?_⟩;have p':(scan fs).2.2-(scan fs).2.1<=j:=p;have q':j<(scan fs).2.2-(scan fs).2.1+(scan fs).2.1:=q;rw[up j (by lia)];exact h2 j (by lia) (by lia)
   ·rw[hc,<- h5,List.map_append,List.sum_append];simp
  ·rw[yT hz];refine⟨Nat.zero_le _,λj p q=>?_,λ_=>.inr (by rw[hl];exact at_),old,by show ((scan fs).1.map (·.2)).sum+0=_;rw[hc,<- h5];lia⟩;have p':(fs++[false]).length-0<=j:=p
   lia
theorem sY{fs:xI}{x:Nat×Nat}(h:x∈ao fs):1<=x.2/\x.1+x.2<=fs.length/\∀j,x.1<=j->j<x.1+x.2->fs[j]?=some true:=by
 obtain⟨h1,h2,h3,h4,h5⟩:=jV fs;have sl:=scan_len fs;unfold ao at h;by_cases hz:0<(scan fs).2.1
 ·rw[yB hz] at h;rcases wT.mp h with h|h
  ·exact h4 x h
  ·rw[rS.mp h];refine⟨hz,by show _-_+_<=_;lia,λj p q=>?_⟩;have p':(scan fs).2.2-(scan fs).2.1<=j:=p;have q':j<(scan fs).2.2-(scan fs).2.1+(scan fs).2.1:=q;exact h2 j (by lia) (by lia)
 ·rw[yT hz] at h;exact h4 x h
theorem O6(fs:xI):((ao fs).map (·.2)).sum=fs.count true:=by
 have h5:=(jV fs).sm;unfold ao;by_cases hz:0<(scan fs).2.1
 ·rw[if_pos hz,List.map_append,List.sum_append,<- h5];simp
 ·rw[yT hz,<- h5];lia
theorem GK(fs:xI):ao (fs++[false])=ao fs:=by
 obtain⟨h1,h2⟩:=u_ fs;have:ao (fs++[false])=(scan (fs++[false])).1:=by unfold ao;rw[h2];rfl
 rw[this,h1]
theorem GP{fs:xI}(h:fs=[]\/fs[fs.length-1]?=some false):ao (fs++[true])=ao fs++[(fs.length,1)]:=by
 have ok:=jV fs;have sl:=scan_len fs;have hz:(scan fs).2.1=0:=by
  rcases h with h|h
  ·have:=ok.le;rw[h] at this ⊢;simpa using this
  ·by_cases hz:(scan fs).2.1=0
   ·exact hz
   ·have hn:fs.length≠0:=λe=>by have:=ok.le;lia
    rw[ok.tail (fs.length-1) (by lia) (by lia)] at h;cases h
 have e1:ao fs=(scan fs).1:=by unfold ao;rw[hz];rfl
 rw[e1];unfold ao;rw[scan_snoc];unfold stp;simp only[if_true,hz,sl];rw[yB (by lia)];simp
theorem Ks{fs:xI}(h:fs≠[])(h2:fs[fs.length-1]?=some true):∃hs s z,ao fs=hs++[(s,z)]/\ao (fs++[true])=hs++[(s,z+1)]:=by
 have ok:=jV fs;have sl:=scan_len fs;have hz:0<(scan fs).2.1:=by
  by_cases hz:(scan fs).2.1=0
  ·rcases ok.edge hz with e|e
   ·exact gN e h
   ·rw[h2] at e;cases e
  ·lia
 refine⟨(scan fs).1,(scan fs).2.2-(scan fs).2.1,(scan fs).2.1,by unfold ao;rw[if_pos hz],?_⟩;unfold ao;rw[scan_snoc];unfold stp;simp only[if_true];rw[yB (by lia)];have:=ok.le
 congr 3
 lia
def iY{α:Type}(fs:List α)(a i:Nat)(b:α):List α:=fs.take a++List.replicate i b++fs.drop (a+i)
theorem O7{α:Type}{fs:List α}{a i:Nat}{b:α}(h:a+i<=fs.length):(iY fs a i b).length=fs.length:=by
 unfold iY;rw[yY,yY,nE,zzB,zzH]
 lia
theorem Ku{α:Type}{fs:List α}{a:Nat}{b:α}:iY fs a 0 b=fs:=by unfold iY;simp
theorem O8{α:Type}{fs:List α}{a i:Nat}{b:α}(h:a+i<fs.length):(iY fs a i b).set (a+i) b=iY fs a (i+1) b:=by
 unfold iY;have hd:fs.drop (a+i)=fs[a+i]::fs.drop (a+(i+1)):=by rw[List.drop_eq_getElem_cons h];rfl
 rw[hd,List.set_append_right _ _ (by rw[yY,nE,zzB];lia)];have:a+i-(fs.take a++List.replicate i b).length=0:=by rw[yY,nE,zzB];lia
 rw[this,List.set_cons_zero,List.replicate_succ'];simp
theorem vd{α β:Type}{f:α->β}{fs:List α}{a i:Nat}{b:α}:(iY fs a i b).map f=iY (fs.map f) a i (f b):=by unfold iY;simp
theorem SN{fs:xI}{a b:Nat}(h:a+b<=fs.length)(v:Bool):((fs.drop a).take b).all (· == v)=true ↔ ∀j,a<=j->j<a+b->fs[j]?=some v:=by
 rw[List.all_eq_true]
 constructor
 ·intro h1 j p q;have hj:j<fs.length:=by lia
  have:=h1 fs[j] (by
   rw[List.mem_iff_getElem?];refine⟨j-a,?_⟩;rw[List.getElem?_take,yB (by lia),List.getElem?_drop,show a+(j-a)=j by lia];simp)
  rw[qE hj];simpa using this
 ·intro h1 x hx;obtain⟨k,hk⟩:=List.mem_iff_getElem?.mp hx;rw[List.getElem?_take] at hk;by_cases hb:k<b
  ·rw[yB hb,List.getElem?_drop,h1 (a+k) (by lia) (by lia)] at hk;simpa using (Option.some.inj hk).symm
  ·rw[yT hb] at hk;cases hk
end M22
namespace M22
theorem Af{α:Type}{fs:List α}{a i:Nat}{b:α}(h:a+i<=fs.length)(j:Nat):(iY fs a i b)[j]?=if a<=j/\j<a+i then some b else fs[j]?:=by
 unfold iY;have l1:(fs.take a).length=a:=by rw[nE];lia
 rw[vT];by_cases h1:j<a
 ·rw[wP (by lia),List.getElem?_take,yB h1,yT (by lia)]
 ·rw[nK (by lia),l1];by_cases h2:j<a+i
  ·rw[wP (by rw[zzB];lia),List.getElem?_replicate,yB (by lia),yB (by lia)]
  ·rw[nK (by rw[zzB];lia),zzB,List.getElem?_drop,yT (by lia),show a+i+(j-a-i)=j by lia]
def cells(n:Nat)(c:Nat->Bool):List Bool:=(List.range n).map λj=>!c j
theorem gF{n:Nat}{c:Nat->Bool}:(cells n c).length=n:=by unfold cells;rw[List.length_map,List.length_range]
theorem vf{n j:Nat}{c:Nat->Bool}(h:j<n):(cells n c)[j]?=some (!c j):=by unfold cells;rw[List.getElem?_map,List.getElem?_range h];rfl
theorem Kv{n a b:Nat}{v:Bool}{c d:Nat->Bool}(h:a+b<=n)(hd:∀j,j<n->d j=if a<=j/\j<a+b then !v else c j):iY (cells n c) a b v=cells n d:=by
 apply List.ext_getElem?
 intro j;rw[Af (by rw[gF];exact h)];by_cases hj:j<n
 ·rw[vf hj,vf hj,hd j hj];split
  ·rw[Bool.not_not]
  ·rfl
 ·rw[yT (by lia),zzC (by rw[gF];lia),zzC (by rw[gF];lia)]
theorem Kw{n:Nat}:cells n (λ_=>false)=List.replicate n true:=by
 unfold cells;rw[List.map_const',List.length_range]
 rfl
def inW(w:Nat×Nat)(j:Nat):Bool:=decide (w.1<=j) && decide (j<w.1+w.2)
theorem sZ{w:Nat×Nat}{j:Nat}:inW w j=true ↔ w.1<=j/\j<w.1+w.2:=by unfold inW;simp
def cov(ws:xD)(j:Nat):Bool:=ws.any λw=>inW w j
theorem SQ{ws:xD}{j:Nat}:cov ws j=true ↔ ∃w∈ws,w.1<=j/\j<w.1+w.2:=by
 unfold cov;rw[List.any_eq_true]
 constructor
 ·rintro ⟨w,h1,h2⟩;exact⟨w,h1,sZ.mp h2⟩
 ·rintro ⟨w,h1,h2⟩;exact⟨w,h1,sZ.mpr h2⟩
theorem O9{ws:xD}{w:Nat×Nat}{j:Nat}:cov (ws++[w]) j=(cov ws j || inW w j):=by unfold cov;rw[List.any_append];simp
def Dis(a b:Nat×Nat):Prop:=a.1+a.2<=b.1\/b.1+b.2<=a.1
theorem O_{ws vs:xD}(h:ws.Perm vs)(d:ws.Pairwise Dis):vs.Pairwise Dis:=h.pairwise d λh=>Or.symm h
theorem vg{n:Nat}{ws:xD}{w:Nat×Nat}(h:w.1+w.2<=n):iY (cells n (cov ws)) w.1 w.2 false=cells n (cov (ws++[w])):=by
 refine Kv h λj _=>?_
 rw[O9];split
 ·rename_i hj;rw[sZ.mpr hj,Bool.or_true]
  rfl
 ·rename_i hj;have:inW w j=false:=by
   cases e:inW w j with
   | false=>rfl
   | true=>exact gN (sZ.mp e) hj
  rw[this,Bool.or_false]
theorem SX{n:Nat}{ws:xD}{w:Nat×Nat}(h:w.1+w.2<=n)(d:∀v∈ws,Dis v w):∀j,w.1<=j->j<w.1+w.2->(cells n (cov ws))[j]?=some true:=λj h1 h2=>by
 rw[vf (by lia)];cases e:cov ws j with
 | false=>rfl
 | true =>
  obtain⟨v,hv,a,b⟩:=SQ.mp e;have:=d v hv;unfold Dis at this
  lia
theorem Pa(fs:xI):(scan fs).1.Pairwise (λa b=>a.1+a.2<b.1)/\∀x∈(scan fs).1,x.1+x.2+(scan fs).2.1+1<=(scan fs).2.2:=by
 refine snoc_ind (P:=λfs=>(scan fs).1.Pairwise (λa b=>a.1+a.2<b.1)/\∀x∈(scan fs).1,x.1+x.2+(scan fs).2.1+1<=(scan fs).2.2) ⟨List.Pairwise.nil,λx hx=>by cases hx⟩ (λfs b ih=>?_) fs;obtain⟨h1,h2⟩:=ih;have ok:=(jV fs).le;have sl:=scan_len fs;rw[scan_snoc];unfold stp;split
 ·refine⟨h1,λx hx=>?_⟩;have:=h2 x hx;show x.1+x.2+((scan fs).2.1+1)+1<=(scan fs).2.2+1
  lia
 ·split
  ·rename_i hz;refine⟨?_,λx hx=>?_⟩
   ·show ((scan fs).1++_).Pairwise _;rw[zzA];refine⟨h1,List.pairwise_singleton _ _,λx hx y hy=>?_⟩;rw[rS.mp hy];have:=h2 x hx;show x.1+x.2<(scan fs).2.2-(scan fs).2.1
    lia
   ·show x.1+x.2+0+1<=(scan fs).2.2+1;rcases wT.mp hx with hx|hx
    ·have:=h2 x hx
     lia
    ·rw[rS.mp hx];show (scan fs).2.2-(scan fs).2.1+(scan fs).2.1+0+1<=_
     lia
  ·refine⟨h1,λx hx=>?_⟩;have:=h2 x hx;show x.1+x.2+0+1<=(scan fs).2.2+1
   lia
theorem CK(fs:xI):(ao fs).Pairwise (λa b=>a.1+a.2<b.1):=by
 obtain⟨h1,h2⟩:=Pa fs;unfold ao;split
 ·rw[zzA];refine⟨h1,List.pairwise_singleton _ _,λx hx y hy=>?_⟩;rw[rS.mp hy];have:=h2 x hx;show x.1+x.2<(scan fs).2.2-(scan fs).2.1
  lia
 ·exact h1
theorem Pb(n:Nat):scan (List.replicate n true)=([],n,n):=by
 induction n with
 | zero=>rfl
 | succ n ih=>rw[List.replicate_succ',scan_snoc,ih];rfl
theorem Ky{n:Nat}(h:1<=n):ao (List.replicate n true)=[(0,n)]:=by
 unfold ao;rw[Pb,yB (by show 0<n;lia)];show []++[(n-n,n)]=_;rw[Nat.sub_self]
 rfl
end M22
namespace M22
set_option linter.all false
def St(fs:xI)(a:Nat):Prop:=fs[a]?=some true/\(a=0\/fs[a-1]?=some false)
theorem iZ{α:Type}{fs:List α}{b:α}{j:Nat}:(fs++[b])[j]?=if j<fs.length then fs[j]? else if j=fs.length then some b else none:=by
 by_cases h:j<fs.length
 ·rw[yB h,wP h]
 ·rw[yT h,nK (by lia)];by_cases e:j=fs.length
  ·rw[yB e,e,Nat.sub_self]
   rfl
  ·rw[yT e];exact List.getElem?_eq_none (by simp;lia)
theorem GQ{α:Type}{fs:List α}{j:Nat}{b:α}(h:fs[j]?=some b):j<fs.length:=(qB.mp h).1
theorem S6{fs:xI}{b:Bool}{a:Nat}:St (fs++[b]) a ↔ St fs a\/(a=fs.length/\b=true/\(fs=[]\/fs[fs.length-1]?=some false)):=by
 unfold St
 constructor
 ·rintro ⟨h1,h2⟩;rw[iZ] at h1;by_cases ha:a<fs.length
  ·rw[yB ha] at h1;refine .inl ⟨h1,?_⟩;rcases h2 with h2|h2
   ·exact .inl h2
   ·rw[iZ,yB (by lia)] at h2;exact .inr h2
  ·rw[yT ha] at h1;by_cases e:a=fs.length
   ·rw[yB e] at h1;refine .inr ⟨e,by simpa using h1,?_⟩;rcases h2 with h2|h2
    ·exact .inl (List.length_eq_zero_iff.mp (by lia))
    ·by_cases h0:a=0
     ·exact .inl (List.length_eq_zero_iff.mp (by lia))
     ·rw[iZ,yB (by lia),e] at h2;exact .inr h2
   ·rw[yT e] at h1;cases h1
 ·rintro (⟨h1,h2⟩|⟨e,rfl,h2⟩)
  ·have ha:=GQ h1;refine⟨by rw[iZ,yB ha];exact h1,?_⟩;rcases h2 with h2|h2
   ·exact .inl h2
   ·exact .inr (by rw[iZ,yB (by lia)];exact h2)
  ·refine⟨by rw[iZ,yT (by lia),yB e],?_⟩;rcases h2 with h2|h2
   ·exact .inl (by rw[e,h2];rfl)
   ·by_cases h0:a=0
    ·exact .inl h0
    ·exact .inr (by rw[iZ,yB (by lia),e];exact h2)
theorem Jd(fs:xI):∀a,a∈(ao fs).map (·.1) ↔ St fs a:=by
 refine snoc_ind (P:=λfs=>∀a,a∈(ao fs).map (·.1) ↔ St fs a) (λa=>⟨λh=>by simp[ao,scan] at h,λh=>by simp[St] at h⟩) (λfs b ih a=>?_) fs;rw[S6];cases b with
 | false =>
  rw[GK,ih a];exact⟨.inl,λh=>h.elim id λh=>by simp at h⟩
 | true =>
  by_cases h:fs=[]\/fs[fs.length-1]?=some false
  ·rw[GP h,List.map_append,wT,ih a];refine or_congr Iff.rfl ⟨λe=>⟨by simpa using e,rfl,h⟩,λe=>by simp[e.1]⟩
  ·have hn:fs≠[]:=λe=>h (.inl e)
   have hp:0<fs.length:=List.length_pos_iff.mpr hn;have hl:fs[fs.length-1]?=some true:=by
    cases e:fs[fs.length-1]? with
    | none=>rw[List.getElem?_eq_none_iff] at e;lia
    | some b=>cases b with
     | true=>rfl
     | false=>exact gN (.inr e) h
   obtain⟨hs,s,z,e1,e2⟩:=Ks hn hl;rw[e2,<- ih a,e1,List.map_append,List.map_append];exact⟨.inl,λk=>k.elim id λk=>gN k.2.2 h⟩
theorem CP{α:Type}[DecidableEq α]:∀{l m:List α},l.Nodup->(∀x∈l,x∈m)->l.length<=m.length
 | [],_,_,_=>Nat.zero_le _
 | a::t,m,nd,h=>by
  have ha:=h a zC;have nd':=List.nodup_cons.mp nd;have:=CP (l:=t) (m:=m.erase a) nd'.2 λx hx=>by
   refine(List.mem_erase_of_ne (λe:x=a=>nd'.1 (by rw[<- e];exact hx))).mpr (h x (zD _ hx))
  rw[List.length_erase_of_mem ha] at this;have:=List.length_pos_of_mem ha;rw[zzD]
  lia
theorem Pg{fs:xI}{a b:Nat}{v:Bool}(h:a+b<=fs.length)(h1:1<=b):(ao (iY fs a b v)).length<=(ao fs).length+1:=by
 have nd:((ao (iY fs a b v)).map (·.1)).Nodup:=by
  rw[List.nodup_iff_pairwise_ne,List.pairwise_map];exact(CK _).imp λh=>by lia
 have:=CP (m:=(if v then a else a+b)::(ao fs).map (·.1)) nd λx hx=>by
  have hs:=(Jd _ x).mp hx;obtain⟨s1,s2⟩:=hs;rw[Af h] at s1;rw[Af h] at s2;by_cases hc:x=(if v then a else a+b)
  ·rw[hc];exact zC
  ·refine zD _ ((Jd fs x).mpr ?_);by_cases hi:a<=x/\x<a+b
   ·rw[yB hi] at s1;have hv:v=true:=by simpa using s1
    rw[yB hv] at hc;rw[hv] at s2
    exfalso
    rcases s2 with s2|s2
    ·lia
    ·rw[yB (by lia)] at s2;cases s2
   ·rw[yT hi] at s1;refine⟨s1,?_⟩;rcases s2 with s2|s2
    ·exact .inl s2
    ·by_cases hj:a<=x-1/\x-1<a+b
     ·rw[yB hj] at s2;have hv:v=false:=by simpa using s2
      rw[hv] at hc;by_cases h0:x=0
      ·exact .inl h0
      ·exfalso
       apply hc
       rw[yT (by decide)]
       lia
     ·rw[yT hj] at s2;exact .inr s2
 simpa using this
end M22
set_option maxHeartbeats 4000000
namespace K32
open PySem L2 PyProof.Rows
def top(i:Nat):Stmt:=PySem.Challenge.pw_slideroom_k32_looks_told.main.body.getD i (.Pass ⟨0,0,0,0⟩)
abbrev nW:Stmt:=top 11
theorem rN:aK ["thing"] ["thing"] (aF nW):=⟨rfl,rfl,rfl,by decide +kernel,rfl,by decide +kernel,by decide +kernel⟩
abbrev qM:Stmt:=top 12
theorem vh:aK ["thing","low"] ["thing","low"] (aF qM):=⟨rfl,rfl,rfl,by decide +kernel,rfl,by decide +kernel,by decide +kernel⟩
abbrev lE:Stmt:=top 13
theorem oZ:aK ["thing","low","high"] ["thing","low","high"] (aF lE):=⟨rfl,rfl,rfl,by decide +kernel,rfl,by decide +kernel,by decide +kernel⟩
abbrev qN:Stmt:=top 14
theorem vm:aK ["thing"] ["thing"] (aF qN):=⟨rfl,rfl,rfl,by decide +kernel,rfl,by decide +kernel,by decide +kernel⟩
abbrev vo:Stmt:=top 17
theorem xV:aK ["stretch"] ["stretch"] (aF vo):=⟨rfl,rfl,rfl,by decide +kernel,rfl,by decide +kernel,by decide +kernel⟩
abbrev qO:Stmt:=top 16
theorem vp:aK ["thing"] ["thing"] (aF qO):=⟨rfl,rfl,rfl,by decide +kernel,rfl,by decide +kernel,by decide +kernel⟩
abbrev qP:Stmt:=top 18
theorem vq:aK ["stretches"] ["stretches"] (aF qP):=⟨rfl,rfl,rfl,by decide +kernel,rfl,by decide +kernel,by decide +kernel⟩
abbrev Ag:Stmt:=top 20
theorem CQ:aK ["free","holes","size","cell","is_free"] ["free"] (aF Ag):=⟨rfl,rfl,rfl,by decide +kernel,rfl,by decide +kernel,by decide +kernel⟩
abbrev qQ:Stmt:=top 21
theorem vA:aK ["free","stretch"] ["free","stretch"] (aF qQ):=⟨rfl,rfl,rfl,by decide +kernel,rfl,by decide +kernel,by decide +kernel⟩
abbrev qT:Stmt:=top 24
theorem vB:aK ["holes"] ["holes"] (aF qT):=⟨rfl,rfl,rfl,by decide +kernel,rfl,by decide +kernel,by decide +kernel⟩
abbrev lF:Stmt:=top 25
theorem xW:aK ["holes"] ["holes"] (aF lF):=⟨rfl,rfl,rfl,by decide +kernel,rfl,by decide +kernel,by decide +kernel⟩
abbrev nY:Stmt:=top 26
theorem rO:aK ["holes","mark","rising"] ["holes","mark"] (aF nY):=⟨rfl,rfl,rfl,by decide +kernel,rfl,by decide +kernel,by decide +kernel⟩
abbrev qU:Stmt:=top 27
theorem vC:aK ["ordered","size","passed","hole"] ["ordered","size"] (aF qU):=⟨rfl,rfl,rfl,by decide +kernel,rfl,by decide +kernel,by decide +kernel⟩
abbrev qW:Stmt:=top 34
theorem vD:aK ["_law_script","_law_k"] ["_law_script","_law_k"] (aF qW):=⟨rfl,rfl,rfl,by decide +kernel,rfl,by decide +kernel,by decide +kernel⟩
abbrev Ph:Stmt:=top 35
theorem Pj:aK ["_law_cell"] ["_law_cell"] (aF Ph):=⟨rfl,rfl,rfl,by decide +kernel,rfl,by decide +kernel,by decide +kernel⟩
abbrev GR:Stmt:=top 36
theorem Je:aK ["_law_box_here","_law_many_here","_law_number"] ["_law_box_here","_law_many_here"] (aF GR):=⟨rfl,rfl,rfl,by decide +kernel,rfl,by decide +kernel,by decide +kernel⟩
abbrev GX:Stmt:=top 37
theorem Jf:aK ["_law_box_here"] ["_law_box_here"] (aF GX):=⟨rfl,rfl,rfl,by decide +kernel,rfl,by decide +kernel,by decide +kernel⟩
abbrev GZ:Stmt:=top 38
theorem Jg:aK ["_law_box_here","_law_many_here","_law_rows","_law_at","_law_most","_law_k","_law_size"] ["_law_box_here","_law_many_here"] (aF GZ):=⟨rfl,rfl,rfl,by decide +kernel,rfl,by decide +kernel,by decide +kernel⟩
abbrev vG:Stmt:=top 39
theorem xX:aK ["_law_many_here","_law_puts_here","_law_cells","_law_start","_law_size","_law_found","_law_at"] ["_law_many_here","_law_puts_here"] (aF vG):=⟨rfl,rfl,rfl,by decide +kernel,rfl,by decide +kernel,by decide +kernel⟩
abbrev vH:Stmt:=top 40
theorem xY:aK ["_law_word","_law_holes_here","_law_mark"] ["_law_word","_law_holes_here","_law_mark"] (aF vH):=⟨rfl,rfl,rfl,by decide +kernel,rfl,by decide +kernel,by decide +kernel⟩
abbrev Pn:Stmt:=top 41
theorem Pq:aK ["_law_word","_law_holes_here","_law_mark","_law_size","_law_passed","_law_start","_law_wide"] ["_law_word","_law_holes_here","_law_mark","_law_size"] (aF Pn):=⟨rfl,rfl,rfl,by decide +kernel,rfl,by decide +kernel,by decide +kernel⟩
abbrev G3:Stmt:=top 42
theorem tD:aK ["_law_rule","_law_size","_law_told_here","e"] ["_law_rule","_law_size"] (aF G3):=⟨rfl,rfl,rfl,by decide +kernel,rfl,by decide +kernel,by decide +kernel⟩
abbrev vI:Stmt:=top 43
theorem xZ:aK ["_law_found"] ["_law_found"] (aF vI):=⟨rfl,rfl,rfl,by decide +kernel,rfl,by decide +kernel,by decide +kernel⟩
abbrev Ah:Stmt:=top 44
theorem o_:aK ["_law_rule","_law_word","_law_holes_here","_law_mark","_law_size","_law_due_here","_law_turn","_law_order_here","_law_rows","_law_told_here","_law_used"] ["_law_rule","_law_word","_law_holes_here","_law_mark","_law_size"] (aF Ah):=⟨rfl,rfl,rfl,by decide +kernel,rfl,by decide +kernel,by decide +kernel⟩
abbrev pA:Stmt:=top 45
theorem Pr:aK ["_law_script","_law_k","_law_box_here","_law_many_here","_law_puts_here","_law_mark","_law_holes_here","_law_sizes","_law_wide","_law_start","_law_rules","_law_rule","_law_word","_law_due_here","_law_put","_law_size"] ["_law_script"] (aF pA):=⟨rfl,rfl,rfl,by decide +kernel,rfl,by decide +kernel,by decide +kernel⟩
abbrev Ai:Stmt:=inClass (top 22) 0
theorem CV:aK ["self","many"] ["self","many"] (aF Ai):=⟨rfl,rfl,rfl,by decide +kernel,rfl,by decide +kernel,by decide +kernel⟩
abbrev Aj:Stmt:=inClass (top 22) 1
theorem CW:aK ["self"] ["self"] (aF Aj):=⟨rfl,rfl,rfl,by decide +kernel,rfl,by decide +kernel,by decide +kernel⟩
abbrev G4:Stmt:=inClass (top 22) 4
theorem Jh:aK ["self","start","size"] ["self","start","size"] (aF G4):=⟨rfl,rfl,rfl,by decide +kernel,rfl,by decide +kernel,by decide +kernel⟩
abbrev Ak:Stmt:=inClass (top 22) 7
theorem CZ:aK ["self","start","size","cell"] ["self","start","size"] (aF Ak):=⟨rfl,rfl,rfl,by decide +kernel,rfl,by decide +kernel,by decide +kernel⟩
abbrev vJ:Stmt:=inClass (top 29) 0
theorem yc:aK ["self","book"] ["self","book"] (aF vJ):=⟨rfl,rfl,rfl,by decide +kernel,rfl,by decide +kernel,by decide +kernel⟩
abbrev vK:Stmt:=inClass (top 29) 0
theorem yd:aK ["self","book"] ["self","book"] (aF vK):=⟨rfl,rfl,rfl,by decide +kernel,rfl,by decide +kernel,by decide +kernel⟩
abbrev vL:Stmt:=inClass (top 29) 0
theorem yg:aK ["self","book"] ["self","book"] (aF vL):=⟨rfl,rfl,rfl,by decide +kernel,rfl,by decide +kernel,by decide +kernel⟩
abbrev qX:Stmt:=inClass (top 29) 3
theorem vM:aK ["self"] ["self"] (aF qX):=⟨rfl,rfl,rfl,by decide +kernel,rfl,by decide +kernel,by decide +kernel⟩
abbrev gZ:Stmt:=inClass (top 29) 4
theorem jj:aK ["self"] ["self"] (aF gZ):=⟨rfl,rfl,rfl,by decide +kernel,rfl,by decide +kernel,by decide +kernel⟩
abbrev Am:Stmt:=inClass (top 29) 9
theorem C_:aK ["self","start","size"] ["self","start","size"] (aF Am):=⟨rfl,rfl,rfl,by decide +kernel,rfl,by decide +kernel,by decide +kernel⟩
abbrev lG:Stmt:=inClass (top 29) 6
theorem pB:aK ["self","size"] ["self","size"] (aF lG):=⟨rfl,rfl,rfl,by decide +kernel,rfl,by decide +kernel,by decide +kernel⟩
abbrev vN:Stmt:=inClass (top 29) 7
theorem yh:aK ["self","size","found"] ["self","size"] (aF vN):=⟨rfl,rfl,rfl,by decide +kernel,rfl,by decide +kernel,by decide +kernel⟩
abbrev qY:Stmt:=inClass (top 29) 3
theorem vO:aK ["self"] ["self"] (aF qY):=⟨rfl,rfl,rfl,by decide +kernel,rfl,by decide +kernel,by decide +kernel⟩
abbrev g8:Stmt:=inClass (top 29) 4
theorem jk:aK ["self"] ["self"] (aF g8):=⟨rfl,rfl,rfl,by decide +kernel,rfl,by decide +kernel,by decide +kernel⟩
abbrev Ao:Stmt:=inClass (top 29) 9
theorem Dc:aK ["self","start","size"] ["self","start","size"] (aF Ao):=⟨rfl,rfl,rfl,by decide +kernel,rfl,by decide +kernel,by decide +kernel⟩
abbrev lH:Stmt:=inClass (top 29) 6
theorem pC:aK ["self","size"] ["self","size"] (aF lH):=⟨rfl,rfl,rfl,by decide +kernel,rfl,by decide +kernel,by decide +kernel⟩
abbrev vP:Stmt:=inClass (top 29) 7
theorem yj:aK ["self","size","found"] ["self","size"] (aF vP):=⟨rfl,rfl,rfl,by decide +kernel,rfl,by decide +kernel,by decide +kernel⟩
abbrev qZ:Stmt:=inClass (top 29) 3
theorem vQ:aK ["self"] ["self"] (aF qZ):=⟨rfl,rfl,rfl,by decide +kernel,rfl,by decide +kernel,by decide +kernel⟩
abbrev g_:Stmt:=inClass (top 29) 4
theorem jm:aK ["self"] ["self"] (aF g_):=⟨rfl,rfl,rfl,by decide +kernel,rfl,by decide +kernel,by decide +kernel⟩
abbrev Aq:Stmt:=inClass (top 29) 9
theorem Dd:aK ["self","start","size"] ["self","start","size"] (aF Aq):=⟨rfl,rfl,rfl,by decide +kernel,rfl,by decide +kernel,by decide +kernel⟩
abbrev lJ:Stmt:=inClass (top 29) 6
theorem pD:aK ["self","size"] ["self","size"] (aF lJ):=⟨rfl,rfl,rfl,by decide +kernel,rfl,by decide +kernel,by decide +kernel⟩
abbrev vR:Stmt:=inClass (top 29) 7
theorem yp:aK ["self","size","found"] ["self","size"] (aF vR):=⟨rfl,rfl,rfl,by decide +kernel,rfl,by decide +kernel,by decide +kernel⟩
abbrev vU:Stmt:=inClass (top 29) 1
theorem yq:aK ["self"] ["self"] (aF vU):=⟨rfl,rfl,rfl,by decide +kernel,rfl,by decide +kernel,by decide +kernel⟩
abbrev vV:Stmt:=inClass (top 29) 1
theorem yr:aK ["self"] ["self"] (aF vV):=⟨rfl,rfl,rfl,by decide +kernel,rfl,by decide +kernel,by decide +kernel⟩
abbrev Ar:Stmt:=inClass (top 30) 0
theorem Df:aK ["self","many"] ["self","many"] (aF Ar):=⟨rfl,rfl,rfl,by decide +kernel,rfl,by decide +kernel,by decide +kernel⟩
abbrev vW:Stmt:=inClass (top 30) 2
theorem yt:aK ["self"] ["self"] (aF vW):=⟨rfl,rfl,rfl,by decide +kernel,rfl,by decide +kernel,by decide +kernel⟩
abbrev Av:Stmt:=inClass (top 31) 0
theorem Dg:aK ["self","many"] ["self","many"] (aF Av):=⟨rfl,rfl,rfl,by decide +kernel,rfl,by decide +kernel,by decide +kernel⟩
abbrev vX:Stmt:=inClass (top 31) 2
theorem yu:aK ["self"] ["self"] (aF vX):=⟨rfl,rfl,rfl,by decide +kernel,rfl,by decide +kernel,by decide +kernel⟩
abbrev pF:Stmt:=inClass (top 32) 0
theorem Dh:aK ["self","many","mark"] ["self","many","mark"] (aF pF):=⟨rfl,rfl,rfl,by decide +kernel,rfl,by decide +kernel,by decide +kernel⟩
abbrev vY:Stmt:=inClass (top 32) 4
theorem yw:aK ["self"] ["self"] (aF vY):=⟨rfl,rfl,rfl,by decide +kernel,rfl,by decide +kernel,by decide +kernel⟩
abbrev Aw:Stmt:=inClass (top 32) 2
theorem Di:aK ["self"] ["self"] (aF Aw):=⟨rfl,rfl,rfl,by decide +kernel,rfl,by decide +kernel,by decide +kernel⟩
abbrev jF:Stmt:=inClass (top 7) 0
theorem Kz:aK ["self","size","largest"] ["self","size","largest"] (aF jF):=⟨rfl,rfl,rfl,by decide +kernel,rfl,by decide +kernel,by decide +kernel⟩
theorem vZ{P:Program}{w:World}{K:W.Frag}{mg:xC}{base:Heap}{C:Addr}(S:Mq K C)(n0:cZ K C "size")(n1:cZ K C "largest"):Ms P w K mg base CX0 "NoHole.__init__" jF ["self","size","largest"] (Yk C "size" "largest"):=λf fd F=>by
 refine⟨F.ok Kz (λvs H Q E h=>?_) (λcdv A outer s H vs Q E hr h=>?_),F.binds (λ_ _ _ _ _ _=>el3 λ_ _ _=>rfl)⟩
 ·obtain⟨x,v,y,rfl,_⟩:=h
  rfl
 ·obtain⟨x,v,y,rfl,ho,k⟩:=h;refine⟨_,aC (Mr (pv 0) (pv 1)) (aB (Mr (pv 0) (pv 2))),?_⟩;refine⟨_,rfl,_,rfl,x,C,rfl,S,n0.taker,.inl ⟨ho,λdx hd=>?_⟩⟩;have hzx:dx≠x:=λq=>by rw[q,ho] at hd;cases hd
  exact⟨_,rfl,_,rfl,x,C,rfl,S,n1.taker,.inr ⟨dx,_,bG,by rw[aR hzx,bG],hzx,by simp,k dx hd⟩⟩
structure Txt(K:W.Frag)(mg:xC)(c:Nat->Addr)(R CH CF CT CN CB aG ak:Addr):Prop where
 cC:uw K mg "NoHole" "NoHole.__init__" jF (c 0) R
 pG:Yl K (c 0) R
 d7:cZ K (c 0) "size"
 cO:cZ K (c 0) "largest"
 v7:HasDef K mg "is_whole" nW
 yx:HasDef K mg "is_from" qM
 rP:HasDef K mg "is_within" lE
 yC:HasDef K mg "is_many" qN
 Dj:HasDef K mg "end_of" vo
 yD:HasDef K mg "is_stretch" qO
 yE:HasDef K mg "largest_size" qP
 Ji:HasDef K mg "holes_among" Ag
 yF:HasDef K mg "is_all_free" qQ
 yG:HasDef K mg "by_start" qT
 v8:W.codeHdIn K aG ak=true
 Dk:Iz K mg "by_size" lF aG
 v9:HasDef K mg "from_mark" nY
 yH:HasDef K mg "found_in" qU
 yI:HasDef K mg "_law_cell_at" qW
 Uh:HasDef K mg "_law_box" Ph
 Pu:HasDef K mg "_law_take" GR
 Px:HasDef K mg "_law_many" GX
 Py:HasDef K mg "_law_puts" GZ
 Dl:HasDef K mg "_law_holes" vG
 Dm:HasDef K mg "_law_order" vH
 Ui:HasDef K mg "_law_due" Pn
 Pz:HasDef K mg "_law_told" G3
 Dn:HasDef K mg "_law_whole" vI
 Jj:HasDef K mg "_law_right" Ah
 bZ:mg "isinstance" = none
 PB:mg "int" = none
 G5:mg "bool" = none
 Ax:mg "list" = none
 pH:mg "tuple" = none
 nF:mg "len" = none
 Uj:mg "all" = none
 jo:mg "range" = none
 pI:mg "sorted" = none
 Dp:mg "max" = none
 PJ:mg "min" = none
 rQ:mg "enumerate" = none
 Uk:mg "sum" = none
 lK:Fi mg "FEWEST_CELLS" (.int 16)
 pJ:Fi mg "MOST_CELLS" (.int 240)
 g_R:mg "RoomError" = some (.ref R)
 c_R:(W.clsIn K R).isSome=true
 t_R:W.typeIn K (.ref R)=some (.type "type")
 m_R:W.mroIn K R (.type "BaseException")=some true
 clH:Cls K CH
 Dq:mg "Holes" = some (.ref CH)
 aW:cZ K CH "many"
 aX:cZ K CH "free"
 clF:Cls K CF
 Dr:mg "First" = some (.ref CF)
 aY:cZ K CF "book"
 clT:Cls K CT
 rR:mg "Tightest" = some (.ref CT)
 aZ:cZ K CT "book"
 clN:Cls K CN
 Jk:mg "Next" = some (.ref CN)
 bf:cZ K CN "book"
 aM:cZ K CN "turned"
 clB:Cls K CB
 jW:mg "Rule" = some (.ref CB)
 Jl:∃f,FnAt K "__init__" "Holes.__init__" Ai f/\Mk K CH f
 Jm:∃f,FnAt K "told" "Holes.told" Aj f/\Meth K CH "told" f
 PK:∃f,FnAt K "has" "Holes.has" G4 f/\Meth K CH "has" f
 Jo:∃f,FnAt K "take" "Holes.take" Ak f/\Meth K CH "take" f
 Ds:∃f,FnAt K "__init__" "Rule.__init__" vJ f/\rH K CB "__init__" f
 Du:∃f,FnAt K "__init__" "Rule.__init__" vK f/\rH K CB "__init__" f
 Dv:∃f,FnAt K "__init__" "Rule.__init__" vL f/\rH K CB "__init__" f
 yJ:∃f,FnAt K "holes" "Rule.holes" qX f/\Meth K CF "holes" f
 jG:∃f,FnAt K "largest_hole" "Rule.largest_hole" gZ f/\Meth K CF "largest_hole" f
 Jp:∃f,FnAt K "put" "Rule.put" Am f/\Meth K CF "put" f
 rT:∃f,FnAt K "used_by" "Rule.used_by" lG f/\Meth K CF "used_by" f
 Dw:∃f,FnAt K "look" "Rule.look" vN f/\Meth K CF "look" f
 yK:∃f,FnAt K "holes" "Rule.holes" qY f/\Meth K CT "holes" f
 jH:∃f,FnAt K "largest_hole" "Rule.largest_hole" g8 f/\Meth K CT "largest_hole" f
 Jq:∃f,FnAt K "put" "Rule.put" Ao f/\Meth K CT "put" f
 rU:∃f,FnAt K "used_by" "Rule.used_by" lH f/\Meth K CT "used_by" f
 Dy:∃f,FnAt K "look" "Rule.look" vP f/\Meth K CT "look" f
 yL:∃f,FnAt K "holes" "Rule.holes" qZ f/\Meth K CN "holes" f
 jJ:∃f,FnAt K "largest_hole" "Rule.largest_hole" g_ f/\Meth K CN "largest_hole" f
 Jr:∃f,FnAt K "put" "Rule.put" Aq f/\Meth K CN "put" f
 rW:∃f,FnAt K "used_by" "Rule.used_by" lJ f/\Meth K CN "used_by" f
 Dz:∃f,FnAt K "look" "Rule.look" vR f/\Meth K CN "look" f
 DG:∃f,FnAt K "mark" "Rule.mark" vU f/\Meth K CF "mark" f
 DK:∃f,FnAt K "mark" "Rule.mark" vV f/\Meth K CT "mark" f
 Js:∃f,FnAt K "__init__" "First.__init__" Ar f/\Mk K CF f
 DN:∃f,FnAt K "order" "First.order" vW f/\Meth K CF "order" f
 Jt:∃f,FnAt K "__init__" "Tightest.__init__" Av f/\Mk K CT f
 DP:∃f,FnAt K "order" "Tightest.order" vX f/\Meth K CT "order" f
 Ju:∃(tk:Tok)(f:Addr),Ud K "__init__" "Next.__init__" pF [.int 0 tk] f/\Mk K CN f
 DQ:∃f,FnAt K "order" "Next.order" vY f/\Meth K CN "order" f
 Jv:∃f,FnAt K "mark" "Next.mark" Aw f/\Meth K CN "mark" f
 Ay:W.specialIn K (.builtin "object.__class__") "__get__" = some (some (.builtin "getset_descriptor.__get__"))
 Az:W.takesIn K (.builtin "object.__class__")=some true
 DR:W.findIn K (.ref CF) "__class__" = some (some (.builtin "object.__class__"))
 DW:W.mroIn K CF (.type "object")=some true
 ccF_k:W.kitOne K (.ref CF) (.ref CB)=some true
 DX:W.findIn K (.ref CT) "__class__" = some (some (.builtin "object.__class__"))
 DY:W.mroIn K CT (.type "object")=some true
 ccT_k:W.kitOne K (.ref CT) (.ref CB)=some true
 Ea:W.findIn K (.ref CN) "__class__" = some (some (.builtin "object.__class__"))
 Eb:W.mroIn K CN (.type "object")=some true
 ccN_k:W.kitOne K (.ref CN) (.ref CB)=some true
local macro_rules|`(tactic| k_tabat)=>`(tactic| first
 | with_reducible assumption
 | (with_reducible exact New.e (by with_reducible assumption))
 | (with_reducible refine New.at (by with_reducible assumption) ?_;k_tabat)
 | (with_reducible refine Off.at (by with_reducible assumption) (by k_ne) ?_;k_tabat)
 | (with_reducible refine Kp.at (by with_reducible assumption) (by k_ne) ?_;k_tabat)
 | (with_reducible refine Same.at (by with_reducible assumption) ?_;k_tabat))
local macro_rules|`(tactic| k_ne)=>`(tactic| first
 | with_reducible assumption
 | (with_reducible exact Ne.symm (by with_reducible assumption))
 | (with_reducible exact New.neA (by with_reducible assumption) (by k_in))
 | (with_reducible exact New.neB (by with_reducible assumption) (by k_in)))
local macro_rules|`(tactic| k_in)=>`(tactic| first
 | (with_reducible exact Hs.of (by with_reducible assumption))
 | (with_reducible exact New.hs (by with_reducible assumption))
 | (with_reducible refine New.Ci (by with_reducible assumption) ?_;k_in)
 | (with_reducible refine Off.Ci (by with_reducible assumption) (by k_ne) ?_;k_in)
 | (with_reducible refine Kp.Ci (by with_reducible assumption) (by k_ne) ?_;k_in)
 | (with_reducible refine Same.Ci (by with_reducible assumption) ?_;k_in))
local macro_rules|`(tactic| k_flat)=>`(tactic| first
 | with_reducible assumption
 | (with_reducible exact SqL.of (by k_tabat))
 | (with_reducible exact SqT.of (by k_tabat))
 | (with_reducible refine Same.seq (by with_reducible assumption) ?_;k_flat)
 | (with_reducible refine Same.seq (New.s (by with_reducible assumption)) ?_;k_flat)
 | (with_reducible refine Off.seq (by with_reducible assumption) (by k_ne) ?_;k_flat))
local macro_rules|`(tactic| k_keys)=>`(tactic| first
 | with_reducible assumption
 | (with_reducible exact L_)
 | (with_reducible exact Vz)
 | (with_reducible exact VB)
 | (with_reducible exact ab_)
 | with_unfolding_all rfl)
local macro_rules|`(tactic| k_room)=>`(tactic| first
 | with_reducible assumption
 | decide
 | lia
 | (simp only[List.length_cons,List.length_nil,List.length_map,List.length_append,List.length_replicate];lia))
local macro_rules|`(tactic| k_inst)=>`(tactic| first
 | (with_reducible refine bW ?_;first|lia|(simp only[List.length_cons,List.length_nil,List.length_map,List.length_append,List.length_replicate,aJ];lia))
 | (with_reducible refine lu ?_;first|lia|(simp only[List.length_cons,List.length_nil,List.length_map,List.length_append,List.length_replicate,aJ];lia))
 | with_unfolding_all exact Nat.le_of_ble_eq_true rfl
 | lia)
local macro_rules|`(tactic| k_upd)=>`(tactic| first
 | with_reducible assumption
 | (intro b u e;k_tabat))
local macro_rules|`(tactic| k_updF)=>`(tactic| first
 | with_reducible assumption
 | (intro b u nb e;k_tabat))
local macro_rules|`(tactic| k_all)=>`(tactic| first
 | with_reducible assumption
 | (refine⟨?_,?_,?_⟩;(focus (intro b u e;k_tabat));(focus k_tabat);(focus (intro b u e;k_ne))))
local macro_rules|`(tactic| k_mem)=>`(tactic| with_reducible (first
 | refine Fq ?_|refine Ft ?_|refine Fv ?_|refine MK ?_|refine zH ?_|refine zE ?_|refine MF ?_|refine Vv ?_
 | refine zJ ?_|refine Vi ?_|refine MJ ?_|refine MN ?_|refine zB ?_|refine Fp ?_|refine w_call ?_|refine w_c ?_
 | refine wv0 ?_|refine wv1 ?_|refine wv2 ?_|refine wv3 ?_|refine wv4 ?_|refine wv5 ?_|refine wv6 ?_|refine wv7 ?_|refine wv8 ?_|refine wv9 ?_|refine Vl ?_|refine Vn ?_|refine Vp ?_|refine Vr ?_
 | refine wn0 ?_|refine wn1 ?_|refine wn2 ?_|refine wn3 ?_|refine wn4 ?_|refine wn5 ?_|refine wn6 ?_|refine wn7 ?_|refine wn8 ?_|refine wn9 ?_|refine Vm ?_|refine Vo ?_|refine Vq ?_|refine Vs ?_
 | refine Vt ?_|refine w_u ?_|refine acd ?_|refine M9 ?_|refine M_ ?_|refine Nb ?_|refine Zb ?_|refine Zc ?_|refine Zd ?_|refine Vu ?_|refine w_not ?_|refine w_and ?_|refine w_or ?_|refine FP ?_|refine FQ ?_|refine Ze ?_
 | refine Zf ?_|refine Ia ?_|refine Vw ?_|refine Nf ?_|refine w_sub ?_|refine zM ?_|refine uH ?_|refine FT ?_|refine Ng ?_|refine Nm ?_|refine Np ?_|refine Wn ?_|refine Wo ?_
 | refine w_mod (by decide) ?_|refine w_div (by decide) (by decide) ?_|refine w_pow (by decide) (by decide) (by decide) ?_|refine FJ (by decide) (by decide) ?_|refine FN (by decide) (by decide) ?_|refine zF ?_|refine zG ?_|refine Wq ?_|refine Zg ?_|refine Wr ?_|refine S7 ?_|refine Zh ?_|refine Ws ?_|refine Zi ?_|refine Wt ?_|refine Gg ?_|refine uO ?_|refine uN ?_|refine uM ?_))
set_option hygiene false in
local macro_rules|`(tactic| k_meth)=>`(tactic| first
 | k_mem
 | with_reducible (refine Gp (by k_tabat) ?_)
 | with_reducible (refine Gq (by k_tabat) ?_)
 | with_reducible (refine Wu (by k_tabat) ?_)
 | with_reducible (refine Wv (by k_tabat) ?_)
 | with_reducible refine Gs ?_
 | with_reducible refine Gu ?_
 | with_reducible refine Ww ?_
 | with_reducible refine Wx ?_
 | with_reducible (refine B_ (by k_flat) (by k_keys) ?_)
 | with_reducible (refine Nh (by k_flat) (by k_keys) ?_)
 | with_reducible (refine FW (by k_flat) ?_)
 | with_reducible (refine FZ (by k_flat) ?_)
 | with_reducible (refine Ie (by k_inst) ?_;intro _ _ _)
 | with_reducible (refine Ny (by k_flat) ?_)
 | with_reducible (refine Nz (by k_tabat) (by k_inst) ?_;intro _ _ _)
 | with_reducible (refine NK (by k_tabat) ?_;intro _ _ _)
 | with_reducible (refine NP (by k_flat) ?_;intro _ _ _)
 | with_reducible (refine Gk (by k_tabat) (by k_tabat) (by k_inst) ?_;intro _ _ _)
 | with_reducible (refine Wy (by k_flat) ?_;intro _ _ _)
 | with_reducible (refine Gm (by k_tabat) (by lia) ?_;intro _ _ _)
 | with_reducible (refine Ca (by k_room) ?_)
 | with_reducible (refine Cd (by k_room) ?_)
 | with_reducible (refine uI (by k_room) ?_)
 | with_reducible (refine A_ (by k_room) ?_)
 | with_reducible (refine VD ?_)
 | with_reducible (refine VF ?_)
 | with_reducible (refine NT ?_)
 | with_reducible (refine NZ ?_)
 | with_reducible (refine Gv (by with_unfolding_all rfl) (by k_flat) ?_)
 | with_reducible (refine NQ rfl ?_)
 | with_reducible refine Wz ?_
 | with_reducible refine Nv ?_
 | with_reducible refine Gi ?_
 | with_reducible (refine w_mod (by lia) ?_)
 | with_reducible (refine WD ?_)
 | with_reducible refine N5 ?_
 | with_reducible refine zV ?_
 | with_reducible refine Ig ?_
 | with_reducible refine Gd ?_
 | with_reducible refine zP ?_
 | with_reducible (refine w_fld (by k_tabat) T.clH T.aX Jw ?_)
 | with_reducible (refine w_fld (by k_tabat) T.clH T.aW jq ?_)
 | with_reducible (refine Gn (by k_tabat) (tE (by decide) (by decide)) ?_)
 | with_reducible (refine T6 (by k_tabat) ?_)
 | with_reducible (refine zX ?_)
 | with_reducible (refine zZ (by k_tabat) (by k_room) (by k_room) ?_;intro _ _ _ _ _ _ _ _ _)
 | with_reducible (refine uT (by k_tabat) ?_))
open M22
def PL:Sp:=λvs H Q _=>∃(p:Addr)(fs:xI),vs=[.ref p]/\H p=some (.lst (fs.map V.bl))/\fs.length<=240/\∀(q:Addr)(ys:List V)(H':Hp),New H H' q (.lst ys)->aH H' ys (aD (ao fs))->Q (.ref q) H'
theorem G6{fs:xI}{i:Nat}{b:Bool}(h:fs[i]?=some b):fs.take (i+1)=fs.take i++[b]:=by rw[gI,h];rfl
theorem PN{fs:xI}{i:Nat}{x:V}(h:(fs.map V.bl)[i]?=some x):∃b,fs[i]?=some b/\x=.bl b:=by
 rw[vE] at h;cases e:fs[i]? with
 | none=>rw[e] at h;cases h
 | some b=>rw[e] at h;exact⟨b,rfl,(nS h).symm⟩
section
variable{P:Program}{w:World}{K:W.Frag}{mg:xC}{base:Heap}{c:Nat->Addr}{aG ak R CH CF CT CN CB:Addr}
theorem fP(T:Txt K mg c R CH CF CT CN CB aG ak):Def P w K mg base CX0 1 "is_whole" ["thing"] (Cj K):=by
 refine dB T.v7 rN (λvs H Q E h=>?_) (λ_ _ _ _ _ _=>el1 λ_=>rfl) (λf cdv A outer s H vs Q E hr h=>?_)
 ·obtain⟨x,n,rfl,_⟩:=h
  rfl
 ·obtain⟨x,n,rfl,ty,k⟩:=h;have nd:=rN.nd;refine⟨_,(aB (aP (ju (bM dR rfl T.bZ boot_isinstance (aj (pv 0) (aj (kJ (T := "int") rfl T.PB boot_int) aq))) (jt (K7 (bM dR rfl T.bZ boot_isinstance (aj (pv 0) (aj (kJ (T := "bool") rfl T.G5 boot_bool) aq)))))))),?_⟩;clear nd ;rw[show start ["thing"] [x]=[some (x)] from rfl]
  try dsimp only[cM,bO]
  rw[Vg] at k
  repeat k_mem
  refine w_is ty (LQ ty) ?_
  repeat k_mem
  refine i_b (λh=>?_) (λh=>?_)
  ·repeat k_mem
   refine w_is ty (Hz ty) ?_
   repeat k_mem
   rw[h] at k;exact k
  ·rw[h] at k;exact k
theorem cJ(T:Txt K mg c R CH CF CT CN CB aG ak):Def P w K mg base CX0 2 "is_from" ["thing","low"] (nR K):=by
 have fP:=fP (P:=P) (w:=w) (base:=base) T;refine dB T.yx vh (λvs H Q E h=>?_) (λ_ _ _ _ _ _=>el2 λ_ _=>rfl) (λf cdv A outer s H vs Q E hr h=>?_)
 ·obtain⟨x,n,lo,rfl,_⟩:=h
  rfl
 ·obtain⟨x,n,lo,rfl,ty,k⟩:=h;have nd:=vh.nd;refine⟨_,(aB (aP (ju (aL fP hr (aj (pv 0) aq)) (jt (n_ Hq (pv 1) (pv 0) (bJ _)))))),?_⟩;clear nd fP;rw[show start ["thing","low"] [x,.int lo]=[some (x),some (.int lo)] from rfl]
  try dsimp only[cM,bO]
  repeat k_mem
  refine Ih ty ?_
  repeat k_mem
  cases x with
  | int i =>
   refine i_T rfl ?_
   repeat k_mem
   exact k
  | _=>exact i_F rfl k
theorem eF(T:Txt K mg c R CH CF CT CN CB aG ak):Def P w K mg base CX0 2 "is_within" ["thing","low","high"] (jT K):=by
 have fP:=fP (P:=P) (w:=w) (base:=base) T;refine dB T.rP oZ (λvs H Q E h=>?_) (λ_ _ _ _ _ _=>el3 λ_ _ _=>rfl) (λf cdv A outer s H vs Q E hr h=>?_)
 ·obtain⟨x,n,lo,hi,rfl,_⟩:=h
  rfl
 ·obtain⟨x,n,lo,hi,rfl,ty,k⟩:=h;have nd:=oZ.nd;refine⟨_,(aB (aP (ju (aL fP hr (aj (pv 0) aq)) (jt (Lg Hq Hq (pv 1) (pv 0) (pv 2)))))),?_⟩;clear nd fP;rw[show start ["thing","low","high"] [x,.int lo,.int hi]=[some (x),some (.int lo),some (.int hi)] from rfl]
  try dsimp only[cM,bO]
  repeat k_mem
  refine Ih ty ?_
  repeat k_mem
  cases x with
  | int i =>
   refine i_T rfl ?_
   repeat k_mem
   have k:Q (.bl (decide (lo<=i) && decide (i<=hi))) H:=k;refine lq (λh=>?_) (λh=>?_)
   ·repeat k_mem
    rw[uA h,Bool.true_and] at k;exact k
   ·rw[gX h,Bool.false_and] at k;exact k
  | _=>exact i_F rfl k
theorem mK(T:Txt K mg c R CH CF CT CN CB aG ak):Def P w K mg base CX0 3 "is_many" ["thing"] (uR K):=by
 have eF:=eF (P:=P) (w:=w) (base:=base) T;refine dB T.yC vm (λvs H Q E h=>?_) (λ_ _ _ _ _ _=>el1 λ_=>rfl) (λf cdv A outer s H vs Q E hr h=>?_)
 ·obtain⟨x,n,rfl,_⟩:=h
  rfl
 ·obtain⟨x,n,rfl,ty,k⟩:=h;have nd:=vm.nd;refine⟨_,(aB (aP (aL eF hr (aj (pv 0) (aj (xq T.lK) (aj (xq T.pJ) aq)))))),?_⟩;clear nd eF;rw[show start ["thing"] [x]=[some (x)] from rfl]
  try dsimp only[cM,bO]
  repeat k_mem
  exact N6 ty k
theorem lM(T:Txt K mg c R CH CF CT CN CB aG ak):Def P w K mg base CX0 1 "end_of" ["stretch"] xP:=by
 refine dB T.Dj xV (λvs H Q E h=>?_) (λ_ _ _ _ _ _=>el1 λ_=>rfl) (λf cdv A outer s H vs Q E hr h=>?_)
 ·obtain⟨q,a,b,rfl,_⟩:=h
  rfl
 ·obtain⟨q,a,b,rfl,h,k⟩:=h;have nd:=xV.nd;refine⟨_,(aB (aP (bT dh (bI bV (pv 0) aA (λ_ _=>rfl)) (bI bV (pv 0) aA (λ_ _=>rfl))))),?_⟩;clear nd ;rw[show start ["stretch"] [.ref q]=[some (.ref q)] from rfl]
  try dsimp only[cM,bO]
  repeat k_meth
  exact k
theorem mL(T:Txt K mg c R CH CF CT CN CB aG ak):Def P w K mg base CX0 3 "is_stretch" ["thing"] rM:=by
 have cJ:=cJ (P:=P) (w:=w) (base:=base) T;refine dB T.yD vp (λvs H Q E h=>?_) (λ_ _ _ _ _ _=>el1 λ_=>rfl) (λf cdv A outer s H vs Q E hr h=>?_)
 ·obtain⟨q,a,b,rfl,_⟩:=h
  rfl
 ·obtain⟨q,a,b,rfl,h,k⟩:=h;have nd:=vp.nd;refine⟨_,(aC (cB (PW.pt (fH (cH (cG (bM dR rfl T.bZ boot_isinstance (aj (pv 0) (aj (kJ (T := "tuple") rfl T.pH boot_tuple) aq))))) (fG (bw tZ (bM fU rfl T.nF boot_len (aj (pv 0) aq)) aA (bJ _))))) (aB (aP fC)) bK)
   (aB (aP (ju (aL cJ hr (aj (bI bV (pv 0) aA (λ_ _=>rfl)) (aj aA aq))) (jt (aL cJ hr (aj (bI bV (pv 0) aA (λ_ _=>rfl)) (aj aA aq)))))))),?_⟩
  clear nd cJ;rw[show start ["thing"] [.ref q]=[some (.ref q)] from rfl]
  try dsimp only[cM,bO]
  repeat k_meth
  refine lq (λh0=>?_) (λh0=>?_)
  ·repeat k_meth
   rw[uA h0,Bool.true_and] at k;exact k
  ·rw[gX h0,Bool.false_and] at k;exact k
theorem dJ(T:Txt K mg c R CH CF CT CN CB aG ak):Def P w K mg base CX0 1 "largest_size" ["stretches"] uU:=by
 refine dB T.yE vq (λvs H Q E h=>?_) (λ_ _ _ _ _ _=>el1 λ_=>rfl) (λf cdv A outer s H vs Q E hr h=>?_)
 ·obtain⟨p,ys,ws,rfl,_⟩:=h
  rfl
 ·obtain⟨p,ys,ws,rfl,hp,tp,hz,k⟩:=h;have nd:=vq.nd;refine⟨_,(aB (aP (Gh (xO rfl) rfl T.Dp boot_max (aj (gM (N:=["stretch"]) (nt:=1) (fr:=[]) (dO (pv 0)) (λ_ _ _ _=>(bQ (i:=0) (show (["stretch"]:List Str).Nodup from by decide +kernel) rfl (Or.inl rfl))) (λ_ _ _ _=>sJ) (λ_ _ _ _=>(bI (gO (K:=K) rfl) (pv 0) aA (λ_ _=>rfl)))) aq) aA))),?_⟩;clear nd ;rw[show start ["stretches"] [.ref p]=[some (.ref p)] from rfl]
  try dsimp only[cM,bO]
  repeat k_meth
  refine Ys (SqL.of hp) (Kg (F:=λr=>r.getD 1 .non) hp tp (by rw[tp.1,aJ];lia) rfl (λq r H1 R hr s1 h1 kk=>?_) λl H1 n1=>?_)
  ·obtain⟨w,_,rfl⟩:=jS.mp hr
   repeat k_meth
   exact kk _ (Same.refl _)
  ·repeat k_meth
   refine zT (ns:=cX ws) (SqL.of ?_) (λn hn=>?_) (k _ n1.s)
   ·rw[n1.e];simp[aD,cX]
   ·obtain⟨w,_,rfl⟩:=jS.mp hn;exact Int.natCast_nonneg _
theorem mO(T:Txt K mg c R CH CF CT CN CB aG ak):Def P w K mg base CX0 1 "_law_cell_at" ["_law_script","_law_k"] (uV K):=by
 refine dB T.yI vD (λvs H Q E h=>?_) (λ_ _ _ _ _ _=>el2 λ_ _=>rfl) (λf cdv A outer s H vs Q E hr h=>?_)
 ·obtain⟨a,ns,m,rfl,_⟩:=h
  rfl
 ·obtain⟨a,ns,m,rfl,hS,m0,k⟩:=h;have nd:=vD.nd;refine⟨_,(aC (cB (bw Ho (pv 1) (bM fU rfl T.nF boot_len (aj (pv 0) aq)) (bJ _)) (aB (aP (bI dD (pv 0) (pv 1) (λ_ _=>rfl)))) bK)
   (aB (aP (bT dh (bT qx aA (pv 1)) aA)))),?_⟩
  clear nd ;rw[show start ["_law_script","_law_k"] [.ref a,.int m]=[some (.ref a),some (.int m)] from rfl]
  try dsimp only[cM,bO]
  repeat k_meth
  refine lq (λh=>?_) (λh=>?_)
  ·repeat k_meth
   rw[wS] at h;obtain⟨v,e,mm⟩:=Mf (xs:=ns.map V.int) m0 (by rw[wS];exact h);obtain⟨c,_,rfl⟩:=jS.mp mm;exact B_ hS e (k c)
  ·repeat k_meth
   exact k _
theorem Jx(T:Txt K mg c R CH CF CT CN CB aG ak):Def P w K mg base CX0 1 "_law_box" ["_law_cell"] zY:=by
 refine dB T.Uh Pj (λvs H Q E h=>?_) (λ_ _ _ _ _ _=>el1 λ_=>rfl) (λf cdv A outer s H vs Q E hr h=>?_)
 ·obtain⟨c,rfl,_⟩:=h
  rfl
 ·obtain⟨c,rfl,k⟩:=h;have nd:=Pj.nd;refine⟨_,(aC (cB (bw Bu (pv 0) (bT Lb aA aA) (bJ _)) (aB (aP (cF (aj (pv 0) (aj (bT nJ (pv 0) aA) (aj aA aq)))))) bK)
   (aB (aP (cF (aj aA (aj (bT nJ (pv 0) aA) (aj aA aq))))))),?_⟩
  clear nd ;rw[show start ["_law_cell"] [.int c]=[some (.int c)] from rfl]
  try dsimp only[cM,bO]
  repeat k_meth
  refine lq (λh=>?_) (λh=>?_)
  ·repeat k_meth
   rename_i n;exact k _ _ _ _ n
  ·repeat k_meth
   rename_i n;exact k _ _ _ _ n
theorem cN(T:Txt K mg c R CH CF CT CN CB aG ak):Def P w K mg base CX0 1 "_law_take" ["_law_box_here","_law_many_here"] uW:=by
 refine dB T.Pu Je (λvs H Q E h=>?_) (λ_ _ _ _ _ _=>el2 λ_ _=>rfl) (λf cdv A outer s H vs Q E hr h=>?_)
 ·obtain⟨p,a,b,c,m,rfl,_⟩:=h
  rfl
 ·obtain⟨p,a,b,c,m,rfl,hp,m0,m1,k⟩:=h;have nd:=Je.nd;refine⟨_,(aC (cB (bw TQ (bI dD (pv 0) aA (λ_ _=>rfl)) aA (bJ _)) (aC (aU (i:=2) nd rfl (Or.inl rfl) (bT nJ (bI dD (pv 0) aA (λ_ _=>rfl)) (pv 1)))
    (aC (yZ (bT Hh (bI dD (pv 0) aA (λ_ _=>rfl)) (pv 1)) (Et (pv 0) aA qF))
    (aB (aP (pv 2))))) bK)
   (aC (yZ (bT dh (bI dD (pv 0) aA (λ_ _=>rfl)) aA) (Et (pv 0) aA qF))
   (aC (aU (i:=2) nd rfl (Or.inl rfl) (bT nJ (bT dh (bT dh (bT qx (bI dD (pv 0) aA (λ_ _=>rfl)) aA) (bT qx aA (bI dD (pv 0) aA (λ_ _=>rfl)))) aA) aA))
   (aC (aU (i:=2) nd rfl (Or.inl rfl) (bT nJ (bT dh (bT dh (bT qx (pv 2) (pv 2)) (bT qx aA (bI dD (pv 0) aA (λ_ _=>rfl)))) aA) aA))
   (aB (aP (bT nJ (bT nJ (bT qx (pv 2) (pv 2)) aA) (pv 1)))))))),?_⟩
  clear nd ;rw[show start ["_law_box_here","_law_many_here","_law_number"] [.ref p,.int m]=[some (.ref p),some (.int m),none] from rfl]
  try dsimp only[cM,bO]
  repeat k_meth
  refine lq (λh=>?_) (λh=>?_)
  ·repeat k_meth
   refine w_div m0 m1 ?_
   repeat k_meth
   refine Gj hp rfl λH1 f1 e1=>?_
   repeat k_meth
   exact k _ _ _ _ H1 (Int.emod_nonneg _ (by lia)) (Int.emod_lt_of_pos _ m0) f1 e1
  ·repeat k_meth
   refine Gj hp rfl λH1 f1 e1=>?_
   have e1:H1 p=some (.lst [.int a,.int b,.int (c+1)]):=e1
   repeat k_meth
   generalize (b*48271+7919*(c+1)+101)=z
   have b1:=Int.emod_nonneg z (show (2147483647:Int)≠0 by decide);have b2:=Int.emod_lt_of_pos z (show (0:Int)<2147483647 by decide)
   generalize z % 2147483647=y at b1 b2
   refine FJ (by lia) (by lia) ?_
   repeat k_meth
   have b3:=Int.emod_nonneg (y*y+104729*(c+1)+7) (show (2147483629:Int)≠0 by decide);have b4:=Int.emod_lt_of_pos (y*y+104729*(c+1)+7) (show (0:Int)<2147483629 by decide)
   generalize (y*y+104729*(c+1)+7) % 2147483629=x at b3 b4
   refine FN (by lia) (by lia) ?_
   repeat k_meth
   exact k _ _ _ _ H1 (Int.emod_nonneg _ (by lia)) (Int.emod_lt_of_pos _ m0) f1 e1
theorem tG(T:Txt K mg c R CH CF CT CN CB aG ak):Def P w K mg base CX0 1 "holes_among" ["free"] PL:=by
 refine dB T.Ji CQ (λvs H Q E h=>?_) (λ_ _ _ _ _ _=>el1 λ_=>rfl) (λf cdv A outer s H vs Q E hr h=>?_)
 ·obtain⟨p,fs,rfl,_⟩:=h
  rfl
 ·obtain⟨p,fs,rfl,hp,hz,k⟩:=h;have nd:=CQ.nd;refine⟨_,(aC (aU (i:=1) nd rfl (Or.inl rfl) (cF aq))
   (aC (aU (i:=2) nd rfl (Or.inl rfl) aA)
   (aC (gK PassesOwn.never rfl (RV rfl T.rQ (aj (bT mq (pv 0) (cF (aj fC aq))) aq)) (tV rfl (dj (bQ (i:=3) nd rfl (Or.inl rfl)) (dj (bQ (i:=4) nd rfl (Or.inl rfl)) jL))) (aB (cB (cG (pv 4)) (aB (U3 (i:=2) nd rfl (Or.inl rfl) aA Rh)) (aB (cB (bw TQ (pv 2) aA (bJ _)) (aC (cV (fL (pv 1) (bY (aj (bT za (pv 3) (pv 2)) (aj (pv 2) aq)))))
         (aB (aU (i:=2) nd rfl (Or.inl rfl) aA))) bK)))))
   (aB (aP (pv 1)))))),?_⟩
  clear nd ;rw[show start ["free","holes","size","cell","is_free"] [.ref p]=[some (.ref p),none,none,none,none] from rfl]
  try dsimp only[cM,bO]
  repeat k_meth
  rename_i q H1 n1 b H2 n2 r H3 n3;have e3:H3 r=some (.lst ((fs++[false]).map V.bl)):=by rw[n3.e];simp
  have hqr:q≠r:=by k_ne
  refine abr (SqL.of e3) (R6 (λi σ' H'=>∃(st:Sc)(o3 o4:Option V)(ys:List V),st=scan ((fs++[false]).take i)/\σ'=[some (.ref p),some (.ref q),some (.int (st.2.1:Nat)),o3,o4]/\Same H H'/\H' q=some (.lst ys)/\aH H' ys (aD st.1)/\ys.length<=i/\H' r=some (.lst ((fs++[false]).map V.bl))) ⟨([],0,0),none,none,[],rfl,rfl,by k_upd,by k_tabat,aH.nil,uS _,e3⟩ ?_ ?_ ?_)
  ·rintro i σ' H' hi ⟨st,_,_,ys,_,rfl,s,hq,tp,hy,hr'⟩;exact SqL.of hr'
  ·rintro i x t σ' HA HB hx ⟨st,o3,o4,ys,hst,rfl,sm,hq,tp,hy,hr'⟩ nB;obtain⟨bv,hb,rfl⟩:=PN hx;have hi:i<241:=by
    have:=(qB.mp hb).1;simp at this
    lia
   have tk:=G6 hb;have sl:=scan_len ((fs++[false]).take i);have ok:=(jV ((fs++[false]).take i)).le;have hl:((fs++[false]).take i).length=i:=by
    rw[nE];have:=(qB.mp hb).1
    lia
   rw[<- hst] at sl ok;have sm2:Same H HB:=by k_upd
   repeat k_meth
   cases bv with
   | true =>
    repeat k_meth
    exact⟨stp st true,_,_,ys,by rw[tk,scan_snoc,hst],rfl,sm2,by k_tabat,tp.same nB.s,by lia,by k_tabat⟩
   | false =>
    repeat k_meth
    refine lq (λh=>?_) (λh=>?_)
    ·have h:0<st.2.1:=by lia
     repeat k_meth
     rename_i t2 HC nC HD fD eD;have hqC:HC q=some (.lst ys):=by k_tabat
     obtain⟨ys2,e5,tp5⟩:=qK.snoc ((tp.same nB.s).same nC.s) hqC nC.e fD eD;have e6:ys2=ys++[.ref t2]:=by
      rw[eD] at e5;cases e5
      rfl
     have e7:stp st false=(st.1++[(st.2.2-st.2.1,st.2.1)],0,st.2.2+1):=by
      unfold stp;rw[yT (by decide),yB h]
     refine⟨(st.1++[(st.2.2-st.2.1,st.2.1)],0,st.2.2+1),_,_,ys2,by rw[tk,scan_snoc,<- hst,e7],rfl,by k_upd,e5,?_,by rw[e6,yY,List.length_singleton];lia,by k_tabat⟩;have e8:aD (st.1++[(st.2.2-st.2.1,st.2.1)])=aD st.1++[[V.int (i-(st.2.1:Nat):Int),V.int (st.2.1:Nat)]]:=by
      unfold aD;rw[List.map_append]
      congr 1
      show [[V.int ((st.2.2-st.2.1:Nat):Int),_]]=_;rw[show ((st.2.2-st.2.1:Nat):Int)=(i-(st.2.1:Nat):Int) by lia]
     rw[e8];exact tp5
    ·have h:¬ 0<st.2.1:=by lia
     repeat k_meth
     have e7:stp st false=(st.1,0,st.2.2+1):=by
      unfold stp;rw[yT (by decide),yT h]
     refine⟨(st.1,0,st.2.2+1),some (.int i),some (.bl false),ys,by rw[tk,scan_snoc,<- hst,e7],?_,sm2,by k_tabat,tp.same nB.s,by lia,by k_tabat⟩;have:st.2.1=0:=by lia
     rw[this]
  ·rintro σ' H' ⟨st,_,_,ys,hst,rfl,sm,hq,tp,hy,hr'⟩
   repeat k_meth
   have e:(fs++[false]).take ((fs++[false]).map V.bl).length=fs++[false]:=by rw[wS,List.take_length]
   rw[hst,e,(u_ fs).1] at tp;exact k q ys H' ⟨sm,hq,n1.n⟩ tp
end
open M22
def hF(n:Int)(p:Addr):List (Str×V):=fQ "free" (.ref p) (fQ "many" (.int n) [])
theorem jq{n:Int}{p:Addr}:(hF n p).lookup ("many" : Str)=some (.int n):=by unfold hF;rw[cA,if_neg (by decide),cA,if_pos rfl]
theorem Jw{n:Int}{p:Addr}:(hF n p).lookup ("free" : Str)=some (.ref p):=by unfold hF;rw[cA,if_pos rfl]
theorem tE{n:Int}{p:Addr}{m:Str}(h1:m ≠ "free")(h2:m ≠ "many"):(hF n p).lookup m=none:=by unfold hF;rw[cA,if_neg h1,cA,if_neg h2];rfl
open M22
def hasB(fs:xI)(a b:Nat):Bool:=decide (1<=b) && (decide (a+b<=fs.length) && ((fs.drop a).take b).all id)
def ace(fs:xI)(a b:Nat):Bool:=decide (1<=b) && (decide (a+b<=fs.length) && !((fs.drop a).take b).any id)
def G7:Sp:=λvs H Q _=>∃(p q:Addr)(fs:xI)(a b:Nat),vs=[.ref p,.ref q]/\H p=some (.lst (fs.map V.bl))/\fs.length<=240/\H q=some (.tup [.int (a:Nat),.int (b:Nat)])/\∀H',Same H H'->Q (.bl (decide (a+b<=fs.length) && ((fs.drop a).take b).all id)) H'
def Ec(CH:Addr):Sp:=λvs H Q _=>∃(x dx:Addr)(n:Nat),vs=[.ref x,.int n]/\H x=some (.ins CH dx [])/\16<=n/\n<=240/\∀(p:Addr)(H':Hp),Kp x H H'->H' x=some (.ins CH dx (hF n p))->H' p=some (.lst ((List.replicate n true).map V.bl))->(∀a u,H a=some u->a≠p)->Q .non H'
def Bk(CH:Addr)(H:Hp)(x p dx:Addr)(fs:xI):Prop:=H x=some (.ins CH dx (hF fs.length p))/\H p=some (.lst (fs.map V.bl))/\16<=fs.length/\fs.length<=240
def Ed(CH:Addr):Sp:=λvs H Q _=>∃(x p dx:Addr)(fs:xI),vs=[.ref x]/\Bk CH H x p dx fs/\∀(q:Addr)(ys:List V)(H':Hp),New H H' q (.lst ys)->aH H' ys (aD (ao fs))->Q (.ref q) H'
def Jy(CH:Addr):Sp:=λvs H Q _=>∃(x p dx:Addr)(fs:xI)(a b:Nat),vs=[.ref x,.int a,.int b]/\Bk CH H x p dx fs/\∀H',Same H H'->Q (.bl (hasB fs a b)) H'
def Ef(CH:Addr):Sp:=λvs H Q _=>∃(x p dx:Addr)(fs:xI)(a b:Nat),vs=[.ref x,.int a,.int b]/\Bk CH H x p dx fs/\hasB fs a b=true/\∀H',Kp p H H'->H' p=some (.lst ((iY fs a b false).map V.bl))->Q .non H'
theorem WK{fs:xI}{a b:Nat}:kI (fs.map V.bl) (some (a:Int)) (some ((a:Int)+(b:Int)))=((fs.drop a).take b).map V.bl:=by
 unfold kI;rw[show (a:Int)+(b:Int)=((a+b:Nat):Int) by lia,HT.Hu,HT.Hu,wS,List.map_take,List.map_drop];by_cases h:a<=fs.length
 ·rw[show min a fs.length=a by lia];by_cases h2:a+b<=fs.length
  ·rw[show min (a+b) fs.length-a=b by lia]
  ·rw[mE (by rw[zzH,wS];lia),mE (by rw[zzH,wS];lia)]
 ·rw[List.drop_of_length_le (by rw[wS];lia),List.drop_of_length_le (by rw[wS];lia)];simp
section
variable{P:Program}{w:World}{K:W.Frag}{mg:xC}{base:Heap}{c:Nat->Addr}{aG ak R CH CF CT CN CB:Addr}
theorem mQ(T:Txt K mg c R CH CF CT CN CB aG ak):Def P w K mg base CX0 2 "is_all_free" ["free","stretch"] G7:=by
 have lM:=lM (P:=P) (w:=w) (base:=base) T;refine dB T.yF vA (λvs H Q E h=>?_) (λ_ _ _ _ _ _=>el2 λ_ _=>rfl) (λf cdv A outer s H vs Q E hr h=>?_)
 ·obtain⟨p,q,fs,a,b,rfl,_⟩:=h
  rfl
 ·obtain⟨p,q,fs,a,b,rfl,hp,hz,hq,k⟩:=h;have nd:=vA.nd;refine⟨_,(aB (aP (ju (n_ Hq (aL lM hr (aj (pv 1) aq)) (bM fU rfl T.nF boot_len (aj (pv 0) aq)) (bJ _)) (jt (bM (Ly rfl) rfl T.Uj boot_all (aj (uc uG (pv 0) (sI (bI bV (pv 1) aA (λ_ _=>rfl))) (sI (aL lM hr (aj (pv 1) aq)))) aq)))))),?_⟩;clear nd lM;rw[show start ["free","stretch"] [.ref p,.ref q]=[some (.ref p),some (.ref q)] from rfl]
  try dsimp only[cM,bO]
  repeat k_meth
  refine lq (λh=>?_) (λh=>?_)
  ·rw[wS] at h;rw[uA (show a+b<=fs.length by lia),Bool.true_and] at k
   repeat k_meth
   rename_i r H1 n1;rw[WK] at n1;exact⟨r,_,rfl,SqL.of n1.e,k _ n1.s⟩
  ·rw[wS] at h;rw[gX (show ¬ a+b<=fs.length by lia),Bool.false_and] at k;exact k _ (Same.refl _)
theorem eN(T:Txt K mg c R CH CF CT CN CB aG ak):Mak P w K mg base CX0 4 "Holes" CH ["self","many"] (Ec CH):=by
 have mK:=mK (P:=P) (w:=w) (base:=base) T;obtain⟨f,hf,hm⟩:=T.Jl;refine(bR (k:=3) hf CV (λvs H Q E h=>?_) (λ_ _ _ _ _ _=>el2 λ_ _=>rfl) (λf cdv A outer s H vs Q E hr h=>?_)).mak hm T.Dq
 ·obtain⟨x,dx,n,rfl,_⟩:=h
  rfl
 ·obtain⟨x,dx,n,rfl,hx,h16,cj,k⟩:=h;have nd:=CV.nd;refine⟨_,(aC (cB (cH (cG (aL mK hr (aj (pv 1) aq)))) iI bK)
   (aC (qz (pv 0) (pv 1) rfl)
   (aB (qz (pv 0) (bT zA (cF (aj fC aq)) (pv 1)) rfl)))),?_⟩
  clear nd mK;rw[show start ["self","many"] [.ref x,.int n]=[some (.ref x),some (.int n)] from rfl]
  try dsimp only[cM,bO]
  repeat k_meth
  refine R8 (by lia) (by lia) ?_
  repeat k_meth
  refine Gw hx T.clH T.aW (by decide) λH1 f1 e1=>?_
  repeat k_meth
  rename_i p0 H2 n2 p H3 n3;refine Gw (by k_tabat) T.clH T.aX (by have:=jd "many" (.int n) [];simp at this;lia) λH4 f4 e4=>?_
  repeat k_meth
  have np:p≠x:=by k_ne
  refine k p H4 (by k_updF) e4 ?_ ?_
  ·rw[f4 p np,n3.e];simp
  ·intro a u e;by_cases z:a=x
   ·rw[z];exact np.symm
   ·exact n3.n a u (n2.s _ _ (f1.at z e))
end
section
variable{CH x p dx:Addr}{fs:xI}{H:Hp}{Q:VK}{E:XK}{a b:Nat}
theorem Zj(bk:Bk CH H x p dx fs)(k:∀H',Same H H'->Q (.bl (hasB fs a b)) H'):Jy CH [.ref x,.int a,.int b] H Q E:=⟨x,p,dx,fs,a,b,rfl,bk,k⟩
theorem q_{fs:xI}:(ao fs).length<=fs.length:=by
 have h:=O6 fs;have h2:fs.count true<=fs.length:=List.count_le_length;have h3:∀ws:List (Nat×Nat),(∀w∈ws,1<=w.2)->ws.length<=(ws.map (·.2)).sum:=by
  intro ws
  induction ws with
  | nil=>intro _;exact uS _
  | cons w t ih =>
   intro hw;have:=hw w zC;have:=ih λz hz=>hw z (zD _ hz)
   simp only[List.length_cons,List.map_cons,List.sum_cons]
   lia
 have:=h3 (ao fs) λw hw=>(sY hw).1
 lia
end
section
variable{P:Program}{w:World}{K:W.Frag}{mg:xC}{base:Heap}{c:Nat->Addr}{aG ak R CH CF CT CN CB:Addr}
theorem eO(T:Txt K mg c R CH CF CT CN CB aG ak):Met P w K mg base CX0 2 CH "told" ["self"] (Ed CH):=by
 have tG:=tG (P:=P) (w:=w) (base:=base) T;obtain⟨f,hf,hm⟩:=T.Jm;refine(bR (k:=1) hf CW (λvs H Q E h=>?_) (λ_ _ _ _ _ _=>el1 λ_=>rfl) (λf cdv A outer s H vs Q E hr h=>?_)).met hm
 ·obtain⟨x,p,dx,fs,rfl,_⟩:=h
  rfl
 ·obtain⟨x,p,dx,fs,rfl,bk,k⟩:=h;have nd:=CW.nd;refine⟨_,(aB (aP (aL tG hr (aj (iR (pv 0) rfl) aq)))),?_⟩;clear nd tG;rw[show start ["self"] [.ref x]=[some (.ref x)] from rfl]
  try dsimp only[cM,bO]
  obtain⟨hx,hp,h16,cj⟩:=id bk
  repeat k_meth
  exact⟨p,fs,rfl,hp,cj,k⟩
theorem tH(T:Txt K mg c R CH CF CT CN CB aG ak):Met P w K mg base CX0 4 CH "has" ["self","start","size"] (Jy CH):=by
 have mL:=mL (P:=P) (w:=w) (base:=base) T;have mQ:=mQ (P:=P) (w:=w) (base:=base) T;obtain⟨f,hf,hm⟩:=T.PK;refine(bR (k:=3) hf Jh (λvs H Q E h=>?_) (λ_ _ _ _ _ _=>el3 λ_ _ _=>rfl) (λf cdv A outer s H vs Q E hr h=>?_)).met hm
 ·obtain⟨x,p,dx,fs,a,b,rfl,_⟩:=h
  rfl
 ·obtain⟨x,p,dx,fs,a,b,rfl,bk,k⟩:=h;have nd:=Jh.nd;refine⟨_,(aB (aP (ju (aL mL hr (aj (bY (aj (pv 1) (aj (pv 2) aq))) aq)) (jt (aL mQ hr (aj (iR (pv 0) rfl) (aj (bY (aj (pv 1) (aj (pv 2) aq))) aq))))))),?_⟩;clear nd mL mQ;rw[show start ["self","start","size"] [.ref x,.int a,.int b]=[some (.ref x),some (.int a),some (.int b)] from rfl]
  try dsimp only[cM,bO]
  obtain⟨hx,hp,h16,cj⟩:=id bk
  repeat k_meth
  have k:∀H',Same H H'->Q (.bl (decide (1<=b) && (decide (a+b<=fs.length) && ((fs.drop a).take b).all id))) H':=k;rw[uA (show (0:Int)<=(a:Int) by lia),Bool.true_and];rename_i t H1 n1;refine lq (λh=>?_) (λh=>?_)
  ·repeat k_meth
   rename_i t2 H2 n2;refine⟨p,t2,fs,a,b,rfl,by k_tabat,cj,n2.e,λH3 s3=>?_⟩;rw[uA (show 1<=b by lia),Bool.true_and] at k;exact k H3 (by k_upd)
  ·rw[gX (show ¬ 1<=b by lia),Bool.false_and] at k;exact k H1 n1.s
end
open M22
section
variable{P:Program}{w:World}{K:W.Frag}{mg:xC}{base:Heap}{c:Nat->Addr}{aG ak R CH CF CT CN CB:Addr}
theorem eU(T:Txt K mg c R CH CF CT CN CB aG ak):Met P w K mg base CX0 5 CH "take" ["self","start","size"] (Ef CH):=by
 have tH:=tH (P:=P) (w:=w) (base:=base) T;obtain⟨f,hf,hm⟩:=T.Jo;refine(bR (k:=4) hf CZ (λvs H Q E h=>?_) (λ_ _ _ _ _ _=>el3 λ_ _ _=>rfl) (λf cdv A outer s H vs Q E hr h=>?_)).met hm
 ·obtain⟨x,p,dx,fs,a,b,rfl,_⟩:=h
  rfl
 ·obtain⟨x,p,dx,fs,a,b,rfl,bk,hh,k⟩:=h;have nd:=CZ.nd;refine⟨_,(aC (cB (cH (cG (gY (pv 0) T.clH tH hr (aj (pv 1) (aj (pv 2) aq))))) iI bK)
   (aB (gK PassesOwn.never rfl (JM rfl T.jo (aj (pv 1) (aj (bT dh (pv 1) (pv 2)) aq))) (bQ (i:=3) nd rfl (Or.inl rfl)) (aB (yZ fC (Et (iR (pv 0) rfl) (pv 3) qF)))))),?_⟩
  clear nd tH;rw[show start ["self","start","size","cell"] [.ref x,.int a,.int b]=[some (.ref x),some (.int a),some (.int b),none] from rfl]
  try dsimp only[cM,bO]
  obtain⟨hx,hp,h16,cj⟩:=id bk;have hb:1<=b/\a+b<=fs.length:=by
   have:=hh;simp only[hasB,ace,Bool.and_eq_true,decide_eq_true_eq] at this;exact⟨this.1,this.2.1⟩
  repeat k_meth
  refine Zj bk λH1 s1=>?_
  repeat k_meth
  refine abp hh ?_
  repeat k_meth
  refine Yr (m:=b) (by lia) ⟨by lia,by lia,by lia,by lia⟩ (R4 (λi σ' H'=>∃o3:Option V,σ'=[some (.ref x),some (.int a),some (.int b),o3]/\Kp p H H'/\H' p=some (.lst ((iY fs a i false).map V.bl))) ⟨none,rfl,by k_updF,by rw[Ku];k_tabat⟩ ?_ ?_)
  ·rintro i σ' H2 hi ⟨_,rfl,kp,e2⟩;have hx2:H2 x=some (.ins CH dx (hF fs.length p)):=kp _ _ (Yo hx hp) hx
   repeat k_meth
   refine Gj e2 (Yq (by lia) (by rw[wS,O7 (by lia)];lia)) λH3 f3 e3=>?_
   repeat k_meth
   refine⟨_,rfl,by k_updF,?_⟩;rw[e3];have:((a:Int)+(i:Int)).toNat=a+i:=by lia
   rw[this,vd,O8 (by rw[wS];lia),<- vd]
  ·rintro σ' H2 ⟨_,rfl,kp,e2⟩
   repeat k_meth
   exact k H2 kp e2
end
end K32
namespace K32
open PySem L2 PyProof.Rows
local macro_rules|`(tactic| k_room)=>`(tactic| first
 | with_reducible assumption
 | with_unfolding_all exact rfl
 | with_unfolding_all exact Nat.le_of_ble_eq_true rfl
 | lia
 | (with_reducible refine bW ?_;first|lia|(simp only[List.length_cons,List.length_nil,List.length_map,List.length_append,List.length_replicate,aJ,List.length_take,List.length_drop,List.length_set];lia))
 | (with_reducible refine lu ?_;first|lia|(simp only[List.length_cons,List.length_nil,List.length_map,List.length_append,List.length_replicate,aJ,List.length_take,List.length_drop,List.length_set];lia))
 | (simp only[List.length_cons,List.length_nil,List.length_map,List.length_append,List.length_replicate,aJ,List.length_take,List.length_drop,List.length_set];lia)
 | decide)
local macro_rules|`(tactic| k_mem)=>`(tactic| first
 | with_reducible assumption
 | decide
 | lia
 | (simp only[List.length_cons,List.length_nil,List.length_map,List.length_append,List.length_replicate,aJ,List.length_take,List.length_drop,List.length_set];lia))
set_option hygiene false in
local macro_rules|`(tactic| k_meth)=>`(tactic| first
 | with_reducible refine go1 ?_
 | (clear F;intro H_ a_ dx_ (F:SH _ _ _ _ _) (ex_:oJ _ _ _ _);have exA_:=ExA.mk ex_)
 | (clear F;intro H_ (F:SH _ _ _ _ _))
 | (clear F;intro H_ p_ (F:SH _ _ _ _ _))
 | (clear F;intro H_ x_ dx_ (F:SH _ _ _ _ _))
 | (clear F;intro H_ p_ ys_ l_ (F:SH _ _ _ _ _))
 | with_reducible refine sd (by k_room) ?_
 | (intro (r_:Int) (x_:Int) (y_:Int) (z_:Int) lo_ hi_)
 | (intro (x_:Int) (y_:Int))
 | (intro (c_:Int))
 | with_reducible refine Ca (by k_mem) ?_
 | with_reducible refine Cd (by k_mem) ?_
 | with_reducible refine uI (by k_mem) ?_
 | with_reducible refine A_ (by k_mem) ?_)
open M22
class Eh(fs:xI)(a b:Nat):Prop where
 e:hasB fs a b=true
class BkA(CH:Addr)(H:Hp)(x:Addr)(p dx:outParam Addr)(fs:outParam (List Bool)):Prop where
 e:Bk CH H x p dx fs
class Bks(fs:xI)(n:Nat):Prop where
 e:fs.length=n
 lo:16<=n
 hi:n<=240
def rF(b:Addr):Option Int->List (Str×V)
 | none=>fQ "book" (.ref b) []
 | some t=>fQ "turned" (.int t) (fQ "book" (.ref b) [])
theorem S8{b:Addr}{o:Option Int}:(rF b o).lookup ("book" : Str)=some (.ref b):=by
 cases o with
 | none=>unfold rF;rw[cA,if_pos rfl]
 | some t=>unfold rF;rw[cA,if_neg (by decide),cA,if_pos rfl]
theorem KC{b:Addr}{t:Int}:(rF b (some t)).lookup ("turned" : Str)=some (.int t):=by unfold rF;rw[cA,if_pos rfl]
theorem fV{b:Addr}{o:Option Int}{m:Str}(h1:m ≠ "turned")(h2:m ≠ "book"):(rF b o).lookup m=none:=by
 cases o with
 | none=>unfold rF;rw[cA,if_neg h2];rfl
 | some t=>unfold rF;rw[cA,if_neg h1,cA,if_neg h2];rfl
theorem WL{b:Addr}{t:Int}:fQ "turned" (.int t) (rF b none)=rF b (some t):=rfl
theorem Ba{b:Addr}:fQ "book" (.ref b) []=rF b none:=rfl
def Ru(C CH:Addr)(H:Hp)(y dy x p dx:Addr)(fs:xI)(o:Option Int):Prop:=H y=some (.ins C dy (rF x o))/\Bk CH H x p dx fs
class RuA(C CH:Addr)(H:Hp)(y:Addr)(dy x p dx:outParam Addr)(fs:outParam (List Bool))(o:outParam (Option Int)):Prop where
 e:Ru C CH H y dy x p dx fs o
def tK(C CH:Addr):Sp:=λvs H Q _=>∃(y dy x p dx:Addr)(fs:xI)(o:Option Int)(a b:Nat),vs=[.ref y,.int a,.int b]/\Ru C CH H y dy x p dx fs o/\hasB fs a b=true/\∀H',Kp p H H'->H' p=some (.lst ((iY fs a b false).map V.bl))->Q .non H'
def mU(C CH:Addr):Sp:=λvs H Q _=>∃(y dy x p dx:Addr)(fs:xI)(o:Option Int),vs=[.ref y]/\Ru C CH H y dy x p dx fs o/\∀(q:Addr)(ys:List V)(H':Hp),New H H' q (.lst ys)->aH H' ys (aD (ao fs))->Q (.ref q) H'
def jr(C CH:Addr):Sp:=λvs H Q _=>∃(y dy x p dx:Addr)(fs:xI)(o:Option Int),vs=[.ref y]/\Ru C CH H y dy x p dx fs o/\∀H',Same H H'->Q (.int (iz 0 (cX (ao fs)))) H'
def wg:Sp:=λvs H Q _=>∃(y:Addr),vs=[.ref y]/\Q (.int 0) H
def Ei(C CH:Addr):Sp:=λvs H Q _=>∃(y dy x p dx:Addr)(fs:xI)(t:Int),vs=[.ref y]/\Ru C CH H y dy x p dx fs (some t)/\Q (.int t) H
theorem KD{fs:xI}(h:fs.length<=240):∀w∈ao fs,w.2<=1000:=λw hw=>by
 obtain⟨a,b,c⟩:=sY hw
 lia
section
variable{C CH y dy x p dx q:Addr}{fs:xI}{t u n s:Int}{o:Option Int}{H:Hp}{Q:VK}{E:XK}{a b:Nat}{ys:List V}{ws:xD}
instance aaP:FNo (hF n p) "told":=⟨tE (by decide) (by decide)⟩
instance aaQ:FNo (hF n p) "take":=⟨tE (by decide) (by decide)⟩
instance Zk:FNo (rF x o) "holes":=⟨fV (by decide) (by decide)⟩
instance K4:FNo (rF x o) "largest_hole":=⟨fV (by decide) (by decide)⟩
instance acf:FNo (rF x o) "put":=⟨fV (by decide) (by decide)⟩
instance WM:FNo (rF x o) "used_by":=⟨fV (by decide) (by decide)⟩
instance aaR:FNo (rF x o) "look":=⟨fV (by decide) (by decide)⟩
instance aaS:FNo (rF x o) "mark":=⟨fV (by decide) (by decide)⟩
instance Zm:FNo (rF x o) "order":=⟨fV (by decide) (by decide)⟩
instance aaT:FLk (rF x o) "book" (.ref x):=⟨S8⟩
instance Xp:FLk (rF x (some t)) "turned" (.int t):=⟨KC⟩
instance acg{H0:Hp}{M:List Addr}{L L':List (Addr×HO)}{I:List Im}{l C dz:Addr}{gs:List (Str×V)}{R:Hp->Prop}[F:SH H0 M H L I][u:LkU L l (.ins C dz gs) L']:Go (∀H',Kp l H H'->H' l=some (.ins C dz gs)->R H') (∀H',SH H0 M H' L' I->R H'):=⟨λk H' f e=>k H' (F.kp f e u.u rfl)⟩
instance bkA{n:Nat}[h:Hat H x (.ins CH dx (hF n p))][h2:Hat H p (.lst (fs.map V.bl))][s:Bks fs n]:BkA CH H x p dx fs:=⟨by rw[s.e];exact h.e,h2.e,by rw[s.e];exact s.lo,by rw[s.e];exact s.hi⟩
instance ruA[h:Hat H y (.ins C dy (rF x o))][h2:BkA CH H x p dx fs]:RuA C CH H y dy x p dx fs o:=⟨h.e,h2.e⟩
instance aaU[h:BkA CH H x p dx fs]:Go (Ed CH [.ref x] H Q E) (∀(q:Addr)(ys:List V)(H':Hp),New H H' q (.lst ys)->aH H' ys (aD (ao fs))->Q (.ref q) H'):=⟨λk=>⟨x,p,dx,fs,rfl,h.e,k⟩⟩
instance aaV[h:BkA CH H x p dx fs][c:Eh fs a b]:Go (Ef CH [.ref x,.int (a:Nat),.int (b:Nat)] H Q E) (∀H',Kp p H H'->H' p=some (.lst ((iY fs a b false).map V.bl))->Q .non H'):=⟨λk=>⟨x,p,dx,fs,a,b,rfl,h.e,c.e,k⟩⟩
instance Zn[h:RuA C CH H y dy x p dx fs o][c:Eh fs a b]:Go (tK C CH [.ref y,.int (a:Nat),.int (b:Nat)] H Q E) (∀H',Kp p H H'->H' p=some (.lst ((iY fs a b false).map V.bl))->Q .non H'):=⟨λk=>⟨y,dy,x,p,dx,fs,o,a,b,rfl,h.e,c.e,k⟩⟩
instance Xq[h:RuA C CH H y dy x p dx fs o]:Go (mU C CH [.ref y] H Q E) (∀(q:Addr)(ys:List V)(H':Hp),New H H' q (.lst ys)->aH H' ys (aD (ao fs))->Q (.ref q) H'):=⟨λk=>⟨y,dy,x,p,dx,fs,o,rfl,h.e,k⟩⟩
instance Ul[h:RuA C CH H y dy x p dx fs o]:Go (jr C CH [.ref y] H Q E) (∀H',Same H H'->Q (.int (iz 0 (cX (ao fs)))) H'):=⟨λk=>⟨y,dy,x,p,dx,fs,o,rfl,h.e,k⟩⟩
instance Zo:Go (wg [.ref y] H Q E) (Q (.int 0) H):=⟨λk=>⟨y,rfl,k⟩⟩
instance Zq[h:RuA C CH H y dy x p dx fs (some t)]:Go (Ei C CH [.ref y] H Q E) (Q (.int t) H):=⟨λk=>⟨y,dy,x,p,dx,fs,t,rfl,h.e,k⟩⟩
instance Um[h:Hat H q (.lst ys)][t:TpA H ys (aD ws)]:Go (uU [.ref q] H Q E) (Sd (ws.length<=1000) (∀H',Same H H'->Q (.int (iz 0 (cX ws))) H')):=⟨λs=>⟨q,ys,ws,rfl,h.e,t.e,s.1,s.2⟩⟩
end
section
variable{P:Program}{w:World}{K:W.Frag}{mg:xC}{base:Heap}{c:Nat->Addr}{aG ak R CH CF CT CN CB:Addr}
theorem zsix(T:Txt K mg c R CH CF CT CN CB aG ak):au K CH "many"/\au K CH "free"/\au K CF "book"/\au K CT "book"/\au K CN "book"/\au K CN "turned":=⟨⟨T.clH,T.aW⟩,⟨T.clH,T.aX⟩,⟨T.clF,T.aY⟩,⟨T.clT,T.aZ⟩,⟨T.clN,T.bf⟩,⟨T.clN,T.aM⟩⟩
theorem pK(T:Txt K mg c R CH CF CT CN CB aG ak):Met P w K mg base CX0 6 CF "put" ["self","start","size"] (tK CF CH):=by
 have eU:=eU (P:=P) (w:=w) (base:=base) T;obtain⟨f,hf,hm⟩:=T.Jp;refine(bR (k:=5) hf C_ (λvs H Q E h=>?_) (λ_ _ _ _ _ _=>el3 λ_ _ _=>rfl) (λf cdv A outer s H vs Q E hr h=>?_)).met hm
 ·obtain⟨y,dy,x,p,dx,fs,o,a,b,rfl,_⟩:=h
  rfl
 ·obtain⟨y,dy,x,p,dx,fs,o,a,b,rfl,nx,hb,k⟩:=h;have nd:=C_.nd;refine⟨_,(aB (cV (gY (iR (pv 0) rfl) T.clH eU hr (aj (pv 1) (aj (pv 2) aq))))),?_⟩;clear nd eU;rw[show start ["self","start","size"] [.ref y,.int a,.int b]=[some (.ref y),some (.int a),some (.int b)] from rfl]
  try dsimp only[cM,bO]
  obtain⟨hy,bk⟩:=nx;obtain⟨hx,hp,h16,cj⟩:=id bk;have bks:Bks fs fs.length:=⟨rfl,h16,cj⟩;obtain⟨bA,bB,bC,bD,bF,aO⟩:=zsix T;have nxp:x≠p:=λz=>by rw[z,hp] at hx;cases hx
  have nyp:y≠p:=λz=>by rw[z,hp] at hy;cases hy
  have F:SH H [p] H [(p,.lst (fs.map V.bl))] []:=SH.nil.iV List.mem_cons_self hp rfl (by simp);have jA:=Old.mk (M:=[p]) hx (nm1 nxp);have jB:=Old.mk (M:=[p]) hy (nm1 nyp);have ht:Eh fs a b:=⟨hb⟩
  repeat k_meth
  exact k _ F.kpo bN
theorem cP(T:Txt K mg c R CH CF CT CN CB aG ak):Met P w K mg base CX0 3 CF "holes" ["self"] (mU CF CH):=by
 have eO:=eO (P:=P) (w:=w) (base:=base) T;obtain⟨f,hf,hm⟩:=T.yJ;refine(bR (k:=2) hf vM (λvs H Q E h=>?_) (λ_ _ _ _ _ _=>el1 λ_=>rfl) (λf cdv A outer s H vs Q E hr h=>?_)).met hm
 ·obtain⟨y,dy,x,p,dx,fs,o,rfl,_⟩:=h
  rfl
 ·obtain⟨y,dy,x,p,dx,fs,o,rfl,nx,k⟩:=h;have nd:=vM.nd;refine⟨_,(aB (aP (b_ (iR (pv 0) rfl) T.clH eO hr))),?_⟩;clear nd eO;rw[show start ["self"] [.ref y]=[some (.ref y)] from rfl]
  try dsimp only[cM,bO]
  obtain⟨hy,bk⟩:=nx;obtain⟨hx,hp,h16,cj⟩:=id bk;have bks:Bks fs fs.length:=⟨rfl,h16,cj⟩;obtain⟨bA,bB,bC,bD,bF,aO⟩:=zsix T;have jA:=Old.mk (M:=[]) hx nm0;have kh:=Old.mk (M:=[]) hp nm0;have jB:=Old.mk (M:=[]) hy nm0;have F:SH H [] H [] []:=SH.nil
  repeat k_meth
  exact k _ _ _ SH.nwC TpA.e
theorem eZ(T:Txt K mg c R CH CF CT CN CB aG ak):Met P w K mg base CX0 4 CF "largest_hole" ["self"] (jr CF CH):=by
 have dJ:=dJ (P:=P) (w:=w) (base:=base) T;have cP:=cP (P:=P) (w:=w) (base:=base) T;obtain⟨f,hf,hm⟩:=T.jG;refine(bR (k:=3) hf jj (λvs H Q E h=>?_) (λ_ _ _ _ _ _=>el1 λ_=>rfl) (λf cdv A outer s H vs Q E hr h=>?_)).met hm
 ·obtain⟨y,dy,x,p,dx,fs,o,rfl,_⟩:=h
  rfl
 ·obtain⟨y,dy,x,p,dx,fs,o,rfl,nx,k⟩:=h;have nd:=jj.nd;refine⟨_,(aB (aP (aL dJ hr (aj (b_ (pv 0) T.clF cP hr) aq)))),?_⟩;clear nd dJ cP;rw[show start ["self"] [.ref y]=[some (.ref y)] from rfl]
  try dsimp only[cM,bO]
  obtain⟨hy,bk⟩:=nx;obtain⟨hx,hp,h16,cj⟩:=id bk;have bks:Bks fs fs.length:=⟨rfl,h16,cj⟩;obtain⟨bA,bB,bC,bD,bF,aO⟩:=zsix T;have jA:=Old.mk (M:=[]) hx nm0;have kh:=Old.mk (M:=[]) hp nm0;have jB:=Old.mk (M:=[]) hy nm0;have F:SH H [] H [] []:=SH.nil;have few:=q_ (fs:=fs)
  repeat k_meth
  exact k _ F.sm
theorem mV(T:Txt K mg c R CH CF CT CN CB aG ak):Met P w K mg base CX0 1 CF "mark" ["self"] wg:=by
 obtain⟨f,hf,hm⟩:=T.DG;refine(bR (k:=0) hf yq (λvs H Q E h=>?_) (λ_ _ _ _ _ _=>el1 λ_=>rfl) (λf cdv A outer s H vs Q E hr h=>?_)).met hm
 ·obtain⟨y,rfl,_⟩:=h
  rfl
 ·obtain⟨y,rfl,k⟩:=h;have nd:=yq.nd;refine⟨_,(aB (aP aA)),?_⟩;clear nd ;rw[show start ["self"] [.ref y]=[some (.ref y)] from rfl]
  try dsimp only[cM,bO]
  obtain⟨bA,bB,bC,bD,bF,aO⟩:=zsix T;have F:SH H [] H [] []:=SH.nil
  repeat k_meth
  exact k
theorem pL(T:Txt K mg c R CH CF CT CN CB aG ak):Met P w K mg base CX0 6 CT "put" ["self","start","size"] (tK CT CH):=by
 have eU:=eU (P:=P) (w:=w) (base:=base) T;obtain⟨f,hf,hm⟩:=T.Jq;refine(bR (k:=5) hf Dc (λvs H Q E h=>?_) (λ_ _ _ _ _ _=>el3 λ_ _ _=>rfl) (λf cdv A outer s H vs Q E hr h=>?_)).met hm
 ·obtain⟨y,dy,x,p,dx,fs,o,a,b,rfl,_⟩:=h
  rfl
 ·obtain⟨y,dy,x,p,dx,fs,o,a,b,rfl,nx,hb,k⟩:=h;have nd:=Dc.nd;refine⟨_,(aB (cV (gY (iR (pv 0) rfl) T.clH eU hr (aj (pv 1) (aj (pv 2) aq))))),?_⟩;clear nd eU;rw[show start ["self","start","size"] [.ref y,.int a,.int b]=[some (.ref y),some (.int a),some (.int b)] from rfl]
  try dsimp only[cM,bO]
  obtain⟨hy,bk⟩:=nx;obtain⟨hx,hp,h16,cj⟩:=id bk;have bks:Bks fs fs.length:=⟨rfl,h16,cj⟩;obtain⟨bA,bB,bC,bD,bF,aO⟩:=zsix T;have nxp:x≠p:=λz=>by rw[z,hp] at hx;cases hx
  have nyp:y≠p:=λz=>by rw[z,hp] at hy;cases hy
  have F:SH H [p] H [(p,.lst (fs.map V.bl))] []:=SH.nil.iV List.mem_cons_self hp rfl (by simp);have jA:=Old.mk (M:=[p]) hx (nm1 nxp);have jB:=Old.mk (M:=[p]) hy (nm1 nyp);have ht:Eh fs a b:=⟨hb⟩
  repeat k_meth
  exact k _ F.kpo bN
theorem cQ(T:Txt K mg c R CH CF CT CN CB aG ak):Met P w K mg base CX0 3 CT "holes" ["self"] (mU CT CH):=by
 have eO:=eO (P:=P) (w:=w) (base:=base) T;obtain⟨f,hf,hm⟩:=T.yK;refine(bR (k:=2) hf vO (λvs H Q E h=>?_) (λ_ _ _ _ _ _=>el1 λ_=>rfl) (λf cdv A outer s H vs Q E hr h=>?_)).met hm
 ·obtain⟨y,dy,x,p,dx,fs,o,rfl,_⟩:=h
  rfl
 ·obtain⟨y,dy,x,p,dx,fs,o,rfl,nx,k⟩:=h;have nd:=vO.nd;refine⟨_,(aB (aP (b_ (iR (pv 0) rfl) T.clH eO hr))),?_⟩;clear nd eO;rw[show start ["self"] [.ref y]=[some (.ref y)] from rfl]
  try dsimp only[cM,bO]
  obtain⟨hy,bk⟩:=nx;obtain⟨hx,hp,h16,cj⟩:=id bk;have bks:Bks fs fs.length:=⟨rfl,h16,cj⟩;obtain⟨bA,bB,bC,bD,bF,aO⟩:=zsix T;have jA:=Old.mk (M:=[]) hx nm0;have kh:=Old.mk (M:=[]) hp nm0;have jB:=Old.mk (M:=[]) hy nm0;have F:SH H [] H [] []:=SH.nil
  repeat k_meth
  exact k _ _ _ SH.nwC TpA.e
theorem fj(T:Txt K mg c R CH CF CT CN CB aG ak):Met P w K mg base CX0 4 CT "largest_hole" ["self"] (jr CT CH):=by
 have dJ:=dJ (P:=P) (w:=w) (base:=base) T;have cQ:=cQ (P:=P) (w:=w) (base:=base) T;obtain⟨f,hf,hm⟩:=T.jH;refine(bR (k:=3) hf jk (λvs H Q E h=>?_) (λ_ _ _ _ _ _=>el1 λ_=>rfl) (λf cdv A outer s H vs Q E hr h=>?_)).met hm
 ·obtain⟨y,dy,x,p,dx,fs,o,rfl,_⟩:=h
  rfl
 ·obtain⟨y,dy,x,p,dx,fs,o,rfl,nx,k⟩:=h;have nd:=jk.nd;refine⟨_,(aB (aP (aL dJ hr (aj (b_ (pv 0) T.clT cQ hr) aq)))),?_⟩;clear nd dJ cQ;rw[show start ["self"] [.ref y]=[some (.ref y)] from rfl]
  try dsimp only[cM,bO]
  obtain⟨hy,bk⟩:=nx;obtain⟨hx,hp,h16,cj⟩:=id bk;have bks:Bks fs fs.length:=⟨rfl,h16,cj⟩;obtain⟨bA,bB,bC,bD,bF,aO⟩:=zsix T;have jA:=Old.mk (M:=[]) hx nm0;have kh:=Old.mk (M:=[]) hp nm0;have jB:=Old.mk (M:=[]) hy nm0;have F:SH H [] H [] []:=SH.nil;have few:=q_ (fs:=fs)
  repeat k_meth
  exact k _ F.sm
theorem mW(T:Txt K mg c R CH CF CT CN CB aG ak):Met P w K mg base CX0 1 CT "mark" ["self"] wg:=by
 obtain⟨f,hf,hm⟩:=T.DK;refine(bR (k:=0) hf yr (λvs H Q E h=>?_) (λ_ _ _ _ _ _=>el1 λ_=>rfl) (λf cdv A outer s H vs Q E hr h=>?_)).met hm
 ·obtain⟨y,rfl,_⟩:=h
  rfl
 ·obtain⟨y,rfl,k⟩:=h;have nd:=yr.nd;refine⟨_,(aB (aP aA)),?_⟩;clear nd ;rw[show start ["self"] [.ref y]=[some (.ref y)] from rfl]
  try dsimp only[cM,bO]
  obtain⟨bA,bB,bC,bD,bF,aO⟩:=zsix T;have F:SH H [] H [] []:=SH.nil
  repeat k_meth
  exact k
theorem pN(T:Txt K mg c R CH CF CT CN CB aG ak):Met P w K mg base CX0 6 CN "put" ["self","start","size"] (tK CN CH):=by
 have eU:=eU (P:=P) (w:=w) (base:=base) T;obtain⟨f,hf,hm⟩:=T.Jr;refine(bR (k:=5) hf Dd (λvs H Q E h=>?_) (λ_ _ _ _ _ _=>el3 λ_ _ _=>rfl) (λf cdv A outer s H vs Q E hr h=>?_)).met hm
 ·obtain⟨y,dy,x,p,dx,fs,o,a,b,rfl,_⟩:=h
  rfl
 ·obtain⟨y,dy,x,p,dx,fs,o,a,b,rfl,nx,hb,k⟩:=h;have nd:=Dd.nd;refine⟨_,(aB (cV (gY (iR (pv 0) rfl) T.clH eU hr (aj (pv 1) (aj (pv 2) aq))))),?_⟩;clear nd eU;rw[show start ["self","start","size"] [.ref y,.int a,.int b]=[some (.ref y),some (.int a),some (.int b)] from rfl]
  try dsimp only[cM,bO]
  obtain⟨hy,bk⟩:=nx;obtain⟨hx,hp,h16,cj⟩:=id bk;have bks:Bks fs fs.length:=⟨rfl,h16,cj⟩;obtain⟨bA,bB,bC,bD,bF,aO⟩:=zsix T;have nxp:x≠p:=λz=>by rw[z,hp] at hx;cases hx
  have nyp:y≠p:=λz=>by rw[z,hp] at hy;cases hy
  have F:SH H [p] H [(p,.lst (fs.map V.bl))] []:=SH.nil.iV List.mem_cons_self hp rfl (by simp);have jA:=Old.mk (M:=[p]) hx (nm1 nxp);have jB:=Old.mk (M:=[p]) hy (nm1 nyp);have ht:Eh fs a b:=⟨hb⟩
  repeat k_meth
  exact k _ F.kpo bN
theorem cR(T:Txt K mg c R CH CF CT CN CB aG ak):Met P w K mg base CX0 3 CN "holes" ["self"] (mU CN CH):=by
 have eO:=eO (P:=P) (w:=w) (base:=base) T;obtain⟨f,hf,hm⟩:=T.yL;refine(bR (k:=2) hf vQ (λvs H Q E h=>?_) (λ_ _ _ _ _ _=>el1 λ_=>rfl) (λf cdv A outer s H vs Q E hr h=>?_)).met hm
 ·obtain⟨y,dy,x,p,dx,fs,o,rfl,_⟩:=h
  rfl
 ·obtain⟨y,dy,x,p,dx,fs,o,rfl,nx,k⟩:=h;have nd:=vQ.nd;refine⟨_,(aB (aP (b_ (iR (pv 0) rfl) T.clH eO hr))),?_⟩;clear nd eO;rw[show start ["self"] [.ref y]=[some (.ref y)] from rfl]
  try dsimp only[cM,bO]
  obtain⟨hy,bk⟩:=nx;obtain⟨hx,hp,h16,cj⟩:=id bk;have bks:Bks fs fs.length:=⟨rfl,h16,cj⟩;obtain⟨bA,bB,bC,bD,bF,aO⟩:=zsix T;have jA:=Old.mk (M:=[]) hx nm0;have kh:=Old.mk (M:=[]) hp nm0;have jB:=Old.mk (M:=[]) hy nm0;have F:SH H [] H [] []:=SH.nil
  repeat k_meth
  exact k _ _ _ SH.nwC TpA.e
theorem fu(T:Txt K mg c R CH CF CT CN CB aG ak):Met P w K mg base CX0 4 CN "largest_hole" ["self"] (jr CN CH):=by
 have dJ:=dJ (P:=P) (w:=w) (base:=base) T;have cR:=cR (P:=P) (w:=w) (base:=base) T;obtain⟨f,hf,hm⟩:=T.jJ;refine(bR (k:=3) hf jm (λvs H Q E h=>?_) (λ_ _ _ _ _ _=>el1 λ_=>rfl) (λf cdv A outer s H vs Q E hr h=>?_)).met hm
 ·obtain⟨y,dy,x,p,dx,fs,o,rfl,_⟩:=h
  rfl
 ·obtain⟨y,dy,x,p,dx,fs,o,rfl,nx,k⟩:=h;have nd:=jm.nd;refine⟨_,(aB (aP (aL dJ hr (aj (b_ (pv 0) T.clN cR hr) aq)))),?_⟩;clear nd dJ cR;rw[show start ["self"] [.ref y]=[some (.ref y)] from rfl]
  try dsimp only[cM,bO]
  obtain⟨hy,bk⟩:=nx;obtain⟨hx,hp,h16,cj⟩:=id bk;have bks:Bks fs fs.length:=⟨rfl,h16,cj⟩;obtain⟨bA,bB,bC,bD,bF,aO⟩:=zsix T;have jA:=Old.mk (M:=[]) hx nm0;have kh:=Old.mk (M:=[]) hp nm0;have jB:=Old.mk (M:=[]) hy nm0;have F:SH H [] H [] []:=SH.nil;have few:=q_ (fs:=fs)
  repeat k_meth
  exact k _ F.sm
theorem pO(T:Txt K mg c R CH CF CT CN CB aG ak):Met P w K mg base CX0 1 CN "mark" ["self"] (Ei CN CH):=by
 obtain⟨f,hf,hm⟩:=T.Jv;refine(bR (k:=0) hf Di (λvs H Q E h=>?_) (λ_ _ _ _ _ _=>el1 λ_=>rfl) (λf cdv A outer s H vs Q E hr h=>?_)).met hm
 ·obtain⟨y,dy,x,p,dx,fs,t,rfl,_⟩:=h
  rfl
 ·obtain⟨y,dy,x,p,dx,fs,t,rfl,nx,k⟩:=h;have nd:=Di.nd;refine⟨_,(aB (aP (iR (pv 0) rfl))),?_⟩;clear nd ;rw[show start ["self"] [.ref y]=[some (.ref y)] from rfl]
  try dsimp only[cM,bO]
  obtain⟨hy,bk⟩:=nx;obtain⟨hx,hp,h16,cj⟩:=id bk;have bks:Bks fs fs.length:=⟨rfl,h16,cj⟩;obtain⟨bA,bB,bC,bD,bF,aO⟩:=zsix T;have jA:=Old.mk (M:=[]) hx nm0;have kh:=Old.mk (M:=[]) hp nm0;have jB:=Old.mk (M:=[]) hy nm0;have F:SH H [] H [] []:=SH.nil
  repeat k_meth
  exact k
end
open M22
theorem nZ{K:W.Frag}{l:Addr}{xs:List V}{rows:List (List V)}{σ fvs:L2.St}{fr:List Nat}{c:TT}{te:TE}{H:Hp}{Q:VK}{P:List V->Bool}(hq:H l=some (.lst xs))(tp:aH H xs rows)(hz:xs.length<=1000000)(hf:(fr.map λi=>(σ[i]?).getD none)=fvs)
  (G:Nat->List V->Hp->Prop) (st:∀i ys H1 H2,(∀q u,H1 q=some (.tup u)->H2 q=some (.tup u))->G i ys H1->G i ys H2) (g0:G 0 [] H)
  (Zr:∀(i:Nat) (q:Addr) r (H':Hp) (R:Bool->Hp->Prop),rows[i]?=some r->Same H H'->H' q=some (.tup r)->(∀H2,Same H' H2->R (P r) H2)->c (some (.ref q)::fvs) H' R)
  (Zt:∀(i:Nat) (q:Addr) r ys (H':Hp) (R:VK),rows[i]?=some r->P r=true->Same H H'->H' q=some (.tup r)->G i ys H'->(∀y H2,Same H' H2->G (i+1) (ys++[y]) H2->R y H2)->te (some (.ref q)::fvs) H' R)
  (skip:∀(i:Nat) r ys (H':Hp),rows[i]?=some r->P r=false->G i ys H'->G (i+1) ys H')
  (k:∀p ys H',New H H' p (.lst ys)->G xs.length ys H'->Q (.ref p) H'):gh (Itl K l) 1 fr (bL 0) c te σ H Q:=by
 intro acc hacc;subst hf;have Ce:∀b u,H b=some u->b≠acc:=λb u e=>aN e hacc
 have n0:New H (upd H acc (.lst [])) acc (.lst []):=.mk' hacc;refine zx (jP (xs:=xs)) (λi ys H'=>H' acc=some (.lst ys)/\Same H H'/\ys.length<=i/\G i ys H') ⟨n0.e,n0.s,uS _,st _ _ _ _ (λq u e=>n0.s _ _ e) g0⟩ (λi ys H' _ h=>⟨h.2.1.seq (SqL.of hq),h.1⟩) ?_ ?_
 ·rintro i x tv ys H' hx hi ⟨ha,hs,hl,hg⟩ htv;obtain⟨t0,rfl⟩:∃a,tv=[a]:=List.length_eq_one_iff.mp htv;obtain⟨r,q,e1,rfl,e2⟩:=gj tp hx;refine wn0 ?_;refine Zr i q r H' _ e1 hs (hs _ _ e2) λH2 s2=>?_
  have g2:=st _ _ _ _ (λq u e=>s2 _ _ e) hg;have ha2:H2 acc=some (.lst ys):=s2 _ _ ha;by_cases hp:P r=true
  ·rw[hp,yB rfl];refine Zt i q r ys H2 _ e1 hp (hs.trans s2) (s2 _ _ (hs _ _ e2)) g2 λy H3 s3 g3=>⟨Nat.lt_of_le_of_lt hl (qS hi (bW hz)),s3 _ _ ha2,oE.next (tv:=[some (.ref q)]) hi ⟨bG,λb u e=>?_,by rw[yY,List.length_singleton];lia,st _ _ _ _ (λq' u e=>?_) g3⟩ rfl⟩
   ·rw[aR (Ce b u e)];exact s3 _ _ (s2 _ _ (hs _ _ e))
   ·have e3:H3 acc=some (.lst ys):=s3 _ _ ha2;rw[aR (λz=>by rw[z,e3] at e;cases e)];exact e
  ·have hp:P r=false:=by simpa using hp
   rw[hp,yT (by decide)];exact oE.next (tv:=[some (.ref q)]) hi ⟨ha2,hs.trans s2,by lia,skip i r ys H2 e1 hp g2⟩ rfl
 ·rintro ys H' ⟨ha,hs,_,hg⟩;exact k acc ys H' ⟨hs,ha,Ce⟩ hg
theorem gG{rows:List (List V)}{i:Nat}{r:List V}(h:rows[i]?=some r):rows.take (i+1)=rows.take i++[r]:=by rw[gI,h];rfl
theorem tL{H1 H2:Hp}{ys:List V}{rows:List (List V)}(s:∀q u,H1 q=some (.tup u)->H2 q=some (.tup u))(t:aH H1 ys rows):aH H2 ys rows:=⟨t.1,λj r e=>let ⟨q,a,b⟩:=t.2 j r e;⟨q,a,s _ _ b⟩⟩
def geV(t:Int)(r:List V):Bool:=match r with
 | [.int s,_]=>decide (t<=s)
 | _=>false
def ltV(t:Int)(r:List V):Bool:=match r with
 | [.int s,_]=>decide (s<t)
 | _=>false
def h_(ws:xD)(t:Int):List (Nat×Nat):=ws.filter (λw=>decide (t<=(w.1:Int)))++ws.filter (λw=>decide ((w.1:Int)<t))
theorem Jz(ws:xD)(t:Int):(aD ws).filter (geV t)=aD (ws.filter λw=>decide (t<=(w.1:Int))):=by
 unfold aD;rw[List.filter_map]
 rfl
theorem JB(ws:xD)(t:Int):(aD ws).filter (ltV t)=aD (ws.filter λw=>decide ((w.1:Int)<t)):=by
 unfold aD;rw[List.filter_map]
 rfl
theorem KH(ws:xD)(t:Int):(h_ ws t).length<=2*ws.length:=by
 have h1:=List.length_filter_le (λw:Nat×Nat=>decide (t<=(w.1:Int))) ws;have h2:=List.length_filter_le (λw:Nat×Nat=>decide ((w.1:Int)<t)) ws;unfold h_;rw[yY]
 lia
theorem Ej{H:Hp}{xs ys:List V}{a b:List (List V)}(h:aH H xs a)(g:aH H ys b):aH H (xs++ys) (a++b):=by
 refine⟨by rw[yY,yY,h.1,g.1],λj r e=>?_⟩;by_cases hj:j<a.length
 ·rw[wP hj] at e;obtain⟨q,e1,e2⟩:=h.2 j r e;exact⟨q,by rw[wP (by rw[h.1];exact hj)];exact e1,e2⟩
 ·rw[nK (by lia)] at e;obtain⟨q,e1,e2⟩:=g.2 _ r e;exact⟨q,by rw[nK (by rw[h.1];lia),h.1];exact e1,e2⟩
theorem yM(a b:xD):aD (a++b)=aD a++aD b:=by unfold aD;rw[List.map_append]
theorem lO{α:Type}{p:α->Bool}:∀{ws:List α} {i:Nat} {w:α},ws[i]?=some w->p w=true->(∀z∈ws.take i,p z=false)->ws.find? p=some w
 | [],i,w,e,_,_=>by simp at e
 | a::t,0,w,e,h,_=>by
  simp at e;subst e;rw[List.find?_cons,h]
 | a::t,i+1,w,e,h,hn=>by
  have ha:p a=false:=hn a (by simp);rw[List.find?_cons,ha];exact lO (ws:=t) (i:=i) (by simpa using e) h λz hz=>hn z (by simp[hz])
def wM(ws:xD):Prop:=ws.Pairwise λa b=>a.1<b.1
class lQ(ws:xD)(s:Int)(w:outParam (Nat×Nat)):Prop where
 e:ws.find? (λw=>decide (s<=(w.2:Int)))=some w
class lR(ws:xD)(s:Int):Prop where
 e:ws.find? (λw=>decide (s<=(w.2:Int)))=none
def wj:Sp:=λvs H Q _=>∃(l:Addr)(ys:List V)(ws:xD),vs=[.ref l]/\H l=some (.lst ys)/\aH H ys (aD ws)/\(ws.length<=1000/\wM ws/\∀w∈ws,w.2<1000000)/\∀q H',New H H' q (.lst ys)->Q (.ref q) H'
def rY:Sp:=λvs H Q _=>∃(l:Addr)(t:Int)(ys:List V)(ws:xD),vs=[.ref l,.int t]/\H l=some (.lst ys)/\aH H ys (aD ws)/\(ws.length<=1000/\wM ws/\∀w∈ws,w.2<1000000)/\∀q zs H',New H H' q (.lst zs)->aH H' zs (aD (h_ ws t))->Q (.ref q) H'
section
variable{p q l:Addr}{t s:Int}{H:Hp}{Q:VK}{E:XK}{ys:List V}{ws:xD}{w:Nat×Nat}
instance WQ[h:Hat H l (.lst ys)][t:TpA H ys (aD ws)]:Go (wj [.ref l] H Q E) (Sd (ws.length<=1000/\wM ws/\∀w∈ws,w.2<1000000) (∀q H',New H H' q (.lst ys)->Q (.ref q) H')):=⟨λk=>⟨l,ys,ws,rfl,h.e,t.e,k.1,k.2⟩⟩
instance Uo[h:Hat H l (.lst ys)][tt:TpA H ys (aD ws)]:Go (rY [.ref l,.int t] H Q E) (Sd (ws.length<=1000/\wM ws/\∀w∈ws,w.2<1000000) (∀q zs H',New H H' q (.lst zs)->aH H' zs (aD (h_ ws t))->Q (.ref q) H')):=⟨λk=>⟨l,t,ys,ws,rfl,h.e,tt.e,k.1,k.2⟩⟩
instance Zu{H0:Hp}{M:List Addr}{L:List (Addr×HO)}{I:List Im}{xs:List V}{Z:Addr->Hp->Prop}[F:SH H0 M H L I]:Go (∀tq H',Same H H'->H' tq=some (.tup xs)->Z tq H') (∀H' p,SH H0 M H' L (.tup p xs::I)->Z p H'):=⟨λk p H' s e=>k H' p ((F.same s).sE e)⟩
end
theorem iM(fs:xI):wM (ao fs):=(CK fs).imp λh=>by lia
abbrev bU:Pos:=⟨100,29,100,60⟩
abbrev bH:Str := "by_size.<locals>.<lambda>"
def yN(P:Addr)(pos:Pos)(qual:Str):Sp:=λvs H Q _=>∃(l:Addr)(ys:List V)(ws:xD)(ps:xL),vs=[.ref l]/\H l=some (.lst ys)/\aH H ys (aD ws)/\(ws.length<=1000/\ws.Nodup/\∀w∈ws,w.1<1000000)/\H P=some (.tbl ps)/\TabOk pos qual ps H/\∀qs:List (Nat×Nat),qs.Perm ws/\lD qs->∀ps' H1,Kp P H H1->H1 P=some (.tbl ps')->TabOk pos qual ps' H1->∀D zs H2,New H1 H2 D (.lst zs)->aH H2 zs (aD qs)->Q (.ref D) H2
theorem two_tab{H H':Hp}{P D:Addr}{pos:Pos}{qual:Str}{ps ps':xL}{zs:List V}{R:Hp->Prop}(hP:H P=some (.tbl ps))(fr:∀b u,b≠P->H b=some u->H' b=some u)(eP:H' P=some (.tbl ps'))(tk:TabOk pos qual ps' H')(eD:H' D=some (.lst zs))(fd:∀b u,H b=some u->b≠D)(k:∀H1,Kp P H H1->H1 P=some (.tbl ps')->TabOk pos qual ps' H1->∀H2,New H1 H2 D (.lst zs)->H2=H'->R H2):R H':=by
 let H1:Hp:=λb=>if b=D then none else H' b
 have h1D:H1 D=none:=yB rfl;have h1n:∀{b:Addr},b≠D->H1 b=H' b:=λn=>yT n
 refine k H1 (λb u nb e=>?_) (by rw[h1n (fd P _ hP)];exact eP) ?_ H' ⟨λb u e=>?_,eD,λb u e z=>?_⟩ rfl
 ·rw[h1n (fd b u e)];exact fr b u nb e
 ·rcases tk with h|⟨c',oc,vs,t,e,e1,e2⟩
  ·exact .inl h
  ·refine .inr ⟨c',oc,vs,t,e,?_,e2⟩;rw[h1n (λz=>by rw[z,eD] at e1;cases e1)];exact e1
 ·by_cases hb:b=D
  ·rw[hb,h1D] at e;cases e
  ·rw[h1n hb] at e;exact e
 ·rw[z,h1D] at e;cases e
theorem gA(fs:xI):(ao fs).Nodup:=(iM fs).imp λh z=>by
 rw[z] at h
 lia
theorem gB{fs:xI}(h:fs.length<=240):∀w∈ao fs,w.1<1000000:=λw hw=>by
 obtain⟨a,b,c⟩:=sY hw
 lia
theorem pP{fs:xI}(h:fs.length<=240):∀w∈ao fs,w.2<1000000:=λw hw=>by
 have:=KD h w hw
 lia
def yO(C CH:Addr):Sp:=λvs H Q _=>∃(y dy x p dx:Addr)(fs:xI)(o:Option Int),vs=[.ref y]/\Ru C CH H y dy x p dx fs o/\(ao fs).length<=1000/\∀q zs H',New H H' q (.lst zs)->aH H' zs (aD (ao fs))->Q (.ref q) H'
def yP(C CH:Addr):Sp:=λvs H Q _=>∃(y dy x p dx:Addr)(fs:xI)(t:Int),vs=[.ref y]/\Ru C CH H y dy x p dx fs (some t)/\(ao fs).length<=1000/\∀q zs H',New H H' q (.lst zs)->aH H' zs (aD (h_ (ao fs) t))->Q (.ref q) H'
def yQ(C CH P:Addr)(pos:Pos)(qual:Str):Sp:=λvs H Q _=>∃(y dy x p dx:Addr)(fs:xI)(o:Option Int)(ps:xL),vs=[.ref y]/\Ru C CH H y dy x p dx fs o/\(ao fs).length<=1000/\H P=some (.tbl ps)/\TabOk pos qual ps H/\∀qs:List (Nat×Nat),qs.Perm (ao fs)/\lD qs->∀ps' H1,Kp P H H1->H1 P=some (.tbl ps')->TabOk pos qual ps' H1->∀D zs H2,New H1 H2 D (.lst zs)->aH H2 zs (aD qs)->Q (.ref D) H2
section
variable{C CH y dy x p dx q l P:Addr}{fs:xI}{t:Int}{o:Option Int}{H:Hp}{Q:VK}{E:XK}{ys:List V}{ws:xD}{pos:Pos}{qual:Str}{ps:xL}{H0:Hp}{M:List Addr}{L:List (Addr×HO)}{I:List Im}
instance Xr[F:SH H0 M H L I][e:LkL L P (.tbl ps)][tb:j_ I pos qual ps][h:Hat H l (.lst ys)][tt:TpA H ys (aD ws)]:Go (yN P pos qual [.ref l] H Q E) (Sd (ws.length<=1000/\ws.Nodup/\∀w∈ws,w.1<1000000) (∀qs:List (Nat×Nat),qs.Perm ws/\lD qs->∀ps' H1,Kp P H H1->H1 P=some (.tbl ps')->TabOk pos qual ps' H1->∀D zs H2,New H1 H2 D (.lst zs)->aH H2 zs (aD qs)->Q (.ref D) H2)):=⟨λs=>⟨l,ys,ws,ps,rfl,h.e,tt.e,s.1,F.raw e.m,F.im _ tb.m,s.2⟩⟩
instance Xu[h:RuA C CH H y dy x p dx fs o]:Go (yO C CH [.ref y] H Q E) (Sd ((ao fs).length<=1000) (∀q zs H',New H H' q (.lst zs)->aH H' zs (aD (ao fs))->Q (.ref q) H')):=⟨λk=>⟨y,dy,x,p,dx,fs,o,rfl,h.e,k.1,k.2⟩⟩
instance Xv[h:RuA C CH H y dy x p dx fs (some t)]:Go (yP C CH [.ref y] H Q E) (Sd ((ao fs).length<=1000) (∀q zs H',New H H' q (.lst zs)->aH H' zs (aD (h_ (ao fs) t))->Q (.ref q) H')):=⟨λk=>⟨y,dy,x,p,dx,fs,t,rfl,h.e,k.1,k.2⟩⟩
instance Xw[F:SH H0 M H L I][e:LkL L P (.tbl ps)][tb:j_ I pos qual ps][h:RuA C CH H y dy x p dx fs o]:Go (yQ C CH P pos qual [.ref y] H Q E) (Sd ((ao fs).length<=1000) (∀qs:List (Nat×Nat),qs.Perm (ao fs)/\lD qs->∀ps' H1,Kp P H H1->H1 P=some (.tbl ps')->TabOk pos qual ps' H1->∀D zs H2,New H1 H2 D (.lst zs)->aH H2 zs (aD qs)->Q (.ref D) H2)):=⟨λk=>⟨y,dy,x,p,dx,fs,o,ps,rfl,h.e,k.1,F.raw e.m,F.im _ tb.m,k.2⟩⟩
end
section
variable{P:Program}{w:World}{K:W.Frag}{mg:xC}{base:Heap}{c:Nat->Addr}{aG ak R CH CF CT CN CB:Addr}
theorem gH(T:Txt K mg c R CH CF CT CN CB aG ak):Def P w K mg base CX0 1 "by_start" ["holes"] wj:=by
 refine dB T.yG vB (λvs H Q E h=>?_) (λ_ _ _ _ _ _=>el1 λ_=>rfl) (λf cdv A outer s H vs Q E hr h=>?_)
 ·obtain⟨l,ys,ws,rfl,_⟩:=h
  rfl
 ·obtain⟨l,ys,ws,rfl,hl,tp,side,k⟩:=h;have nd:=vB.nd;refine⟨_,(aB (aP (bM CG rfl T.pI boot_sorted (aj (pv 0) aq)))),?_⟩;clear nd ;rw[show start ["holes"] [.ref l]=[some (.ref l)] from rfl]
  try dsimp only[cM,bO]
  obtain⟨bA,bB,bC,bD,bF,aO⟩:=zsix T;have Bc:=Old.mk (M:=[]) hl nm0;have PX:=Gy.mk tp;have F:SH H [] H [] []:=SH.nil;have yl:ys.length=ws.length:=by rw[tp.1,aJ]
  have sd1:ys.length<=1000/\ws.Pairwise (λa b=>a.1<b.1)/\∀w∈ws,w.2<1000000:=⟨by lia,side.2.1,side.2.2⟩
  repeat k_meth
  exact k _ _ SH.nwC
theorem jX(T:Txt K mg c R CH CF CT CN CB aG ak):Def P w K mg base CX0 2 "from_mark" ["holes","mark"] rY:=by
 have gH:=gH (P:=P) (w:=w) (base:=base) T;refine dB T.v9 rO (λvs H Q E h=>?_) (λ_ _ _ _ _ _=>el2 λ_ _=>rfl) (λf cdv A outer s H vs Q E hr h=>?_)
 ·obtain⟨l,t,ys,ws,rfl,_⟩:=h
  rfl
 ·obtain⟨l,t,ys,ws,rfl,hl,tp,side,k⟩:=h;have nd:=rO.nd;refine⟨_,(aC (aU (i:=2) nd rfl (Or.inl rfl) (aL gH hr (aj (pv 0) aq)))
   (aB (aP (bT mq (gM (N:=["hole","mark"]) (nt:=1) (fr:=[1]) (dO (pv 2)) (λ_ _ _ _=>(bQ (i:=0) (show (["hole","mark"]:List Str).Nodup from by decide +kernel) rfl (Or.inl rfl))) (λ_ _ _ _=>jO (bw Bu (bI (gO (K:=K) rfl) (pv 0) aA (λ_ _=>rfl)) (pv 1) (bJ _))) (λ_ _ _ _=>(pv 0))) (gM (N:=["hole","mark"]) (nt:=1) (fr:=[1]) (dO (pv 2)) (λ_ _ _ _=>(bQ (i:=0) (show (["hole","mark"]:List Str).Nodup from by decide +kernel) rfl (Or.inl rfl))) (λ_ _ _ _=>jO (bw Ho (bI (gO (K:=K) rfl) (pv 0) aA (λ_ _=>rfl)) (pv 1) (bJ _))) (λ_ _ _ _=>(pv 0))))))),?_⟩
  clear nd gH;rw[show start ["holes","mark","rising"] [.ref l,.int t]=[some (.ref l),some (.int t),none] from rfl]
  try dsimp only[cM,bO]
  obtain⟨bA,bB,bC,bD,bF,aO⟩:=zsix T;have Bc:=Old.mk (M:=[]) hl nm0;have PX:=Gy.mk tp;have F:SH H [] H [] []:=SH.nil;have yl:ys.length=ws.length:=by rw[tp.1,aJ]
  have s1:=side.1;have f1:=List.length_filter_le (λw:Nat×Nat=>decide (t<=(w.1:Int))) ws;have f2:=List.length_filter_le (λw:Nat×Nat=>decide ((w.1:Int)<t)) ws
  repeat k_meth
  refine nZ (P:=geV t) (fvs:=[some (.int t)]) bN (TpA.e (rs:=aD ws)) (by lia) rfl (λi ys H'=>aH H' ys (((aD ws).take i).filter (geV t))) (λi ys H1 H2 s t=>tL s t) aH.nil (λi q1 r H' R e1 s1 e2 kk=>?_) (λi q1 r ys H' R e1 hp s1 e2 g kk=>?_) (λi r ys H' e1 hp g=>by rw[gG e1,List.filter_append,List.filter_cons_of_neg (by simp[hp]),List.filter_nil,List.append_nil];exact g) λqa ya Ha na ga=>?_
  ·clear F;have F:SH H' [] H' [] []:=SH.nil;obtain⟨w0,_,rfl⟩:=jS.mp (wE e1);have Ek:=Old.mk (M:=[]) e2 nm0
   repeat k_meth
   exact kk _ (Same.refl _)
  ·repeat k_meth
   refine kk _ _ (Same.refl _) ?_;rw[gG e1,List.filter_append,List.filter_cons_of_pos hp,List.filter_nil];exact aH.snoc g e2
  ·rw[mE (by rw[aJ];lia),Jz] at ga;replace F:=F.newR na ga;have la:ya.length<=1000:=by rw[ga.1,aJ];lia
   clear na ga
   repeat k_meth
   refine nZ (P:=ltV t) (fvs:=[some (.int t)]) bN (TpA.e (rs:=aD ws)) (by lia) rfl (λi ys H'=>aH H' ys (((aD ws).take i).filter (ltV t))) (λi ys H1 H2 s t=>tL s t) aH.nil (λi q1 r H' R e1 s1 e2 kk=>?_) (λi q1 r ys H' R e1 hp s1 e2 g kk=>?_) (λi r ys H' e1 hp g=>by rw[gG e1,List.filter_append,List.filter_cons_of_neg (by simp[hp]),List.filter_nil,List.append_nil];exact g) λqb yb Hb nb gb=>?_
   ·clear F;have F:SH H' [] H' [] []:=SH.nil;obtain⟨w0,_,rfl⟩:=jS.mp (wE e1);have Ek:=Old.mk (M:=[]) e2 nm0
    repeat k_meth
    exact kk _ (Same.refl _)
   ·repeat k_meth
    refine kk _ _ (Same.refl _) ?_;rw[gG e1,List.filter_append,List.filter_cons_of_pos hp,List.filter_nil];exact aH.snoc g e2
   ·rw[mE (by rw[aJ];lia),JB] at gb;replace F:=F.newR nb gb;have lb:yb.length<=1000:=by rw[gb.1,aJ];lia
    clear nb gb
    repeat k_meth
    refine k _ _ _ SH.nwC ?_;unfold h_;rw[yM];exact Ej TpA.e TpA.e
theorem pQ(T:Txt K mg c R CH CF CT CN CB aG ak)(B:Bm mg base):Def P w K mg base CX0 1 "by_size" ["holes"] (yN ak bU bH):=by
 refine Sx T.Dk xW (λvs H Q E h=>?_) (λ_ _ _ _ _ _=>el1 λ_=>rfl) (λf A outer s H vs Q E hr h=>?_)
 ·obtain⟨l,ys,ws,ps,rfl,_⟩:=h
  rfl
 ·obtain⟨l,ys,ws,ps,rfl,hl,tp,side,hP,tk,k⟩:=h;have nd:=xW.nd;refine⟨_,(aB (aP (Gh (CJ rfl hr) rfl T.pI boot_sorted (aj (pv 0) aq) (Ss (qual:=bH) B rfl T.v8 (by with_unfolding_all rfl) ⟨rfl,rfl,rfl,by with_unfolding_all rfl,by decide +kernel,by decide⟩)))),?_⟩;clear nd ;rw[show start ["holes"] [.ref l]=[some (.ref l)] from rfl]
  try dsimp only[cM,bO]
  obtain⟨bA,bB,bC,bD,bF,aO⟩:=zsix T;have nlP:l≠ak:=λz=>by rw[z,hP] at hl;cases hl
  have F:SH H [ak] H [(ak,.tbl ps)] [.tps ys (aD ws),eH bU bH ps]:=((SH.nil.iV List.mem_cons_self hP rfl (by simp)).lC tk).oN tp;have Bc:=Old.mk (M:=[ak]) hl (nm1 nlP);have yl:ys.length=ws.length:=by rw[tp.1,aJ]
  repeat k_meth
  intro f_ ps_
  repeat k_meth
  intro qs hq
  repeat k_meth
  have fd:∀b u,H b=some u->b≠p_:=F.fresh (LkL.m (o:=.lst ys_)) (nm1 (SH.neC (F:=F)));exact two_tab (R:=λH2=>Q _ H2) hP (λb u n e=>F.fr b u (nm1 n) e) bN SH.tab bN fd λH1 a1 a2 a3 H2 a4 e=>k qs hq _ H1 a1 a2 a3 _ _ H2 a4 (by rw[e];exact TpA.e)
theorem fW(T:Txt K mg c R CH CF CT CN CB aG ak):Met P w K mg base CX0 4 CF "order" ["self"] (yO CF CH):=by
 have gH:=gH (P:=P) (w:=w) (base:=base) T;have cP:=cP (P:=P) (w:=w) (base:=base) T;obtain⟨f,hf,hm⟩:=T.DN;refine(bR (k:=3) hf yt (λvs H Q E h=>?_) (λ_ _ _ _ _ _=>el1 λ_=>rfl) (λf cdv A outer s H vs Q E hr h=>?_)).met hm
 ·obtain⟨y,dy,x,p,dx,fs,o,rfl,_⟩:=h
  rfl
 ·obtain⟨y,dy,x,p,dx,fs,o,rfl,nx,h64,k⟩:=h;have nd:=yt.nd;refine⟨_,(aB (aP (aL gH hr (aj (b_ (pv 0) T.clF cP hr) aq)))),?_⟩;clear nd gH cP;rw[show start ["self"] [.ref y]=[some (.ref y)] from rfl]
  try dsimp only[cM,bO]
  obtain⟨hy,bk⟩:=nx;obtain⟨hx,hp,h16,cj⟩:=id bk;have bks:Bks fs fs.length:=⟨rfl,h16,cj⟩;obtain⟨bA,bB,bC,bD,bF,aO⟩:=zsix T;have jA:=Old.mk (M:=[]) hx nm0;have kh:=Old.mk (M:=[]) hp nm0;have jB:=Old.mk (M:=[]) hy nm0;have F:SH H [] H [] []:=SH.nil;have sd1:(ao fs).length<=1000/\wM (ao fs)/\∀w∈ao fs,w.2<1000000:=⟨h64,iM fs,pP cj⟩
  repeat k_meth
  exact k _ _ _ SH.nwC TpA.e
theorem fX(T:Txt K mg c R CH CF CT CN CB aG ak):Met P w K mg base CX0 4 CN "order" ["self"] (yP CN CH):=by
 have jX:=jX (P:=P) (w:=w) (base:=base) T;have cR:=cR (P:=P) (w:=w) (base:=base) T;obtain⟨f,hf,hm⟩:=T.DQ;refine(bR (k:=3) hf yw (λvs H Q E h=>?_) (λ_ _ _ _ _ _=>el1 λ_=>rfl) (λf cdv A outer s H vs Q E hr h=>?_)).met hm
 ·obtain⟨y,dy,x,p,dx,fs,t,rfl,_⟩:=h
  rfl
 ·obtain⟨y,dy,x,p,dx,fs,t,rfl,nx,h64,k⟩:=h;have nd:=yw.nd;refine⟨_,(aB (aP (aL jX hr (aj (b_ (pv 0) T.clN cR hr) (aj (iR (pv 0) rfl) aq))))),?_⟩;clear nd jX cR;rw[show start ["self"] [.ref y]=[some (.ref y)] from rfl]
  try dsimp only[cM,bO]
  obtain⟨hy,bk⟩:=nx;obtain⟨hx,hp,h16,cj⟩:=id bk;have bks:Bks fs fs.length:=⟨rfl,h16,cj⟩;obtain⟨bA,bB,bC,bD,bF,aO⟩:=zsix T;have jA:=Old.mk (M:=[]) hx nm0;have kh:=Old.mk (M:=[]) hp nm0;have jB:=Old.mk (M:=[]) hy nm0;have F:SH H [] H [] []:=SH.nil;have sd1:(ao fs).length<=1000/\wM (ao fs)/\∀w∈ao fs,w.2<1000000:=⟨h64,iM fs,pP cj⟩
  repeat k_meth
  exact k _ _ _ SH.nwC TpA.e
theorem fY(T:Txt K mg c R CH CF CT CN CB aG ak)(B:Bm mg base):Met P w K mg base CX0 4 CT "order" ["self"] (yQ CT CH ak bU bH):=by
 have pQ:=pQ (P:=P) (w:=w) (base:=base) T B;have cQ:=cQ (P:=P) (w:=w) (base:=base) T;obtain⟨f,hf,hm⟩:=T.DP;refine(bR (k:=3) hf yu (λvs H Q E h=>?_) (λ_ _ _ _ _ _=>el1 λ_=>rfl) (λf cdv A outer s H vs Q E hr h=>?_)).met hm
 ·obtain⟨y,dy,x,p,dx,fs,o,ps,rfl,_⟩:=h
  rfl
 ·obtain⟨y,dy,x,p,dx,fs,o,ps,rfl,nx,h64,hP,tk,k⟩:=h;have nd:=yu.nd;refine⟨_,(aB (aP (aL pQ hr (aj (b_ (pv 0) T.clT cQ hr) aq)))),?_⟩;clear nd pQ cQ;rw[show start ["self"] [.ref y]=[some (.ref y)] from rfl]
  try dsimp only[cM,bO]
  obtain⟨hy,bk⟩:=nx;obtain⟨hx,hp,h16,cj⟩:=id bk;have bks:Bks fs fs.length:=⟨rfl,h16,cj⟩;obtain⟨bA,bB,bC,bD,bF,aO⟩:=zsix T;have nxP:x≠ak:=λz=>by rw[z,hP] at hx;cases hx
  have nyP:y≠ak:=λz=>by rw[z,hP] at hy;cases hy
  have npP:p≠ak:=λz=>by rw[z,hP] at hp;cases hp
  have F:SH H [ak] H [(ak,.tbl ps)] [eH bU bH ps]:=(SH.nil.iV List.mem_cons_self hP rfl (by simp)).lC tk;have jA:=Old.mk (M:=[ak]) hx (nm1 nxP);have jB:=Old.mk (M:=[ak]) hy (nm1 nyP);have kh:=Old.mk (M:=[ak]) hp (nm1 npP);have sd1:(ao fs).length<=1000/\(ao fs).Nodup/\∀w∈ao fs,w.1<1000000:=⟨h64,gA fs,gB cj⟩
  repeat k_meth
  intro qs hq ps_
  repeat k_meth
  have fd:∀b u,H b=some u->b≠p_:=F.fresh (LkL.m (o:=.lst ys_)) (nm1 (SH.neC (F:=F)));exact two_tab (R:=λH2=>Q _ H2) hP (λb u n e=>F.fr b u (nm1 n) e) bN SH.tab bN fd λH1 a1 a2 a3 H2 a4 e=>k qs hq _ H1 a1 a2 a3 _ _ H2 a4 (by rw[e];exact TpA.e)
end
open M22
def pR(CN:Addr):Sp:=λvs H Q _=>∃(y dy x:Addr),vs=[.ref y,.ref x]/\H y=some (.ins CN dy [])/\∀H',Kp y H H'->H' y=some (.ins CN dy (rF x none))->Q .non H'
def El(CN CH:Addr):Sp:=λvs H Q _=>∃(y dy:Addr)(n t:Nat),vs=[.ref y,.int n,.int t]/\H y=some (.ins CN dy [])/\(16<=n/\n<=240/\t<=n)/\∀(x dx p:Addr)(H':Hp),Kp y H H'->H' y=some (.ins CN dy (rF x (some t)))->H' x=some (.ins CH dx (hF n p))->H' p=some (.lst ((List.replicate n true).map V.bl))->(∀a u,H a=some u->a≠p)->(∀a u,H a=some u->a≠x)->Q .non H'
def wk(CN CH:Addr):Sp:=λvs H Q _=>∃(y dy:Addr)(n:Nat),vs=[.ref y,.int n]/\H y=some (.ins CN dy [])/\(16<=n/\n<=240)/\∀(x dx p:Addr)(H':Hp),Kp y H H'->H' y=some (.ins CN dy (rF x none))->H' x=some (.ins CH dx (hF n p))->H' p=some (.lst ((List.replicate n true).map V.bl))->(∀a u,H a=some u->a≠p)->(∀a u,H a=some u->a≠x)->Q .non H'
section
variable{CN CH y dy x p dx:Addr}{u s:Int}{H:Hp}{Q:VK}{E:XK}{b n tt:Nat}
instance Zv[h:Hat H y (.ins CN dy [])]:Go (pR CN [.ref y,.ref x] H Q E) (∀H',Kp y H H'->H' y=some (.ins CN dy (rF x none))->Q .non H'):=⟨λk=>⟨y,dy,x,rfl,h.e,k⟩⟩
instance Zw[h:Hat H x (.ins CH dx [])]:Go (Ec CH [.ref x,.int (n:Nat)] H Q E) (Sd (16<=n/\n<=240) (∀(p:Addr)(H1:Hp),New H H1 p (.lst ((List.replicate n true).map V.bl))->∀H2,Off x H1 H2->H2 x=some (.ins CH dx (hF n p))->Q .non H2)):=by
 refine⟨λs=>⟨x,dx,n,rfl,h.e,s.1.1,s.1.2,λp H' kp ex ep fr=>?_⟩⟩;have hx:=h.e;have nxp:x≠p:=fr x _ hx
 let H1:Hp:=λb=>if b=x then H x else H' b
 have h1x:H1 x=H x:=yB rfl;have h1n:∀{b:Addr},b≠x->H1 b=H' b:=λn=>yT n
 refine s.2 p H1 ⟨λb u eb=>?_,?_,λb u eb=>fr b u eb⟩ H' (λb nb=>(h1n nb).symm) ex
 ·by_cases hb:b=x
  ·rw[hb,h1x,<- hb];exact eb
  ·rw[h1n hb];exact kp b u hb eb
 ·rw[h1n (Ne.symm nxp)];exact ep
instance Zx[h:Hat H y (.ins CN dy [])]:Go (El CN CH [.ref y,.int (n:Nat),.int (tt:Nat)] H Q E) (Sd (16<=n/\n<=240/\tt<=n) (∀(p:Addr)(H1:Hp),New H H1 p (.lst ((List.replicate n true).map V.bl))->∀(x dx:Addr)(H2:Hp),New H1 H2 x (.ins CH dx (hF n p))->∀H3,Off y H2 H3->H3 y=some (.ins CN dy (rF x (some tt)))->Q .non H3)):=by
 refine⟨λs=>⟨y,dy,n,tt,rfl,h.e,s.1,λx dx p H' kp ey ex ep fp fx=>?_⟩⟩;have hy:=h.e;have nyp:y≠p:=fp y _ hy;have nyx:y≠x:=fx y _ hy;have npx:p≠x:=λz=>by rw[z,ex] at ep;cases ep
 let H2:Hp:=λb=>if b=y then H y else H' b
 let H1:Hp:=λb=>if b=x then none else H2 b
 have h2y:H2 y=H y:=yB rfl;have h2n:∀{b:Addr},b≠y->H2 b=H' b:=λn=>yT n
 have h1n:∀{b:Addr},b≠x->H1 b=H2 b:=λn=>yT n
 refine s.2 p H1 ⟨λb u eb=>?_,?_,λb u eb=>fp b u eb⟩ x dx H2 ⟨λb u eb=>?_,?_,λb u eb z=>?_⟩ H' (λb nb=>(h2n nb).symm) ey
 ·rw[h1n (fx b u eb)];by_cases hb:b=y
  ·rw[hb,h2y,<- hb];exact eb
  ·rw[h2n hb];exact kp b u hb eb
 ·rw[h1n npx,h2n (Ne.symm nyp)];exact ep
 ·by_cases hb:b=x
  ·have:H1 b=none:=yB hb;rw[this] at eb;cases eb
  ·rw[h1n hb] at eb;exact eb
 ·rw[h2n (Ne.symm nyx)];exact ex
 ·have:H1 b=none:=yB z;rw[this] at eb;cases eb
instance Zy[h:Hat H y (.ins CN dy [])]:Go (wk CN CH [.ref y,.int (n:Nat)] H Q E) (Sd (16<=n/\n<=240) (∀(p:Addr)(H1:Hp),New H H1 p (.lst ((List.replicate n true).map V.bl))->∀(x dx:Addr)(H2:Hp),New H1 H2 x (.ins CH dx (hF n p))->∀H3,Off y H2 H3->H3 y=some (.ins CN dy (rF x none))->Q .non H3)):=by
 refine⟨λs=>⟨y,dy,n,rfl,h.e,s.1,λx dx p H' kp ey ex ep fp fx=>?_⟩⟩;have hy:=h.e;have nyp:y≠p:=fp y _ hy;have nyx:y≠x:=fx y _ hy;have npx:p≠x:=λz=>by rw[z,ex] at ep;cases ep
 let H2:Hp:=λb=>if b=y then H y else H' b
 let H1:Hp:=λb=>if b=x then none else H2 b
 have h2y:H2 y=H y:=yB rfl;have h2n:∀{b:Addr},b≠y->H2 b=H' b:=λn=>yT n
 have h1n:∀{b:Addr},b≠x->H1 b=H2 b:=λn=>yT n
 refine s.2 p H1 ⟨λb u eb=>?_,?_,λb u eb=>fp b u eb⟩ x dx H2 ⟨λb u eb=>?_,?_,λb u eb z=>?_⟩ H' (λb nb=>(h2n nb).symm) ey
 ·rw[h1n (fx b u eb)];by_cases hb:b=y
  ·rw[hb,h2y,<- hb];exact eb
  ·rw[h2n hb];exact kp b u hb eb
 ·rw[h1n npx,h2n (Ne.symm nyp)];exact ep
 ·by_cases hb:b=x
  ·have:H1 b=none:=yB hb;rw[this] at eb;cases eb
  ·rw[h1n hb] at eb;exact eb
 ·rw[h2n (Ne.symm nyx)];exact ex
 ·have:H1 b=none:=yB z;rw[this] at eb;cases eb
instance aaW{H0:Hp}{M:List Addr}{L:List (Addr×HO)}{I:List Im}{Z:Addr->Addr->Hp->Prop}{gs:List (Str×V)}[F:SH H0 M H L I]:Go (∀x dx H',New H H' x (.ins CH dx gs)->Z x dx H') (∀H' x dx,SH H0 M H' ((x,.ins CH dx gs)::L) I->Z x dx H'):=⟨λk p dx H' n=>k H' p dx (F.abv n)⟩
end
section
variable{P:Program}{w:World}{K:W.Frag}{mg:xC}{base:Heap}{c:Nat->Addr}{aG ak R CH CF CT CN CB:Addr}
theorem mX(T:Txt K mg c R CH CF CT CN CB aG ak):Cdf P w K mg base CX0 1 "Rule" CB "__init__" ["self","book"] (pR CF):=by
 obtain⟨f,hf,hm⟩:=T.Ds;refine(bR (k:=0) hf yc (λvs H Q E h=>?_) (λ_ _ _ _ _ _=>el2 λ_ _=>rfl) (λf cdv A outer s H vs Q E hr h=>?_)).cdf hm T.jW
 ·obtain⟨y,dy,x,rfl,_⟩:=h
  rfl
 ·obtain⟨y,dy,x,rfl,hy,k⟩:=h;have nd:=yc.nd;refine⟨_,(aB (qz (pv 0) (pv 1) rfl)),?_⟩;clear nd ;rw[show start ["self","book"] [.ref y,.ref x]=[some (.ref y),some (.ref x)] from rfl]
  try dsimp only[cM,bO]
  obtain⟨bA,bB,bC,bD,bF,aO⟩:=zsix T;have F:SH H [y] H [(y,.ins CF dy [])] []:=SH.nil.iV List.mem_cons_self hy rfl (by simp)
  repeat k_meth
  rw[Ba] at F;exact k _ F.kpo bN
theorem pX(T:Txt K mg c R CH CF CT CN CB aG ak):Mak P w K mg base CX0 6 "First" CF ["self","many"] (wk CF CH):=by
 have mX:=mX (P:=P) (w:=w) (base:=base) T;have eN:=eN (P:=P) (w:=w) (base:=base) T;obtain⟨f,hf,hm⟩:=T.Js;refine(bR (k:=5) hf Df (λvs H Q E h=>?_) (λ_ _ _ _ _ _=>el2 λ_ _=>rfl) (λf cdv A outer s H vs Q E hr h=>?_)).mak hm T.Dr
 ·obtain⟨y,dy,n,rfl,_⟩:=h
  rfl
 ·obtain⟨y,dy,n,rfl,hy,side,k⟩:=h;have nd:=Df.nd;refine⟨_,(aB (cV (Gf mX hr (aj (pv 0) (aj (mC eN hr (aj (pv 1) aq)) aq))))),?_⟩;clear nd mX eN;rw[show start ["self","many"] [.ref y,.int n]=[some (.ref y),some (.int n)] from rfl]
  try dsimp only[cM,bO]
  obtain⟨bA,bB,bC,bD,bF,aO⟩:=zsix T;have F:SH H [y] H [(y,.ins CF dy [])] []:=SH.nil.iV List.mem_cons_self hy rfl (by simp)
  repeat k_meth
  exact k x_ dx_ p_ _ F.kpo bN bN bN (F.fresh (LkL.m (o:=.lst _)) (nm1 (SH.neC (F:=F)))) (F.fresh (LkL.m (o:=.ins CH dx_ _)) (nm1 (SH.neC (F:=F))))
theorem mY(T:Txt K mg c R CH CF CT CN CB aG ak):Cdf P w K mg base CX0 1 "Rule" CB "__init__" ["self","book"] (pR CT):=by
 obtain⟨f,hf,hm⟩:=T.Du;refine(bR (k:=0) hf yd (λvs H Q E h=>?_) (λ_ _ _ _ _ _=>el2 λ_ _=>rfl) (λf cdv A outer s H vs Q E hr h=>?_)).cdf hm T.jW
 ·obtain⟨y,dy,x,rfl,_⟩:=h
  rfl
 ·obtain⟨y,dy,x,rfl,hy,k⟩:=h;have nd:=yd.nd;refine⟨_,(aB (qz (pv 0) (pv 1) rfl)),?_⟩;clear nd ;rw[show start ["self","book"] [.ref y,.ref x]=[some (.ref y),some (.ref x)] from rfl]
  try dsimp only[cM,bO]
  obtain⟨bA,bB,bC,bD,bF,aO⟩:=zsix T;have F:SH H [y] H [(y,.ins CT dy [])] []:=SH.nil.iV List.mem_cons_self hy rfl (by simp)
  repeat k_meth
  rw[Ba] at F;exact k _ F.kpo bN
theorem pY(T:Txt K mg c R CH CF CT CN CB aG ak):Mak P w K mg base CX0 6 "Tightest" CT ["self","many"] (wk CT CH):=by
 have mY:=mY (P:=P) (w:=w) (base:=base) T;have eN:=eN (P:=P) (w:=w) (base:=base) T;obtain⟨f,hf,hm⟩:=T.Jt;refine(bR (k:=5) hf Dg (λvs H Q E h=>?_) (λ_ _ _ _ _ _=>el2 λ_ _=>rfl) (λf cdv A outer s H vs Q E hr h=>?_)).mak hm T.rR
 ·obtain⟨y,dy,n,rfl,_⟩:=h
  rfl
 ·obtain⟨y,dy,n,rfl,hy,side,k⟩:=h;have nd:=Dg.nd;refine⟨_,(aB (cV (Gf mY hr (aj (pv 0) (aj (mC eN hr (aj (pv 1) aq)) aq))))),?_⟩;clear nd mY eN;rw[show start ["self","many"] [.ref y,.int n]=[some (.ref y),some (.int n)] from rfl]
  try dsimp only[cM,bO]
  obtain⟨bA,bB,bC,bD,bF,aO⟩:=zsix T;have F:SH H [y] H [(y,.ins CT dy [])] []:=SH.nil.iV List.mem_cons_self hy rfl (by simp)
  repeat k_meth
  exact k x_ dx_ p_ _ F.kpo bN bN bN (F.fresh (LkL.m (o:=.lst _)) (nm1 (SH.neC (F:=F)))) (F.fresh (LkL.m (o:=.ins CH dx_ _)) (nm1 (SH.neC (F:=F))))
theorem mZ(T:Txt K mg c R CH CF CT CN CB aG ak):Cdf P w K mg base CX0 1 "Rule" CB "__init__" ["self","book"] (pR CN):=by
 obtain⟨f,hf,hm⟩:=T.Dv;refine(bR (k:=0) hf yg (λvs H Q E h=>?_) (λ_ _ _ _ _ _=>el2 λ_ _=>rfl) (λf cdv A outer s H vs Q E hr h=>?_)).cdf hm T.jW
 ·obtain⟨y,dy,x,rfl,_⟩:=h
  rfl
 ·obtain⟨y,dy,x,rfl,hy,k⟩:=h;have nd:=yg.nd;refine⟨_,(aB (qz (pv 0) (pv 1) rfl)),?_⟩;clear nd ;rw[show start ["self","book"] [.ref y,.ref x]=[some (.ref y),some (.ref x)] from rfl]
  try dsimp only[cM,bO]
  obtain⟨bA,bB,bC,bD,bF,aO⟩:=zsix T;have F:SH H [y] H [(y,.ins CN dy [])] []:=SH.nil.iV List.mem_cons_self hy rfl (by simp)
  repeat k_meth
  rw[Ba] at F;exact k _ F.kpo bN
theorem wu(T:Txt K mg c R CH CF CT CN CB aG ak):∃tk:Tok,V_ P w K mg base CX0 6 "Next" CN ["self","many","mark"] (El CN CH) [.int 0 tk] ["mark","many"]:=by
 have mZ:=mZ (P:=P) (w:=w) (base:=base) T;have eN:=eN (P:=P) (w:=w) (base:=base) T;have eF:=eF (P:=P) (w:=w) (base:=base) T;obtain⟨tk,f,hf,hm⟩:=T.Ju;refine⟨tk,Ko (ks:=["mark","many"]) hf Dh hm T.Jk (λvs H Q E h=>?_) (λ_ _ _ _ _ _ _=>el3 λ_ _ _=>⟨_,rfl,rfl⟩) (λ_ _ _ _ _ _ _ us hl=>by obtain⟨a,b,rfl⟩:∃a b,us=[a,b]:=len2 (by simpa using hl);exact⟨_,rfl,rfl⟩) (λ_ _ _ _ _ _ _ us ws hl=>by
   have h2:ws.length=2:=by
    unfold xQ at hl;split at hl
    ·assumption
    ·simp at hl
   obtain⟨y,z,rfl⟩:=len2 h2;obtain⟨a,rfl⟩:∃a,us=[a]:=List.length_eq_one_iff.mp (by simpa[xQ] using hl);exact⟨_,rfl,rfl⟩) (λf cdv A outer s H vs Q E hr h=>?_)⟩
 ·obtain⟨y,dy,n,t,rfl,_⟩:=h
  rfl
 ·obtain⟨y,dy,n,t,rfl,hy,side,k⟩:=h;have nd:=Dh.nd;refine⟨_,(aC (cV (Gf mZ hr (aj (pv 0) (aj (mC eN hr (aj (pv 1) aq)) aq))))
   (aC (cB (cH (cG (aL eF hr (aj (pv 2) (aj aA (aj (pv 1) aq)))))) iI bK)
   (aB (qz (pv 0) (pv 2) rfl)))),?_⟩
  clear nd mZ eN eF;rw[show start ["self","many","mark"] [.ref y,.int n,.int t]=[some (.ref y),some (.int n),some (.int t)] from rfl]
  try dsimp only[cM,bO]
  obtain⟨bA,bB,bC,bD,bF,aO⟩:=zsix T;obtain⟨h16,cj,htn⟩:=side;have F:SH H [y] H [(y,.ins CN dy [])] []:=SH.nil.iV List.mem_cons_self hy rfl (by simp)
  repeat k_meth
  rw[uA (show (0:Int)<=(t:Int) by lia),uA (show (t:Int)<=(n:Int) by lia)];have nl:(rF x_ none).length<=2:=by unfold rF;simp[fQ]
  rw[show (true && true)=true from rfl]
  repeat k_meth
  rw[WL] at F
  repeat k_meth
  exact k x_ dx_ p_ _ F.kpo bN bN bN (F.fresh (LkL.m (o:=.lst _)) (nm1 (SH.neC (F:=F)))) (F.fresh (LkL.m (o:=.ins CH dx_ _)) (nm1 (SH.neC (F:=F))))
end
open M22
inductive Kd where
 | f|t|n
def kC(CF CT CN:Addr):Kd->Addr
 | .f=>CF
 | .t=>CT
 | .n=>CN
def kO:Kd->Int->Option Int
 | .n,t=>some t
 | _,_=>none
def kZ:Kd->Str
 | .f => "first"
 | .t => "tightest"
 | .n => "next"
def leS(a b:Nat×Nat):Bool:=decide (rkP (swP a)<=rkP (swP b))
def lV(ws:xD):List (Nat×Nat):=ws.mergeSort leS
def cT:Kd->List (Nat×Nat)->Int->List (Nat×Nat)
 | .f,ws,_=>ws
 | .t,ws,_=>lV ws
 | .n,ws,t=>h_ ws t
theorem n6(ws:xD):(lV ws).Perm ws:=List.mergeSort_perm ws leS
theorem WR{α:Type}{f:α->Int}{qs:List α}(r:qs.Pairwise λa b=>f a<f b):∀a∈qs,∀b∈qs,f a=f b->a=b:=by
 induction qs with
 | nil=>intro a ha;cases ha
 | cons c t ih =>
  intro a ha b hb e;have h:=List.pairwise_cons.mp r;rcases jI.mp ha with rfl|ha
  ·rcases jI.mp hb with rfl|hb
   ·rfl
   ·have:=h.1 b hb
    lia
  ·rcases jI.mp hb with rfl|hb
   ·have:=h.1 a (by assumption)
    lia
   ·exact ih h.2 a ha b hb e
theorem P0{qs:xD}(r:lD qs):∀a∈qs,∀b∈qs,rkP (swP a)=rkP (swP b)->a=b:=WR (f:=λa=>rkP (swP a)) r
theorem i_{ws qs:xD}(p:qs.Perm ws)(r:lD qs):lV ws=qs:=by
 have pw:(lV ws).Pairwise (λa b=>leS a b=true):=List.pairwise_mergeSort (λa b c h1 h2=>by unfold leS at *;simp at *;lia) (λa b=>by unfold leS;simp;lia) ws;have pq:qs.Pairwise (λa b=>leS a b=true):=r.imp λh=>by unfold leS;simp;lia
 refine List.Perm.eq_of_pairwise (λa b ha hb h1 h2=>?_) pw pq ((n6 ws).trans p.symm);unfold leS at h1 h2;simp at h1 h2;exact P0 r a (p.mem_iff.mpr ((n6 ws).mem_iff.mp ha)) b hb (by lia)
theorem jY(k:Kd)(ws:xD)(t:Int):(cT k ws t).length<=2*ws.length:=by
 cases k with
 | f=>show ws.length<=_;lia
 | t=>show (lV ws).length<=_;rw[(n6 ws).length_eq];lia
 | n=>exact KH ws t
class KdO(k:Kd)(o:Option Int)(t:outParam Int):Prop where
 e:o=kO k t
instance koF:KdO .f none 0:=⟨rfl⟩
instance koT:KdO .t none 0:=⟨rfl⟩
instance koN{t:Int}:KdO .n (some t) t:=⟨rfl⟩
def pZ:Sp:=λvs H Q _=>∃(y:Addr)(s:Int),vs=[.ref y,.int s]/\1<=s/\Q (.int s) H
def gJ(ws:xD)(s:Int):List (Nat×Nat):=ws.takeWhile λw=>!decide (s<=(w.2:Int))
theorem p8{s:Int}:∀{ws:xD} {i:Nat} {w:Nat×Nat},ws[i]?=some w->s<=(w.2:Int)->(∀z∈ws.take i,¬ s<=(z.2:Int))->gJ ws s=ws.take i
 | [],i,w,e,_,_=>by simp at e
 | a::t,0,w,e,h,_=>by
  simp at e;subst e;unfold gJ;rw[List.takeWhile_cons,if_neg (by simpa using h)]
  rfl
 | a::t,i+1,w,e,h,hn=>by
  have ha:=hn a (by simp);unfold gJ;rw[List.takeWhile_cons,if_pos (by simpa using ha),List.take_succ_cons]
  congr 1
  exact p8 (ws:=t) (i:=i) (by simpa using e) h λz hz=>hn z (by simp[hz])
theorem wz(ws:xD)(s:Int):(gJ ws s).length<=ws.length:=(List.takeWhile_sublist _).length_le
def Bf:Sp:=λvs H Q _=>∃(l:Addr)(s:Int)(ys:List V)(ws:xD),vs=[.ref l,.int s]/\H l=some (.lst ys)/\aH H ys (aD ws)/\ws.length<=1000/\((∃w,lQ ws s w/\∀q zs tq H',New H H' q (.lst zs)->aH H' zs (aD (gJ ws s))->H' tq=some (.tup [.int (w.1:Nat),.ref q])->Q (.ref tq) H')\/(lR ws s/\∀H',Same H H'->Q .non H'))
def qe(C CH CE P:Addr)(pos:Pos)(qual:Str)(k:Kd):Sp:=λvs H Q E=>∃(y dy x p dx:Addr)(fs:xI)(t s:Int)(ps:xL),vs=[.ref y,.int s]/\Ru C CH H y dy x p dx fs (kO k t)/\((ao fs).length<=400/\1<=s)/\H P=some (.tbl ps)/\TabOk pos qual ps H /\
 ((∃w,lQ (cT k (ao fs) t) s w/\∀ps' H1,Kp P H H1->H1 P=some (.tbl ps')->TabOk pos qual ps' H1->∀q zs tq H2,New H1 H2 q (.lst zs)->aH H2 zs (aD (gJ (cT k (ao fs) t) s))->H2 tq=some (.tup [.int (w.1:Nat),.ref q])->Q (.ref tq) H2) \/
  (lR (cT k (ao fs) t) s/\∀ps' d H',Kp P H H'->H' P=some (.tbl ps')->TabOk pos qual ps' H'->H' d=some (kY d [("size", .int s),("largest", .int (iz 0 (cX (ao fs))))])->E (.ref CE) (some d) H'))
section
variable{C CH CE y dy x p dx q l P:Addr}{fs:xI}{t u s:Int}{o:Option Int}{H:Hp}{Q:VK}{E:XK}{ys zs:List V}{ws:xD}{w:Nat×Nat}{pos:Pos}{qual:Str}{ps:xL}{H0:Hp}{M:List Addr}{L:List (Addr×HO)}{I:List Im}{k:Kd}{xs:List V}{rs:List (List V)}
instance aaX[h:Hat H l (.lst ys)][tt:TpA H ys (aD ws)][f:lQ ws s w]:Go (Bf [.ref l,.int s] H Q E) (Sd (ws.length<=1000) (∀q zs tq H',New H H' q (.lst zs)->aH H' zs (aD (gJ ws s))->H' tq=some (.tup [.int (w.1:Nat),.ref q])->Q (.ref tq) H')):=⟨λk=>⟨l,s,ys,ws,rfl,h.e,tt.e,k.1,.inl ⟨w,f,k.2⟩⟩⟩
instance aaY[h:Hat H l (.lst ys)][tt:TpA H ys (aD ws)][f:lR ws s]:Go (Bf [.ref l,.int s] H Q E) (Sd (ws.length<=1000) (∀H',Same H H'->Q .non H')):=⟨λk=>⟨l,s,ys,ws,rfl,h.e,tt.e,k.1,.inr ⟨f,k.2⟩⟩⟩
instance Zz{Z:Addr->Hp->Prop}[F:SH H0 M H L I]:Go (∀tq H',New H H' q (.lst zs)->aH H' zs rs->H' tq=some (.tup xs)->Z tq H') (∀H' tq,SH H0 M H' ((q,.lst zs)::L) (.tup tq xs::.tps zs rs::I)->Z tq H'):=⟨λk tq H' n t e=>k H' tq ((F.newR n t).sE e)⟩
instance ZC:Go (pZ [.ref y,.int s] H Q E) (Sd (1<=s) (Q (.int s) H)):=⟨λk=>⟨y,s,rfl,k.1,k.2⟩⟩
instance ZD[F:SH H0 M H L I][h:RuA C CH H y dy x p dx fs o][ko:KdO k o t][e:LkL L P (.tbl ps)][tb:j_ I pos qual ps][f:lQ (cT k (ao fs) t) s w]:Go (qe C CH CE P pos qual k [.ref y,.int s] H Q E) (Sd ((ao fs).length<=400/\1<=s) (∀ps' H1,Kp P H H1->H1 P=some (.tbl ps')->TabOk pos qual ps' H1->∀q zs tq H2,New H1 H2 q (.lst zs)->aH H2 zs (aD (gJ (cT k (ao fs) t) s))->H2 tq=some (.tup [.int (w.1:Nat),.ref q])->Q (.ref tq) H2)) :=
 ⟨λkk=>⟨y,dy,x,p,dx,fs,t,s,ps,rfl,ko.e▸h.e,kk.1,F.raw e.m,F.im _ tb.m,.inl ⟨w,f,kk.2⟩⟩⟩
instance ZF[F:SH H0 M H L I][h:RuA C CH H y dy x p dx fs o][ko:KdO k o t][e:LkL L P (.tbl ps)][tb:j_ I pos qual ps][f:lR (cT k (ao fs) t) s]:Go (qe C CH CE P pos qual k [.ref y,.int s] H Q E) (Sd ((ao fs).length<=400/\1<=s) (∀ps' d H',Kp P H H'->H' P=some (.tbl ps')->TabOk pos qual ps' H'->H' d=some (kY d [("size", .int s),("largest", .int (iz 0 (cX (ao fs))))])->E (.ref CE) (some d) H')) :=
 ⟨λkk=>⟨y,dy,x,p,dx,fs,t,s,ps,rfl,ko.e▸h.e,kk.1,F.raw e.m,F.im _ tb.m,.inr ⟨f,kk.2⟩⟩⟩
theorem ZG{z:Addr}{o:HO}(F:SH H0 [P] H L I)(m:(P,o)∈L)(hz:H z=none):H0 z=none:=by
 cases e:H0 z with
 | none=>rfl
 | some u =>
  by_cases h:z=P
  ·have:=F.raw m;rw[<- h,hz] at this;cases this
  ·have:=F.fr z u (nm1 h) e;rw[hz] at this;cases this
instance aaZ{n:Nat}{f g:Str}{v y:V}{C:Addr}{o:HO}[F:SH H0 [P] H L I][e:LkL L P o]:Go (Ir n C H0 E f g [v,y] H) (Sd (f≠g) (∀dx H2,Same H H2->H2 dx=some (kY dx [(f,v),(g,y)])->E (.ref C) (some dx) H2)):=⟨λk=>⟨v,y,rfl,λz H' hn hz s e'=>M5 (by simp) hn hz (ZG F e.m hz) s (by
  have e2:fQ g y [(f,v)]=[(f,v),(g,y)]:=by simp[fQ,k.1]
  rw[<- e2];exact e') k.2⟩⟩
end
section
variable{P:Program}{w:World}{K:W.Frag}{mg:xC}{base:Heap}{c:Nat->Addr}{aG ak R CH CF CT CN CB:Addr}
theorem dM(T:Txt K mg c R CH CF CT CN CB aG ak):Def P w K mg base CX0 1 "found_in" ["ordered","size"] Bf:=by
 refine dB T.yH vC (λvs H Q E h=>?_) (λ_ _ _ _ _ _=>el2 λ_ _=>rfl) (λf cdv A outer s H vs Q E hr h=>?_)
 ·obtain⟨l,s,ys,ws,rfl,_⟩:=h
  rfl
 ·obtain⟨l,s,ys,ws,rfl,hl,tp,hz,kk⟩:=h;have nd:=vC.nd;refine⟨_,(aC (aU (i:=2) nd rfl (Or.inl rfl) (cF aq))
   (aC (gK PassesOwn.never rfl (dO (pv 0)) (bQ (i:=3) nd rfl (Or.inl rfl)) (aC (cB (bw Bu (bI bV (pv 3) aA (λ_ _=>rfl)) (pv 1) (bJ _)) (aB (aP (bY (aj (bI bV (pv 3) aA (λ_ _=>rfl)) (aj (pv 2) aq))))) bK)
    (aB (cV (fL (pv 2) (pv 3))))))
   (aB (aP nH)))),?_⟩
  clear nd ;rw[show start ["ordered","size","passed","hole"] [.ref l,.int s]=[some (.ref l),some (.int s),none,none] from rfl]
  try dsimp only[cM,bO]
  obtain⟨bA,bB,bC,bD,bF,aO⟩:=zsix T;have Bc:=Old.mk (M:=[]) hl nm0;have PX:=Gy.mk tp;have F:SH H [] H [] []:=SH.nil;have yl:ys.length=ws.length:=by rw[tp.1,aJ]
  repeat k_meth
  rename Addr=>pa
  refine f9 (xs:=ys) (λi σ' H'=>∃(o3:Option V),σ'=[some (.ref l),some (.int s),some (.ref pa),o3]/\(∀w∈ws.take i,¬ s<=(w.2:Int))/\SH H [] H' [(pa,.lst (ys.take i))] []) ⟨_,rfl,by simp,F⟩ ?_ ?_ ?_
  ·clear F;rintro i σ' H' _ ⟨_,rfl,hn,F⟩;exact SqA.e
  ·clear F;rintro i v σ' H' hv ⟨_,rfl,hn,F⟩;have hi:=(qB.mp hv).1;obtain⟨w,q1,e1,rfl,e2⟩:=fM tp hv;have Ek:=Old.mk (M:=[]) e2 nm0;by_cases hs:s<=(w.2:Int)
   ·rcases kk with⟨w',f,k⟩|⟨f,k⟩
    ·have hw:w'=w:=by
      have h2:=lO e1 (p:=λw=>decide (s<=(w.2:Int))) (by simpa using hs) (λz hz=>by simpa using hn z hz);rw[f.e] at h2;exact nS h2
     subst hw
     repeat k_meth
     refine k pa (ys.take i) _ _ SH.nwC ?_ bN;rw[p8 e1 hs hn];have:aD (ws.take i)=(aD ws).take i:=by unfold aD;rw[List.map_take]
     rw[this];have tp2:=tp.same F.sm;refine⟨by rw[nE,nE,aJ,yl],λj r e=>?_⟩;rw[List.getElem?_take] at e;split at e
     ·rename_i hj;obtain⟨q,g1,g2⟩:=tp2.2 j r e;exact⟨q,by rw[List.getElem?_take,yB hj];exact g1,g2⟩
     ·cases e
    ·exact absurd (by simpa using List.find?_eq_none.mp f.e w (List.mem_of_getElem? e1)) (by simpa using hs)
   ·have al:(ys.take i).length<sizeLine:=qS (m:=2000) (by rw[nE];lia) (bW (by lia))
    repeat k_meth
    refine⟨_,rfl,λz hz=>?_,by rw[gI,hv];exact F⟩;rw[gI,e1] at hz;rcases wT.mp hz with hz|hz
    ·exact hn z hz
    ·simp at hz;rw[hz];exact hs
  ·clear F;rintro σ' H' ⟨_,rfl,hn,F⟩;rw[yl,List.take_length] at hn;rcases kk with⟨w',f,k⟩|⟨f,k⟩
   ·exact absurd (List.find?_some f.e) (by simpa using hn w' (List.mem_of_find?_eq_some f.e))
   ·repeat k_meth
    exact k _ F.sm
theorem dW(T:Txt K mg c R CH CF CT CN CB aG ak):Met P w K mg base CX0 3 CF "used_by" ["self","size"] pZ:=by
 have cJ:=cJ (P:=P) (w:=w) (base:=base) T;obtain⟨f,hf,hm⟩:=T.rT;refine(bR (k:=2) hf pB (λvs H Q E h=>?_) (λ_ _ _ _ _ _=>el2 λ_ _=>rfl) (λf cdv A outer s H vs Q E hr h=>?_)).met hm
 ·obtain⟨y,s,rfl,_⟩:=h
  rfl
 ·obtain⟨y,s,rfl,h1,k⟩:=h;have nd:=pB.nd;refine⟨_,(aC (cB (cH (cG (aL cJ hr (aj (pv 1) (aj aA aq))))) iI bK)
   (aB (aP (pv 1)))),?_⟩
  clear nd cJ;rw[show start ["self","size"] [.ref y,.int s]=[some (.ref y),some (.int s)] from rfl]
  try dsimp only[cM,bO]
  obtain⟨bA,bB,bC,bD,bF,aO⟩:=zsix T;have F:SH H [] H [] []:=SH.nil
  repeat k_meth
  exact k
theorem m7(T:Txt K mg c R CH CF CT CN CB aG ak):Met P w K mg base (CX1 P w) 5 CF "look" ["self","size"] (qe CF CH (c 0) ak bU bH .f):=by
 have dM:=dM (P:=P) (w:=w) (base:=base) T;have fW:=fW (P:=P) (w:=w) (base:=base) T;have dW:=dW (P:=P) (w:=w) (base:=base) T;have eZ:=eZ (P:=P) (w:=w) (base:=base) T;obtain⟨f,hf,hm⟩:=T.Dw;refine(qH (k:=4) hf yh (λvs H Q E h=>?_) (λ_ _ _ _ _ _=>el2 λ_ _=>rfl) (λf cdv A outer s H vs Q E hr h=>?_)).met hm
 ·obtain⟨y,dy,x,p,dx,fs,t,s,ps,rfl,_⟩:=h
  rfl
 ·obtain⟨y,dy,x,p,dx,fs,t,s,ps,rfl,nx,side,hP,tk,kk⟩:=h;have nd:=yh.nd;refine⟨_,(aC (aU (i:=2) nd rfl (Or.inl rfl) (aL dM hr (aj (b_ (pv 0) T.clF fW hr) (aj (gY (pv 0) T.clF dW hr (aj (pv 1) aq)) aq))))
   (aC (cB (bw zN (pv 2) nH (bJ _)) (aB (uy T.pG (zK T.cC (vZ T.cC.S T.d7 T.cO) hr (aj (pv 1) (aj (b_ (pv 0) T.clF eZ hr) aq))))) bK)
   (PSs.nox (aB (aP (pv 2)))))),?_⟩
  clear nd dM fW dW eZ;rw[show start ["self","size","found"] [.ref y,.int s]=[some (.ref y),some (.int s),none] from rfl]
  try dsimp only[cM,bO,Oj]
  replace nx:Ru CF CH H y dy x p dx fs none:=nx;obtain⟨hy,bk⟩:=nx;obtain⟨hx,hp,h16,cj⟩:=id bk;have bks:Bks fs fs.length:=⟨rfl,h16,cj⟩;obtain⟨bA,bB,bC,bD,bF,aO⟩:=zsix T;have F:SH H [ak] H [(ak,.tbl ps)] [eH bU bH ps]:=(SH.nil.iV List.mem_cons_self hP rfl (by simp)).lC tk;have jA:=Old.mk (M:=[ak]) hx (nm1 (λz=>by rw[z,hP] at hx;cases hx));have jB:=Old.mk (M:=[ak]) hy (nm1 (λz=>by rw[z,hP] at hy;cases hy));have kh:=Old.mk (M:=[ak]) hp (nm1 (λz=>by rw[z,hP] at hp;cases hp));obtain⟨Bg,h1⟩:=side;have h64:(ao fs).length<=1000:=by lia
  have sd1:(ao fs).length<=1000/\wM (ao fs)/\∀w∈ao fs,w.2<1000000:=⟨h64,iM fs,pP cj⟩;have ol:(ao fs).length<=2*(ao fs).length:=jY .f (ao fs) t;have sd2:(ao fs).length<=1000/\(ao fs).Nodup/\∀w∈ao fs,w.1<1000000:=⟨h64,gA fs,gB cj⟩;rcases kk with⟨w,f,k⟩|⟨f,k⟩
  ·have f0:lQ (ao fs) s w:=f
   repeat k_meth
   
   intro q zs
   repeat k_meth
   have fd:∀b u,H b=some u->b≠q:=F.fresh (LkL.m (o:=.lst zs)) (nm1 (SH.neC (F:=F)));exact two_tab (R:=λH2=>Q _ H2) hP (λb u n e=>F.fr b u (nm1 n) e) bN SH.tab bN fd λH1 a1 a2 a3 H2 a4 e=>k _ H1 a1 a2 a3 q zs _ H2 a4 (by rw[e];exact TpA.e) (by rw[e];exact bN)
  ·have f0:lR (ao fs) s:=f
   repeat k_meth
   
   exact λd H' s e=>k _ d H' (λb u n e=>s _ _ (F.kpo b u n e)) (s _ _ bN) (TabOk.st _ _ (λq u _ e=>s q u e) SH.tab) e
theorem dX(T:Txt K mg c R CH CF CT CN CB aG ak):Met P w K mg base CX0 3 CT "used_by" ["self","size"] pZ:=by
 have cJ:=cJ (P:=P) (w:=w) (base:=base) T;obtain⟨f,hf,hm⟩:=T.rU;refine(bR (k:=2) hf pC (λvs H Q E h=>?_) (λ_ _ _ _ _ _=>el2 λ_ _=>rfl) (λf cdv A outer s H vs Q E hr h=>?_)).met hm
 ·obtain⟨y,s,rfl,_⟩:=h
  rfl
 ·obtain⟨y,s,rfl,h1,k⟩:=h;have nd:=pC.nd;refine⟨_,(aC (cB (cH (cG (aL cJ hr (aj (pv 1) (aj aA aq))))) iI bK)
   (aB (aP (pv 1)))),?_⟩
  clear nd cJ;rw[show start ["self","size"] [.ref y,.int s]=[some (.ref y),some (.int s)] from rfl]
  try dsimp only[cM,bO]
  obtain⟨bA,bB,bC,bD,bF,aO⟩:=zsix T;have F:SH H [] H [] []:=SH.nil
  repeat k_meth
  exact k
theorem m8(T:Txt K mg c R CH CF CT CN CB aG ak)(B:Bm mg base):Met P w K mg base (CX1 P w) 5 CT "look" ["self","size"] (qe CT CH (c 0) ak bU bH .t):=by
 have dM:=dM (P:=P) (w:=w) (base:=base) T;have fY:=fY (P:=P) (w:=w) (base:=base) T B;have dX:=dX (P:=P) (w:=w) (base:=base) T;have fj:=fj (P:=P) (w:=w) (base:=base) T;obtain⟨f,hf,hm⟩:=T.Dy;refine(qH (k:=4) hf yj (λvs H Q E h=>?_) (λ_ _ _ _ _ _=>el2 λ_ _=>rfl) (λf cdv A outer s H vs Q E hr h=>?_)).met hm
 ·obtain⟨y,dy,x,p,dx,fs,t,s,ps,rfl,_⟩:=h
  rfl
 ·obtain⟨y,dy,x,p,dx,fs,t,s,ps,rfl,nx,side,hP,tk,kk⟩:=h;have nd:=yj.nd;refine⟨_,(aC (aU (i:=2) nd rfl (Or.inl rfl) (aL dM hr (aj (b_ (pv 0) T.clT fY hr) (aj (gY (pv 0) T.clT dX hr (aj (pv 1) aq)) aq))))
   (aC (cB (bw zN (pv 2) nH (bJ _)) (aB (uy T.pG (zK T.cC (vZ T.cC.S T.d7 T.cO) hr (aj (pv 1) (aj (b_ (pv 0) T.clT fj hr) aq))))) bK)
   (PSs.nox (aB (aP (pv 2)))))),?_⟩
  clear nd dM fY dX fj;rw[show start ["self","size","found"] [.ref y,.int s]=[some (.ref y),some (.int s),none] from rfl]
  try dsimp only[cM,bO,Oj]
  replace nx:Ru CT CH H y dy x p dx fs none:=nx;obtain⟨hy,bk⟩:=nx;obtain⟨hx,hp,h16,cj⟩:=id bk;have bks:Bks fs fs.length:=⟨rfl,h16,cj⟩;obtain⟨bA,bB,bC,bD,bF,aO⟩:=zsix T;have F:SH H [ak] H [(ak,.tbl ps)] [eH bU bH ps]:=(SH.nil.iV List.mem_cons_self hP rfl (by simp)).lC tk;have jA:=Old.mk (M:=[ak]) hx (nm1 (λz=>by rw[z,hP] at hx;cases hx));have jB:=Old.mk (M:=[ak]) hy (nm1 (λz=>by rw[z,hP] at hy;cases hy));have kh:=Old.mk (M:=[ak]) hp (nm1 (λz=>by rw[z,hP] at hp;cases hp));obtain⟨Bg,h1⟩:=side;have h64:(ao fs).length<=1000:=by lia
  have sd1:(ao fs).length<=1000/\wM (ao fs)/\∀w∈ao fs,w.2<1000000:=⟨h64,iM fs,pP cj⟩;have ol:(lV (ao fs)).length<=2*(ao fs).length:=jY .t (ao fs) t;have sd2:(ao fs).length<=1000/\(ao fs).Nodup/\∀w∈ao fs,w.1<1000000:=⟨h64,gA fs,gB cj⟩;rcases kk with⟨w,f,k⟩|⟨f,k⟩
  ·have f0:lQ (lV (ao fs)) s w:=f
   repeat k_meth
   intro qs hq ps2;have eq:=i_ hq.1 hq.2;subst eq
   repeat k_meth
   intro q zs
   repeat k_meth
   have fd:∀b u,H b=some u->b≠q:=F.fresh (LkL.m (o:=.lst zs)) (nm1 (SH.neC (F:=F)));exact two_tab (R:=λH2=>Q _ H2) hP (λb u n e=>F.fr b u (nm1 n) e) bN SH.tab bN fd λH1 a1 a2 a3 H2 a4 e=>k _ H1 a1 a2 a3 q zs _ H2 a4 (by rw[e];exact TpA.e) (by rw[e];exact bN)
  ·have f0:lR (lV (ao fs)) s:=f
   repeat k_meth
   intro qs hq ps2;have eq:=i_ hq.1 hq.2;subst eq
   repeat k_meth
   exact λd H' s e=>k _ d H' (λb u n e=>s _ _ (F.kpo b u n e)) (s _ _ bN) (TabOk.st _ _ (λq u _ e=>s q u e) SH.tab) e
theorem dY(T:Txt K mg c R CH CF CT CN CB aG ak):Met P w K mg base CX0 3 CN "used_by" ["self","size"] pZ:=by
 have cJ:=cJ (P:=P) (w:=w) (base:=base) T;obtain⟨f,hf,hm⟩:=T.rW;refine(bR (k:=2) hf pD (λvs H Q E h=>?_) (λ_ _ _ _ _ _=>el2 λ_ _=>rfl) (λf cdv A outer s H vs Q E hr h=>?_)).met hm
 ·obtain⟨y,s,rfl,_⟩:=h
  rfl
 ·obtain⟨y,s,rfl,h1,k⟩:=h;have nd:=pD.nd;refine⟨_,(aC (cB (cH (cG (aL cJ hr (aj (pv 1) (aj aA aq))))) iI bK)
   (aB (aP (pv 1)))),?_⟩
  clear nd cJ;rw[show start ["self","size"] [.ref y,.int s]=[some (.ref y),some (.int s)] from rfl]
  try dsimp only[cM,bO]
  obtain⟨bA,bB,bC,bD,bF,aO⟩:=zsix T;have F:SH H [] H [] []:=SH.nil
  repeat k_meth
  exact k
theorem m9(T:Txt K mg c R CH CF CT CN CB aG ak):Met P w K mg base (CX1 P w) 5 CN "look" ["self","size"] (qe CN CH (c 0) ak bU bH .n):=by
 have dM:=dM (P:=P) (w:=w) (base:=base) T;have fX:=fX (P:=P) (w:=w) (base:=base) T;have dY:=dY (P:=P) (w:=w) (base:=base) T;have fu:=fu (P:=P) (w:=w) (base:=base) T;obtain⟨f,hf,hm⟩:=T.Dz;refine(qH (k:=4) hf yp (λvs H Q E h=>?_) (λ_ _ _ _ _ _=>el2 λ_ _=>rfl) (λf cdv A outer s H vs Q E hr h=>?_)).met hm
 ·obtain⟨y,dy,x,p,dx,fs,t,s,ps,rfl,_⟩:=h
  rfl
 ·obtain⟨y,dy,x,p,dx,fs,t,s,ps,rfl,nx,side,hP,tk,kk⟩:=h;have nd:=yp.nd;refine⟨_,(aC (aU (i:=2) nd rfl (Or.inl rfl) (aL dM hr (aj (b_ (pv 0) T.clN fX hr) (aj (gY (pv 0) T.clN dY hr (aj (pv 1) aq)) aq))))
   (aC (cB (bw zN (pv 2) nH (bJ _)) (aB (uy T.pG (zK T.cC (vZ T.cC.S T.d7 T.cO) hr (aj (pv 1) (aj (b_ (pv 0) T.clN fu hr) aq))))) bK)
   (PSs.nox (aB (aP (pv 2)))))),?_⟩
  clear nd dM fX dY fu;rw[show start ["self","size","found"] [.ref y,.int s]=[some (.ref y),some (.int s),none] from rfl]
  try dsimp only[cM,bO,Oj]
  replace nx:Ru CN CH H y dy x p dx fs (some t):=nx;obtain⟨hy,bk⟩:=nx;obtain⟨hx,hp,h16,cj⟩:=id bk;have bks:Bks fs fs.length:=⟨rfl,h16,cj⟩;obtain⟨bA,bB,bC,bD,bF,aO⟩:=zsix T;have F:SH H [ak] H [(ak,.tbl ps)] [eH bU bH ps]:=(SH.nil.iV List.mem_cons_self hP rfl (by simp)).lC tk;have jA:=Old.mk (M:=[ak]) hx (nm1 (λz=>by rw[z,hP] at hx;cases hx));have jB:=Old.mk (M:=[ak]) hy (nm1 (λz=>by rw[z,hP] at hy;cases hy));have kh:=Old.mk (M:=[ak]) hp (nm1 (λz=>by rw[z,hP] at hp;cases hp));obtain⟨Bg,h1⟩:=side;have h64:(ao fs).length<=1000:=by lia
  have sd1:(ao fs).length<=1000/\wM (ao fs)/\∀w∈ao fs,w.2<1000000:=⟨h64,iM fs,pP cj⟩;have ol:(h_ (ao fs) t).length<=2*(ao fs).length:=jY .n (ao fs) t;have sd2:(ao fs).length<=1000/\(ao fs).Nodup/\∀w∈ao fs,w.1<1000000:=⟨h64,gA fs,gB cj⟩;rcases kk with⟨w,f,k⟩|⟨f,k⟩
  ·have f0:lQ (h_ (ao fs) t) s w:=f
   repeat k_meth
   
   intro q zs
   repeat k_meth
   have fd:∀b u,H b=some u->b≠q:=F.fresh (LkL.m (o:=.lst zs)) (nm1 (SH.neC (F:=F)));exact two_tab (R:=λH2=>Q _ H2) hP (λb u n e=>F.fr b u (nm1 n) e) bN SH.tab bN fd λH1 a1 a2 a3 H2 a4 e=>k _ H1 a1 a2 a3 q zs _ H2 a4 (by rw[e];exact TpA.e) (by rw[e];exact bN)
  ·have f0:lR (h_ (ao fs) t) s:=f
   repeat k_meth
   
   exact λd H' s e=>k _ d H' (λb u n e=>s _ _ (F.kpo b u n e)) (s _ _ bN) (TabOk.st _ _ (λq u _ e=>s q u e) SH.tab) e
end
open M22
def Em:Sp:=λvs H Q _=>∃(bx:Addr)(x y z:Int),vs=[.ref bx]/\H bx=some (.lst [.int x,.int y,.int z])/\∀(n:Nat)(x' y' z':Int)(H':Hp),16<=n->n<=240->Kp bx H H'->H' bx=some (.lst [.int x',.int y',.int z'])->Q (.int (n:Nat)) H'
theorem two_steps{H H':Hp}{bx p:Addr}{b3 o:HO}{R:Hp->Prop}(hb:∃u,H bx=some u)(kp:Kp bx H H')(eb:H' bx=some b3)(ep:H' p=some o)(fr:∀b u,H b=some u->b≠p)(k:∀H1,Kp bx H H1->H1 bx=some b3->New H1 H' p o->R H'):R H':=by
 obtain⟨u0,hb⟩:=hb;have nb:bx≠p:=fr bx _ hb;have h1:∀{b:Addr},b≠p->(λb=>if b=p then none else H' b:Hp) b=H' b:=λn=>yT n
 refine k (λb=>if b=p then none else H' b) (λb u n e=>?_) ?_ ⟨λb u e=>?_,ep,λb u e z=>?_⟩
 ·rw[h1 (fr b u e)];exact kp b u n e
 ·exact(h1 nb).trans eb
 ·have e:(if b=p then none else H' b)=some u:=e;split at e
  ·cases e
  ·exact e
 ·have e:(if b=p then none else H' b)=some u:=e;rw[yB z] at e;cases e
section
variable{bx:Addr}{x y z:Int}{H:Hp}{Q:VK}{E:XK}{n:Nat}
instance ZJ[h:Hat H bx (.lst [.int x,.int y,.int z])]:Go (Em [.ref bx] H Q E) (∀(x' y' z':Int)(n:Nat),16<=n->n<=240->∀H',Kp bx H H'->H' bx=some (.lst [.int x',.int y',.int z'])->Q (.int (n:Nat)) H'):=⟨λk=>⟨bx,x,y,z,rfl,h.e,λn x' y' z' H' h1 h2 f e=>k x' y' z' n h1 h2 H' f e⟩⟩
end
theorem P_{v:V}{a b c d hi:Int}(hv:v∈[V.int a,V.int b,V.int c,V.int d])(h:(0<=a/\a<hi)/\(0<=b/\b<hi)/\(0<=c/\c<hi)/\(0<=d/\d<hi)):∃g:Nat,v=.int (g:Nat)/\(g:Int)<hi:=by
 obtain⟨⟨a0,a1⟩,⟨b0,b1⟩,⟨c0,c1⟩,d0,d1⟩:=h;simp only[List.mem_cons,List.not_mem_nil,or_false] at hv;rcases hv with rfl|rfl|rfl|rfl
 ·exact⟨a.toNat,by congr 1;lia,by lia⟩
 ·exact⟨b.toNat,by congr 1;lia,by lia⟩
 ·exact⟨c.toNat,by congr 1;lia,by lia⟩
 ·exact⟨d.toNat,by congr 1;lia,by lia⟩
theorem jZ(rs:xD)(r:Nat×Nat):aD (rs++[r])=aD rs++[[V.int (r.1:Nat),V.int (r.2:Nat)]]:=by unfold aD;rw[List.map_append];rfl
def Qa:Sp:=λvs H Q _=>∃i:Int,vs=[.int i]/\Q (.bl true) H
instance ach{i:Int}{H:Hp}{Q:VK}{E:XK}:Go (Qa [.int i] H Q E) (Q (.bl true) H):=⟨λk=>⟨i,rfl,k⟩⟩
def fnd(fs:xI)(i:Nat):List (Nat×Nat):=if 0<(scan (fs.take i)).2.1/\fs[i]?≠some true then (scan (fs.take i)).1++[(i-(scan (fs.take i)).2.1,(scan (fs.take i)).2.1)] else (scan (fs.take i)).1
theorem WT(fs:xI)(i:Nat)(h:i<=fs.length):(scan (fs.take i)).2.1<=i:=by
 have h1:=(jV (fs.take i)).le;rw[nE] at h1
 lia
theorem qg(n:Nat):cells n (cov [])=List.replicate n true:=by rw[<- Kw];rfl
theorem rm(fs:xI)(i:Nat):fnd fs i=if 0<(M22.scan (fs.take i)).2.1/\fs[i]?≠some true then (M22.scan (fs.take i)).1++[(i-(M22.scan (fs.take i)).2.1,(M22.scan (fs.take i)).2.1)] else (M22.scan (fs.take i)).1:=rfl
theorem Qc(fs:xI):fnd fs 0=[]:=by
 rw[rm,List.take_zero]
 rfl
theorem S9(fs:xI):fnd fs fs.length=ao fs:=by
 rw[rm,List.take_length,zzC (uS _)];unfold ao;rw[M22.scan_len];simp
theorem WW{fs:xI}{i:Nat}(h:fs[i]?=some false):fnd fs (i+1)=fnd fs i/\(M22.scan (fs.take (i+1))).2.1=0:=by
 have e:fs.take (i+1)=fs.take i++[false]:=by rw[gI,h];rfl
 have hl:=(qB.mp h).1;have h2:=M22.scan_len (fs.take i);rw[nE,Nat.min_eq_left (zzE hl)] at h2;have s2:stp (M22.scan (fs.take i)) false=(fnd fs i,0,i+1):=by
  rw[rm,h];unfold stp;by_cases hr:0<(M22.scan (fs.take i)).2.1
  ·simp[hr,h2]
  ·simp[hr,h2]
 have s1:M22.scan (fs.take (i+1))=(fnd fs i,0,i+1):=by rw[e,scan_snoc,s2]
 refine⟨?_,by rw[s1]⟩;rw[rm fs (i+1),s1,yT (λz=>gN z.1 (gE 0))]
theorem S_{fs:xI}{i:Nat}(h:fs[i]?=some true):(M22.scan (fs.take (i+1))).2.1=(M22.scan (fs.take i)).2.1+1/\fnd fs (i+1)=if fs[i+1]?=some true then fnd fs i else fnd fs i++[(i-(M22.scan (fs.take i)).2.1,(M22.scan (fs.take i)).2.1+1)]:=by
 have e:fs.take (i+1)=fs.take i++[true]:=by rw[gI,h];rfl
 have s1:M22.scan (fs.take (i+1))=((M22.scan (fs.take i)).1,(M22.scan (fs.take i)).2.1+1,(M22.scan (fs.take i)).2.2+1):=by
  rw[e,scan_snoc];unfold stp;rw[yB rfl]
 have f0:fnd fs i=(M22.scan (fs.take i)).1:=by rw[rm,yT (λz=>z.2 h)]
 refine⟨by rw[s1],?_⟩;rw[f0,rm fs (i+1),s1];by_cases hn:fs[i+1]?=some true
 ·rw[yT (λz=>z.2 hn),yB hn]
 ·rw[yB ⟨Nat.succ_pos _,hn⟩,yT hn];show _++[(i+1-(_+1),_+1)]=_;rw[Nat.add_sub_add_right]
theorem Tc{fs:xI}{a b:Nat}{v:Bool}:List.take ((a:Nat):Int).toNat (fs.map V.bl)++(List.replicate b v).map V.bl++List.drop ((a:Int)+(b:Int)).toNat (fs.map V.bl)=(iY fs a b v).map V.bl:=by
 rw[show ((a:Int)+(b:Int)).toNat=a+b by lia,vd,List.map_replicate]
 rfl
theorem Uq{fs:xI}{j:Nat}{b:Bool}(h:fs[j]?=some b):AtI (fs.map V.bl) ((j:Nat):Int) (.bl b):=⟨oh (by rw[vE,h];rfl)⟩
theorem WX{fs:xI}{j:Nat}{b:Bool}(h:fs[j+1]?=some b):AtI (fs.map V.bl) ((j:Int)+1) (.bl b):=by
 rw[show (j:Int)+1=((j+1:Nat):Int) by lia];exact Uq h
def yR:Sp:=λvs H Q _=>∃(l:Addr)(n:Nat)(ys:List V)(ws:xD),vs=[.int (n:Nat),.ref l]/\H l=some (.lst ys)/\aH H ys (aD ws)/\(16<=n/\n<=240/\∀w∈ws,w.1+w.2<=n)/\∀(q:Addr)(zs:List V)(H':Hp),New H H' q (.lst zs)->aH H' zs (aD (ao (cells n (cov ws))))->Q (.ref q) H'
section
variable{P:Program}{w:World}{K:W.Frag}{mg:xC}{base:Heap}{c:Nat->Addr}{aG ak R CH CF CT CN CB:Addr}
theorem Bh(T:Txt K mg c R CH CF CT CN CB aG ak):Def P w K mg base CX0 2 "_law_many" ["_law_box_here"] Em:=by
 have cN:=cN (P:=P) (w:=w) (base:=base) T;refine dB T.Px Jf (λvs H Q E h=>?_) (λ_ _ _ _ _ _=>el1 λ_=>rfl) (λf cdv A outer s H vs Q E hr h=>?_)
 ·obtain⟨bx,x,y,z,rfl,_⟩:=h
  rfl
 ·obtain⟨bx,x,y,z,rfl,hbx,k⟩:=h;have nd:=Jf.nd;refine⟨_,(aB (aP (bI dD (cF (aj aA (aj aA (aj (bT dh aA (aL cN hr (aj (pv 0) (aj aA aq)))) (aj (bT dh aA (aL cN hr (aj (pv 0) (aj aA aq)))) aq))))) (aL cN hr (aj (pv 0) (aj aA aq))) (λ_ _=>rfl)))),?_⟩;clear nd cN;rw[show start ["_law_box_here"] [.ref bx]=[some (.ref bx)] from rfl]
  try dsimp only[cM,bO]
  obtain⟨bA,bB,bC,bD,bF,aO⟩:=zsix T;have F:SH H [bx] H [(bx,.lst [.int x,.int y,.int z])] []:=SH.nil.iV List.mem_cons_self hbx rfl (by simp)
  repeat k_meth
  refine rK SqA.e lo_ hi_ λv hv=>?_
  obtain⟨g,hg,rfl⟩:∃g:Nat,(16<=g/\g<=240)/\v=.int (g:Nat):=by
   simp only[List.mem_cons,List.not_mem_nil,or_false] at hv;rcases hv with rfl|rfl|rfl|rfl
   ·exact⟨16,by lia,rfl⟩
   ·exact⟨240,by lia,rfl⟩
   ·rename_i r1 _ _ _ _ _ _ r2 _ _ _ _ _ _ _;exact⟨(16+r1).toNat,by lia,by congr 1;lia⟩
   ·rename_i r1 _ _ _ _ _ _ r2 _ _ _ _ _ _ _;exact⟨(16+r2).toNat,by lia,by congr 1;lia⟩
  repeat k_meth
  exact k g _ _ _ _ hg.1 hg.2 F.kpo bN
theorem cL(T:Txt K mg c R CH CF CT CN CB aG ak):Def P w K mg base CX0 1 "_law_whole" ["_law_found"] Qa:=by
 refine dB T.Dn xZ (λvs H Q E h=>?_) (λ_ _ _ _ _ _=>el1 λ_=>rfl) (λf cdv A outer s H vs Q E hr h=>?_)
 ·obtain⟨i,rfl,_⟩:=h
  rfl
 ·obtain⟨i,rfl,k⟩:=h;have nd:=xZ.nd;refine⟨_,(aB (aP (ju (bM dR rfl T.bZ boot_isinstance (aj (pv 0) (aj (kJ (T := "int") rfl T.PB boot_int) aq))) (jt (K7 (bM dR rfl T.bZ boot_isinstance (aj (pv 0) (aj (kJ (T := "bool") rfl T.G5 boot_bool) aq)))))))),?_⟩;clear nd ;rw[show start ["_law_found"] [.int i]=[some (.int i)] from rfl]
  try dsimp only[cM,bO]
  obtain⟨bA,bB,bC,bD,bF,aO⟩:=zsix T;have F:SH H [] H [] []:=SH.nil
  repeat k_meth
  exact k
theorem qj(T:Txt K mg c R CH CF CT CN CB aG ak):Def P w K mg base CX0 1 "_law_holes" ["_law_many_here","_law_puts_here"] yR:=by
 refine dB T.Dl xX (λvs H Q E h=>?_) (λ_ _ _ _ _ _=>el2 λ_ _=>rfl) (λf cdv A outer s H vs Q E hr h=>?_)
 ·obtain⟨l,n,ys,ws,rfl,_⟩:=h
  rfl
 ·obtain⟨l,n,ys,ws,rfl,hl,tp,side,k⟩:=h;have nd:=xX.nd;refine⟨_,(aC (aU (i:=2) nd rfl (Or.inl rfl) (bT zA (cF (aj fC aq)) (pv 0)))
   (aC (gK PassesOwn.never rfl (dO (pv 1)) (tV rfl (dj (bQ (i:=3) nd rfl (Or.inl rfl)) (dj (bQ (i:=4) nd rfl (Or.inl rfl)) jL))) (aB (yZ (bT zA (cF (aj fC aq)) (pv 4)) (R_ (pv 2) (pv 3) (bT dh (pv 3) (pv 4))))))
   (aC (aU (i:=5) nd rfl (Or.inl rfl) (cF aq))
   (aC (aU (i:=3) nd rfl (Or.inl rfl) aA)
   (aC (gK PassesOwn.never rfl (iJ rfl T.jo (aj (pv 0) aq)) (bQ (i:=6) nd rfl (Or.inl rfl)) (aB (cB (cH (cG (bI dD (pv 2) (pv 6) (λ_ _=>rfl)))) (aB (aU (i:=3) nd rfl (Or.inl rfl) (bT dh (pv 6) aA))) (aB (cB (PW.pt (fH (bw nj (bT dh (pv 6) aA) (pv 0) (bJ _)) (fG (cH (cG (bI dD (pv 2) (bT dh (pv 6) aA) (λ_ _=>rfl))))))) (aB (cV (fL (pv 5) (bY (aj (pv 3) (aj (bT za (bT dh (pv 6) aA) (pv 3)) aq)))))) bK)))))
   (aB (aP (pv 5)))))))),?_⟩
  clear nd ;rw[show start ["_law_many_here","_law_puts_here","_law_cells","_law_start","_law_size","_law_found","_law_at"] [.int (n:Nat),.ref l]=[some (.int (n:Nat)),some (.ref l),none,none,none,none,none] from rfl]
  try dsimp only[cM,bO]
  obtain⟨bA,bB,bC,bD,bF,aO⟩:=zsix T;have Bc:=Old.mk (M:=[]) hl nm0;have PX:=Gy.mk tp;have F:SH H [] H [] []:=SH.nil;obtain⟨h16,cj,hw⟩:=side;have yl:ys.length=ws.length:=by rw[tp.1,aJ]
  repeat k_meth
  rename Addr=>cp
  refine f9 (xs:=ys) (λi σ' H'=>∃o3 o4 o5 o6:Option V,σ'=[some (.int (n:Nat)),some (.ref l),some (.ref cp),o3,o4,o5,o6]/\SH H [] H' [(cp,.lst ((cells n (cov (ws.take i))).map V.bl))] []) ⟨_,_,_,_,rfl,by rw[List.take_zero,qg];exact F.sub SbC.s SbI.s⟩ ?_ ?_ ?_
  ·clear F;rintro i σ' H' _ ⟨_,_,_,_,rfl,F⟩;exact SqA.e
  ·clear F;rintro i v σ' H' hv ⟨_,_,_,_,rfl,F⟩;obtain⟨w0,q1,e1,rfl,e2⟩:=fM tp hv;have Ek:=Old.mk (M:=[]) e2 nm0;have hw0:=hw w0 (wE e1);have cl:=gF (n:=n) (c:=cov (ws.take i))
   repeat k_meth
   have e3:ws.take (i+1)=ws.take i++[w0]:=by rw[gI,e1];rfl
   exact⟨_,_,_,_,rfl,by rw[e3,<- vg hw0,<- Tc];exact F.sub SbC.s SbI.s⟩
  ·clear F;rintro σ' H' ⟨_,_,_,_,rfl,F⟩;rw[yl,List.take_length] at F
   generalize hfs:cells n (cov ws)=fs at *
   have fl:fs.length=n:=by rw[<- hfs,gF]
   repeat k_meth
   rw[show ((n:Nat):Int).toNat=n from rfl]
   rename Addr=>fa
   refine gQ (λi σ' H'=>∃(o4 o6:Option V)(zs:List V),σ'=[some (.int (n:Nat)),some (.ref l),some (.ref cp),some (.int ((i:Int)-((M22.scan (fs.take i)).2.1:Int))),o4,some (.ref fa),o6]/\zs.length<=i/\SH H [] H' [(fa,.lst zs),(cp,.lst (fs.map V.bl))] [.tps zs (aD (fnd fs i))]) ⟨_,_,[],rfl,uS _,by rw[Qc];exact(F.oN (ys:=[]) (rs:=aD []) aH.nil).sub SbC.s SbI.s⟩ ?_ ?_
   ·clear F;rintro i σ' H' hi ⟨_,_,zs,rfl,zl,F⟩;have hfi:fs[i]?=some (fs[i]'(by lia)):=by simp
    generalize fs[i]'(by lia)=b at hfi
    have a1:=Uq hfi;have rl:=WT fs i (by lia);cases b with
    | false =>
     obtain⟨f1,f2⟩:=WW hfi
     repeat k_meth
     rw[show ((i:Int)+1)=(((i+1:Nat):Int)-((M22.scan (fs.take (i+1))).2.1:Int)) by rw[f2];lia];exact⟨_,_,zs,rfl,by lia,by rw[f1];exact F.sub SbC.s SbI.s⟩
    | true =>
     obtain⟨f1,f2⟩:=S_ hfi
     repeat k_meth
     have e0:((i:Int)-((M22.scan (fs.take i)).2.1:Int))=(((i+1:Nat):Int)-((M22.scan (fs.take (i+1))).2.1:Int)):=by rw[f1];lia
     refine lq (λh=>?_) (λh=>?_)
     ·repeat k_meth
      have nn:fs[i+1]?≠some true:=by rw[List.getElem?_eq_none (by lia)];simp
      have e2:H_ p_=some (.tup [.int ((i:Int)-((M22.scan (fs.take i)).2.1:Int)),.int ((i:Int)+1-((i:Int)-((M22.scan (fs.take i)).2.1:Int)))]):=bN;rw[show ((i:Int)-((M22.scan (fs.take i)).2.1:Int))=((i-(M22.scan (fs.take i)).2.1:Nat):Int) by lia,show ((i:Int)+1-((i-(M22.scan (fs.take i)).2.1:Nat):Int))=(((M22.scan (fs.take i)).2.1+1:Nat):Int) by lia] at e2;have t2:aH H_ (zs++[.ref p_]) (aD (fnd fs (i+1))):=by
       rw[f2,yT nn,jZ];exact aH.snoc TpA.e e2
      rw[e0];exact⟨_,_,zs++[.ref p_],rfl,by simp;lia,(F.oN t2).sub SbC.s SbI.s⟩
     ·have hf1:fs[i+1]?=some (fs[i+1]'(by lia)):=by simp
      generalize fs[i+1]'(by lia)=b at hf1
      have a2:=WX hf1
      repeat k_meth
      cases b with
      | false =>
       repeat k_meth
       have nn:fs[i+1]?≠some true:=by rw[hf1];simp
       have e2:H_ p_=some (.tup [.int ((i:Int)-((M22.scan (fs.take i)).2.1:Int)),.int ((i:Int)+1-((i:Int)-((M22.scan (fs.take i)).2.1:Int)))]):=bN;rw[show ((i:Int)-((M22.scan (fs.take i)).2.1:Int))=((i-(M22.scan (fs.take i)).2.1:Nat):Int) by lia,show ((i:Int)+1-((i-(M22.scan (fs.take i)).2.1:Nat):Int))=(((M22.scan (fs.take i)).2.1+1:Nat):Int) by lia] at e2;have t2:aH H_ (zs++[.ref p_]) (aD (fnd fs (i+1))):=by
        rw[f2,yT nn,jZ];exact aH.snoc TpA.e e2
       rw[e0];exact⟨_,_,zs++[.ref p_],rfl,by simp;lia,(F.oN t2).sub SbC.s SbI.s⟩
      | true =>
       repeat k_meth
       rw[yB hf1] at f2;rw[e0];exact⟨_,_,zs,rfl,by lia,by rw[f2];exact F.sub SbC.s SbI.s⟩
   ·clear F;rintro σ' H' ⟨_,_,zs,rfl,zl,F⟩;rw[<- fl,S9] at F
    repeat k_meth
    exact k _ _ _ SH.nwC TpA.e
end
open M22
theorem Ur{v:V}{xs:List Int}{lo hi:Int}(hv:v∈xs.map V.int)(h:∀a∈xs,lo<=a/\a<hi)(h0:0<=lo):∃g:Nat,v=.int (g:Nat)/\lo<=(g:Int)/\(g:Int)<hi:=by
 obtain⟨a,ha,rfl⟩:=jS.mp hv;have:=h a ha;exact⟨a.toNat,by congr 1;lia,by lia,by lia⟩
theorem WY{v:V}{a b c d lo hi:Int}(hv:v∈[V.int a,V.int b,V.int c,V.int d])(h:0<=lo/\(lo<=a/\a<hi)/\(lo<=b/\b<hi)/\(lo<=c/\c<hi)/\(lo<=d/\d<hi)):∃g:Nat,v=.int (g:Nat)/\lo<=(g:Int)/\(g:Int)<hi :=
 Ur (xs:=[a,b,c,d]) hv (λz hz=>by
  simp only[List.mem_cons,List.not_mem_nil,or_false] at hz;rcases hz with rfl|rfl|rfl|rfl
  ·exact h.2.1
  ·exact h.2.2.1
  ·exact h.2.2.2.1
  ·exact h.2.2.2.2) h.1
structure rA(n:Nat)(ps:xD):Prop where
 few:ps.length<=120
 ok:∀w∈ps,1<=w.2/\w.1+w.2<=n
 up:ps.Pairwise λa b=>a.1+a.2<=b.1
def JC:Sp:=λvs H Q _=>∃(bx:Addr)(x y z:Int)(n:Nat),vs=[.ref bx,.int (n:Nat)]/\H bx=some (.lst [.int x,.int y,.int z])/\(16<=n/\n<=240)/\∀(x' y' z':Int)(ps:xD)(p:Addr)(ys:List V)(H':Hp),rA n ps->Kp bx H H'->H' bx=some (.lst [.int x',.int y',.int z'])->H' p=some (.lst ys)->aH H' ys (aD ps)->(∀b u,H b=some u->b≠p)->Q (.ref p) H'
section
variable{bx:Addr}{x y z:Int}{H:Hp}{Q:VK}{E:XK}{n:Nat}
instance aa0[h:Hat H bx (.lst [.int x,.int y,.int z])]:Go (JC [.ref bx,.int (n:Nat)] H Q E) (Sd (16<=n/\n<=240) (∀(x' y' z':Int)(ps:xD),rA n ps->∀H1,Kp bx H H1->H1 bx=some (.lst [.int x',.int y',.int z'])->∀p ys H2,New H1 H2 p (.lst ys)->aH H2 ys (aD ps)->Q (.ref p) H2)) :=
 ⟨λs=>⟨bx,x,y,z,n,rfl,h.e,s.1,λx' y' z' ps p ys H' h1 f e e2 t fr=>two_steps (R:=λH'=>Q (.ref p) H') ⟨_,h.e⟩ f e e2 fr λH1 f1 e1 n1=>s.2 x' y' z' ps h1 H1 f1 e1 p ys H' n1 t⟩⟩
end
section
variable{P:Program}{w:World}{K:W.Frag}{mg:xC}{base:Heap}{c:Nat->Addr}{aG ak R CH CF CT CN CB:Addr}
theorem Bj(T:Txt K mg c R CH CF CT CN CB aG ak):Def P w K mg base CX0 2 "_law_puts" ["_law_box_here","_law_many_here"] JC:=by
 have cN:=cN (P:=P) (w:=w) (base:=base) T;refine dB T.Py Jg (λvs H Q E h=>?_) (λ_ _ _ _ _ _=>el2 λ_ _=>rfl) (λf cdv A outer s H vs Q E hr h=>?_)
 ·obtain⟨bx,x,y,z,n,rfl,_⟩:=h
  rfl
 ·obtain⟨bx,x,y,z,n,rfl,hbx,side,k⟩:=h;have nd:=Jg.nd;refine⟨_,(aC (cB (bw nj (aL cN hr (aj (pv 0) (aj aA aq))) aA (bJ _)) (aB (aP (cF (aj (bY (aj aA (aj (pv 1) aq))) aq)))) bK)
   (aC (aU (i:=2) nd rfl (Or.inl rfl) (cF aq))
   (aC (aU (i:=3) nd rfl (Or.inl rfl) (aL cN hr (aj (pv 0) (aj aA aq))))
   (aC (aU (i:=4) nd rfl (Or.inl rfl) (bI dD (cF (aj (aL cN hr (aj (pv 0) (aj aA aq))) (aj (aL cN hr (aj (pv 0) (aj aA aq))) (aj (aL cN hr (aj (pv 0) (aj aA aq))) (aj aA aq))))) (aL cN hr (aj (pv 0) (aj aA aq))) (λ_ _=>rfl)))
   (aC (gK PassesOwn.never rfl (iJ rfl T.jo (aj (pv 4) aq)) (bQ (i:=5) nd rfl (Or.inl rfl)) (aB (cB (bw Ho (pv 3) (pv 1) (bJ _)) (aC (aU (i:=6) nd rfl (Or.inl rfl) (bT dh aA (aL cN hr (aj (pv 0) (aj (bM (xJ rfl) rfl T.PJ boot_min (aj (bT za (pv 1) (pv 3)) (aj (bI dD (cF (aj aA (aj aA (aj aA (aj (bI dD (cF (aj aA (aj aA aq))) (bT Hh (pv 4) aA) (λ_ _=>rfl)) aq))))) (aL cN hr (aj (pv 0) (aj aA aq))) (λ_ _=>rfl)) aq))) aq)))))
     (aC (cV (fL (pv 2) (bY (aj (pv 3) (aj (pv 6) aq)))))
     (aB (aU (i:=3) nd rfl (Or.inl rfl) (bT dh (bT dh (pv 3) (pv 6)) (bI dD (cF (aj aA (aj aA (aj aA (aj (aL cN hr (aj (pv 0) (aj aA aq))) aq))))) (aL cN hr (aj (pv 0) (aj aA aq))) (λ_ _=>rfl))))))) bK)))
   (aB (aP (pv 2)))))))),?_⟩
  clear nd cN;rw[show start ["_law_box_here","_law_many_here","_law_rows","_law_at","_law_most","_law_k","_law_size"] [.ref bx,.int (n:Nat)]=[some (.ref bx),some (.int (n:Nat)),none,none,none,none,none] from rfl]
  try dsimp only[cM,bO]
  obtain⟨bA,bB,bC,bD,bF,aO⟩:=zsix T;have F:SH H [bx] H [(bx,.lst [.int x,.int y,.int z])] []:=SH.nil.iV List.mem_cons_self hbx rfl (by simp);obtain⟨h16,cj⟩:=side
  repeat k_meth
  refine lq (λh=>?_) (λh=>?_)
  ·repeat k_meth
   rename_i tq;have e2:H_ tq=some (.tup [.int ((0:Nat):Int),.int (n:Nat)]):=bN;refine k _ _ _ [(0,n)] p_ _ _ ⟨by simp,λw hw=>by rw[List.mem_singleton.mp hw];show 1<=n/\0+n<=n;lia,List.pairwise_singleton _ _⟩ F.kpo bN bN ?_ (F.fresh (LkL.m (o:=.lst _)) (nm1 (SH.neC (F:=F))));exact⟨rfl,λj r e=>by
    match j with
    | 0=>cases e;exact⟨tq,rfl,e2⟩
    | j+1=>cases e⟩
  repeat k_meth
  rename_i ra aa _ _ _ alo ahi _ b1 _ _ _ b1l b1h _ b2 _ _ _ b2l b2h _ b3 _ _ _ b3l b3h _ _;obtain⟨a0,rfl⟩:∃a0:Nat,aa=(a0:Int):=⟨aa.toNat,by lia⟩;refine rK SqA.e lo_ hi_ λv hv=>?_
  obtain⟨m,rfl,hm⟩:=P_ (hi:=121) hv (by lia);clear hv
  repeat k_meth
  rw[show ((m:Nat):Int).toNat=m by lia];refine gQ (λi σ' H'=>∃(o4 o5:Option V)(at_:Nat)(ps:xD)(ys:List V)(x y z:Int),σ'=[some (.ref bx),some (.int (n:Nat)),some (.ref ra),some (.int (at_:Nat)),some (.int (m:Nat)),o4,o5]/\at_<=1000/\ps.length<=i/\(∀w∈ps,1<=w.2/\w.1+w.2<=n/\w.1+w.2<=at_)/\(ps.Pairwise λa b=>a.1+a.2<=b.1)/\ys.length=ps.length/\SH H [bx] H' [(ra,.lst ys),(bx,.lst [.int x,.int y,.int z])] [.tps ys (aD ps)]) ⟨_,_,a0,[],[],x_,y_,z_,rfl,by lia,Nat.le_refl _,by simp,List.Pairwise.nil,rfl,(F.oN (ys:=[]) (rs:=aD []) aH.nil).sub SbC.s SbI.s⟩ ?_ ?_
  ·clear F;rintro i σ' H' hi ⟨_,_,at_,ps,ys,x,y,z,rfl,hat,pl,ok,up,yl,F⟩
   repeat k_meth
   refine lq (λh=>?_) (λh=>?_)
   ·repeat k_meth
    refine rK SqA.e (by lia) (by show (m:Int) / 120<2;lia) λv hv=>?_
    obtain⟨vv,rfl,hv0,hv1⟩:=Ur (xs:=[40,1]) (lo:=1) (hi:=41) hv (by decide) (by decide);clear hv
    repeat k_meth
    refine rK SqA.e lo_ hi_ λv hv=>?_
    obtain⟨wd,rfl,hw0,hw⟩:=WY (lo:=1) (hi:=241) hv (by lia);clear hv
    repeat k_meth
    rename_i zz _ _ _ zlo zhi _ _ tq _ r2 _ _ _ acW acX _ _;have acY:zz<(n:Int)-(at_:Int):=by lia
    obtain⟨z1,rfl⟩:∃z1:Nat,zz=(z1:Int):=⟨zz.toNat,by lia⟩;refine rK SqA.e lo_ hi_ λv hv=>?_
    obtain⟨g,rfl,hg⟩:=P_ (hi:=12) hv (by lia);clear hv
    repeat k_meth
    rw[show [V.int ((at_:Nat):Int),V.int (1+(z1:Int))]=[V.int ((at_:Nat):Int),V.int ((1+z1:Nat):Int)] by simp] at F;have F2:=SH.app (ys:=ys) (rs:=aD ps) (q:=tq) (r:=[V.int ((at_:Nat):Int),V.int ((1+z1:Nat):Int)]) F (LkP.m) (LkI.m);rw[<- jZ ps (at_,1+z1)] at F2;rw[show (at_:Int)+(1+(z1:Int))+(g:Int)=((at_+(1+z1)+g:Nat):Int) by lia];refine⟨_,_,at_+(1+z1)+g,ps++[(at_,1+z1)],ys++[.ref tq],x_,y_,z_,rfl,by lia,by simp;lia,λw hw=>?_,List.pairwise_append.mpr ⟨up,List.pairwise_singleton _ _,λa ha b hb=>?_⟩,by simp[yl],F2.sub SbC.s SbI.s⟩
    ·rcases wT.mp hw with hw|hw
     ·have:=ok w hw
      lia
     ·rw[rS.mp hw];show 1<=1+z1/\at_+(1+z1)<=n/\at_+(1+z1)<=at_+(1+z1)+g
      lia
    ·rw[rS.mp hb];exact(ok a ha).2.2
   ·repeat k_meth
    exact⟨_,_,at_,ps,ys,x,y,z,rfl,hat,by lia,ok,up,yl,F⟩
  ·clear F;rintro σ' H' ⟨_,_,at_,ps,ys,x,y,z,rfl,hat,pl,ok,up,yl,F⟩
   repeat k_meth
   exact k _ _ _ ps _ ys _ ⟨by lia,λw hw=>⟨(ok w hw).1,(ok w hw).2.1⟩,up⟩ F.kpo bN bN TpA.e (F.fresh (LkL.m (o:=.lst _)) (nm1 (SH.neC (F:=F))))
end
open M22
theorem wA{K:W.Frag}{l:Addr}{xs:List V}{σ fvs:L2.St}{fr:List Nat}{te:TE}{H:Hp}{Q:VK}{n:Nat}{ws:xD}(g:Nat×Nat->List V)(hq:H l=some (.lst xs))(tp:aH H xs (aD ws))(hn:n=2)(hz:xs.length<=1000000)(hf:(fr.map λi=>(σ[i]?).getD none)=fvs)
  (turn:∀(w:Nat×Nat)(H':Hp)(R:VK),w∈ws->Same H H'->(∀q H2,Same H' H2->H2 q=some (.tup (g w))->R (.ref q) H2)->te (some (.int (w.1:Nat))::some (.int (w.2:Nat))::fvs) H' R)
  (k:∀p zs H',New H H' p (.lst zs)->aH H' zs (ws.map g)->Q (.ref p) H'):gh (Itl K l) 2 fr (yX K n (iw (bL 0) (iw (bL 1) Br))) rE te σ H Q:=by
 subst hn;have xl:xs.length=ws.length:=by rw[tp.1,aJ]
 refine xK (P:=λi y H=>∃w q,ws[i]?=some w/\y=.ref q/\H q=some (.tup (g w))) (jP (xs:=xs)) hz hf (λH' s=>s.seq (SqL.of hq)) (λi y H1 H2 h s=>let ⟨w,q,a,b,c⟩:=h;⟨w,q,a,b,s _ _ c⟩) (λi v tv H' hv s htv=>?_) λp H' zs n hl hP=>k p zs H' n ?_
 ·obtain⟨w,q,e1,rfl,e2⟩:=fM tp hv;obtain⟨t0,t1,rfl⟩:∃t0 t1,tv=[t0,t1]:=by
   match tv,htv with
   | [t0,t1],_=>exact⟨t0,t1,rfl⟩
  refine⟨[some (.int (w.1:Nat)),some (.int (w.2:Nat))],some (.int (w.1:Nat))::some (.int (w.2:Nat))::fvs,rfl,rfl,λR2 hR=>?_,λR kk=>turn w H' R (wE e1) s λq H2 s2 e=>kk _ _ s2 ⟨w,q,e1,rfl,e⟩⟩;exact Ga (SqT.of (s _ _ e2)) hR
 ·refine⟨by rw[hl,xl,wS],λj r e=>?_⟩;rw[vE] at e;cases e0:ws[j]? with
  | none=>rw[e0] at e;cases e
  | some w =>
   rw[e0] at e;cases e;have hj:=(qB.mp e0).1;obtain⟨w',q,a,b,c⟩:=hP j (zs[j]'(by lia)) (by simp);rw[e0] at a;cases a;exact⟨q,by rw[<- b];simp,c⟩
theorem En(ws:xD):ws.map (λw=>[V.int (w.2:Nat),V.int (w.1:Nat)])=aD (ws.map swP):=by
 unfold aD;rw[List.map_map]
 rfl
theorem ZK(ws:xD):(ws.map swP).map swP=ws:=by
 rw[List.map_map];exact List.map_id' ws
theorem Td{qs:xD}(h:Oo qs):lD (qs.map swP):=List.pairwise_map.mpr h
def KJ:Sp:=λvs H Q _=>∃(z:Str)(l:Addr)(t:Int)(ys:List V)(ws:xD),vs=[.str z,.ref l,.int t]/\H l=some (.lst ys)/\aH H ys (aD ws)/\(ws.length<=1000/\ws.Nodup/\∀w∈ws,w.1<1000000) /\
 ((z = "first" /\ Q (.ref l) H)\/(z = "tightest" /\ ∀qs:List (Nat×Nat),qs.Perm ws/\lD qs->∀q zs H',New H H' q (.lst zs)->aH H' zs (aD qs)->Q (.ref q) H')\/(z = "next" /\ ∀q zs H',New H H' q (.lst zs)->aH H' zs (aD (h_ ws t))->Q (.ref q) H'))
section
variable{P:Program}{w:World}{K:W.Frag}{mg:xC}{base:Heap}{c:Nat->Addr}{aG ak R CH CF CT CN CB:Addr}
theorem eV(T:Txt K mg c R CH CF CT CN CB aG ak):Def P w K mg base CX0 1 "_law_order" ["_law_word","_law_holes_here","_law_mark"] KJ:=by
 refine dB T.Dm xY (λvs H Q E h=>?_) (λ_ _ _ _ _ _=>el3 λ_ _ _=>rfl) (λf cdv A outer s H vs Q E hr h=>?_)
 ·obtain⟨z,l,t,ys,ws,rfl,_⟩:=h
  rfl
 ·obtain⟨z,l,t,ys,ws,rfl,hl,tp,side,kk⟩:=h;have nd:=xY.nd;refine⟨_,(aC (cB (bw nj (pv 0) dF (bJ _)) (aB (aP (gM (N:=["_law_size","_law_start"]) (nt:=2) (fr:=[]) (dO (bM Cz rfl T.pI boot_sorted (aj (gM (N:=["_law_start","_law_size"]) (nt:=2) (fr:=[]) (dO (pv 1)) (λ_ _ _ _=>(zQ (K:=K) (n:=2) rfl rfl (dj (bQ (i:=0) (show (["_law_start","_law_size"]:List Str).Nodup from by decide +kernel) rfl (Or.inl rfl)) (dj (bQ (i:=1) (show (["_law_start","_law_size"]:List Str).Nodup from by decide +kernel) rfl (Or.inl rfl)) jL)))) (λ_ _ _ _=>sJ) (λ_ _ _ _=>(bY (aj (pv 1) (aj (pv 0) aq))))) aq))) (λ_ _ _ _=>(zQ (K:=K) (n:=2) rfl rfl (dj (bQ (i:=0) (show (["_law_size","_law_start"]:List Str).Nodup from by decide +kernel) rfl (Or.inl rfl)) (dj (bQ (i:=1) (show (["_law_size","_law_start"]:List Str).Nodup from by decide +kernel) rfl (Or.inl rfl)) jL)))) (λ_ _ _ _=>sJ) (λ_ _ _ _=>(bY (aj (pv 1) (aj (pv 0) aq))))))) bK)
   (aC (cB (bw nj (pv 0) dF (bJ _)) (aB (aP (bT mq (gM (N:=["_law_hole","_law_mark"]) (nt:=1) (fr:=[2]) (dO (pv 1)) (λ_ _ _ _=>(bQ (i:=0) (show (["_law_hole","_law_mark"]:List Str).Nodup from by decide +kernel) rfl (Or.inl rfl))) (λ_ _ _ _=>jO (bw Bu (bI (gO (K:=K) rfl) (pv 0) aA (λ_ _=>rfl)) (pv 1) (bJ _))) (λ_ _ _ _=>(pv 0))) (gM (N:=["_law_hole","_law_mark"]) (nt:=1) (fr:=[2]) (dO (pv 1)) (λ_ _ _ _=>(bQ (i:=0) (show (["_law_hole","_law_mark"]:List Str).Nodup from by decide +kernel) rfl (Or.inl rfl))) (λ_ _ _ _=>jO (bw Ho (bI (gO (K:=K) rfl) (pv 0) aA (λ_ _=>rfl)) (pv 1) (bJ _))) (λ_ _ _ _=>(pv 0)))))) bK)
   (aB (aP (pv 1))))),?_⟩
  clear nd ;rw[show start ["_law_word","_law_holes_here","_law_mark"] [.str z,.ref l,.int t]=[some (.str z),some (.ref l),some (.int t)] from rfl]
  try dsimp only[cM,bO]
  obtain⟨bA,bB,bC,bD,bF,aO⟩:=zsix T;have Bc:=Old.mk (M:=[]) hl nm0;have PX:=Gy.mk tp;have F:SH H [] H [] []:=SH.nil;obtain⟨h64,nd,sm⟩:=side;have yl:ys.length=ws.length:=by rw[tp.1,aJ]
  rcases kk with⟨rfl,k⟩|⟨rfl,k⟩|⟨rfl,k⟩
  ·repeat k_meth
   exact k
  ·repeat k_meth
   refine wA (λw=>[V.int (w.2:Nat),V.int (w.1:Nat)]) hl tp rfl (by lia) rfl (λw H' R hw s7 kk=>?_) λp1 zs1 H1 n1 t1=>?_
   ·clear F;have F:SH H' [] H' [] []:=SH.nil
    repeat k_meth
    exact kk _ _ F.sm bN
   ·rw[En] at t1;replace F:=F.newR n1 t1;have sd1:(ws.map swP).length<=1000/\(ws.map swP).Nodup/\∀w∈ws.map swP,w.2<1000000:=⟨by rw[wS];exact h64,xR (λa b=>Iw) nd,λw hw=>by obtain⟨v,hv,rfl⟩:=jS.mp hw;exact sm v hv⟩
    repeat k_meth
    intro qs hq
    repeat k_meth
    have ql:qs.length=ws.length:=by rw[hq.1.length_eq,wS]
    have tq:aH H_ ys_ (aD qs):=TpA.e;have yl2:ys_.length=qs.length:=by rw[tq.1,aJ]
    refine wA (λw=>[V.int (w.2:Nat),V.int (w.1:Nat)]) bN tq rfl (by lia) rfl (λw H' R hw s7 kk=>?_) λp2 zs2 H2 n2 t2=>?_
    ·clear F;have F:SH H' [] H' [] []:=SH.nil
     repeat k_meth
     exact kk _ _ F.sm bN
    ·rw[En] at t2;replace F:=F.newR n2 t2
     repeat k_meth
     exact k (qs.map swP) ⟨by have:=hq.1.map swP;rw[ZK] at this;exact this,Td hq.2⟩ _ _ _ SH.nwC TpA.e
  ·have f1:=List.length_filter_le (λw:Nat×Nat=>decide (t<=(w.1:Int))) ws;have f2:=List.length_filter_le (λw:Nat×Nat=>decide ((w.1:Int)<t)) ws
   repeat k_meth
   refine nZ (P:=geV t) (fvs:=[some (.int t)]) bN (TpA.e (rs:=aD ws)) (by lia) rfl (λi ys H'=>aH H' ys (((aD ws).take i).filter (geV t))) (λi ys H1 H2 s t=>tL s t) aH.nil (λi q1 r H' R e1 s1 e2 kk=>?_) (λi q1 r ys H' R e1 hp s1 e2 g kk=>?_) (λi r ys H' e1 hp g=>by rw[gG e1,List.filter_append,List.filter_cons_of_neg (by simp[hp]),List.filter_nil,List.append_nil];exact g) λqa ya Ha na ga=>?_
   ·clear F;have F:SH H' [] H' [] []:=SH.nil;obtain⟨w0,_,rfl⟩:=jS.mp (wE e1);have Ek:=Old.mk (M:=[]) e2 nm0
    repeat k_meth
    exact kk _ (Same.refl _)
   ·repeat k_meth
    refine kk _ _ (Same.refl _) ?_;rw[gG e1,List.filter_append,List.filter_cons_of_pos hp,List.filter_nil];exact aH.snoc g e2
   ·rw[mE (by rw[aJ];lia),Jz] at ga;replace F:=F.newR na ga;have la:ya.length<=1000:=by rw[ga.1,aJ];lia
    clear na ga
    repeat k_meth
    refine nZ (P:=ltV t) (fvs:=[some (.int t)]) bN (TpA.e (rs:=aD ws)) (by lia) rfl (λi ys H'=>aH H' ys (((aD ws).take i).filter (ltV t))) (λi ys H1 H2 s t=>tL s t) aH.nil (λi q1 r H' R e1 s1 e2 kk=>?_) (λi q1 r ys H' R e1 hp s1 e2 g kk=>?_) (λi r ys H' e1 hp g=>by rw[gG e1,List.filter_append,List.filter_cons_of_neg (by simp[hp]),List.filter_nil,List.append_nil];exact g) λqb yb Hb nb gb=>?_
    ·clear F;have F:SH H' [] H' [] []:=SH.nil;obtain⟨w0,_,rfl⟩:=jS.mp (wE e1);have Ek:=Old.mk (M:=[]) e2 nm0
     repeat k_meth
     exact kk _ (Same.refl _)
    ·repeat k_meth
     refine kk _ _ (Same.refl _) ?_;rw[gG e1,List.filter_append,List.filter_cons_of_pos hp,List.filter_nil];exact aH.snoc g e2
    ·rw[mE (by rw[aJ];lia),JB] at gb;replace F:=F.newR nb gb;have lb:yb.length<=1000:=by rw[gb.1,aJ];lia
     clear nb gb
     repeat k_meth
     refine k _ _ _ SH.nwC ?_;unfold h_;rw[yM];exact Ej TpA.e TpA.e
end
open M22
section
variable{H0 H:Hp}{M:List Addr}{L L':List (Addr×HO)}{I:List Im}{P:Addr}{pos:Pos}{qual:Str}{ps:xL}
instance aa1{xs:List V}{Z:Addr->Hp->Prop}[F:SH H0 M H L I][u:LkU L P (.tbl ps) L']:Go (∀tq H',Kp P H H'->H' P=some (.tbl ps)->TabOk pos qual ps H'->H' tq=some (.tup xs)->Z tq H') (∀H' tq,SH H0 M H' L' (.tup tq xs::eH pos qual ps::I)->Z tq H'):=⟨λk tq H' f e t e2=>k H' tq (((F.kp f e u.u rfl).lC t).sE e2)⟩
end
def j4(CF CT CN CH P:Addr)(pos:Pos)(qual:Str):Sp:=λvs H Q _=>∃(k:Kd)(y dy x p dx:Addr)(fs:xI)(t s:Int)(ps:xL),vs=[.ref y,.int s]/\Ru (kC CF CT CN k) CH H y dy x p dx fs (kO k t)/\((ao fs).length<=400/\1<=s)/\H P=some (.tbl ps)/\TabOk pos qual ps H /\
 ((∃w,lQ (cT k (ao fs) t) s w/\∀ps' H1,Kp P H H1->H1 P=some (.tbl ps')->TabOk pos qual ps' H1->∀q zs tq H2,New H1 H2 q (.lst zs)->aH H2 zs (aD (gJ (cT k (ao fs) t) s))->H2 tq=some (.tup [.str "found", .int (w.1:Nat),.ref q])->Q (.ref tq) H2) \/
  (lR (cT k (ao fs) t) s/\∀ps' tq H',Kp P H H'->H' P=some (.tbl ps')->TabOk pos qual ps' H'->H' tq=some (.tup [.str "none", .int s,.int (iz 0 (cX (ao fs)))])->Q (.ref tq) H'))/\(k=.f\/k=.t\/k=.n)
section
variable{C dx P:Addr}{t u:Int}{H:Hp}{pos:Pos}{qual:Str}{ps:xL}{H0:Hp}{M:List Addr}{L L':List (Addr×HO)}{I:List Im}{k:Kd}{th:THd}{D:Ends}{σ:L2.St}{gs:List (Str×V)}
instance W2[F:SH H0 M H L I][u:LkU L P (.tbl ps) L']:Go (∀d H',Kp P H H'->H' P=some (.tbl ps)->TabOk pos qual ps H'->H' d=some (kY d gs)->tEX th D σ (.ref C) (some d) H') (∀(H':Hp)(a dx:Addr),SH H0 M H' L' (eH pos qual ps::I)->oJ H' a C gs->th D C a (some dx) σ H'):=⟨λk d H' f e t e2=>⟨C,rfl,λa ha=>k _ a d (((F.kp f e u.u rfl).lC t).same (Same.new ha)) (oJ.mk e2 ha)⟩⟩
instance Us:NeS "largest" "size":=⟨by decide⟩
end
section
variable{P:Program}{w:World}{K:W.Frag}{mg:xC}{base:Heap}{c:Nat->Addr}{aG ak R CH CF CT CN CB:Addr}
theorem jc(T:Txt K mg c R CH CF CT CN CB aG ak)(B:Bm mg base):Def P w K mg base CX0 6 "_law_told" ["_law_rule","_law_size"] (j4 CF CT CN CH ak bU bH):=by
 have m7:=m7 (P:=P) (w:=w) (base:=base) T;have m8:=m8 (P:=P) (w:=w) (base:=base) T B;have m9:=m9 (P:=P) (w:=w) (base:=base) T;refine dB T.Pz tD (λvs H Q E h=>?_) (λ_ _ _ _ _ _=>el2 λ_ _=>rfl) (λf cdv A outer s H vs Q E hr h=>?_)
 ·obtain⟨k0,y,dy,x,p,dx,fs,t,s,ps,rfl,_⟩:=h
  rfl
 ·obtain⟨k0,y,dy,x,p,dx,fs,t,s,ps,rfl,nx,side,hP,tk,kk,kind⟩:=h;rcases kind with kd|kd|kd
  ·have nd:=tD.nd;refine⟨_,(aC (aU (i:=2) nd rfl (Or.inl rfl) nH)
    (aC (Fx (λpins EX=>(aC (aU (i:=2) nd rfl (Or.inl rfl) (z8 (pv 0) T.clF m7 hr (aj (pv 1) aq)))
     (aB (cB (PW.pt (fH (cH (cG (bM dR rfl T.bZ boot_isinstance (aj (pv 2) (aj (kJ (T := "tuple") rfl T.pH boot_tuple) aq))))) (fH (bw tZ (bM fU rfl T.nF boot_len (aj (pv 2) aq)) aA (bJ _)) (fG (cH (cG (bM dR rfl T.bZ boot_isinstance (aj (bI bV (pv 2) aA (λ_ _=>rfl)) (aj (kJ (T := "list") rfl T.Ax boot_list) aq))))))))) (aB (aU (i:=2) nd rfl (Or.inl rfl) (bY (aj dF aq)))) (aB (aU (i:=2) nd rfl (Or.inl rfl) (bY (aj dF (aj (bI bV (pv 2) aA (λ_ _=>rfl)) (aj (bI bV (pv 2) aA (λ_ _=>rfl)) aq)))))))))) (M6 (i:=3) T.cC.gl (λa=>(aB (aU (i:=2) nd rfl (Or.inl rfl) (bY (aj dF (aj (mz T.cC.I.g T.d7 (pv 3)) (aj (mz T.cC.I.g T.cO (pv 3)) aq))))))) (M7 T.g_R (λa=>(aB (aU (i:=2) nd rfl (Or.inl rfl) (bY (aj dF aq))))) Fw) nd rfl rfl))
    (aB (aP (pv 2))))),?_⟩
   clear nd m7;rw[show start ["_law_rule","_law_size","_law_told_here","e"] [.ref y,.int s]=[some (.ref y),some (.int s),none,none] from rfl]
   try dsimp only[cM,bO]
   subst kd;replace nx:Ru CF CH H y dy x p dx fs none:=nx;have nx0:=nx;obtain⟨hy,bk⟩:=nx;obtain⟨hx,hp,h16,cj⟩:=id bk;have bks:Bks fs fs.length:=⟨rfl,h16,cj⟩;obtain⟨bA,bB,bC,bD,bF,aO⟩:=zsix T;have nxp:x≠p:=λz=>by rw[z,hp] at hx;cases hx
   have nyp:y≠p:=λz=>by rw[z,hp] at hy;cases hy
   have nxP:x≠ak:=λz=>by rw[z,hP] at hx;cases hx
   have nyP:y≠ak:=λz=>by rw[z,hP] at hy;cases hy
   have npP:p≠ak:=λz=>by rw[z,hP] at hp;cases hp
   have nxy:x≠y:=λz=>by
    rw[z,hy] at hx;injection hx with hx
    injection hx with h1 h2 h3
    exact gN (gL (List.lookup ("many" : Str)) h3) (by rw[fV (by decide) (by decide),jq];exact λz=>by cases z)
   have yS:ExM K (c 0) (c 0) true:=⟨uE T.cC.I⟩;have yU:ExM K (c 0) R true:=⟨Fy T.cC.I T.c_R T.t_R T.m_R⟩;have F:SH H [ak] H [(ak,.tbl ps)] [eH bU bH ps]:=(SH.nil.iV List.mem_cons_self hP rfl (by simp)).lC tk;have jA:=Old.mk (M:=[ak]) hx (nm1 nxP);have jB:=Old.mk (M:=[ak]) hy (nm1 nyP);have kh:=Old.mk (M:=[ak]) hp (nm1 npP);rcases kk with⟨w,f,k⟩|⟨f,k⟩
   ·have f0:lQ (cT .f (ao fs) 0) s w:=f
    repeat k_meth
    intro ps2
    repeat k_meth
    intro q zs
    repeat k_meth
    have fd:∀b u,H b=some u->b≠q:=F.fresh (LkL.m (o:=.lst zs)) (nm1 (SH.neC (F:=F)));exact two_tab (R:=λH2=>Q _ H2) hP (λb u n e=>F.fr b u (nm1 n) e) bN SH.tab bN fd λH1 a1 a2 a3 H2 a4 e=>k _ H1 a1 a2 a3 q zs _ H2 a4 (by rw[e];exact F.tps LkP.m) (by rw[e];exact bN)
   ·have f0:lR (cT .f (ao fs) 0) s:=f
    repeat k_meth
    intro ps2
    repeat k_meth
    exact k ps2 _ _ F.kpo bN SH.tab bN
  ·have nd:=tD.nd;refine⟨_,(aC (aU (i:=2) nd rfl (Or.inl rfl) nH)
    (aC (Fx (λpins EX=>(aC (aU (i:=2) nd rfl (Or.inl rfl) (z8 (pv 0) T.clT m8 hr (aj (pv 1) aq)))
     (aB (cB (PW.pt (fH (cH (cG (bM dR rfl T.bZ boot_isinstance (aj (pv 2) (aj (kJ (T := "tuple") rfl T.pH boot_tuple) aq))))) (fH (bw tZ (bM fU rfl T.nF boot_len (aj (pv 2) aq)) aA (bJ _)) (fG (cH (cG (bM dR rfl T.bZ boot_isinstance (aj (bI bV (pv 2) aA (λ_ _=>rfl)) (aj (kJ (T := "list") rfl T.Ax boot_list) aq))))))))) (aB (aU (i:=2) nd rfl (Or.inl rfl) (bY (aj dF aq)))) (aB (aU (i:=2) nd rfl (Or.inl rfl) (bY (aj dF (aj (bI bV (pv 2) aA (λ_ _=>rfl)) (aj (bI bV (pv 2) aA (λ_ _=>rfl)) aq)))))))))) (M6 (i:=3) T.cC.gl (λa=>(aB (aU (i:=2) nd rfl (Or.inl rfl) (bY (aj dF (aj (mz T.cC.I.g T.d7 (pv 3)) (aj (mz T.cC.I.g T.cO (pv 3)) aq))))))) (M7 T.g_R (λa=>(aB (aU (i:=2) nd rfl (Or.inl rfl) (bY (aj dF aq))))) Fw) nd rfl rfl))
    (aB (aP (pv 2))))),?_⟩
   clear nd m8;rw[show start ["_law_rule","_law_size","_law_told_here","e"] [.ref y,.int s]=[some (.ref y),some (.int s),none,none] from rfl]
   try dsimp only[cM,bO]
   subst kd;replace nx:Ru CT CH H y dy x p dx fs none:=nx;have nx0:=nx;obtain⟨hy,bk⟩:=nx;obtain⟨hx,hp,h16,cj⟩:=id bk;have bks:Bks fs fs.length:=⟨rfl,h16,cj⟩;obtain⟨bA,bB,bC,bD,bF,aO⟩:=zsix T;have nxp:x≠p:=λz=>by rw[z,hp] at hx;cases hx
   have nyp:y≠p:=λz=>by rw[z,hp] at hy;cases hy
   have nxP:x≠ak:=λz=>by rw[z,hP] at hx;cases hx
   have nyP:y≠ak:=λz=>by rw[z,hP] at hy;cases hy
   have npP:p≠ak:=λz=>by rw[z,hP] at hp;cases hp
   have nxy:x≠y:=λz=>by
    rw[z,hy] at hx;injection hx with hx
    injection hx with h1 h2 h3
    exact gN (gL (List.lookup ("many" : Str)) h3) (by rw[fV (by decide) (by decide),jq];exact λz=>by cases z)
   have yS:ExM K (c 0) (c 0) true:=⟨uE T.cC.I⟩;have yU:ExM K (c 0) R true:=⟨Fy T.cC.I T.c_R T.t_R T.m_R⟩;have F:SH H [ak] H [(ak,.tbl ps)] [eH bU bH ps]:=(SH.nil.iV List.mem_cons_self hP rfl (by simp)).lC tk;have jA:=Old.mk (M:=[ak]) hx (nm1 nxP);have jB:=Old.mk (M:=[ak]) hy (nm1 nyP);have kh:=Old.mk (M:=[ak]) hp (nm1 npP);rcases kk with⟨w,f,k⟩|⟨f,k⟩
   ·have f0:lQ (cT .t (ao fs) 0) s w:=f
    repeat k_meth
    intro ps2
    repeat k_meth
    intro q zs
    repeat k_meth
    have fd:∀b u,H b=some u->b≠q:=F.fresh (LkL.m (o:=.lst zs)) (nm1 (SH.neC (F:=F)));exact two_tab (R:=λH2=>Q _ H2) hP (λb u n e=>F.fr b u (nm1 n) e) bN SH.tab bN fd λH1 a1 a2 a3 H2 a4 e=>k _ H1 a1 a2 a3 q zs _ H2 a4 (by rw[e];exact F.tps LkP.m) (by rw[e];exact bN)
   ·have f0:lR (cT .t (ao fs) 0) s:=f
    repeat k_meth
    intro ps2
    repeat k_meth
    exact k ps2 _ _ F.kpo bN SH.tab bN
  ·have nd:=tD.nd;refine⟨_,(aC (aU (i:=2) nd rfl (Or.inl rfl) nH)
    (aC (Fx (λpins EX=>(aC (aU (i:=2) nd rfl (Or.inl rfl) (z8 (pv 0) T.clN m9 hr (aj (pv 1) aq)))
     (aB (cB (PW.pt (fH (cH (cG (bM dR rfl T.bZ boot_isinstance (aj (pv 2) (aj (kJ (T := "tuple") rfl T.pH boot_tuple) aq))))) (fH (bw tZ (bM fU rfl T.nF boot_len (aj (pv 2) aq)) aA (bJ _)) (fG (cH (cG (bM dR rfl T.bZ boot_isinstance (aj (bI bV (pv 2) aA (λ_ _=>rfl)) (aj (kJ (T := "list") rfl T.Ax boot_list) aq))))))))) (aB (aU (i:=2) nd rfl (Or.inl rfl) (bY (aj dF aq)))) (aB (aU (i:=2) nd rfl (Or.inl rfl) (bY (aj dF (aj (bI bV (pv 2) aA (λ_ _=>rfl)) (aj (bI bV (pv 2) aA (λ_ _=>rfl)) aq)))))))))) (M6 (i:=3) T.cC.gl (λa=>(aB (aU (i:=2) nd rfl (Or.inl rfl) (bY (aj dF (aj (mz T.cC.I.g T.d7 (pv 3)) (aj (mz T.cC.I.g T.cO (pv 3)) aq))))))) (M7 T.g_R (λa=>(aB (aU (i:=2) nd rfl (Or.inl rfl) (bY (aj dF aq))))) Fw) nd rfl rfl))
    (aB (aP (pv 2))))),?_⟩
   clear nd m9;rw[show start ["_law_rule","_law_size","_law_told_here","e"] [.ref y,.int s]=[some (.ref y),some (.int s),none,none] from rfl]
   try dsimp only[cM,bO]
   subst kd;replace nx:Ru CN CH H y dy x p dx fs (some t):=nx;have nx0:=nx;obtain⟨hy,bk⟩:=nx;obtain⟨hx,hp,h16,cj⟩:=id bk;have bks:Bks fs fs.length:=⟨rfl,h16,cj⟩;obtain⟨bA,bB,bC,bD,bF,aO⟩:=zsix T;have nxp:x≠p:=λz=>by rw[z,hp] at hx;cases hx
   have nyp:y≠p:=λz=>by rw[z,hp] at hy;cases hy
   have nxP:x≠ak:=λz=>by rw[z,hP] at hx;cases hx
   have nyP:y≠ak:=λz=>by rw[z,hP] at hy;cases hy
   have npP:p≠ak:=λz=>by rw[z,hP] at hp;cases hp
   have nxy:x≠y:=λz=>by
    rw[z,hy] at hx;injection hx with hx
    injection hx with h1 h2 h3
    exact gN (gL (List.lookup ("many" : Str)) h3) (by rw[fV (by decide) (by decide),jq];exact λz=>by cases z)
   have yS:ExM K (c 0) (c 0) true:=⟨uE T.cC.I⟩;have yU:ExM K (c 0) R true:=⟨Fy T.cC.I T.c_R T.t_R T.m_R⟩;have F:SH H [ak] H [(ak,.tbl ps)] [eH bU bH ps]:=(SH.nil.iV List.mem_cons_self hP rfl (by simp)).lC tk;have jA:=Old.mk (M:=[ak]) hx (nm1 nxP);have jB:=Old.mk (M:=[ak]) hy (nm1 nyP);have kh:=Old.mk (M:=[ak]) hp (nm1 npP);rcases kk with⟨w,f,k⟩|⟨f,k⟩
   ·have f0:lQ (cT .n (ao fs) t) s w:=f
    repeat k_meth
    intro ps2
    repeat k_meth
    intro q zs
    repeat k_meth
    have fd:∀b u,H b=some u->b≠q:=F.fresh (LkL.m (o:=.lst zs)) (nm1 (SH.neC (F:=F)));exact two_tab (R:=λH2=>Q _ H2) hP (λb u n e=>F.fr b u (nm1 n) e) bN SH.tab bN fd λH1 a1 a2 a3 H2 a4 e=>k _ H1 a1 a2 a3 q zs _ H2 a4 (by rw[e];exact F.tps LkP.m) (by rw[e];exact bN)
   ·have f0:lR (cT .n (ao fs) t) s:=f
    repeat k_meth
    intro ps2
    repeat k_meth
    exact k ps2 _ _ F.kpo bN SH.tab bN
end
open M22
def G8:Sp:=λvs H Q _=>∃(k:Kd)(l:Addr)(t s:Int)(ys:List V)(ws:xD),vs=[.str (kZ k),.ref l,.int t,.int s]/\H l=some (.lst ys)/\aH H ys (aD ws)/\(ws.length<=400/\ws.Nodup/\∀w∈ws,w.1<1000000) /\
 ((∃w,lQ (cT k ws t) s w/\∀q zs tq H',New H H' q (.lst zs)->aH H' zs (aD (gJ (cT k ws t) s))->H' tq=some (.tup [.str "found", .int (w.1:Nat),.ref q])->Q (.ref tq) H') \/
  (lR (cT k ws t) s/\∀tq H',Same H H'->H' tq=some (.tup [.str "none", .int s,.int (iz 0 (cX ws))])->Q (.ref tq) H'))/\(k=.f\/k=.t\/k=.n)
theorem wB{ws:xD}{i:Nat}{w:Nat×Nat}(e:ws[i]?=some w):aD (ws.take (i+1))=aD (ws.take i)++[[V.int (w.1:Nat),V.int (w.2:Nat)]]:=by
 rw[gI,e];unfold aD;rw[List.map_append]
 rfl
section
variable{P:Program}{w:World}{K:W.Frag}{mg:xC}{base:Heap}{c:Nat->Addr}{aG ak R CH CF CT CN CB:Addr}
theorem lY(T:Txt K mg c R CH CF CT CN CB aG ak):Def P w K mg base CX0 2 "_law_due" ["_law_word","_law_holes_here","_law_mark","_law_size"] G8:=by
 have eV:=eV (P:=P) (w:=w) (base:=base) T;refine dB T.Ui Pq (λvs H Q E h=>?_) (λ_ _ _ _ _ _=>el4 λ_ _ _ _=>rfl) (λf cdv A outer s H vs Q E hr h=>?_)
 ·obtain⟨K0,l,t,s,ys,ws,rfl,_⟩:=h
  rfl
 ·obtain⟨K0,l,t,s,ys,ws,rfl,hl,tp,side,kk,kind⟩:=h;have nd:=Pq.nd;refine⟨_,(aC (aU (i:=4) nd rfl (Or.inl rfl) (cF aq))
   (aC (gK PassesOwn.never rfl (dO (aL eV hr (aj (pv 0) (aj (pv 1) (aj (pv 2) aq))))) (tV rfl (dj (bQ (i:=5) nd rfl (Or.inl rfl)) (dj (bQ (i:=6) nd rfl (Or.inl rfl)) jL))) (aC (cB (bw Bu (pv 6) (pv 3) (bJ _)) (aB (aP (bY (aj dF (aj (pv 5) (aj (pv 4) aq)))))) bK)
    (aB (cV (fL (pv 4) (bY (aj (pv 5) (aj (pv 6) aq))))))))
   (aB (aP (bY (aj dF (aj (pv 3) (aj (Gh (xO rfl) rfl T.Dp boot_max (aj (gM (N:=["_law_start","_law_wide"]) (nt:=2) (fr:=[]) (dO (pv 1)) (λ_ _ _ _=>(zQ (K:=K) (n:=2) rfl rfl (dj (bQ (i:=0) (show (["_law_start","_law_wide"]:List Str).Nodup from by decide +kernel) rfl (Or.inl rfl)) (dj (bQ (i:=1) (show (["_law_start","_law_wide"]:List Str).Nodup from by decide +kernel) rfl (Or.inl rfl)) jL)))) (λ_ _ _ _=>sJ) (λ_ _ _ _=>(pv 1))) aq) aA) aq)))))))),?_⟩
  clear nd eV;rw[show start ["_law_word","_law_holes_here","_law_mark","_law_size","_law_passed","_law_start","_law_wide"] [.str (kZ K0),.ref l,.int t,.int s]=[some (.str (kZ K0)),some (.ref l),some (.int t),some (.int s),none,none,none] from rfl]
  try dsimp only[cM,bO]
  obtain⟨bA,bB,bC,bD,bF,aO⟩:=zsix T;have Bc:=Old.mk (M:=[]) hl nm0;have PX:=Gy.mk tp;have F:SH H [] H [] []:=SH.nil;obtain⟨Bg,nd,sm⟩:=side;have yl:ys.length=ws.length:=by rw[tp.1,aJ]
  have ol:=jY K0 ws t;have sd1:ws.length<=1000/\ws.Nodup/\∀w∈ws,w.1<1000000:=⟨by lia,nd,sm⟩
  repeat k_meth
  obtain⟨pa,e⟩:∃x,x=p_:=⟨_,rfl⟩;subst e;rcases kind with kd|kd|kd
  ·subst kd;refine⟨_,l,t,ys,ws,rfl,bN,TpA.e,sd1,.inl ⟨rfl,?_⟩⟩;replace F:SH H [] H_ [(pa,.lst [])] [.tps ys (aD (cT .f ws t))]:=F.oN (aH.same F.sm tp)
   repeat k_meth
   obtain⟨W0,hW0⟩:∃W0,W0=cT .f ws t:=⟨_,rfl⟩;rw[<- hW0] at kk ol F;have yl2:ys.length=W0.length:=by have:=(F.tps LkP.m:aH _ ys (aD W0)).1;rw[aJ] at this;exact this
   refine f9 (xs:=ys) (λi σ' H'=>∃(o5 o6:Option V)(zs:List V),σ'=[some (.str (kZ .f)),some (.ref l),some (.int t),some (.int s),some (.ref pa),o5,o6]/\zs.length=i/\(∀w∈W0.take i,¬ s<=(w.2:Int))/\SH H [] H' ((pa,.lst zs)::[]) (.tps zs (aD (W0.take i))::[.tps ys (aD W0)])) ⟨_,_,[],rfl,rfl,by simp,(F.oN (ys:=[]) (rs:=aD []) aH.nil).sub SbC.s (by simp)⟩ ?_ ?_ ?_
   ·clear F;rintro i σ' H' _ ⟨_,_,zs,rfl,zl,hn,F⟩;exact SqA.e
   ·clear F;rintro i v σ' H' hv ⟨_,_,zs,rfl,zl,hn,F⟩;have hi:=(qB.mp hv).1;obtain⟨w,q1,e1,rfl,e2⟩:=fM (F.tps LkP.m:aH H' ys (aD W0)) hv;replace F:=F.sE e2;by_cases hs:s<=(w.2:Int)
    ·rcases kk with⟨w',f,k⟩|⟨f,k⟩
     ·have hw:w'=w:=by
       have h2:=lO e1 (p:=λw=>decide (s<=(w.2:Int))) (by simpa using hs) (λz hz=>by simpa using hn z hz);rw[f.e] at h2;exact nS h2
      subst hw
      repeat k_meth
      refine k pa zs _ _ SH.nwC ?_ bN;rw[p8 e1 hs hn];exact F.tps LkP.m
     ·exact absurd (by simpa using List.find?_eq_none.mp f.e w (List.mem_of_getElem? e1)) (by simpa using hs)
    ·have al:zs.length<sizeLine:=qS (m:=2000) (by lia) (bW (by lia))
     repeat k_meth
     have F2:=SH.app (ys:=zs) (rs:=aD (W0.take i)) (q:=p_) (r:=[V.int (w.1:Nat),V.int (w.2:Nat)]) F (LkP.m) (LkI.m);refine⟨_,_,zs++[.ref p_],rfl,by rw[List.length_append,zl];rfl,λz hz=>?_,by rw[wB e1];exact F2.sub SbC.s (by simp)⟩;rw[gI,e1] at hz;rcases wT.mp hz with hz|hz
     ·exact hn z hz
     ·simp at hz;rw[hz];exact hs
   ·clear F;rintro σ' H' ⟨_,_,zs,rfl,zl,hn,F⟩;rw[yl2,List.take_length] at hn;rcases kk with⟨w',f,k⟩|⟨f,k⟩
    ·exact absurd (List.find?_some f.e) (by simpa using hn w' (List.mem_of_find?_eq_some f.e))
    ·have tp9:=aH.same F.sm tp
     repeat k_meth
     refine nU (F:=λr=>r.getD 1 .non) bN (aH.same F.sm tp) rfl (λr hr=>by obtain⟨w,_,rfl⟩:=jS.mp hr;exact⟨_,_,rfl⟩) (by lia) rfl (λa b H7 R hr s7 kk=>?_) λp9 H9 n9=>?_
     ·clear F
      repeat k_meth
      exact kk _ (Same.refl _)
     ·have e7:(aD ws).map (λr=>r.getD 1 V.non)=(cX ws).map V.int:=by simp[aD,cX]
      rw[e7] at n9;replace F:=F.newL n9
      repeat k_meth
      refine zT (ns:=cX ws) SqA.e (λn hn=>by obtain⟨w,hw,rfl⟩:=jS.mp hn;exact Int.natCast_nonneg _) ?_
      repeat k_meth
      exact k _ _ F.sm bN
  ·subst kd;refine⟨_,l,t,ys,ws,rfl,bN,TpA.e,sd1,.inr (.inl ⟨rfl,λqs hq q2 zs2 H2 n2 t2=>?_⟩)⟩;rw[<- i_ hq.1 hq.2] at t2;replace F:SH H [] H2 [(q2,.lst zs2),(pa,.lst [])] [.tps zs2 (aD (cT .t ws t))]:=F.newR n2 t2
   repeat k_meth
   obtain⟨W0,hW0⟩:∃W0,W0=cT .t ws t:=⟨_,rfl⟩;rw[<- hW0] at kk ol F;have yl2:zs2.length=W0.length:=by have:=(F.tps LkP.m:aH _ zs2 (aD W0)).1;rw[aJ] at this;exact this
   refine f9 (xs:=zs2) (λi σ' H'=>∃(o5 o6:Option V)(zs:List V),σ'=[some (.str (kZ .t)),some (.ref l),some (.int t),some (.int s),some (.ref pa),o5,o6]/\zs.length=i/\(∀w∈W0.take i,¬ s<=(w.2:Int))/\SH H [] H' ((pa,.lst zs)::[(q2,.lst zs2)]) (.tps zs (aD (W0.take i))::[.tps zs2 (aD W0)])) ⟨_,_,[],rfl,rfl,by simp,(F.oN (ys:=[]) (rs:=aD []) aH.nil).sub SbC.s (by simp)⟩ ?_ ?_ ?_
   ·clear F;rintro i σ' H' _ ⟨_,_,zs,rfl,zl,hn,F⟩;exact SqA.e
   ·clear F;rintro i v σ' H' hv ⟨_,_,zs,rfl,zl,hn,F⟩;have hi:=(qB.mp hv).1;obtain⟨w,q1,e1,rfl,e2⟩:=fM (F.tps LkP.m:aH H' zs2 (aD W0)) hv;replace F:=F.sE e2;by_cases hs:s<=(w.2:Int)
    ·rcases kk with⟨w',f,k⟩|⟨f,k⟩
     ·have hw:w'=w:=by
       have h2:=lO e1 (p:=λw=>decide (s<=(w.2:Int))) (by simpa using hs) (λz hz=>by simpa using hn z hz);rw[f.e] at h2;exact nS h2
      subst hw
      repeat k_meth
      refine k pa zs _ _ SH.nwC ?_ bN;rw[p8 e1 hs hn];exact F.tps LkP.m
     ·exact absurd (by simpa using List.find?_eq_none.mp f.e w (List.mem_of_getElem? e1)) (by simpa using hs)
    ·have al:zs.length<sizeLine:=qS (m:=2000) (by lia) (bW (by lia))
     repeat k_meth
     have F2:=SH.app (ys:=zs) (rs:=aD (W0.take i)) (q:=p_) (r:=[V.int (w.1:Nat),V.int (w.2:Nat)]) F (LkP.m) (LkI.m);refine⟨_,_,zs++[.ref p_],rfl,by rw[List.length_append,zl];rfl,λz hz=>?_,by rw[wB e1];exact F2.sub SbC.s (by simp)⟩;rw[gI,e1] at hz;rcases wT.mp hz with hz|hz
     ·exact hn z hz
     ·simp at hz;rw[hz];exact hs
   ·clear F;rintro σ' H' ⟨_,_,zs,rfl,zl,hn,F⟩;rw[yl2,List.take_length] at hn;rcases kk with⟨w',f,k⟩|⟨f,k⟩
    ·exact absurd (List.find?_some f.e) (by simpa using hn w' (List.mem_of_find?_eq_some f.e))
    ·have tp9:=aH.same F.sm tp
     repeat k_meth
     refine nU (F:=λr=>r.getD 1 .non) bN (aH.same F.sm tp) rfl (λr hr=>by obtain⟨w,_,rfl⟩:=jS.mp hr;exact⟨_,_,rfl⟩) (by lia) rfl (λa b H7 R hr s7 kk=>?_) λp9 H9 n9=>?_
     ·clear F
      repeat k_meth
      exact kk _ (Same.refl _)
     ·have e7:(aD ws).map (λr=>r.getD 1 V.non)=(cX ws).map V.int:=by simp[aD,cX]
      rw[e7] at n9;replace F:=F.newL n9
      repeat k_meth
      refine zT (ns:=cX ws) SqA.e (λn hn=>by obtain⟨w,hw,rfl⟩:=jS.mp hn;exact Int.natCast_nonneg _) ?_
      repeat k_meth
      exact k _ _ F.sm bN
  ·subst kd;refine⟨_,l,t,ys,ws,rfl,bN,TpA.e,sd1,.inr (.inr ⟨rfl,λq2 zs2 H2 n2 t2=>?_⟩)⟩;replace F:SH H [] H2 [(q2,.lst zs2),(pa,.lst [])] [.tps zs2 (aD (cT .n ws t))]:=F.newR n2 t2
   repeat k_meth
   obtain⟨W0,hW0⟩:∃W0,W0=cT .n ws t:=⟨_,rfl⟩;rw[<- hW0] at kk ol F;have yl2:zs2.length=W0.length:=by have:=(F.tps LkP.m:aH _ zs2 (aD W0)).1;rw[aJ] at this;exact this
   refine f9 (xs:=zs2) (λi σ' H'=>∃(o5 o6:Option V)(zs:List V),σ'=[some (.str (kZ .n)),some (.ref l),some (.int t),some (.int s),some (.ref pa),o5,o6]/\zs.length=i/\(∀w∈W0.take i,¬ s<=(w.2:Int))/\SH H [] H' ((pa,.lst zs)::[(q2,.lst zs2)]) (.tps zs (aD (W0.take i))::[.tps zs2 (aD W0)])) ⟨_,_,[],rfl,rfl,by simp,(F.oN (ys:=[]) (rs:=aD []) aH.nil).sub SbC.s (by simp)⟩ ?_ ?_ ?_
   ·clear F;rintro i σ' H' _ ⟨_,_,zs,rfl,zl,hn,F⟩;exact SqA.e
   ·clear F;rintro i v σ' H' hv ⟨_,_,zs,rfl,zl,hn,F⟩;have hi:=(qB.mp hv).1;obtain⟨w,q1,e1,rfl,e2⟩:=fM (F.tps LkP.m:aH H' zs2 (aD W0)) hv;replace F:=F.sE e2;by_cases hs:s<=(w.2:Int)
    ·rcases kk with⟨w',f,k⟩|⟨f,k⟩
     ·have hw:w'=w:=by
       have h2:=lO e1 (p:=λw=>decide (s<=(w.2:Int))) (by simpa using hs) (λz hz=>by simpa using hn z hz);rw[f.e] at h2;exact nS h2
      subst hw
      repeat k_meth
      refine k pa zs _ _ SH.nwC ?_ bN;rw[p8 e1 hs hn];exact F.tps LkP.m
     ·exact absurd (by simpa using List.find?_eq_none.mp f.e w (List.mem_of_getElem? e1)) (by simpa using hs)
    ·have al:zs.length<sizeLine:=qS (m:=2000) (by lia) (bW (by lia))
     repeat k_meth
     have F2:=SH.app (ys:=zs) (rs:=aD (W0.take i)) (q:=p_) (r:=[V.int (w.1:Nat),V.int (w.2:Nat)]) F (LkP.m) (LkI.m);refine⟨_,_,zs++[.ref p_],rfl,by rw[List.length_append,zl];rfl,λz hz=>?_,by rw[wB e1];exact F2.sub SbC.s (by simp)⟩;rw[gI,e1] at hz;rcases wT.mp hz with hz|hz
     ·exact hn z hz
     ·simp at hz;rw[hz];exact hs
   ·clear F;rintro σ' H' ⟨_,_,zs,rfl,zl,hn,F⟩;rw[yl2,List.take_length] at hn;rcases kk with⟨w',f,k⟩|⟨f,k⟩
    ·exact absurd (List.find?_some f.e) (by simpa using hn w' (List.mem_of_find?_eq_some f.e))
    ·have tp9:=aH.same F.sm tp
     repeat k_meth
     refine nU (F:=λr=>r.getD 1 .non) bN (aH.same F.sm tp) rfl (λr hr=>by obtain⟨w,_,rfl⟩:=jS.mp hr;exact⟨_,_,rfl⟩) (by lia) rfl (λa b H7 R hr s7 kk=>?_) λp9 H9 n9=>?_
     ·clear F
      repeat k_meth
      exact kk _ (Same.refl _)
     ·have e7:(aD ws).map (λr=>r.getD 1 V.non)=(cX ws).map V.int:=by simp[aD,cX]
      rw[e7] at n9;replace F:=F.newL n9
      repeat k_meth
      refine zT (ns:=cX ws) SqA.e (λn hn=>by obtain⟨w,hw,rfl⟩:=jS.mp hn;exact Int.natCast_nonneg _) ?_
      repeat k_meth
      exact k _ _ F.sm bN
end
end K32
namespace K32
open PySem L2 PyProof.Rows
local macro_rules|`(tactic| k_room)=>`(tactic| first
 | with_reducible assumption
 | with_unfolding_all exact rfl
 | with_unfolding_all exact Nat.le_of_ble_eq_true rfl
 | lia
 | (with_reducible refine bW ?_;first|lia|(simp only[List.length_cons,List.length_nil,List.length_map,List.length_append,List.length_replicate,aJ,List.length_take,List.length_drop,List.length_set];lia))
 | (with_reducible refine lu ?_;first|lia|(simp only[List.length_cons,List.length_nil,List.length_map,List.length_append,List.length_replicate,aJ,List.length_take,List.length_drop,List.length_set];lia))
 | (simp only[List.length_cons,List.length_nil,List.length_map,List.length_append,List.length_replicate,aJ,List.length_take,List.length_drop,List.length_set];lia)
 | decide)
local macro_rules|`(tactic| k_mem)=>`(tactic| first
 | with_reducible assumption
 | decide
 | lia
 | (simp only[List.length_cons,List.length_nil,List.length_map,List.length_append,List.length_replicate,aJ,List.length_take,List.length_drop,List.length_set];lia))
set_option hygiene false in
local macro_rules|`(tactic| k_meth)=>`(tactic| first
 | (with_reducible refine SM e_ ?_;try clear e_ D_)
 | (with_reducible refine ab9 ?_;intro D_ (e_:EnT _ _ _))
 | with_reducible refine go1 ?_
 | (clear F;intro H_ a_ dx_ (F:SH _ _ _ _ _) (ex_:oJ _ _ _ _);have exA_:=ExA.mk ex_)
 | (clear F;intro H_ (F:SH _ _ _ _ _))
 | (clear F;intro H_ p_ (F:SH _ _ _ _ _))
 | (clear F;intro H_ x_ dx_ (F:SH _ _ _ _ _))
 | (clear F;intro H_ p_ ys_ l_ (F:SH _ _ _ _ _))
 | with_reducible refine sd (by k_room) ?_
 | (intro (r_:Int) (x_:Int) (y_:Int) (z_:Int) lo_ hi_)
 | (intro (x_:Int) (y_:Int))
 | (intro (c_:Int))
 | with_reducible refine Ca (by k_mem) ?_
 | with_reducible refine Cd (by k_mem) ?_
 | with_reducible refine uI (by k_mem) ?_
 | with_reducible refine A_ (by k_mem) ?_)
open M22
def Qd:V->List V->Hp->VK->Prop:=λx vs H Q=>∃l xs,x=.ref l/\vs=[]/\H l=some (.lst xs)/\∀H',L2.Off l H H'->H' l=some (.lst xs.reverse)->Q .non H'
theorem Te{X:Cx}:MtM X "list.reverse" Qd:=by
 intro pins s σ H x vs v us Q I rx rv h;obtain⟨l,xs,rfl,rfl,hH,q⟩:=h;cases rx;have hus:=rv.zero;subst hus;obtain⟨z,its,n,r,hl,e⟩:=I.Bx hH;refine call_meets PySem.F.slot_list_reverse ⟨_,e,rfl⟩ PySem.F.entry_list_reverse (PySem.F.args_list_reverse_1 _) (PySem.AutoSeq1.list_reverse_list_0 l its.toArray n (by rw[nX];lia)) ⟨e,?_⟩;exact⟨.non,_,I.Rq (its':=its.reverse) (ys:=xs.reverse) hH e (by simp) r.reverse (by rw[List.length_reverse];exact z),rfl,q _ L2.Off.upd bG⟩
theorem Bl{X:Cx}{o:Expr}{to:TE}{apos cpos:Pos}(ho:PE X o to)(hbase:attributeBase o "reverse" X.env (eval o X.env)=eval o X.env:=by rfl)(hline:(apos.endLine==cpos.line)=true:=by rfl) :
  PE X (.Call (.Attribute o "reverse" apos) [] [] cpos) (Ls X.K "list" Qd to) :=
 Lw PySem.F.plainAttrs_list PySem.F.slot_list_reverse PySem.F.type_list_reverse Te ho hbase hline
instance aa2{H:Hp}{Q:VK}{l:Addr}{xs:List V}[h:Hat H l (.lst xs)]:Go (Qd (.ref l) [] H Q) (∀H',L2.Off l H H'->H' l=some (.lst xs.reverse)->Q .non H'):=⟨λk=>⟨l,xs,rfl,rfl,h.e,k⟩⟩
def qm(CF CT CN CH P:Addr)(pos:Pos)(qual:Str):Sp:=λvs H Q _=>∃(k:Kd)(y dy x p dx l:Addr)(fs:xI)(t s:Int)(ys:List V)(ps:xL),vs=[.ref y,.str (kZ k),.ref l,.int t,.int s]/\Ru (kC CF CT CN k) CH H y dy x p dx fs (kO k t)/\H l=some (.lst ys)/\aH H ys (aD (ao fs))/\((ao fs).length<=400/\1<=s/\(k=.n\/t=0))/\H P=some (.tbl ps)/\TabOk pos qual ps H/\(∀ps' H',Kp P H H'->H' P=some (.tbl ps')->TabOk pos qual ps' H'->Q (.bl true) H')/\(k=.f\/k=.t\/k=.n)
section
variable{CF CT CN CH y dy x p dx q l P:Addr}{fs:xI}{t s:Int}{H:Hp}{Q:VK}{E:XK}{ys:List V}{ws:xD}{w:Nat×Nat}{pos:Pos}{qual:Str}{ps:xL}{H0:Hp}{M:List Addr}{L:List (Addr×HO)}{I:List Im}{k:Kd}
instance aa3[h:Hat H l (.lst ys)][tt:TpA H ys (aD ws)][f:lQ (cT k ws t) s w]:Go (G8 [.str (kZ k),.ref l,.int t,.int s] H Q E) (Sd (ws.length<=400/\ws.Nodup/\∀w∈ws,w.1<1000000) (∀q zs tq H',New H H' q (.lst zs)->aH H' zs (aD (gJ (cT k ws t) s))->H' tq=some (.tup [.str "found", .int (w.1:Nat),.ref q])->Q (.ref tq) H')):=⟨λkk=>⟨k,l,t,s,ys,ws,rfl,h.e,tt.e,kk.1,.inl ⟨w,f,kk.2⟩,by cases k <;> simp⟩⟩
instance aa4[h:Hat H l (.lst ys)][tt:TpA H ys (aD ws)][f:lR (cT k ws t) s]:Go (G8 [.str (kZ k),.ref l,.int t,.int s] H Q E) (Sd (ws.length<=400/\ws.Nodup/\∀w∈ws,w.1<1000000) (∀tq H',Same H H'->H' tq=some (.tup [.str "none", .int s,.int (iz 0 (cX ws))])->Q (.ref tq) H')):=⟨λkk=>⟨k,l,t,s,ys,ws,rfl,h.e,tt.e,kk.1,.inr ⟨f,kk.2⟩,by cases k <;> simp⟩⟩
instance Xx[F:SH H0 M H L I][h:RuA CF CH H y dy x p dx fs none][e:LkL L P (.tbl ps)][tb:j_ I pos qual ps][f:lQ (cT .f (ao fs) 0) s w]:Go (j4 CF CT CN CH P pos qual [.ref y,.int s] H Q E) (Sd ((ao fs).length<=400/\1<=s) (∀ps' H1,Kp P H H1->H1 P=some (.tbl ps')->TabOk pos qual ps' H1->∀q zs tq H2,New H1 H2 q (.lst zs)->aH H2 zs (aD (gJ (cT .f (ao fs) 0) s))->H2 tq=some (.tup [.str "found", .int (w.1:Nat),.ref q])->Q (.ref tq) H2)) :=
 ⟨λkk=>⟨.f,y,dy,x,p,dx,fs,0,s,ps,rfl,h.e,kk.1,F.raw e.m,F.im _ tb.m,.inl ⟨w,f,kk.2⟩,by simp⟩⟩
instance Xy[F:SH H0 M H L I][h:RuA CF CH H y dy x p dx fs none][e:LkL L P (.tbl ps)][tb:j_ I pos qual ps][f:lR (cT .f (ao fs) 0) s]:Go (j4 CF CT CN CH P pos qual [.ref y,.int s] H Q E) (Sd ((ao fs).length<=400/\1<=s) (∀ps' tq H',Kp P H H'->H' P=some (.tbl ps')->TabOk pos qual ps' H'->H' tq=some (.tup [.str "none", .int s,.int (iz 0 (cX (ao fs)))])->Q (.ref tq) H')) :=
 ⟨λkk=>⟨.f,y,dy,x,p,dx,fs,0,s,ps,rfl,h.e,kk.1,F.raw e.m,F.im _ tb.m,.inr ⟨f,kk.2⟩,by simp⟩⟩
instance Xz[F:SH H0 M H L I][h:RuA CT CH H y dy x p dx fs none][e:LkL L P (.tbl ps)][tb:j_ I pos qual ps][f:lQ (cT .t (ao fs) 0) s w]:Go (j4 CF CT CN CH P pos qual [.ref y,.int s] H Q E) (Sd ((ao fs).length<=400/\1<=s) (∀ps' H1,Kp P H H1->H1 P=some (.tbl ps')->TabOk pos qual ps' H1->∀q zs tq H2,New H1 H2 q (.lst zs)->aH H2 zs (aD (gJ (cT .t (ao fs) 0) s))->H2 tq=some (.tup [.str "found", .int (w.1:Nat),.ref q])->Q (.ref tq) H2)) :=
 ⟨λkk=>⟨.t,y,dy,x,p,dx,fs,0,s,ps,rfl,h.e,kk.1,F.raw e.m,F.im _ tb.m,.inl ⟨w,f,kk.2⟩,by simp⟩⟩
instance XC[F:SH H0 M H L I][h:RuA CT CH H y dy x p dx fs none][e:LkL L P (.tbl ps)][tb:j_ I pos qual ps][f:lR (cT .t (ao fs) 0) s]:Go (j4 CF CT CN CH P pos qual [.ref y,.int s] H Q E) (Sd ((ao fs).length<=400/\1<=s) (∀ps' tq H',Kp P H H'->H' P=some (.tbl ps')->TabOk pos qual ps' H'->H' tq=some (.tup [.str "none", .int s,.int (iz 0 (cX (ao fs)))])->Q (.ref tq) H')) :=
 ⟨λkk=>⟨.t,y,dy,x,p,dx,fs,0,s,ps,rfl,h.e,kk.1,F.raw e.m,F.im _ tb.m,.inr ⟨f,kk.2⟩,by simp⟩⟩
instance XD[F:SH H0 M H L I][h:RuA CN CH H y dy x p dx fs (some t)][e:LkL L P (.tbl ps)][tb:j_ I pos qual ps][f:lQ (cT .n (ao fs) t) s w]:Go (j4 CF CT CN CH P pos qual [.ref y,.int s] H Q E) (Sd ((ao fs).length<=400/\1<=s) (∀ps' H1,Kp P H H1->H1 P=some (.tbl ps')->TabOk pos qual ps' H1->∀q zs tq H2,New H1 H2 q (.lst zs)->aH H2 zs (aD (gJ (cT .n (ao fs) t) s))->H2 tq=some (.tup [.str "found", .int (w.1:Nat),.ref q])->Q (.ref tq) H2)) :=
 ⟨λkk=>⟨.n,y,dy,x,p,dx,fs,t,s,ps,rfl,h.e,kk.1,F.raw e.m,F.im _ tb.m,.inl ⟨w,f,kk.2⟩,by simp⟩⟩
instance XF[F:SH H0 M H L I][h:RuA CN CH H y dy x p dx fs (some t)][e:LkL L P (.tbl ps)][tb:j_ I pos qual ps][f:lR (cT .n (ao fs) t) s]:Go (j4 CF CT CN CH P pos qual [.ref y,.int s] H Q E) (Sd ((ao fs).length<=400/\1<=s) (∀ps' tq H',Kp P H H'->H' P=some (.tbl ps')->TabOk pos qual ps' H'->H' tq=some (.tup [.str "none", .int s,.int (iz 0 (cX (ao fs)))])->Q (.ref tq) H')) :=
 ⟨λkk=>⟨.n,y,dy,x,p,dx,fs,t,s,ps,rfl,h.e,kk.1,F.raw e.m,F.im _ tb.m,.inr ⟨f,kk.2⟩,by simp⟩⟩
end
theorem JD{K:W.Frag}{H:Hp}{tq q:Addr}{z:Str}{i:Int}{zs:List V}{ws:xD}(h:H tq=some (.tup [.str z,.int i,.ref q]))(hq:H q=some (.lst zs))(tp:aH H zs (aD ws)):Rep K H (.tup [.str z,.int i,.lst ((aD ws).map oK)]) (.ref tq):=by
 simp only[Rep];refine⟨tq,_,rfl,SqT.of h,?_⟩;simp only[dG];exact⟨_,_,rfl,by simp[Rep],_,_,rfl,by simp[Rep],_,_,rfl,oM (SqL.of hq) tp (λr hr v hv=>by
  obtain⟨w,_,rfl⟩:=jS.mp hr;simp only[List.mem_cons,List.not_mem_nil,or_false] at hv;rcases hv with rfl|rfl <;> rfl),rfl⟩
theorem Tf{z:Str}{i:Int}{ws:xD}:iG (.tup [.str z,.int i,.lst ((aD ws).map oK)])<=100:=by
 have:=qJ (aD ws);simp only[iG,iD] at *
 lia
section
variable{K:W.Frag}{H:Hp}{Q:VK}{tq tq2 q q2:Addr}{z:Str}{i j:Int}{zs zs2:List V}{ws:xD}
instance ZL[h:Hat H tq (.tup [.str z,.int i,.ref q])][h2:Hat H tq2 (.tup [.str z,.int i,.ref q2])][a:Hat H q (.lst zs)][b:Hat H q2 (.lst zs2)][t:TpA H zs (aD ws)][t2:TpA H zs2 (aD ws)]:Go (zO K (.ref tq) (.ref tq2) H Q) (Q (.bl false) H):=⟨uK (JD h.e a.e t.e) (JD h2.e b.e t2.e) Tf⟩
instance ZM[h:Hat H tq (.tup [.str z,.int i,.int j])][h2:Hat H tq2 (.tup [.str z,.int i,.int j])]:Go (zO K (.ref tq) (.ref tq2) H Q) (Q (.bl false) H):=⟨uK (Ip h.e (λv hv=>by simp only[List.mem_cons,List.not_mem_nil,or_false] at hv;rcases hv with rfl|rfl|rfl <;> rfl)) (Ip h2.e (λv hv=>by simp only[List.mem_cons,List.not_mem_nil,or_false] at hv;rcases hv with rfl|rfl|rfl <;> rfl)) Sh⟩
instance XH[h:Hat H q (.lst [])][h2:Hat H q2 (.lst [])]:Go (zO K (.ref q) (.ref q2) H Q) (Q (.bl false) H):=⟨T7 (ws:=[]) h.e h2.e aH.nil aH.nil⟩
instance aa5[h:Hat H q (.lst zs)][h2:Hat H q2 (.lst zs2)][t:TpA H zs (aD ws)][t2:TpA H zs2 (aD ws)]:Go (zO K (.ref q) (.ref q2) H Q) (Q (.bl false) H):=⟨T7 h.e h2.e t.e t2.e⟩
end
section
variable{K:W.Frag}{H:Hp}{Q:VK}
theorem isR{C CB y dy:Addr}{gs:List (Str×V)}(e:H y=some (.ins C dy gs))(cl:Cls K C)(ha:W.findIn K (.ref C) "__class__" = some (some (.builtin "object.__class__")))(hn:W.specialIn K (.builtin "object.__class__") "__get__" = some (some (.builtin "getset_descriptor.__get__")))(htk:W.takesIn K (.builtin "object.__class__")=some true)(hm:W.mroIn K C (.type "object")=some true)(hk:W.kitOne K (.ref C) (.ref CB)=some true)(k:Q (.bl true) H):uF K [.ref y,.ref CB] H Q :=
 ⟨_,_,_,_,rfl,.ins e cl ha hn htk hm,hk,k⟩
end
theorem j5(ws:xD)(s:Int):(∃w,lQ ws s w)\/lR ws s:=by
 cases e:ws.find? (λw=>decide (s<=(w.2:Int))) with
 | none=>exact .inr ⟨e⟩
 | some w=>exact .inl ⟨w,⟨e⟩⟩
section
variable{P:Program}{w:World}{K:W.Frag}{mg:xC}{base:Heap}{c:Nat->Addr}{aG ak R CH CF CT CN CB:Addr}
theorem tM(T:Txt K mg c R CH CF CT CN CB aG ak)(B:Bm mg base):Def P w K mg base CX0 7 "_law_right" ["_law_rule","_law_word","_law_holes_here","_law_mark","_law_size"] (qm CF CT CN CH ak bU bH):=by
 have lY:=lY (P:=P) (w:=w) (base:=base) T;have fW:=fW (P:=P) (w:=w) (base:=base) T;have cP:=cP (P:=P) (w:=w) (base:=base) T;have dW:=dW (P:=P) (w:=w) (base:=base) T;have eV:=eV (P:=P) (w:=w) (base:=base) T;have mV:=mV (P:=P) (w:=w) (base:=base) T;have cL:=cL (P:=P) (w:=w) (base:=base) T;have fY:=fY (P:=P) (w:=w) (base:=base) T B;have cQ:=cQ (P:=P) (w:=w) (base:=base) T;have jc:=jc (P:=P) (w:=w) (base:=base) T B;have dX:=dX (P:=P) (w:=w) (base:=base) T;have mW:=mW (P:=P) (w:=w) (base:=base) T;have fX:=fX (P:=P) (w:=w) (base:=base) T;have cR:=cR (P:=P) (w:=w) (base:=base) T;have dY:=dY (P:=P) (w:=w) (base:=base) T;have pO:=pO (P:=P) (w:=w) (base:=base) T;refine dB T.Jj o_ (λvs H Q E h=>?_) (λ_ _ _ _ _ _=>el5 λ_ _ _ _ _=>rfl) (λf cdv A outer s H vs Q E hr h=>?_)
 ·obtain⟨k0,y,dy,x,p,dx,l,fs,t,s,ys,ps,rfl,_⟩:=h
  rfl
 ·obtain⟨k0,y,dy,x,p,dx,l,fs,t,s,ys,ps,rfl,nx,hl,tp,side,hP,tk,k,kind⟩:=h;rcases kind with kd|kd|kd
  ·have nd:=o_.nd;refine⟨_,(aC (aU (i:=5) nd rfl (Or.inl rfl) (aL lY hr (aj (pv 1) (aj (pv 2) (aj (pv 3) (aj (pv 4) aq))))))
    (aC (gK PassesOwn.never rfl (iJ rfl T.jo (aj aA aq)) (bQ (i:=6) nd rfl (Or.inl rfl)) (aC (aU (i:=7) nd rfl (Or.inl rfl) (b_ (pv 0) T.clF fW hr))
     (aC (aU (i:=8) nd rfl (Or.inl rfl) (b_ (pv 0) T.clF cP hr))
     (aC (cV (Bl (pv 7)))
     (aC (cV (qG (pv 8)))
     (aC (aU (i:=9) nd rfl (Or.inl rfl) (aL jc hr (aj (pv 0) (aj (pv 4) aq))))
     (aC (cB (PW.pt (fH (bw (dg hr) (pv 9) (pv 5) (bJ _)) (fG (cH (cG (aL cL hr (aj (bI bV (pv 9) aA (λ_ _=>rfl)) aq))))))) (aB (aP fC)) bK)
     (aC (cB (bw nj (bI bV (pv 9) aA (λ_ _=>rfl)) dF (bJ _)) (aC (cB (bw (dg hr) (gM (N:=["_law_row"]) (nt:=1) (fr:=[]) (dO (bI bV (pv 9) aA (λ_ _=>rfl))) (λ_ _ _ _=>(bQ (i:=0) (show (["_law_row"]:List Str).Nodup from by decide +kernel) rfl (Or.inl rfl))) (λ_ _ _ _=>jO (PW.pt (fH (cH (cG (aL cL hr (aj (bI (gO (K:=K) rfl) (pv 0) aA (λ_ _=>rfl)) aq)))) (fG (cH (cG (aL cL hr (aj (bI (gO (K:=K) rfl) (pv 0) aA (λ_ _=>rfl)) aq)))))))) (λ_ _ _ _=>(pv 0))) (cF aq) (bJ _)) (aB (aP fC)) bK)
      (aB (cV (fL (bI bV (pv 9) aA (λ_ _=>rfl)) (bY (aj aA (aj aA aq))))))) (aB (cB (cH (cG (aL cL hr (aj (bI bV (pv 9) aA (λ_ _=>rfl)) aq)))) (aB (aP fC)) bK)))
     (aC (aU (i:=10) nd rfl (Or.inl rfl) (gY (pv 0) T.clF dW hr (aj (pv 4) aq)))
     (aB (cB (PW.pt (fH (cH (cG (aL cL hr (aj (pv 10) aq)))) (fH (bw tZ (pv 10) (pv 4) (bJ _)) (fG (bw (dg hr) (aL jc hr (aj (pv 0) (aj aA aq))) (aL lY hr (aj (pv 1) (aj (pv 2) (aj (pv 3) (aj aA aq))))) (bJ _)))))) (aB (aP fC)) bK)))))))))))
    (aC (cB (PW.pt (fH (bw (dg hr) (b_ (pv 0) T.clF fW hr) (aL eV hr (aj (pv 1) (aj (pv 2) (aj (pv 3) aq)))) (bJ _)) (fG (bw (dg hr) (b_ (pv 0) T.clF cP hr) (pv 2) (bJ _))))) (aB (aP fC)) bK)
    (aB (aP (ju (n_ nj (b_ (pv 0) T.clF mV hr) (pv 3) (bJ _)) (jt (bM dR rfl T.bZ boot_isinstance (aj (pv 0) (aj (xq (v:=.ref CB) ⟨_,T.jW,rfl⟩) aq)))))))))),?_⟩
   clear nd lY fW cP jc dW eV mV cL;rw[show start ["_law_rule","_law_word","_law_holes_here","_law_mark","_law_size","_law_due_here","_law_turn","_law_order_here","_law_rows","_law_told_here","_law_used"] [.ref y,.str (kZ k0),.ref l,.int t,.int s]=[some (.ref y),some (.str (kZ k0)),some (.ref l),some (.int t),some (.int s),none,none,none,none,none,none] from rfl]
   try dsimp only[cM,bO]
   subst kd;replace nx:Ru CF CH H y dy x p dx fs none:=nx;obtain⟨Bg,h1,kt⟩:=side;obtain rfl:t=0:=kt.elim (λe=>by cases e) id;obtain⟨hy,bk⟩:=nx;obtain⟨hx,hp,h16,cj⟩:=id bk;have bks:Bks fs fs.length:=⟨rfl,h16,cj⟩;obtain⟨bA,bB,bC,bD,bF,aO⟩:=zsix T;have nxp:x≠p:=λz=>by rw[z,hp] at hx;cases hx
   have nyp:y≠p:=λz=>by rw[z,hp] at hy;cases hy
   have nxP:x≠ak:=λz=>by rw[z,hP] at hx;cases hx
   have nyP:y≠ak:=λz=>by rw[z,hP] at hy;cases hy
   have npP:p≠ak:=λz=>by rw[z,hP] at hp;cases hp
   have nxy:x≠y:=λz=>by
    rw[z,hy] at hx;injection hx with hx
    injection hx with h1 h2 h3
    exact gN (gL (List.lookup ("many" : Str)) h3) (by rw[fV (by decide) (by decide),jq];exact λz=>by cases z)
   have nlP:l≠ak:=λz=>by rw[z,hP] at hl;cases hl
   have F:SH H [ak] H [(ak,.tbl ps)] [eH bU bH ps,.tps ys (aD (ao fs))]:=((SH.nil.iV List.mem_cons_self hP rfl (by simp)).oN tp).lC tk;have jA:=Old.mk (M:=[ak]) hx (nm1 nxP);have jB:=Old.mk (M:=[ak]) hy (nm1 nyP);have kh:=Old.mk (M:=[ak]) hp (nm1 npP);have Bc:=Old.mk (M:=[ak]) hl (nm1 nlP);have sd2:(ao fs).length<=400/\(ao fs).Nodup/\∀w∈ao fs,w.1<1000000:=⟨Bg,gA fs,gB cj⟩;have sd3:(ao fs).length<=1000:=by lia
   rcases j5 (cT .f (ao fs) 0) s with⟨w,f0⟩|f0
   ·repeat k_meth
    intro qd zd
    repeat k_meth
    obtain⟨dq,e⟩:∃x,x=p_:=⟨_,rfl⟩;subst e;refine gQ (λi σ' H'=>∃(o6 o7 o8 o9 o10:Option V)(ps':xL),σ'=[some (.ref y),some (.str (kZ .f)),some (.ref l),some (.int 0),some (.int s),some (.ref dq),o6,o7,o8,o9,o10]/\SH H [ak] H' [(qd,.lst zd),(ak,.tbl ps')] [.tup dq [.str "found", .int (w.1:Nat),.ref qd],.tps zd (aD (gJ (cT .f (ao fs) 0) s)),eH bU bH ps',.tps ys (aD (ao fs))]) ⟨_,_,_,_,_,_,rfl,F⟩ ?_ ?_
    ·clear F;rintro i σ' H' hi ⟨_,_,_,_,_,ps1,rfl,F⟩
     repeat k_meth
     
     intro ps3
     repeat k_meth
     intro q3 zs3
     repeat k_meth
     have t3:aH H_ zs3 (aD (gJ (cT .f (ao fs) 0) s)):=F.tps LkP.m;have zl3:zs3.length<=800:=by
      rw[t3.1,aJ];have a1:=wz (cT .f (ao fs) 0) s;have a2:=jY .f (ao fs) 0
      lia
     refine nZ (P:=λ_=>false) (fvs:=[]) bN t3 (by lia) rfl (λi ys H'=>ys=[]) (λi ys H1 H2 s t=>t) rfl (λi q1 r H' R e1 s1 e2 kk=>?_) (λi q1 r ys H' R e1 hp s1 e2 g kk=>by cases hp) (λi r ys H' e1 hp g=>g) λqa ya Ha na ga=>?_
     ·clear F;have F:SH H' [] H' [] []:=SH.nil;obtain⟨w0,_,rfl⟩:=jS.mp (wE e1);have Ek:=Old.mk (M:=[]) e2 nm0
      repeat k_meth
      exact kk _ (Same.refl _)
     ·subst ga;replace F:=F.newL na;have al:zs3.length<sizeLine:=qS (m:=2000) (by lia) (bW (by lia));rcases j5 (cT .f (ao fs) 0) 1 with⟨w1,f1⟩|f1
      ·repeat k_meth
       intro ps4
       repeat k_meth
       intro q4 zs4
       repeat k_meth
       intro q5 zs5
       repeat k_meth
       exact⟨_,_,_,_,_,ps4,rfl,F.sub SbC.s SbI.s⟩
      ·repeat k_meth
       intro ps4
       repeat k_meth
       exact⟨_,_,_,_,_,ps4,rfl,F.sub SbC.s SbI.s⟩
    ·clear F;rintro σ' H' ⟨_,_,_,_,_,ps1,rfl,F⟩
     repeat k_meth
     have sd4:(ao fs).length<=1000/\(ao fs).Nodup/\∀w∈ao fs,w.1<1000000:=⟨sd3,sd2.2⟩;refine⟨_,l,0,ys,ao fs,rfl,bN,TpA.e,sd4,.inl ⟨rfl,?_⟩⟩
     repeat k_meth
     refine isR bN T.clF T.DR T.Ay T.Az T.DW T.ccF_k ?_
     repeat k_meth
     exact k _ _ F.kpo bN SH.tab
   ·repeat k_meth
    obtain⟨dq,e⟩:∃x,x=p_:=⟨_,rfl⟩;subst e;refine gQ (λi σ' H'=>∃(o6 o7 o8 o9 o10:Option V)(ps':xL),σ'=[some (.ref y),some (.str (kZ .f)),some (.ref l),some (.int 0),some (.int s),some (.ref dq),o6,o7,o8,o9,o10]/\SH H [ak] H' [(ak,.tbl ps')] [.tup dq [.str "none", .int s,.int (iz 0 (cX (ao fs)))],eH bU bH ps',.tps ys (aD (ao fs))]) ⟨_,_,_,_,_,_,rfl,F⟩ ?_ ?_
    ·clear F;rintro i σ' H' hi ⟨_,_,_,_,_,ps1,rfl,F⟩
     repeat k_meth
     
     intro ps3
     repeat k_meth
     rcases j5 (cT .f (ao fs) 0) 1 with⟨w1,f1⟩|f1
     ·repeat k_meth
      intro ps4
      repeat k_meth
      intro q4 zs4
      repeat k_meth
      intro q5 zs5
      repeat k_meth
      exact⟨_,_,_,_,_,ps4,rfl,F.sub SbC.s SbI.s⟩
     ·repeat k_meth
      intro ps4
      repeat k_meth
      exact⟨_,_,_,_,_,ps4,rfl,F.sub SbC.s SbI.s⟩
    ·clear F;rintro σ' H' ⟨_,_,_,_,_,ps1,rfl,F⟩
     repeat k_meth
     have sd4:(ao fs).length<=1000/\(ao fs).Nodup/\∀w∈ao fs,w.1<1000000:=⟨sd3,sd2.2⟩;refine⟨_,l,0,ys,ao fs,rfl,bN,TpA.e,sd4,.inl ⟨rfl,?_⟩⟩
     repeat k_meth
     refine isR bN T.clF T.DR T.Ay T.Az T.DW T.ccF_k ?_
     repeat k_meth
     exact k _ _ F.kpo bN SH.tab
  ·have nd:=o_.nd;refine⟨_,(aC (aU (i:=5) nd rfl (Or.inl rfl) (aL lY hr (aj (pv 1) (aj (pv 2) (aj (pv 3) (aj (pv 4) aq))))))
    (aC (gK PassesOwn.never rfl (iJ rfl T.jo (aj aA aq)) (bQ (i:=6) nd rfl (Or.inl rfl)) (aC (aU (i:=7) nd rfl (Or.inl rfl) (b_ (pv 0) T.clT fY hr))
     (aC (aU (i:=8) nd rfl (Or.inl rfl) (b_ (pv 0) T.clT cQ hr))
     (aC (cV (Bl (pv 7)))
     (aC (cV (qG (pv 8)))
     (aC (aU (i:=9) nd rfl (Or.inl rfl) (aL jc hr (aj (pv 0) (aj (pv 4) aq))))
     (aC (cB (PW.pt (fH (bw (dg hr) (pv 9) (pv 5) (bJ _)) (fG (cH (cG (aL cL hr (aj (bI bV (pv 9) aA (λ_ _=>rfl)) aq))))))) (aB (aP fC)) bK)
     (aC (cB (bw nj (bI bV (pv 9) aA (λ_ _=>rfl)) dF (bJ _)) (aC (cB (bw (dg hr) (gM (N:=["_law_row"]) (nt:=1) (fr:=[]) (dO (bI bV (pv 9) aA (λ_ _=>rfl))) (λ_ _ _ _=>(bQ (i:=0) (show (["_law_row"]:List Str).Nodup from by decide +kernel) rfl (Or.inl rfl))) (λ_ _ _ _=>jO (PW.pt (fH (cH (cG (aL cL hr (aj (bI (gO (K:=K) rfl) (pv 0) aA (λ_ _=>rfl)) aq)))) (fG (cH (cG (aL cL hr (aj (bI (gO (K:=K) rfl) (pv 0) aA (λ_ _=>rfl)) aq)))))))) (λ_ _ _ _=>(pv 0))) (cF aq) (bJ _)) (aB (aP fC)) bK)
      (aB (cV (fL (bI bV (pv 9) aA (λ_ _=>rfl)) (bY (aj aA (aj aA aq))))))) (aB (cB (cH (cG (aL cL hr (aj (bI bV (pv 9) aA (λ_ _=>rfl)) aq)))) (aB (aP fC)) bK)))
     (aC (aU (i:=10) nd rfl (Or.inl rfl) (gY (pv 0) T.clT dX hr (aj (pv 4) aq)))
     (aB (cB (PW.pt (fH (cH (cG (aL cL hr (aj (pv 10) aq)))) (fH (bw tZ (pv 10) (pv 4) (bJ _)) (fG (bw (dg hr) (aL jc hr (aj (pv 0) (aj aA aq))) (aL lY hr (aj (pv 1) (aj (pv 2) (aj (pv 3) (aj aA aq))))) (bJ _)))))) (aB (aP fC)) bK)))))))))))
    (aC (cB (PW.pt (fH (bw (dg hr) (b_ (pv 0) T.clT fY hr) (aL eV hr (aj (pv 1) (aj (pv 2) (aj (pv 3) aq)))) (bJ _)) (fG (bw (dg hr) (b_ (pv 0) T.clT cQ hr) (pv 2) (bJ _))))) (aB (aP fC)) bK)
    (aB (aP (ju (n_ nj (b_ (pv 0) T.clT mW hr) (pv 3) (bJ _)) (jt (bM dR rfl T.bZ boot_isinstance (aj (pv 0) (aj (xq (v:=.ref CB) ⟨_,T.jW,rfl⟩) aq)))))))))),?_⟩
   clear nd lY fY cQ jc dX eV mW cL;rw[show start ["_law_rule","_law_word","_law_holes_here","_law_mark","_law_size","_law_due_here","_law_turn","_law_order_here","_law_rows","_law_told_here","_law_used"] [.ref y,.str (kZ k0),.ref l,.int t,.int s]=[some (.ref y),some (.str (kZ k0)),some (.ref l),some (.int t),some (.int s),none,none,none,none,none,none] from rfl]
   try dsimp only[cM,bO]
   subst kd;replace nx:Ru CT CH H y dy x p dx fs none:=nx;obtain⟨Bg,h1,kt⟩:=side;obtain rfl:t=0:=kt.elim (λe=>by cases e) id;obtain⟨hy,bk⟩:=nx;obtain⟨hx,hp,h16,cj⟩:=id bk;have bks:Bks fs fs.length:=⟨rfl,h16,cj⟩;obtain⟨bA,bB,bC,bD,bF,aO⟩:=zsix T;have nxp:x≠p:=λz=>by rw[z,hp] at hx;cases hx
   have nyp:y≠p:=λz=>by rw[z,hp] at hy;cases hy
   have nxP:x≠ak:=λz=>by rw[z,hP] at hx;cases hx
   have nyP:y≠ak:=λz=>by rw[z,hP] at hy;cases hy
   have npP:p≠ak:=λz=>by rw[z,hP] at hp;cases hp
   have nxy:x≠y:=λz=>by
    rw[z,hy] at hx;injection hx with hx
    injection hx with h1 h2 h3
    exact gN (gL (List.lookup ("many" : Str)) h3) (by rw[fV (by decide) (by decide),jq];exact λz=>by cases z)
   have nlP:l≠ak:=λz=>by rw[z,hP] at hl;cases hl
   have F:SH H [ak] H [(ak,.tbl ps)] [eH bU bH ps,.tps ys (aD (ao fs))]:=((SH.nil.iV List.mem_cons_self hP rfl (by simp)).oN tp).lC tk;have jA:=Old.mk (M:=[ak]) hx (nm1 nxP);have jB:=Old.mk (M:=[ak]) hy (nm1 nyP);have kh:=Old.mk (M:=[ak]) hp (nm1 npP);have Bc:=Old.mk (M:=[ak]) hl (nm1 nlP);have sd2:(ao fs).length<=400/\(ao fs).Nodup/\∀w∈ao fs,w.1<1000000:=⟨Bg,gA fs,gB cj⟩;have sd3:(ao fs).length<=1000:=by lia
   rcases j5 (cT .t (ao fs) 0) s with⟨w,f0⟩|f0
   ·repeat k_meth
    intro qd zd
    repeat k_meth
    obtain⟨dq,e⟩:∃x,x=p_:=⟨_,rfl⟩;subst e;refine gQ (λi σ' H'=>∃(o6 o7 o8 o9 o10:Option V)(ps':xL),σ'=[some (.ref y),some (.str (kZ .t)),some (.ref l),some (.int 0),some (.int s),some (.ref dq),o6,o7,o8,o9,o10]/\SH H [ak] H' [(qd,.lst zd),(ak,.tbl ps')] [.tup dq [.str "found", .int (w.1:Nat),.ref qd],.tps zd (aD (gJ (cT .t (ao fs) 0) s)),eH bU bH ps',.tps ys (aD (ao fs))]) ⟨_,_,_,_,_,_,rfl,F⟩ ?_ ?_
    ·clear F;rintro i σ' H' hi ⟨_,_,_,_,_,ps1,rfl,F⟩
     repeat k_meth
     intro qs hq ps2
     repeat k_meth
     intro ps3
     repeat k_meth
     intro q3 zs3
     repeat k_meth
     have t3:aH H_ zs3 (aD (gJ (cT .t (ao fs) 0) s)):=F.tps LkP.m;have zl3:zs3.length<=800:=by
      rw[t3.1,aJ];have a1:=wz (cT .t (ao fs) 0) s;have a2:=jY .t (ao fs) 0
      lia
     refine nZ (P:=λ_=>false) (fvs:=[]) bN t3 (by lia) rfl (λi ys H'=>ys=[]) (λi ys H1 H2 s t=>t) rfl (λi q1 r H' R e1 s1 e2 kk=>?_) (λi q1 r ys H' R e1 hp s1 e2 g kk=>by cases hp) (λi r ys H' e1 hp g=>g) λqa ya Ha na ga=>?_
     ·clear F;have F:SH H' [] H' [] []:=SH.nil;obtain⟨w0,_,rfl⟩:=jS.mp (wE e1);have Ek:=Old.mk (M:=[]) e2 nm0
      repeat k_meth
      exact kk _ (Same.refl _)
     ·subst ga;replace F:=F.newL na;have al:zs3.length<sizeLine:=qS (m:=2000) (by lia) (bW (by lia));rcases j5 (cT .t (ao fs) 0) 1 with⟨w1,f1⟩|f1
      ·repeat k_meth
       intro ps4
       repeat k_meth
       intro q4 zs4
       repeat k_meth
       intro q5 zs5
       repeat k_meth
       exact⟨_,_,_,_,_,ps4,rfl,F.sub SbC.s SbI.s⟩
      ·repeat k_meth
       intro ps4
       repeat k_meth
       exact⟨_,_,_,_,_,ps4,rfl,F.sub SbC.s SbI.s⟩
    ·clear F;rintro σ' H' ⟨_,_,_,_,_,ps1,rfl,F⟩
     repeat k_meth
     have sd4:(ao fs).length<=1000/\(ao fs).Nodup/\∀w∈ao fs,w.1<1000000:=⟨sd3,sd2.2⟩;intro qs hq ps2
     repeat k_meth
     refine⟨_,l,0,ys,ao fs,rfl,bN,TpA.e,sd4,.inr (.inl ⟨rfl,λqs2 hq2 q2 zs2 H2 n2 t2=>?_⟩)⟩;have eq:=(i_ hq.1 hq.2).symm.trans (i_ hq2.1 hq2.2);subst eq;replace F:=F.newR n2 t2
     repeat k_meth
     refine isR bN T.clT T.DX T.Ay T.Az T.DY T.ccT_k ?_
     repeat k_meth
     exact k _ _ F.kpo bN SH.tab
   ·repeat k_meth
    obtain⟨dq,e⟩:∃x,x=p_:=⟨_,rfl⟩;subst e;refine gQ (λi σ' H'=>∃(o6 o7 o8 o9 o10:Option V)(ps':xL),σ'=[some (.ref y),some (.str (kZ .t)),some (.ref l),some (.int 0),some (.int s),some (.ref dq),o6,o7,o8,o9,o10]/\SH H [ak] H' [(ak,.tbl ps')] [.tup dq [.str "none", .int s,.int (iz 0 (cX (ao fs)))],eH bU bH ps',.tps ys (aD (ao fs))]) ⟨_,_,_,_,_,_,rfl,F⟩ ?_ ?_
    ·clear F;rintro i σ' H' hi ⟨_,_,_,_,_,ps1,rfl,F⟩
     repeat k_meth
     intro qs hq ps2
     repeat k_meth
     intro ps3
     repeat k_meth
     rcases j5 (cT .t (ao fs) 0) 1 with⟨w1,f1⟩|f1
     ·repeat k_meth
      intro ps4
      repeat k_meth
      intro q4 zs4
      repeat k_meth
      intro q5 zs5
      repeat k_meth
      exact⟨_,_,_,_,_,ps4,rfl,F.sub SbC.s SbI.s⟩
     ·repeat k_meth
      intro ps4
      repeat k_meth
      exact⟨_,_,_,_,_,ps4,rfl,F.sub SbC.s SbI.s⟩
    ·clear F;rintro σ' H' ⟨_,_,_,_,_,ps1,rfl,F⟩
     repeat k_meth
     have sd4:(ao fs).length<=1000/\(ao fs).Nodup/\∀w∈ao fs,w.1<1000000:=⟨sd3,sd2.2⟩;intro qs hq ps2
     repeat k_meth
     refine⟨_,l,0,ys,ao fs,rfl,bN,TpA.e,sd4,.inr (.inl ⟨rfl,λqs2 hq2 q2 zs2 H2 n2 t2=>?_⟩)⟩;have eq:=(i_ hq.1 hq.2).symm.trans (i_ hq2.1 hq2.2);subst eq;replace F:=F.newR n2 t2
     repeat k_meth
     refine isR bN T.clT T.DX T.Ay T.Az T.DY T.ccT_k ?_
     repeat k_meth
     exact k _ _ F.kpo bN SH.tab
  ·have nd:=o_.nd;refine⟨_,(aC (aU (i:=5) nd rfl (Or.inl rfl) (aL lY hr (aj (pv 1) (aj (pv 2) (aj (pv 3) (aj (pv 4) aq))))))
    (aC (gK PassesOwn.never rfl (iJ rfl T.jo (aj aA aq)) (bQ (i:=6) nd rfl (Or.inl rfl)) (aC (aU (i:=7) nd rfl (Or.inl rfl) (b_ (pv 0) T.clN fX hr))
     (aC (aU (i:=8) nd rfl (Or.inl rfl) (b_ (pv 0) T.clN cR hr))
     (aC (cV (Bl (pv 7)))
     (aC (cV (qG (pv 8)))
     (aC (aU (i:=9) nd rfl (Or.inl rfl) (aL jc hr (aj (pv 0) (aj (pv 4) aq))))
     (aC (cB (PW.pt (fH (bw (dg hr) (pv 9) (pv 5) (bJ _)) (fG (cH (cG (aL cL hr (aj (bI bV (pv 9) aA (λ_ _=>rfl)) aq))))))) (aB (aP fC)) bK)
     (aC (cB (bw nj (bI bV (pv 9) aA (λ_ _=>rfl)) dF (bJ _)) (aC (cB (bw (dg hr) (gM (N:=["_law_row"]) (nt:=1) (fr:=[]) (dO (bI bV (pv 9) aA (λ_ _=>rfl))) (λ_ _ _ _=>(bQ (i:=0) (show (["_law_row"]:List Str).Nodup from by decide +kernel) rfl (Or.inl rfl))) (λ_ _ _ _=>jO (PW.pt (fH (cH (cG (aL cL hr (aj (bI (gO (K:=K) rfl) (pv 0) aA (λ_ _=>rfl)) aq)))) (fG (cH (cG (aL cL hr (aj (bI (gO (K:=K) rfl) (pv 0) aA (λ_ _=>rfl)) aq)))))))) (λ_ _ _ _=>(pv 0))) (cF aq) (bJ _)) (aB (aP fC)) bK)
      (aB (cV (fL (bI bV (pv 9) aA (λ_ _=>rfl)) (bY (aj aA (aj aA aq))))))) (aB (cB (cH (cG (aL cL hr (aj (bI bV (pv 9) aA (λ_ _=>rfl)) aq)))) (aB (aP fC)) bK)))
     (aC (aU (i:=10) nd rfl (Or.inl rfl) (gY (pv 0) T.clN dY hr (aj (pv 4) aq)))
     (aB (cB (PW.pt (fH (cH (cG (aL cL hr (aj (pv 10) aq)))) (fH (bw tZ (pv 10) (pv 4) (bJ _)) (fG (bw (dg hr) (aL jc hr (aj (pv 0) (aj aA aq))) (aL lY hr (aj (pv 1) (aj (pv 2) (aj (pv 3) (aj aA aq))))) (bJ _)))))) (aB (aP fC)) bK)))))))))))
    (aC (cB (PW.pt (fH (bw (dg hr) (b_ (pv 0) T.clN fX hr) (aL eV hr (aj (pv 1) (aj (pv 2) (aj (pv 3) aq)))) (bJ _)) (fG (bw (dg hr) (b_ (pv 0) T.clN cR hr) (pv 2) (bJ _))))) (aB (aP fC)) bK)
    (aB (aP (ju (n_ nj (b_ (pv 0) T.clN pO hr) (pv 3) (bJ _)) (jt (bM dR rfl T.bZ boot_isinstance (aj (pv 0) (aj (xq (v:=.ref CB) ⟨_,T.jW,rfl⟩) aq)))))))))),?_⟩
   clear nd lY fX cR jc dY eV pO cL;rw[show start ["_law_rule","_law_word","_law_holes_here","_law_mark","_law_size","_law_due_here","_law_turn","_law_order_here","_law_rows","_law_told_here","_law_used"] [.ref y,.str (kZ k0),.ref l,.int t,.int s]=[some (.ref y),some (.str (kZ k0)),some (.ref l),some (.int t),some (.int s),none,none,none,none,none,none] from rfl]
   try dsimp only[cM,bO]
   subst kd;replace nx:Ru CN CH H y dy x p dx fs (some t):=nx;obtain⟨Bg,h1,kt⟩:=side;obtain⟨hy,bk⟩:=nx;obtain⟨hx,hp,h16,cj⟩:=id bk;have bks:Bks fs fs.length:=⟨rfl,h16,cj⟩;obtain⟨bA,bB,bC,bD,bF,aO⟩:=zsix T;have nxp:x≠p:=λz=>by rw[z,hp] at hx;cases hx
   have nyp:y≠p:=λz=>by rw[z,hp] at hy;cases hy
   have nxP:x≠ak:=λz=>by rw[z,hP] at hx;cases hx
   have nyP:y≠ak:=λz=>by rw[z,hP] at hy;cases hy
   have npP:p≠ak:=λz=>by rw[z,hP] at hp;cases hp
   have nxy:x≠y:=λz=>by
    rw[z,hy] at hx;injection hx with hx
    injection hx with h1 h2 h3
    exact gN (gL (List.lookup ("many" : Str)) h3) (by rw[fV (by decide) (by decide),jq];exact λz=>by cases z)
   have nlP:l≠ak:=λz=>by rw[z,hP] at hl;cases hl
   have F:SH H [ak] H [(ak,.tbl ps)] [eH bU bH ps,.tps ys (aD (ao fs))]:=((SH.nil.iV List.mem_cons_self hP rfl (by simp)).oN tp).lC tk;have jA:=Old.mk (M:=[ak]) hx (nm1 nxP);have jB:=Old.mk (M:=[ak]) hy (nm1 nyP);have kh:=Old.mk (M:=[ak]) hp (nm1 npP);have Bc:=Old.mk (M:=[ak]) hl (nm1 nlP);have sd2:(ao fs).length<=400/\(ao fs).Nodup/\∀w∈ao fs,w.1<1000000:=⟨Bg,gA fs,gB cj⟩;have sd3:(ao fs).length<=1000:=by lia
   rcases j5 (cT .n (ao fs) t) s with⟨w,f0⟩|f0
   ·repeat k_meth
    intro qd zd
    repeat k_meth
    obtain⟨dq,e⟩:∃x,x=p_:=⟨_,rfl⟩;subst e;refine gQ (λi σ' H'=>∃(o6 o7 o8 o9 o10:Option V)(ps':xL),σ'=[some (.ref y),some (.str (kZ .n)),some (.ref l),some (.int t),some (.int s),some (.ref dq),o6,o7,o8,o9,o10]/\SH H [ak] H' [(qd,.lst zd),(ak,.tbl ps')] [.tup dq [.str "found", .int (w.1:Nat),.ref qd],.tps zd (aD (gJ (cT .n (ao fs) t) s)),eH bU bH ps',.tps ys (aD (ao fs))]) ⟨_,_,_,_,_,_,rfl,F⟩ ?_ ?_
    ·clear F;rintro i σ' H' hi ⟨_,_,_,_,_,ps1,rfl,F⟩
     repeat k_meth
     
     intro ps3
     repeat k_meth
     intro q3 zs3
     repeat k_meth
     have t3:aH H_ zs3 (aD (gJ (cT .n (ao fs) t) s)):=F.tps LkP.m;have zl3:zs3.length<=800:=by
      rw[t3.1,aJ];have a1:=wz (cT .n (ao fs) t) s;have a2:=jY .n (ao fs) t
      lia
     refine nZ (P:=λ_=>false) (fvs:=[]) bN t3 (by lia) rfl (λi ys H'=>ys=[]) (λi ys H1 H2 s t=>t) rfl (λi q1 r H' R e1 s1 e2 kk=>?_) (λi q1 r ys H' R e1 hp s1 e2 g kk=>by cases hp) (λi r ys H' e1 hp g=>g) λqa ya Ha na ga=>?_
     ·clear F;have F:SH H' [] H' [] []:=SH.nil;obtain⟨w0,_,rfl⟩:=jS.mp (wE e1);have Ek:=Old.mk (M:=[]) e2 nm0
      repeat k_meth
      exact kk _ (Same.refl _)
     ·subst ga;replace F:=F.newL na;have al:zs3.length<sizeLine:=qS (m:=2000) (by lia) (bW (by lia));rcases j5 (cT .n (ao fs) t) 1 with⟨w1,f1⟩|f1
      ·repeat k_meth
       intro ps4
       repeat k_meth
       intro q4 zs4
       repeat k_meth
       intro q5 zs5
       repeat k_meth
       exact⟨_,_,_,_,_,ps4,rfl,F.sub SbC.s SbI.s⟩
      ·repeat k_meth
       intro ps4
       repeat k_meth
       exact⟨_,_,_,_,_,ps4,rfl,F.sub SbC.s SbI.s⟩
    ·clear F;rintro σ' H' ⟨_,_,_,_,_,ps1,rfl,F⟩
     repeat k_meth
     have sd4:(ao fs).length<=1000/\(ao fs).Nodup/\∀w∈ao fs,w.1<1000000:=⟨sd3,sd2.2⟩;refine⟨_,l,t,ys,ao fs,rfl,bN,TpA.e,sd4,.inr (.inr ⟨rfl,λq2 zs2 H2 n2 t2=>?_⟩)⟩;replace F:=F.newR n2 t2
     repeat k_meth
     refine isR bN T.clN T.Ea T.Ay T.Az T.Eb T.ccN_k ?_
     repeat k_meth
     exact k _ _ F.kpo bN SH.tab
   ·repeat k_meth
    obtain⟨dq,e⟩:∃x,x=p_:=⟨_,rfl⟩;subst e;refine gQ (λi σ' H'=>∃(o6 o7 o8 o9 o10:Option V)(ps':xL),σ'=[some (.ref y),some (.str (kZ .n)),some (.ref l),some (.int t),some (.int s),some (.ref dq),o6,o7,o8,o9,o10]/\SH H [ak] H' [(ak,.tbl ps')] [.tup dq [.str "none", .int s,.int (iz 0 (cX (ao fs)))],eH bU bH ps',.tps ys (aD (ao fs))]) ⟨_,_,_,_,_,_,rfl,F⟩ ?_ ?_
    ·clear F;rintro i σ' H' hi ⟨_,_,_,_,_,ps1,rfl,F⟩
     repeat k_meth
     
     intro ps3
     repeat k_meth
     rcases j5 (cT .n (ao fs) t) 1 with⟨w1,f1⟩|f1
     ·repeat k_meth
      intro ps4
      repeat k_meth
      intro q4 zs4
      repeat k_meth
      intro q5 zs5
      repeat k_meth
      exact⟨_,_,_,_,_,ps4,rfl,F.sub SbC.s SbI.s⟩
     ·repeat k_meth
      intro ps4
      repeat k_meth
      exact⟨_,_,_,_,_,ps4,rfl,F.sub SbC.s SbI.s⟩
    ·clear F;rintro σ' H' ⟨_,_,_,_,_,ps1,rfl,F⟩
     repeat k_meth
     have sd4:(ao fs).length<=1000/\(ao fs).Nodup/\∀w∈ao fs,w.1<1000000:=⟨sd3,sd2.2⟩;refine⟨_,l,t,ys,ao fs,rfl,bN,TpA.e,sd4,.inr (.inr ⟨rfl,λq2 zs2 H2 n2 t2=>?_⟩)⟩;replace F:=F.newR n2 t2
     repeat k_meth
     refine isR bN T.clN T.Ea T.Ay T.Az T.Eb T.ccN_k ?_
     repeat k_meth
     exact k _ _ F.kpo bN SH.tab
end
end K32
namespace K32
open PySem L2 PyProof.Rows
local macro_rules|`(tactic| k_room)=>`(tactic| first
 | with_reducible assumption
 | with_unfolding_all exact rfl
 | with_unfolding_all exact Nat.le_of_ble_eq_true rfl
 | lia
 | (with_reducible refine bW ?_;first|lia|(simp only[List.length_cons,List.length_nil,List.length_map,List.length_append,List.length_replicate,aJ,List.length_take,List.length_drop,List.length_set];lia))
 | (with_reducible refine lu ?_;first|lia|(simp only[List.length_cons,List.length_nil,List.length_map,List.length_append,List.length_replicate,aJ,List.length_take,List.length_drop,List.length_set];lia))
 | (simp only[List.length_cons,List.length_nil,List.length_map,List.length_append,List.length_replicate,aJ,List.length_take,List.length_drop,List.length_set];lia)
 | decide)
local macro_rules|`(tactic| k_mem)=>`(tactic| first
 | with_reducible assumption
 | decide
 | lia
 | (simp only[List.length_cons,List.length_nil,List.length_map,List.length_append,List.length_replicate,aJ,List.length_take,List.length_drop,List.length_set];lia))
set_option hygiene false in
local macro_rules|`(tactic| k_meth)=>`(tactic| first
 | with_reducible refine go1 ?_
 | (clear F;intro H_ a_ dx_ (F:SH _ _ _ _ _) (ex_:oJ _ _ _ _);have exA_:=ExA.mk ex_)
 | (clear F;intro H_ (F:SH _ _ _ _ _))
 | (clear F;intro H_ p_ (F:SH _ _ _ _ _))
 | (clear F;intro H_ x_ dx_ (F:SH _ _ _ _ _))
 | (clear F;intro H_ p_ ys_ l_ (F:SH _ _ _ _ _))
 | with_reducible refine sd (by k_room) ?_
 | (intro (r_:Int) (x_:Int) (y_:Int) (z_:Int) lo_ hi_)
 | (intro (x_:Int) (y_:Int))
 | (intro (c_:Int))
 | with_reducible refine Ca (by k_mem) ?_
 | with_reducible refine Cd (by k_mem) ?_
 | with_reducible refine uI (by k_mem) ?_
 | with_reducible refine A_ (by k_mem) ?_)
open M22
theorem W3{fs:xI}{st sz:Nat}(h1:1<=sz)(h2:st+sz<=fs.length)(h:∀j,st<=j->j<st+sz->fs[j]?=some true):hasB fs st sz=true:=by
 unfold hasB;rw[uA h1,uA h2];have:=(SN h2 true).mpr h;simpa using this
theorem Ut{X:Cx}{e:Expr}{t1 t2:TE}(h1:PE X e t1)(h2:PE X e t2):PE X e (λσ H Q=>t1 σ H Q\/t2 σ H Q):=λpins s σ H Q I h=>h.elim (h1 pins s σ H Q I) (h2 pins s σ H Q I)
def Bo(P:Addr)(K:W.Frag):Sp:=λvs H Q _=>∃(a:Addr)(ns:List Int),vs=[.ref a]/\SqL K H a (ns.map V.int)/\ns.length<=63/\H P=some (.tbl #[])/\a≠P/\∀H',Q (.bl true) H'
def Uu(K:W.Frag):List V->Hp->VK->Prop:=λxs H Q=>∃(p:Addr)(ns:List Int),xs=[.ref p]/\SqT K H p (ns.map V.int)/\Q (.int ns.sum) H
theorem KN{X:Cx}(hc:X.calm=true):iy X (.builtin "sum") (Uu X.K):=by
 intro pins s σ H xs us Q I r h;obtain⟨p,ns,rfl,hq,q⟩:=h;obtain⟨u,rfl,rx⟩:=vals1 r;cases rx;obtain⟨its,rv,pl,_⟩:=I.tuple hq;have hi:=uL rv;obtain⟨zs,hz⟩:=hi.allInts.items;have hn:numsOf its.toArray.toList=ns:=by rw[show its.toArray.toList=its from rfl,hi.numsOf]
 have hl:s.heap.IsTuple p its.toArray:=pl;rw[hz] at hl hn;rw[nums_intItems] at hn;refine W.ktm_sumG (I.ok.hd hc) hl λh' tk t' hk=>?_
 have es:preSum (numAt zs) zs.size=ns.sum:=by
  rw[preSum_eq,List.take_of_length_le (by simp)];exact gL List.sum hn
 rw[es];exact⟨.int _,H,I.kept hk,⟨_,rfl⟩,q⟩
instance ZP{K:W.Frag}{H:Hp}{Q:VK}{l:Addr}{a b:Int}[h:SqB K H l [.int a,.int b]]:Go (Uu K [.ref l] H Q) (Q (.int (a+b)) H):=⟨λk=>⟨l,[a,b],rfl,h.e,by
 rw[show ([a,b]:List Int).sum=a+b by simp];exact k⟩⟩
theorem KQ{n:Nat}{ws:xD}(h1:1<=n)(h:∀w∈ws,1<=w.2/\w.1+w.2<=n):(ao (cells n (cov ws))).length<=ws.length+1:=by
 obtain⟨l,rfl⟩:∃l:List (Nat×Nat),ws=l.reverse:=⟨ws.reverse,by simp⟩
 induction l with
 | nil =>
  rw[List.reverse_nil,qg,Ky h1];exact uS _
 | cons a l ih =>
  rw[List.reverse_cons] at h ⊢;have ha:=h a (by simp);have hp:=Pg (v:=false) (fs:=cells n (cov l.reverse)) (a:=a.1) (b:=a.2) (by rw[gF];exact ha.2) ha.1;rw[vg ha.2] at hp;have:=ih λw hw=>h w (mN _ hw)
  rw[yY,List.length_singleton]
  lia
theorem rA.dis{n:Nat}{ps:xD}(h:rA n ps):ps.Pairwise Dis:=h.up.imp λh=>.inl h
theorem wC{n:Nat}{ps qs:xD}{i:Nat}{w:Nat×Nat}(h:rA n ps)(hq:qs.Perm ps)(hw:qs[i]?=some w):hasB (cells n (cov (qs.take i))) w.1 w.2=true/\iY (cells n (cov (qs.take i))) w.1 w.2 false=cells n (cov (qs.take (i+1))):=by
 obtain⟨k1,k2⟩:=h.ok w (hq.mem_iff.mp (wE hw));have et:qs.take (i+1)=qs.take i++[w]:=by rw[gI,hw];rfl
 have dd:(qs.take i++[w]).Pairwise Dis:=by
  rw[<- et];exact(O_ hq.symm h.dis).sublist (List.take_sublist _ _)
 have dw:=(zzA.mp dd).2.2;rw[et];exact⟨W3 k1 (by rw[gF];exact k2) (SX k2 λv hv=>dw v hv w (rS.mpr rfl)),vg k2⟩
theorem SH.imp{H0 H:Hp}{M:List Addr}{L:List (Addr×HO)}{I I':List Im}(F:SH H0 M H L I)(t:∀f∈I',f∈I):SH H0 M H L I':=⟨F.fr,λf hf=>F.im f (t f hf),F.at',F.nd,F.mu,F.ch⟩
theorem SH.ZQ{H0 H:Hp}{M:List Addr}{c:Addr×HO}{L:List (Addr×HO)}{I:List Im}(F:SH H0 M H (c::L) I):SH H0 M H L I:=by
 have nd:=F.nd;rw[nI] at nd;exact⟨F.fr,F.im,λd hd=>F.at' d (zD _ hd),(List.nodup_cons.mp nd).2,λd hd=>F.mu d (zD _ hd),λd hd=>F.ch d (zD _ hd)⟩
instance XJ{H:Hp}{Q:VK}{E:XK}{l:Addr}{n:Nat}{ys:List V}{ws:xD}[h:Hat H l (.lst ys)][t:TpA H ys (aD ws)]:Go (yR [.int (n:Nat),.ref l] H Q E) (Sd (16<=n/\n<=240/\∀w∈ws,w.1+w.2<=n) (∀(q:Addr)(zs:List V)(H':Hp),New H H' q (.lst zs)->aH H' zs (aD (ao (cells n (cov ws))))->Q (.ref q) H')):=⟨λs=>⟨l,n,ys,ws,rfl,h.e,t.e,s.1,s.2⟩⟩
theorem iQ{n:Nat}{c:Nat->Bool}(h1:16<=n)(h2:n<=240):Bks (cells n c) n:=⟨gF,h1,h2⟩
theorem Qe{n:Nat}{ps:xD}{w:Nat×Nat}(h:rA n ps)(hw:w∈ps++[(0,0)]):w.1+w.2<=n:=by
 rcases wT.mp hw with m|m
 ·exact(h.ok w m).2
 ·rw[rS.mp m];exact Nat.zero_le _
theorem Qf{c:Prop}[Decidable c]{ts:TS}{D:Ends}{σ:L2.St}{H:Hp}(I:L2.St->Hp->Prop)(hr:∀σ H,I σ H->D.nx σ H)(ht:c->∀D':Ends,(∀σ H,I σ H->D'.nx σ H)->ts D' σ H)(he:¬ c->I σ H):if c then ts D σ H else Hg D σ H:=by
 split
 ·exact ht ‹_› D hr
 ·exact hr _ _ (he ‹_›)
theorem JF{xs:List V}{lo hi:Option Int}:(kI xs lo hi).length<=xs.length:=by
 unfold kI;simp
 lia
def n8(xs:List V):Prop:=∀v∈xs,∃s:Int,v=.int s/\1<=s
theorem n8.app{xs ys:List V}(h:n8 xs)(g:n8 ys):n8 (xs++ys):=λv hv=>(wT.mp hv).elim (h v) (g v)
theorem n8.nil:n8 []:=λ_ h=>gN h vF
theorem n8.cons{s:Int}{xs:List V}(h:1<=s)(g:n8 xs):n8 (.int s::xs):=λv hv=>by
 rcases jI.mp hv with rfl|m
 ·exact⟨s,rfl,h⟩
 ·exact g v m
theorem ZR:(1:Int)<=10 ^ Int.toNat 29:=by decide +kernel
theorem n8.five{a b c:Int}(ha:0<=a)(hb:0<=b)(hc:0<=c):n8 [.int 1,.int 2,.int (1+a),.int (1+b),.int (10 ^ Int.toNat 29+c)]:=by
 have h:=ZR
 generalize (10:Int) ^ Int.toNat 29=x at *
 exact .cons (by decide) (.cons (by decide) (.cons (by lia) (.cons (by lia) (.cons (by lia) .nil))))
def FS(n:Nat)(c:Nat->Bool):Nat->Nat->List Bool
 | 0,_=>List.replicate n true
 | _+1,0=>cells n c
 | j+1,r+1=>FS n c j r
theorem JG{xs:List V}{lo hi:Option Int}{v:V}(h:v∈kI xs lo hi):v∈xs:=by
 unfold kI at h;exact oP (oC h)
section
variable{CF CT CN CH y dy x p dx l P:Addr}{fs:xI}{t s:Int}{H:Hp}{Q:VK}{E:XK}{ys:List V}{pos:Pos}{qual:Str}{ps:xL}{H0:Hp}{M:List Addr}{L:List (Addr×HO)}{I:List Im}
instance XM[F:SH H0 M H L I][h:RuA CF CH H y dy x p dx fs none][hl:Hat H l (.lst ys)][tt:TpA H ys (aD (ao fs))][e:LkL L P (.tbl ps)][tb:j_ I pos qual ps]:Go (qm CF CT CN CH P pos qual [.ref y,.str "first", .ref l,.int 0,.int s] H Q E) (Sd ((ao fs).length<=400/\1<=s) (∀ps' H',Kp P H H'->H' P=some (.tbl ps')->TabOk pos qual ps' H'->Q (.bl true) H')) :=
 ⟨λkk=>⟨.f,y,dy,x,p,dx,l,fs,0,s,ys,ps,rfl,h.e,hl.e,tt.e,⟨kk.1.1,kk.1.2,.inr rfl⟩,F.raw e.m,F.im _ tb.m,kk.2,by simp⟩⟩
instance XQ[F:SH H0 M H L I][h:RuA CT CH H y dy x p dx fs none][hl:Hat H l (.lst ys)][tt:TpA H ys (aD (ao fs))][e:LkL L P (.tbl ps)][tb:j_ I pos qual ps]:Go (qm CF CT CN CH P pos qual [.ref y,.str "tightest", .ref l,.int 0,.int s] H Q E) (Sd ((ao fs).length<=400/\1<=s) (∀ps' H',Kp P H H'->H' P=some (.tbl ps')->TabOk pos qual ps' H'->Q (.bl true) H')) :=
 ⟨λkk=>⟨.t,y,dy,x,p,dx,l,fs,0,s,ys,ps,rfl,h.e,hl.e,tt.e,⟨kk.1.1,kk.1.2,.inr rfl⟩,F.raw e.m,F.im _ tb.m,kk.2,by simp⟩⟩
instance XR[F:SH H0 M H L I][h:RuA CN CH H y dy x p dx fs (some t)][hl:Hat H l (.lst ys)][tt:TpA H ys (aD (ao fs))][e:LkL L P (.tbl ps)][tb:j_ I pos qual ps]:Go (qm CF CT CN CH P pos qual [.ref y,.str "next", .ref l,.int t,.int s] H Q E) (Sd ((ao fs).length<=400/\1<=s) (∀ps' H',Kp P H H'->H' P=some (.tbl ps')->TabOk pos qual ps' H'->Q (.bl true) H')) :=
 ⟨λkk=>⟨.n,y,dy,x,p,dx,l,fs,t,s,ys,ps,rfl,h.e,hl.e,tt.e,⟨kk.1.1,kk.1.2,.inl rfl⟩,F.raw e.m,F.im _ tb.m,kk.2,by simp⟩⟩
end
section
variable{P:Program}{w:World}{K:W.Frag}{mg:xC}{base:Heap}{c:Nat->Addr}{aG ak R CH CF CT CN CB:Addr}
theorem W4(T:Txt K mg c R CH CF CT CN CB aG ak)(B:Bm mg base){f:Addr}{fd:FuncData}(F:Fun K "law" "law" pA f fd):gq P w K mg base CX0 8 f fd ["_law_script"] (Bo ak K):=by
 have Jx:=Jx (P:=P) (w:=w) (base:=base) T;have Bh:=Bh (P:=P) (w:=w) (base:=base) T;have Bj:=Bj (P:=P) (w:=w) (base:=base) T;have qj:=qj (P:=P) (w:=w) (base:=base) T;have cN:=cN (P:=P) (w:=w) (base:=base) T;have mO:=mO (P:=P) (w:=w) (base:=base) T;have pX:=pX (P:=P) (w:=w) (base:=base) T;have pY:=pY (P:=P) (w:=w) (base:=base) T;obtain⟨_,wu⟩:=wu (P:=P) (w:=w) (base:=base) T;have pK:=pK (P:=P) (w:=w) (base:=base) T;have pL:=pL (P:=P) (w:=w) (base:=base) T;have pN:=pN (P:=P) (w:=w) (base:=base) T;have tM:=tM (P:=P) (w:=w) (base:=base) T B;refine RJ F Pr (λvs H Q E h=>?_) (λcdv A outer s H vs Q E hr h=>?_)
 ·obtain⟨a,ns,rfl,_⟩:=h
  rfl
 ·obtain⟨a,ns,rfl,hs,hn,hP,nP,k⟩:=h;have nd:=Pr.nd;refine⟨_,(aC (gK PassesOwn.never rfl (iJ rfl T.jo (aj (bM (xH rfl) rfl T.Dp boot_max (aj aA (aj (bM (xJ rfl) rfl T.PJ boot_min (aj (bM fU rfl T.nF boot_len (aj (pv 0) aq)) (aj aA aq))) aq))) aq)) (bQ (i:=1) nd rfl (Or.inl rfl)) (aC (aU (i:=2) nd rfl (Or.inl rfl) (aL Jx hr (aj (aL mO hr (aj (pv 0) (aj (pv 1) aq))) aq)))
    (aC (aU (i:=3) nd rfl (Or.inl rfl) (aL Bh hr (aj (pv 2) aq)))
    (aC (aU (i:=4) nd rfl (Or.inl rfl) (aL Bj hr (aj (pv 2) (aj (pv 3) aq))))
    (aC (aU (i:=5) nd rfl (Or.inl rfl) (bI dD (cF (aj aA (aj (pv 3) (aj (aL cN hr (aj (pv 2) (aj (bT dh (pv 3) aA) aq))) (aj (bM (KN rfl) rfl T.Uk boot_sum (aj (bI dD (bT mq (pv 4) (cF (aj (bY (aj aA (aj aA aq))) aq))) aA (λ_ _=>rfl)) aq)) aq))))) (aL cN hr (aj (pv 2) (aj aA aq))) (λ_ _=>rfl)))
    (aC (aU (i:=6) nd rfl (Or.inl rfl) (aL qj hr (aj (pv 3) (aj (pv 4) aq))))
    (aC (aU (i:=7) nd rfl (Or.inl rfl) (cF (aj aA (aj aA (aj (bT dh aA (aL cN hr (aj (pv 2) (aj (bT dh (pv 3) aA) aq)))) (aj (bT dh aA (aL cN hr (aj (pv 2) (aj aA aq)))) (aj (bT dh (bT Lb aA aA) (aL cN hr (aj (pv 2) (aj aA aq)))) aq)))))))
    (aC (cB (bw (dg hr) (pv 6) (cF aq) (bJ _)) (aC (aU (i:=8) nd rfl (Or.inl rfl) (bI bV (bI dD (pv 6) (aL cN hr (aj (pv 2) (aj (bM fU rfl T.nF boot_len (aj (pv 6) aq)) aq))) (λ_ _=>rfl)) aA (λ_ _=>rfl)))
     (aB (aU (i:=7) nd rfl (Or.inl rfl) (bT mq (pv 7) (cF (aj (pv 8) (aj (bT dh (pv 8) aA) (aj (bM (xH rfl) rfl T.Dp boot_max (aj aA (aj (bT za (pv 8) aA) aq))) aq)))))))) bK)
    (aC (aU (i:=9) nd rfl (Or.inl rfl) (aL cN hr (aj (pv 2) (aj (bM fU rfl T.nF boot_len (aj (pv 7) aq)) aq))))
    (aC (aU (i:=7) nd rfl (Or.inl rfl) (bT mq (uc uG (pv 7) (sI (pv 9)) Hv) (uc uG (pv 7) Hv (sI (pv 9)))))
    (aC (aU (i:=10) nd rfl (Or.inl rfl) (cF (aj (bY (aj (mC pX hr (aj (pv 3) aq)) (aj dF (aj aA aq)))) (aj (bY (aj (mC pY hr (aj (pv 3) aq)) (aj dF (aj aA aq)))) (aj (bY (aj (Sq wu hr (aj (pv 3) (aj (pv 5) aq))) (aj dF (aj (pv 5) aq)))) aq)))))
    (aB (gK PassesOwn.never rfl (dO (pv 10)) (tV rfl (dj (bQ (i:=11) nd rfl (Or.inl rfl)) (dj (bQ (i:=12) nd rfl (Or.inl rfl)) (dj (bQ (i:=13) nd rfl (Or.inl rfl)) jL)))) (aC (gK PassesOwn.never rfl (dO (pv 4)) (bQ (i:=14) nd rfl (Or.inl rfl)) (aB (cV (Ut (gY (pv 11) T.clF pK hr (aj (bI bV (pv 14) aA (λ_ _=>rfl)) (aj (bI bV (pv 14) aA (λ_ _=>rfl)) aq))) (Ut (gY (pv 11) T.clT pL hr (aj (bI bV (pv 14) aA (λ_ _=>rfl)) (aj (bI bV (pv 14) aA (λ_ _=>rfl)) aq))) (gY (pv 11) T.clN pN hr (aj (bI bV (pv 14) aA (λ_ _=>rfl)) (aj (bI bV (pv 14) aA (λ_ _=>rfl)) aq))))))))
     (aB (gK PassesOwn.never rfl (dO (pv 7)) (bQ (i:=15) nd rfl (Or.inl rfl)) (aB (cB (cH (cG (aL tM hr (aj (pv 11) (aj (pv 12) (aj (pv 6) (aj (pv 13) (aj (pv 15) aq)))))))) (aB (aP fC)) bK))))))))))))))))))
   (aB (aP fC))),?_⟩
  clear nd Jx Bh Bj qj cN mO pX pY pK pL pN tM;rw[show start ["_law_script","_law_k","_law_box_here","_law_many_here","_law_puts_here","_law_mark","_law_holes_here","_law_sizes","_law_wide","_law_start","_law_rules","_law_rule","_law_word","_law_due_here","_law_put","_law_size"] [.ref a]=[some (.ref a),none,none,none,none,none,none,none,none,none,none,none,none,none,none,none] from rfl]
  try dsimp only[cM,bO]
  obtain⟨bA,bB,bC,bD,bF,aO⟩:=zsix T;have F:SH H [ak] H [(ak,.tbl #[])] [eH bU bH #[]]:=(SH.nil.iV List.mem_cons_self hP rfl (by simp)).lC (.inl rfl);have acZ:=Yu.mk (M:=[ak]) hs (nm1 nP);have nl:(ns.map V.int).length=ns.length:=wS ..
  repeat k_meth
  refine gQ (λi σ' H'=>∃(o1 o2 o3 o4 o5 o6 o7 o8 o9 o10 o11 o12 o13 o14 o15:Option V)(ps:xL),σ'=[some (.ref a),o1,o2,o3,o4,o5,o6,o7,o8,o9,o10,o11,o12,o13,o14,o15]/\SH H [ak] H' [(ak,.tbl ps)] [eH bU bH ps]) ⟨_,_,_,_,_,_,_,_,_,_,_,_,_,_,_,_,rfl,F⟩ ?_ ?_
  ·clear F;rintro i σ' H' hi ⟨_,_,_,_,_,_,_,_,_,_,_,_,_,_,_,ps,rfl,F⟩
   repeat k_meth
   intro n h16 cj
   repeat k_meth
   intro pz po;have few:=po.few
   repeat k_meth
   obtain⟨s0,e⟩:∃x,x=p_:=⟨_,rfl⟩;subst e;obtain⟨s1,e⟩:∃x,x=p_:=⟨_,rfl⟩;subst e;obtain⟨pt,e⟩:∃x,x=p_:=⟨_,rfl⟩;subst e;obtain⟨pa,e⟩:∃x,x=p_:=⟨_,rfl⟩;subst e;obtain⟨bx,e⟩:∃x,x=p_:=⟨_,rfl⟩;subst e;obtain⟨zp,e⟩:∃x,x=ys_:=⟨_,rfl⟩;subst e;have zpl:zp.length=pz.length:=l_;have F2:=SH.app (ys:=zp) (rs:=aD pz) (q:=pt) (r:=[V.int 0,V.int 0]) F LkP.m LkI.m;have tq:aH H_ (zp++[.ref pt]) (aD (pz++[(0,0)])):=by
    rw[jZ];exact F2.tps zC
   refine rK SqA.e (by decide) (by simp) λv hv=>?_
   obtain⟨jx,hj⟩:=List.getElem?_of_mem hv;obtain⟨w0,q0,e1,rfl,e2⟩:=fM tq hj;have sw:=Qe po (wE e1);replace F:=F.sE e2;clear F2 tq hj hv
   repeat k_meth
   refine rK SqA.e lo_ hi_ λv hv=>?_
   obtain⟨mk,rfl,hmk⟩:=P_ (hi:=n+1) hv (by lia);clear hv;have pok:16<=n/\n<=240/\∀w∈pz,w.1+w.2<=n:=⟨h16,cj,λw hw=>(po.ok w hw).2⟩;have hc1:=KQ (n:=n) (by lia) po.ok;replace F:=F.sub (L':=[(pa,.lst zp),(bx,.lst [.int x_,.int y_,.int z_]),(ak,.tbl ps)]) (I':=[.tps zp (aD pz),eH bU bH ps]) SbC.s SbI.s
   repeat k_meth
   obtain⟨s0,e⟩:∃x,x=p_:=⟨_,rfl⟩;subst e;obtain⟨sl,e⟩:∃x,x=p_:=⟨_,rfl⟩;subst e;obtain⟨hl,e⟩:∃x,x=p_:=⟨_,rfl⟩;subst e;obtain⟨zh,e⟩:∃x,x=ys_:=⟨_,rfl⟩;subst e;have zhl:zh.length=(ao (cells n (cov pz))).length:=l_;obtain⟨x5,hx5,l5a,F5⟩:∃x5:List V,n8 x5/\x5.length=5/\SH H [ak] H_ [(s0,.lst []),(sl,.lst x5),(hl,.lst zh),(pa,.lst zp),(bx,.lst [.int x_,.int y_,.int z_]),(ak,.tbl ps)] [.tps zh (aD (ao (cells n (cov pz)))),.tps zp (aD pz),eH bU bH ps]:=by
    refine⟨_,?_,?_,F⟩
    ·exact n8.five (by assumption) (by assumption) (by assumption)
    ·rfl
   clear F;have F:=F5;clear F5;refine Qf (λσ' H'=>∃(o8 o9 o10 o11 o12 o13 o14 o15:Option V)(x y z:Int)(sl:Addr)(xs:List V),n8 xs/\5<=xs.length/\xs.length<=8/\σ'=[some (.ref a),some (.int (i:Nat)),some (.ref bx),some (.int (n:Nat)),some (.ref pa),some (.int (mk:Nat)),some (.ref hl),some (.ref sl),o8,o9,o10,o11,o12,o13,o14,o15]/\SH H [ak] H' [(sl,.lst xs),(hl,.lst zh),(pa,.lst zp),(bx,.lst [.int x,.int y,.int z]),(ak,.tbl ps)] [.tps zh (aD (ao (cells n (cov pz)))),.tps zp (aD pz),eH bU bH ps]) ?_ (λhc D' hR=>?_) λhc=>⟨_,_,_,_,_,_,_,_,_,_,_,sl,_,?_,?_,?_,rfl,SH.ZQ F⟩
   ·clear F;rintro σ' H' ⟨w8,_,_,_,_,_,_,_,x,y,z,sl,xs,hx,l5,l8,rfl,F⟩
    repeat k_meth
    have cl1:=JF (xs:=xs) (lo:=some r_) (hi:=none);have cl2:=JF (xs:=xs) (lo:=none) (hi:=some r_);have hx2:=n8.app (xs:=kI xs (some r_) none) (ys:=kI xs none (some r_)) (λv h=>hx v (JG h)) (λv h=>hx v (JG h));obtain⟨sq,e⟩:∃x,x=p_:=⟨_,rfl⟩;subst e
    repeat k_meth
    obtain⟨rl,e⟩:∃x,x=p_:=⟨_,rfl⟩;subst e;obtain⟨q3,e⟩:∃x,x=p_:=⟨_,rfl⟩;subst e;obtain⟨c3,e⟩:∃x,x=p_:=⟨_,rfl⟩;subst e;obtain⟨q2,e⟩:∃x,x=p_:=⟨_,rfl⟩;subst e;obtain⟨c2,e⟩:∃x,x=p_:=⟨_,rfl⟩;subst e;obtain⟨q1,e⟩:∃x,x=p_:=⟨_,rfl⟩;subst e;obtain⟨c1,e⟩:∃x,x=p_:=⟨_,rfl⟩;subst e;obtain⟨sz,e⟩:∃x,x=p_:=⟨_,rfl⟩;subst e;obtain⟨b3,e⟩:∃x,x=x_:=⟨_,rfl⟩;subst e;obtain⟨y3,e⟩:∃x,x=x_:=⟨_,rfl⟩;subst e;obtain⟨b2,e⟩:∃x,x=x_:=⟨_,rfl⟩;subst e;obtain⟨y2,e⟩:∃x,x=x_:=⟨_,rfl⟩;subst e;obtain⟨b1,e⟩:∃x,x=x_:=⟨_,rfl⟩;subst e;obtain⟨y1,e⟩:∃x,x=x_:=⟨_,rfl⟩;subst e;obtain⟨xb0,e⟩:∃x,x=x_:=⟨_,rfl⟩;subst e;obtain⟨db3,e⟩:∃x,x=dx_:=⟨_,rfl⟩;subst e;obtain⟨dy3,e⟩:∃x,x=dx_:=⟨_,rfl⟩;subst e;obtain⟨db2,e⟩:∃x,x=dx_:=⟨_,rfl⟩;subst e;obtain⟨dy2,e⟩:∃x,x=dx_:=⟨_,rfl⟩;subst e;obtain⟨db1,e⟩:∃x,x=dx_:=⟨_,rfl⟩;subst e;obtain⟨dy1,e⟩:∃x,x=dx_:=⟨_,rfl⟩;subst e;obtain⟨r0,e⟩:∃x,x=r_:=⟨_,rfl⟩;subst e
    generalize kI xs (some r0) none++kI xs none (some r0)=zs at F hx2
    refine f9 (xs:=[.ref q1,.ref q2,.ref q3]) (λj σ' H'=>∃(o11 o12 o13 o14 o15:Option V)(xb yb zb:Int)(ps:xL),σ'=[some (.ref a),some (.int (i:Nat)),some (.ref bx),some (.int (n:Nat)),some (.ref pa),some (.int (mk:Nat)),some (.ref hl),some (.ref sz),w8,some (.int r0),some (.ref rl),o11,o12,o13,o14,o15]/\SH H [ak] H' [(y1,.ins CF dy1 (rF b1 none)),(b1,.ins CH db1 (hF n c1)),(c1,.lst ((FS n (cov pz) j 0).map V.bl)),(y2,.ins CT dy2 (rF b2 none)),(b2,.ins CH db2 (hF n c2)),(c2,.lst ((FS n (cov pz) j 1).map V.bl)),(y3,.ins CN dy3 (rF b3 (some (mk:Nat)))),(b3,.ins CH db3 (hF n c3)),(c3,.lst ((FS n (cov pz) j 2).map V.bl)),(rl,.lst [.ref q1,.ref q2,.ref q3]),(sz,.lst zs),(hl,.lst zh),(pa,.lst zp),(bx,.lst [.int xb,.int yb,.int zb]),(ak,.tbl ps)] [.tup q1 [.ref y1,.str "first", .int 0],.tup q2 [.ref y2,.str "tightest", .int 0],.tup q3 [.ref y3,.str "next", .int (mk:Nat)],.tps zh (aD (ao (cells n (cov pz)))),.tps zp (aD pz),eH bU bH ps]) ⟨_,_,_,_,_,xb0,y_,z_,ps,rfl,?_⟩ ?_ ?_ ?_
    ·show SH H [ak] H_ [(y1,.ins CF dy1 (rF b1 none)),(b1,.ins CH db1 (hF n c1)),(c1,.lst ((List.replicate n true).map V.bl)),(y2,.ins CT dy2 (rF b2 none)),(b2,.ins CH db2 (hF n c2)),(c2,.lst ((List.replicate n true).map V.bl)),(y3,.ins CN dy3 (rF b3 (some (mk:Nat)))),(b3,.ins CH db3 (hF n c3)),(c3,.lst ((List.replicate n true).map V.bl)),(rl,.lst [.ref q1,.ref q2,.ref q3]),(sz,.lst zs),(hl,.lst zh),(pa,.lst zp),(bx,.lst [.int xb0,.int y_,.int z_]),(ak,.tbl ps)] [.tup q1 [.ref y1,.str "first", .int 0],.tup q2 [.ref y2,.str "tightest", .int 0],.tup q3 [.ref y3,.str "next", .int (mk:Nat)],.tps zh (aD (ao (cells n (cov pz)))),.tps zp (aD pz),eH bU bH ps];exact F.sub SbC.s SbI.s
    ·clear F;rintro j σ' H' _ ⟨_,_,_,_,_,_,_,_,_,rfl,F⟩;exact SqA.e
    ·clear F;rintro j v σ' H' hv ⟨_,_,_,_,_,xb,yb,zb,ps,rfl,F⟩;rcases j with _|_|_|j
     ·cases hv;replace F:SH H [ak] H' [(y1,.ins CF dy1 (rF b1 none)),(b1,.ins CH db1 (hF n c1)),(c1,.lst ((List.replicate n true).map V.bl)),(y2,.ins CT dy2 (rF b2 none)),(b2,.ins CH db2 (hF n c2)),(c2,.lst ((List.replicate n true).map V.bl)),(y3,.ins CN dy3 (rF b3 (some (mk:Nat)))),(b3,.ins CH db3 (hF n c3)),(c3,.lst ((List.replicate n true).map V.bl)),(rl,.lst [.ref q1,.ref q2,.ref q3]),(sz,.lst zs),(hl,.lst zh),(pa,.lst zp),(bx,.lst [.int xb,.int yb,.int zb]),(ak,.tbl ps)] [.tup q1 [.ref y1,.str "first", .int 0],.tup q2 [.ref y2,.str "tightest", .int 0],.tup q3 [.ref y3,.str "next", .int (mk:Nat)],.tps zh (aD (ao (cells n (cov pz)))),.tps zp (aD pz),eH bU bH ps]:=F
      repeat k_meth
      refine f9 (xs:=zp) (λi' σ' H'=>∃(o14 o15:Option V),σ'=[some (.ref a),some (.int (i:Nat)),some (.ref bx),some (.int (n:Nat)),some (.ref pa),some (.int (mk:Nat)),some (.ref hl),some (.ref sz),w8,some (.int r0),some (.ref rl),some (.ref y1),some (.str "first"),some (.int 0),o14,o15]/\SH H [ak] H' [(y1,.ins CF dy1 (rF b1 none)),(b1,.ins CH db1 (hF n c1)),(c1,.lst ((cells n (cov (pz.take i'))).map V.bl)),(y2,.ins CT dy2 (rF b2 none)),(b2,.ins CH db2 (hF n c2)),(c2,.lst ((List.replicate n true).map V.bl)),(y3,.ins CN dy3 (rF b3 (some (mk:Nat)))),(b3,.ins CH db3 (hF n c3)),(c3,.lst ((List.replicate n true).map V.bl)),(rl,.lst [.ref q1,.ref q2,.ref q3]),(sz,.lst zs),(hl,.lst zh),(pa,.lst zp),(bx,.lst [.int xb,.int yb,.int zb]),(ak,.tbl ps)] [.tup q1 [.ref y1,.str "first", .int 0],.tup q2 [.ref y2,.str "tightest", .int 0],.tup q3 [.ref y3,.str "next", .int (mk:Nat)],.tps zh (aD (ao (cells n (cov pz)))),.tps zp (aD pz),eH bU bH ps]) ⟨_,_,rfl,by rw[List.take_zero,qg];exact SH.imp F (by simp)⟩ ?_ ?_ ?_
      ·clear F;rintro i' σ' H' _ ⟨_,_,rfl,F⟩;exact SqA.e
      ·clear F;rintro i' v σ' H' hv ⟨_,_,rfl,F⟩;obtain⟨w1,qw,e1,rfl,e2⟩:=fM (F.tps (rs:=aD pz) (by simp)) hv;obtain⟨h1,h2⟩:=wC po (List.Perm.refl _) e1;have ht:Eh (cells n (cov (pz.take i'))) w1.1 w1.2:=⟨h1⟩;have bks:=iQ (c:=cov (pz.take i')) h16 cj;replace F:=F.sE e2
       repeat k_meth
       refine .inl ?_
       repeat k_meth
       rw[h2] at F;exact⟨_,_,rfl,F.sub SbC.s SbI.s⟩
      ·clear F;rintro σ' H' ⟨_,_,rfl,F⟩;rw[zpl,List.take_length] at F
       repeat k_meth
       refine f9 (xs:=zs) (λi' σ' H'=>∃(o14 o15:Option V)(ps:xL),σ'=[some (.ref a),some (.int (i:Nat)),some (.ref bx),some (.int (n:Nat)),some (.ref pa),some (.int (mk:Nat)),some (.ref hl),some (.ref sz),w8,some (.int r0),some (.ref rl),some (.ref y1),some (.str "first"),some (.int 0),o14,o15]/\SH H [ak] H' [(y1,.ins CF dy1 (rF b1 none)),(b1,.ins CH db1 (hF n c1)),(c1,.lst ((cells n (cov pz)).map V.bl)),(y2,.ins CT dy2 (rF b2 none)),(b2,.ins CH db2 (hF n c2)),(c2,.lst ((List.replicate n true).map V.bl)),(y3,.ins CN dy3 (rF b3 (some (mk:Nat)))),(b3,.ins CH db3 (hF n c3)),(c3,.lst ((List.replicate n true).map V.bl)),(rl,.lst [.ref q1,.ref q2,.ref q3]),(sz,.lst zs),(hl,.lst zh),(pa,.lst zp),(bx,.lst [.int xb,.int yb,.int zb]),(ak,.tbl ps)] [.tup q1 [.ref y1,.str "first", .int 0],.tup q2 [.ref y2,.str "tightest", .int 0],.tup q3 [.ref y3,.str "next", .int (mk:Nat)],.tps zh (aD (ao (cells n (cov pz)))),.tps zp (aD pz),eH bU bH ps]) ⟨_,_,_,rfl,SH.imp F (by simp)⟩ ?_ ?_ ?_
       ·clear F;rintro i' σ' H' _ ⟨_,_,_,rfl,F⟩;exact SqA.e
       ·clear F;rintro i' v σ' H' hv ⟨_,_,ps,rfl,F⟩;obtain⟨s,rfl,hs1⟩:=hx2 v (wE hv);have bks:=iQ (c:=cov pz) h16 cj;have sd:(ao (cells n (cov pz))).length<=400/\1<=s:=⟨by lia,hs1⟩
        repeat k_meth
        refine⟨sd,λps'=>?_⟩
        repeat k_meth
        exact⟨_,_,ps',rfl,F.sub SbC.s SbI.s⟩
       ·clear F;rintro σ' H' ⟨_,_,ps,rfl,F⟩
        repeat k_meth
        exact⟨_,_,_,_,_,xb,yb,zb,ps,rfl,SH.imp F (by simp)⟩
     ·cases hv;replace F:SH H [ak] H' [(y1,.ins CF dy1 (rF b1 none)),(b1,.ins CH db1 (hF n c1)),(c1,.lst ((cells n (cov pz)).map V.bl)),(y2,.ins CT dy2 (rF b2 none)),(b2,.ins CH db2 (hF n c2)),(c2,.lst ((List.replicate n true).map V.bl)),(y3,.ins CN dy3 (rF b3 (some (mk:Nat)))),(b3,.ins CH db3 (hF n c3)),(c3,.lst ((List.replicate n true).map V.bl)),(rl,.lst [.ref q1,.ref q2,.ref q3]),(sz,.lst zs),(hl,.lst zh),(pa,.lst zp),(bx,.lst [.int xb,.int yb,.int zb]),(ak,.tbl ps)] [.tup q1 [.ref y1,.str "first", .int 0],.tup q2 [.ref y2,.str "tightest", .int 0],.tup q3 [.ref y3,.str "next", .int (mk:Nat)],.tps zh (aD (ao (cells n (cov pz)))),.tps zp (aD pz),eH bU bH ps]:=F
      repeat k_meth
      refine f9 (xs:=zp) (λi' σ' H'=>∃(o14 o15:Option V),σ'=[some (.ref a),some (.int (i:Nat)),some (.ref bx),some (.int (n:Nat)),some (.ref pa),some (.int (mk:Nat)),some (.ref hl),some (.ref sz),w8,some (.int r0),some (.ref rl),some (.ref y2),some (.str "tightest"),some (.int 0),o14,o15]/\SH H [ak] H' [(y1,.ins CF dy1 (rF b1 none)),(b1,.ins CH db1 (hF n c1)),(c1,.lst ((cells n (cov pz)).map V.bl)),(y2,.ins CT dy2 (rF b2 none)),(b2,.ins CH db2 (hF n c2)),(c2,.lst ((cells n (cov (pz.take i'))).map V.bl)),(y3,.ins CN dy3 (rF b3 (some (mk:Nat)))),(b3,.ins CH db3 (hF n c3)),(c3,.lst ((List.replicate n true).map V.bl)),(rl,.lst [.ref q1,.ref q2,.ref q3]),(sz,.lst zs),(hl,.lst zh),(pa,.lst zp),(bx,.lst [.int xb,.int yb,.int zb]),(ak,.tbl ps)] [.tup q1 [.ref y1,.str "first", .int 0],.tup q2 [.ref y2,.str "tightest", .int 0],.tup q3 [.ref y3,.str "next", .int (mk:Nat)],.tps zh (aD (ao (cells n (cov pz)))),.tps zp (aD pz),eH bU bH ps]) ⟨_,_,rfl,by rw[List.take_zero,qg];exact SH.imp F (by simp)⟩ ?_ ?_ ?_
      ·clear F;rintro i' σ' H' _ ⟨_,_,rfl,F⟩;exact SqA.e
      ·clear F;rintro i' v σ' H' hv ⟨_,_,rfl,F⟩;obtain⟨w1,qw,e1,rfl,e2⟩:=fM (F.tps (rs:=aD pz) (by simp)) hv;obtain⟨h1,h2⟩:=wC po (List.Perm.refl _) e1;have ht:Eh (cells n (cov (pz.take i'))) w1.1 w1.2:=⟨h1⟩;have bks:=iQ (c:=cov (pz.take i')) h16 cj;replace F:=F.sE e2
       repeat k_meth
       refine .inr (.inl ?_)
       repeat k_meth
       rw[h2] at F;exact⟨_,_,rfl,F.sub SbC.s SbI.s⟩
      ·clear F;rintro σ' H' ⟨_,_,rfl,F⟩;rw[zpl,List.take_length] at F
       repeat k_meth
       refine f9 (xs:=zs) (λi' σ' H'=>∃(o14 o15:Option V)(ps:xL),σ'=[some (.ref a),some (.int (i:Nat)),some (.ref bx),some (.int (n:Nat)),some (.ref pa),some (.int (mk:Nat)),some (.ref hl),some (.ref sz),w8,some (.int r0),some (.ref rl),some (.ref y2),some (.str "tightest"),some (.int 0),o14,o15]/\SH H [ak] H' [(y1,.ins CF dy1 (rF b1 none)),(b1,.ins CH db1 (hF n c1)),(c1,.lst ((cells n (cov pz)).map V.bl)),(y2,.ins CT dy2 (rF b2 none)),(b2,.ins CH db2 (hF n c2)),(c2,.lst ((cells n (cov pz)).map V.bl)),(y3,.ins CN dy3 (rF b3 (some (mk:Nat)))),(b3,.ins CH db3 (hF n c3)),(c3,.lst ((List.replicate n true).map V.bl)),(rl,.lst [.ref q1,.ref q2,.ref q3]),(sz,.lst zs),(hl,.lst zh),(pa,.lst zp),(bx,.lst [.int xb,.int yb,.int zb]),(ak,.tbl ps)] [.tup q1 [.ref y1,.str "first", .int 0],.tup q2 [.ref y2,.str "tightest", .int 0],.tup q3 [.ref y3,.str "next", .int (mk:Nat)],.tps zh (aD (ao (cells n (cov pz)))),.tps zp (aD pz),eH bU bH ps]) ⟨_,_,_,rfl,SH.imp F (by simp)⟩ ?_ ?_ ?_
       ·clear F;rintro i' σ' H' _ ⟨_,_,_,rfl,F⟩;exact SqA.e
       ·clear F;rintro i' v σ' H' hv ⟨_,_,ps,rfl,F⟩;obtain⟨s,rfl,hs1⟩:=hx2 v (wE hv);have bks:=iQ (c:=cov pz) h16 cj;have sd:(ao (cells n (cov pz))).length<=400/\1<=s:=⟨by lia,hs1⟩
        repeat k_meth
        refine⟨sd,λps'=>?_⟩
        repeat k_meth
        exact⟨_,_,ps',rfl,F.sub SbC.s SbI.s⟩
       ·clear F;rintro σ' H' ⟨_,_,ps,rfl,F⟩
        repeat k_meth
        exact⟨_,_,_,_,_,xb,yb,zb,ps,rfl,SH.imp F (by simp)⟩
     ·cases hv;replace F:SH H [ak] H' [(y1,.ins CF dy1 (rF b1 none)),(b1,.ins CH db1 (hF n c1)),(c1,.lst ((cells n (cov pz)).map V.bl)),(y2,.ins CT dy2 (rF b2 none)),(b2,.ins CH db2 (hF n c2)),(c2,.lst ((cells n (cov pz)).map V.bl)),(y3,.ins CN dy3 (rF b3 (some (mk:Nat)))),(b3,.ins CH db3 (hF n c3)),(c3,.lst ((List.replicate n true).map V.bl)),(rl,.lst [.ref q1,.ref q2,.ref q3]),(sz,.lst zs),(hl,.lst zh),(pa,.lst zp),(bx,.lst [.int xb,.int yb,.int zb]),(ak,.tbl ps)] [.tup q1 [.ref y1,.str "first", .int 0],.tup q2 [.ref y2,.str "tightest", .int 0],.tup q3 [.ref y3,.str "next", .int (mk:Nat)],.tps zh (aD (ao (cells n (cov pz)))),.tps zp (aD pz),eH bU bH ps]:=F
      repeat k_meth
      refine f9 (xs:=zp) (λi' σ' H'=>∃(o14 o15:Option V),σ'=[some (.ref a),some (.int (i:Nat)),some (.ref bx),some (.int (n:Nat)),some (.ref pa),some (.int (mk:Nat)),some (.ref hl),some (.ref sz),w8,some (.int r0),some (.ref rl),some (.ref y3),some (.str "next"),some (.int (mk:Nat)),o14,o15]/\SH H [ak] H' [(y1,.ins CF dy1 (rF b1 none)),(b1,.ins CH db1 (hF n c1)),(c1,.lst ((cells n (cov pz)).map V.bl)),(y2,.ins CT dy2 (rF b2 none)),(b2,.ins CH db2 (hF n c2)),(c2,.lst ((cells n (cov pz)).map V.bl)),(y3,.ins CN dy3 (rF b3 (some (mk:Nat)))),(b3,.ins CH db3 (hF n c3)),(c3,.lst ((cells n (cov (pz.take i'))).map V.bl)),(rl,.lst [.ref q1,.ref q2,.ref q3]),(sz,.lst zs),(hl,.lst zh),(pa,.lst zp),(bx,.lst [.int xb,.int yb,.int zb]),(ak,.tbl ps)] [.tup q1 [.ref y1,.str "first", .int 0],.tup q2 [.ref y2,.str "tightest", .int 0],.tup q3 [.ref y3,.str "next", .int (mk:Nat)],.tps zh (aD (ao (cells n (cov pz)))),.tps zp (aD pz),eH bU bH ps]) ⟨_,_,rfl,by rw[List.take_zero,qg];exact SH.imp F (by simp)⟩ ?_ ?_ ?_
      ·clear F;rintro i' σ' H' _ ⟨_,_,rfl,F⟩;exact SqA.e
      ·clear F;rintro i' v σ' H' hv ⟨_,_,rfl,F⟩;obtain⟨w1,qw,e1,rfl,e2⟩:=fM (F.tps (rs:=aD pz) (by simp)) hv;obtain⟨h1,h2⟩:=wC po (List.Perm.refl _) e1;have ht:Eh (cells n (cov (pz.take i'))) w1.1 w1.2:=⟨h1⟩;have bks:=iQ (c:=cov (pz.take i')) h16 cj;replace F:=F.sE e2
       repeat k_meth
       refine .inr (.inr ?_)
       repeat k_meth
       rw[h2] at F;exact⟨_,_,rfl,F.sub SbC.s SbI.s⟩
      ·clear F;rintro σ' H' ⟨_,_,rfl,F⟩;rw[zpl,List.take_length] at F
       repeat k_meth
       refine f9 (xs:=zs) (λi' σ' H'=>∃(o14 o15:Option V)(ps:xL),σ'=[some (.ref a),some (.int (i:Nat)),some (.ref bx),some (.int (n:Nat)),some (.ref pa),some (.int (mk:Nat)),some (.ref hl),some (.ref sz),w8,some (.int r0),some (.ref rl),some (.ref y3),some (.str "next"),some (.int (mk:Nat)),o14,o15]/\SH H [ak] H' [(y1,.ins CF dy1 (rF b1 none)),(b1,.ins CH db1 (hF n c1)),(c1,.lst ((cells n (cov pz)).map V.bl)),(y2,.ins CT dy2 (rF b2 none)),(b2,.ins CH db2 (hF n c2)),(c2,.lst ((cells n (cov pz)).map V.bl)),(y3,.ins CN dy3 (rF b3 (some (mk:Nat)))),(b3,.ins CH db3 (hF n c3)),(c3,.lst ((cells n (cov pz)).map V.bl)),(rl,.lst [.ref q1,.ref q2,.ref q3]),(sz,.lst zs),(hl,.lst zh),(pa,.lst zp),(bx,.lst [.int xb,.int yb,.int zb]),(ak,.tbl ps)] [.tup q1 [.ref y1,.str "first", .int 0],.tup q2 [.ref y2,.str "tightest", .int 0],.tup q3 [.ref y3,.str "next", .int (mk:Nat)],.tps zh (aD (ao (cells n (cov pz)))),.tps zp (aD pz),eH bU bH ps]) ⟨_,_,_,rfl,SH.imp F (by simp)⟩ ?_ ?_ ?_
       ·clear F;rintro i' σ' H' _ ⟨_,_,_,rfl,F⟩;exact SqA.e
       ·clear F;rintro i' v σ' H' hv ⟨_,_,ps,rfl,F⟩;obtain⟨s,rfl,hs1⟩:=hx2 v (wE hv);have bks:=iQ (c:=cov pz) h16 cj;have sd:(ao (cells n (cov pz))).length<=400/\1<=s:=⟨by lia,hs1⟩
        repeat k_meth
        refine⟨sd,λps'=>?_⟩
        repeat k_meth
        exact⟨_,_,ps',rfl,F.sub SbC.s SbI.s⟩
       ·clear F;rintro σ' H' ⟨_,_,ps,rfl,F⟩
        repeat k_meth
        exact⟨_,_,_,_,_,xb,yb,zb,ps,rfl,SH.imp F (by simp)⟩
     ·cases hv
    ·clear F;rintro σ' H' ⟨_,_,_,_,_,_,_,_,ps,rfl,F⟩
     repeat k_meth
     exact⟨_,_,_,_,_,_,_,_,_,_,_,_,_,_,_,ps,rfl,F.sub SbC.s SbI.s⟩
   ·have hz:aD (ao (cells n (cov pz)))≠[]:=by simpa using hc
    rcases D' with⟨nx',rt',bk',ct'⟩;dsimp only at hR;have np:0<zh.length:=by
     rw[zhl];refine List.length_pos_iff.mpr λz=>hz ?_
     rw[z]
     rfl
    repeat k_meth
    refine rK SqA.e lo_ hi_ λv hv=>?_
    obtain⟨jx2,hj⟩:=List.getElem?_of_mem hv;obtain⟨wh,qh,e3,rfl,e4⟩:=fM (F.tps zC) hj;have hwi:=sY (wE e3);replace F:=F.sE e4;clear hj hv
    repeat k_meth
    refine hR _ _ ⟨_,_,_,_,_,_,_,_,x_,y_,z_,p_,x5++[.int (wh.2:Nat),.int ((wh.2:Nat)+1),.int (max 1 ((wh.2:Nat)-1))],hx5.app (.cons (by lia) (.cons (by lia) (.cons (by lia) .nil))),?_,?_,rfl,F.sub SbC.s SbI.s⟩
    ·rw[yY]
     lia
    ·rw[yY,l5a];exact uS 8
   ·exact hx5
   ·lia
   ·lia
  ·clear F;rintro σ' H' ⟨_,_,_,_,_,_,_,_,_,_,_,_,_,_,_,ps,rfl,F⟩
   repeat k_meth
   exact k _
end
end K32
namespace K32
open PySem L2 PyProof.Rows
abbrev LkH(K:W.Frag)(g:Addr)(m q:Str)(st:Stmt)(xd xn:xN)(xs:Array (Option Value))(xo xk xe xp xc xt:Value):Prop:=K.lookup g=some ⟨xo,xd,.func (W.fnOf m q (cW st) (cu st) (aF st) .none xk xe xp xn xc xt),xs⟩/\W.codeIn K xc q=true/\W.keepIn K (.ref g)=true
abbrev DfH(K:W.Frag)(m:Str)(st:Stmt):Prop:=∃g xd xn xs xo xk xe xp xc xt,W.nsIn K mainGlobals m=some (some (.ref g))/\LkH K g m m st xd xn xs xo xk xe xp xc xt
abbrev MeH(K:W.Frag)(C:Addr)(m q:Str)(st:Stmt):Prop:=∃g xd xn xs xo xk xe xp xc xt,W.findIn K (.ref C) m=some (some (.ref g))/\W.isFn K (.ref g)=true/\LkH K g m q st xd xn xs xo xk xe xp xc xt
abbrev CdH(K:W.Frag)(C:Addr)(m q:Str)(st:Stmt):Prop:=∃g xd xn xs xo xk xe xp xc xt,W.specialIn K (.ref C) "__getattribute__" = some (some (.builtin "type.__getattribute__"))/\W.readsIn K C (.type "type")=true/\W.findCls K (.ref C) (.type "type") m=some (.val (.ref g))/\LkH K g m q st xd xn xs xo xk xe xp xc xt
abbrev ClH(K:W.Frag)(C:Addr):Prop:=W.plainGet K C Str.empty=true/\W.hasDictIn K C=true/\W.plainOver K C=true/\W.findIn K (.ref C) "__setattr__" = some (some (.builtin "object.__setattr__"))/\W.makesIn K C=true/\W.keepIn K (.ref C)=true
section
variable{K:W.Frag}{h:Heap}{mg:xC}{C:Addr}{m q:Str}{st:Stmt}
theorem DfH.has(d:DfH K m st)(X:K.In h)(G:h.Ns mainGlobals mg):HasDef K mg m st:=let ⟨_,_,_,_,_,_,_,_,_,_,a,l,c,k⟩:=d;HasDef.mk (W.mg_of X G a) l c k
theorem MeH.me(d:MeH K C m q st):∃f,FnAt K m q st f/\Meth K C m f:=let ⟨g,_,_,_,_,_,_,_,_,_,a,f,l,c,k⟩:=d;⟨g,⟨_,nO (st:=st) l c k⟩,⟨a,f,k⟩⟩
theorem MeH.mk(d:MeH K C "__init__" q st)(c:ClH K C):∃f,FnAt K "__init__" q st f/\Mk K C f:=let ⟨g,_,_,_,_,_,_,_,_,_,a,f,l,cd,k⟩:=d;⟨g,⟨_,nO (st:=st) l cd k⟩,⟨c.2.2.2.2.1,a,f,c.2.2.2.2.2⟩⟩
theorem CdH.cd(d:CdH K C m q st):∃f,FnAt K m q st f/\rH K C m f:=let ⟨g,_,_,_,_,_,_,_,_,_,a,r,f,l,c,k⟩:=d;⟨g,⟨_,nO (st:=st) l c k⟩,⟨a,r,f,by rfl,k⟩⟩
end
theorem all_mk{aG ak:Addr}{l:W.OpenLaw}{w:World}{K:W.Frag}{h:Heap}{mg:xC}{fa g10_ g24_:Addr}(X:K.In h)(G:h.Ns mainGlobals mg)(hfa:mg "law" = some (.ref fa))
  {R:Addr}
  (eR:W.nsIn K mainGlobals "RoomError" = some (some (.ref R)))
  (eh:W.specialIn K (.builtin "object.__class__") "__get__" = some (some (.builtin "getset_descriptor.__get__")))
  (et:W.takesIn K (.builtin "object.__class__")=some true)
  {C0 N0 x0:Addr} {nm0 q0:Str} {bs0:xF} {sn0:List Str} {aci:xF} {ab0:Bool} {acj:Option Bool} {dd0:xN} {k00_ k10_ k20_ k30_ k50_:Option Value}
  (ea0:W.nsIn K mainGlobals "NoHole" = some (some (.ref C0)))
  (el0:K.lookup C0=some (excClassObj nm0 q0 C0 N0 bs0 [.ref R,.type "ValueError", .type "Exception", .type "BaseException", .type "object"] true sn0 aci ab0 acj dd0 k00_ k10_ k20_ k30_ k50_ "ValueError.__new__"))
  {xd0 xn0:xN} {xs0:Array (Option Value)} {xk0 xo0 xp0 xc0 xt0:Value}
  (ei0:W.findIn K (.ref C0) "__init__" = some (some (.ref x0)))
  (ef0:K.lookup x0=some ⟨.type "function", xd0,.func (W.fnOf "__init__" "NoHole.__init__" (cW jF) (cu jF) (aF jF) .none xk0 xo0 xp0 xn0 xc0 xt0),xs0⟩)
  (ec0:W.codeIn K xc0 "NoHole.__init__" = true) (ek0:W.keepIn K (.ref x0)=true) (es0:W.findIn K (.ref C0) "__setattr__" = some (some (.builtin "object.__setattr__")))
  (em0:W.keepIn K (.ref C0)=true) (eg0:W.findIn K (.ref C0) "__getattribute__" = some (some (.builtin "BaseException.__getattribute__"))) (eb0:W.findIn K (.ref C0) "__getattr__" = some none) (ej0:W.findIn K (.ref C0) "__class__" = some (some (.builtin "object.__class__")))
  (ZS:W.findIn K (.ref C0) "size" = some none)
  (ZV:W.findIn K (.ref C0) "largest" = some none)
  {od10_ an10_:xN} {sl10_:Array (Option Value)} {oc10_ kV10_ dc10_ pm10_ ct10_:Value}
  {od24_ an24_:xN} {sl24_:Array (Option Value)} {oc24_ kV24_ dc24_ pm24_ cd24_ ct24_:Value}
  (d0_:DfH K "is_whole" nW)
  (d1_:DfH K "is_from" qM)
  (d2_:DfH K "is_within" lE)
  (d3_:DfH K "is_many" qN)
  (d4_:DfH K "end_of" vo)
  (d5_:DfH K "is_stretch" qO)
  (d6_:DfH K "largest_size" qP)
  (d7_:DfH K "holes_among" Ag)
  (d8_:DfH K "is_all_free" qQ)
  (d9_:DfH K "by_start" qT)
  (a10_:W.nsIn K mainGlobals "by_size" = some (some (.ref g10_))) (l10_:K.lookup g10_=some ⟨oc10_,od10_,.func (W.fnOf "by_size" "by_size" (cW lF) (cu lF) (aF lF) .none kV10_ dc10_ pm10_ an10_ (.ref aG) ct10_),sl10_⟩) (c10_:W.codeIn K (.ref aG) "by_size" = true) (k10_:W.keepIn K (.ref g10_)=true) (tb_bysize:W.codeHdIn K aG ak=true) (tn_bysize:K.lookup ak=none)
  (d11_:DfH K "from_mark" nY)
  (d12_:DfH K "found_in" qU)
  (d13_:DfH K "_law_cell_at" qW)
  (d14_:DfH K "_law_box" Ph)
  (d15_:DfH K "_law_take" GR)
  (d16_:DfH K "_law_many" GX)
  (d17_:DfH K "_law_puts" GZ)
  (d18_:DfH K "_law_holes" vG)
  (d19_:DfH K "_law_order" vH)
  (d20_:DfH K "_law_due" Pn)
  (d21_:DfH K "_law_told" G3)
  (d22_:DfH K "_law_whole" vI)
  (d23_:DfH K "_law_right" Ah)
  (a24_:W.nsIn K mainGlobals "law" = some (some (.ref g24_))) (l24_:K.lookup g24_=some ⟨oc24_,od24_,.func (W.fnOf "law" "law" (cW pA) (cu pA) (aF pA) .none kV24_ dc24_ pm24_ an24_ cd24_ ct24_),sl24_⟩) (c24_:W.codeIn K cd24_ "law" = true) (k24_:W.keepIn K (.ref g24_)=true)
  (nb0:W.nsIn K mainGlobals "isinstance" = some none)
  (nb1:W.nsIn K mainGlobals "int" = some none)
  (nb2:W.nsIn K mainGlobals "bool" = some none)
  (nb3:W.nsIn K mainGlobals "list" = some none)
  (nb4:W.nsIn K mainGlobals "tuple" = some none)
  (nb5:W.nsIn K mainGlobals "len" = some none)
  (nb6:W.nsIn K mainGlobals "all" = some none)
  (nb7:W.nsIn K mainGlobals "range" = some none)
  (nb8:W.nsIn K mainGlobals "sorted" = some none)
  (nb9:W.nsIn K mainGlobals "max" = some none)
  (acn:W.nsIn K mainGlobals "min" = some none)
  (aco:W.nsIn K mainGlobals "enumerate" = some none)
  (acp:W.nsIn K mainGlobals "sum" = some none)
  {tk0:Tok} (acq:W.nsIn K mainGlobals "FEWEST_CELLS" = some (some (.int 16 tk0)))
  {tk1:Tok} (acr:W.nsIn K mainGlobals "MOST_CELLS" = some (some (.int 240 tk1)))
  {nmR qR:Str} {NR:Addr} {bsR bmR:xF} {hdR:Bool} {snR:List Str} {acs:xF} {abR:Bool} {acu:Option Bool} {ddR:xN} {k0R k1R k2R k3R k5R:Option Value} {newR:String}
  (zc:K.lookup R=some (excClassObj nmR qR R NR bsR bmR hdR snR acs abR acu ddR k0R k1R k2R k3R k5R newR)) (zt:W.typeIn K (.ref R)=some (.type "type")) (zm:W.mroIn K R (.type "BaseException")=some true)
  {CH CF CT CN CB qp:Addr}
  (aCH:W.nsIn K mainGlobals "Holes" = some (some (.ref CH)))
  (Qg:ClH K CH)
  (Qh:W.findIn K (.ref CH) "many" = some none)
  (Qi:W.findIn K (.ref CH) "free" = some none)
  (aCF:W.nsIn K mainGlobals "First" = some (some (.ref CF)))
  (Qj:ClH K CF)
  (Qk:W.findIn K (.ref CF) "book" = some none)
  (aCT:W.nsIn K mainGlobals "Tightest" = some (some (.ref CT)))
  (Ql:ClH K CT)
  (Qm:W.findIn K (.ref CT) "book" = some none)
  (aCN:W.nsIn K mainGlobals "Next" = some (some (.ref CN)))
  (KR:ClH K CN)
  (Qn:W.findIn K (.ref CN) "book" = some none)
  (G9:W.findIn K (.ref CN) "turned" = some none)
  (aCB:W.nsIn K mainGlobals "Rule" = some (some (.ref CB)))
  (Tg:ClH K CB)
  (Ti:MeH K CH "__init__" "Holes.__init__" Ai)
  (Tj:MeH K CH "told" "Holes.told" Aj)
  (W5:MeH K CH "has" "Holes.has" G4)
  (Tn:MeH K CH "take" "Holes.take" Ak)
  (Qo:CdH K CB "__init__" "Rule.__init__" vJ)
  (Qp:CdH K CB "__init__" "Rule.__init__" vK)
  (Qq:CdH K CB "__init__" "Rule.__init__" vL)
  (KY:MeH K CF "holes" "Rule.holes" qX)
  (rB:MeH K CF "largest_hole" "Rule.largest_hole" gZ)
  (Tp:MeH K CF "put" "Rule.put" Am)
  (Eo:MeH K CF "used_by" "Rule.used_by" lG)
  (Qs:MeH K CF "look" "Rule.look" vN)
  (KZ:MeH K CT "holes" "Rule.holes" qY)
  (rC:MeH K CT "largest_hole" "Rule.largest_hole" g8)
  (Tq:MeH K CT "put" "Rule.put" Ao)
  (Ep:MeH K CT "used_by" "Rule.used_by" lH)
  (Qt:MeH K CT "look" "Rule.look" vP)
  (K1:MeH K CN "holes" "Rule.holes" qZ)
  (rD:MeH K CN "largest_hole" "Rule.largest_hole" g_)
  (Tr:MeH K CN "put" "Rule.put" Aq)
  (Er:MeH K CN "used_by" "Rule.used_by" lJ)
  (Qu:MeH K CN "look" "Rule.look" vR)
  (Qv:MeH K CF "mark" "Rule.mark" vU)
  (Qw:MeH K CT "mark" "Rule.mark" vV)
  (Tt:MeH K CF "__init__" "First.__init__" Ar)
  (Qx:MeH K CF "order" "First.order" vW)
  (Tv:MeH K CT "__init__" "Tightest.__init__" Av)
  (Qy:MeH K CT "order" "Tightest.order" vX)
  {wD:Addr} {Qz:Value} {QB:xN} {QC:Array (Option Value)} {QD:Nat} {yV:Tok}
  {QF QG:xN} {QJ:Array (Option Value)} {QK QL QM QS Es QT:Value}
  (QV:W.findIn K (.ref CN) "__init__" = some (some (.ref qp))) (QW:W.isFn K (.ref qp)=true)
  (QX:K.lookup qp=some ⟨QK,QF,.func (W.fnOf "__init__" "Next.__init__" (cW pF) (cu pF) (aF pF) (.ref wD) QL QM QS QG Es QT),QJ⟩) (QZ:W.codeIn K Es "Next.__init__" = true) (ZW:W.keepIn K (.ref qp)=true) (Q0:K.lookup wD=some ⟨Qz,QB,.seq #[.int 0 yV] QD,QC⟩)
  (Q5:MeH K CN "order" "Next.order" vY)
  (Tw:MeH K CN "mark" "Next.mark" Aw)
  (Ay:W.specialIn K (.builtin "object.__class__") "__get__" = some (some (.builtin "getset_descriptor.__get__")))
  (Az:W.takesIn K (.builtin "object.__class__")=some true)
  (DR:W.findIn K (.ref CF) "__class__" = some (some (.builtin "object.__class__")))
  (DW:W.mroIn K CF (.type "object")=some true)
  (ccF_k:W.kitOne K (.ref CF) (.ref CB)=some true)
  (DX:W.findIn K (.ref CT) "__class__" = some (some (.builtin "object.__class__")))
  (DY:W.mroIn K CT (.type "object")=some true)
  (ccT_k:W.kitOne K (.ref CT) (.ref CB)=some true)
  (Ea:W.findIn K (.ref CN) "__class__" = some (some (.builtin "object.__class__")))
  (Eb:W.mroIn K CN (.type "object")=some true)
  (ccN_k:W.kitOne K (.ref CN) (.ref CB)=some true)
  : (∀p∈[ak],K.lookup p=none/\∃c,W.codeHdIn K c p=true)/\∃fd:FuncData,(∀(s:Shared)(v:Value),BindsTo s fd ⟨[v],[]⟩ [("_law_script", v)])/\∀base:Heap,K.In base->base.Ns mainGlobals mg->Bm mg base->gq l.prog w K mg base CX0 8 fa fd ["_law_script"] (Bo ak K):=by
 have e:=hfa.symm.trans (W.mg_of X G a24_);cases e;have T:Txt K mg (λi=>([C0]:List Addr).getD i 0) R CH CF CT CN CB aG ak:={
  cC:=uw.mk1 (W.mg_of X G ea0) el0 ei0 ef0 ec0 ek0 em0 (RP el0 es0) (RQ el0 eg0 eb0 ej0 eh et)
  pG:=⟨_,_,_,_,_,_,_,_,_,_,_,_,_,_,_,el0⟩
  d7:=ZS
  cO:=ZV
  v7:=d0_.has X G
  yx:=d1_.has X G
  rP:=d2_.has X G
  yC:=d3_.has X G
  Dj:=d4_.has X G
  yD:=d5_.has X G
  yE:=d6_.has X G
  Ji:=d7_.has X G
  yF:=d8_.has X G
  yG:=d9_.has X G
  v8:=tb_bysize
  Dk:=⟨_,_,nO l10_ c10_ k10_,rfl,W.mg_of X G a10_⟩
  v9:=d11_.has X G
  yH:=d12_.has X G
  yI:=d13_.has X G
  Uh:=d14_.has X G
  Pu:=d15_.has X G
  Px:=d16_.has X G
  Py:=d17_.has X G
  Dl:=d18_.has X G
  Dm:=d19_.has X G
  Ui:=d20_.has X G
  Pz:=d21_.has X G
  Dn:=d22_.has X G
  Jj:=d23_.has X G
  bZ:=W.mg_none_of X G nb0
  PB:=W.mg_none_of X G nb1
  G5:=W.mg_none_of X G nb2
  Ax:=W.mg_none_of X G nb3
  pH:=W.mg_none_of X G nb4
  nF:=W.mg_none_of X G nb5
  Uj:=W.mg_none_of X G nb6
  jo:=W.mg_none_of X G nb7
  pI:=W.mg_none_of X G nb8
  Dp:=W.mg_none_of X G nb9
  PJ:=W.mg_none_of X G acn
  rQ:=W.mg_none_of X G aco
  Uk:=W.mg_none_of X G acp
  lK:=⟨_,W.mg_of X G acq,⟨_,rfl⟩⟩
  pJ:=⟨_,W.mg_of X G acr,⟨_,rfl⟩⟩
  g_R:=W.mg_of X G eR
  c_R:=by unfold W.clsIn;rw[zc];rfl
  t_R:=zt
  m_R:=zm
  clH:=⟨Qg.1,Qg.2.1,Qg.2.2.1,Qg.2.2.2.1⟩
  Dq:=W.mg_of X G aCH
  aW:=Qh
  aX:=Qi
  clF:=⟨Qj.1,Qj.2.1,Qj.2.2.1,Qj.2.2.2.1⟩
  Dr:=W.mg_of X G aCF
  aY:=Qk
  clT:=⟨Ql.1,Ql.2.1,Ql.2.2.1,Ql.2.2.2.1⟩
  rR:=W.mg_of X G aCT
  aZ:=Qm
  clN:=⟨KR.1,KR.2.1,KR.2.2.1,KR.2.2.2.1⟩
  Jk:=W.mg_of X G aCN
  bf:=Qn
  aM:=G9
  clB:=⟨Tg.1,Tg.2.1,Tg.2.2.1,Tg.2.2.2.1⟩
  jW:=W.mg_of X G aCB
  Jl:=Ti.mk Qg
  Jm:=Tj.me
  PK:=W5.me
  Jo:=Tn.me
  Ds:=Qo.cd
  Du:=Qp.cd
  Dv:=Qq.cd
  yJ:=KY.me
  jG:=rB.me
  Jp:=Tp.me
  rT:=Eo.me
  Dw:=Qs.me
  yK:=KZ.me
  jH:=rC.me
  Jq:=Tq.me
  rU:=Ep.me
  Dy:=Qt.me
  yL:=K1.me
  jJ:=rD.me
  Jr:=Tr.me
  rW:=Er.me
  Dz:=Qu.me
  DG:=Qv.me
  DK:=Qw.me
  Js:=Tt.mk Qj
  DN:=Qx.me
  Jt:=Tv.mk Ql
  DP:=Qy.me
  Ju:=⟨yV,qp,⟨wD,_,_,_,_,_,_,_,_,_,_,_,QX,QZ,Q0,rfl⟩,⟨KR.2.2.2.2.1,QV,QW,KR.2.2.2.2.2⟩⟩
  DQ:=Q5.me
  Jv:=Tw.me
  Ay:=Ay
  Az:=Az
  DR:=DR
  DW:=DW
  ccF_k:=ccF_k
  DX:=DX
  DY:=DY
  ccT_k:=ccT_k
  Ea:=Ea
  Eb:=Eb
  ccN_k:=ccN_k }
 refine⟨λp hp=>?_,W.fnOf "law" "law" (cW pA) (cu pA) (aF pA) .none kV24_ dc24_ pm24_ an24_ cd24_ ct24_,λs v=>.of_eq rfl,λbase _ _ Bb=>?_⟩
 ·simp only[List.mem_cons,List.not_mem_nil,or_false] at hp;rcases hp with rfl
  ·exact⟨tn_bysize,_,tb_bysize⟩
 exact W4 T Bb (nO (st:=pA) l24_ c24_ k24_)
theorem walk{l:W.OpenLaw}{q:Program}{loose:List Str}{XP:(Str->Option Value)->Heap->Prop}{YP:World->Heap->Prop}{d:DefRec}{K:Params->W.Frag}{ak:Addr}(hn:l.most=some 63)(hdf:d.params.defaults=[])
  (hY:∀(w:World)(h:Heap),YP w h->(K w.params).In h/\∀p∈[ak],h.get? p=some (W.tabObj #[]))
  (F:∀(w:World)(mg:xC)(fa:Addr)(h:Heap),(K w.params).In h->h.Ns mainGlobals mg->mg d.name=some (.ref fa)->(∀p∈[ak],(K w.params).lookup p=none/\∃c,W.codeHdIn (K w.params) c p=true) /\ 
   ∃fd:FuncData,(∀(s:Shared)(u:Value),BindsTo s fd ⟨[u],[]⟩ [("_law_script", u)])/\∀base:Heap,(K w.params).In base->base.Ns mainGlobals mg->Bm mg base->gq l.prog w (K w.params) mg base CX0 8 fa fd ["_law_script"] (Bo ak (K w.params))) :
  W.WalkO q loose XP YP l.row.toRowW d [] (λf vs=>PySem.call f vs) :=
 L2.Oc (ts:=[ak]) (n:=63) (k:=8) (x := "_law_script") (CX:=λ_=>CX0) (sp:=λw=>Bo ak (K w.params)) hn (by decide) hdf ⟨rfl,by decide,by decide,rfl⟩ hY F (λ_ _ a ns hl hO hn hS=>⟨a,ns,rfl,hS,hl,hO.1 ak (by simp),(λz=>hn (by simp[z])),λ_=>rfl⟩) λ_ _ _ _ _ z=>z
end K32
namespace PySem.W.Fast
def tw13361434977169344815:=0
def tw3913581865145547719:=0
def tw5924492821211076727:=0
def tw10026233377479021468:=0
def tw10028977830776078235:=0
def tw10033323892241918073:=0
def tw10051834453161708233:=0
def tw10093892789073178372:=0
def tw10106202704153769780:=0
def tw101410294881757014:=0
def tw10172173904760434176:=0
def tw10200587149492648221:=0
def tw10213805793114305534:=0
def tw10262085909893232476:=0
def tw10265580548160638965:=0
def tw10358350514209329036:=0
def tw10372855998764996722:=0
def tw10378896502699030024:=0
def tw10424957535731739225:=0
def tw10432738037043536879:=0
def tw10440007488048828278:=0
def tw10508660275979783690:=0
def tw10510430947455175385:=0
def tw1053126344279360482:=0
def tw10686452584407786961:=0
def tw10761891334509685690:=0
def tw10806004792103796541:=0
def tw10851074463799054033:=0
def tw10854939834047505011:=0
def tw10921425578148324028:=0
def tw10943148590911558558:=0
def tw10948804227007942314:=0
def tw10986827713520335730:=0
def tw11040318877731044634:=0
def tw11127656965507773975:=0
def tw11161529554723891194:=0
def tw11164204069309801189:=0
def tw11217786962454742843:=0
def tw11245199201199478349:=0
def tw11311303505786525603:=0
def tw1140134002385707418:=0
def tw11408599789157567081:=0
def tw11448032952833316354:=0
def tw11491179354186442096:=0
def tw11496699813670334770:=0
def tw11546460462846452008:=0
def tw1155419791839960626:=0
def tw1157217016656540909:=0
def tw11587183130600555093:=0
def tw11613505493505241316:=0
def tw11632213603465792769:=0
def tw11650445953672394592:=0
def tw11669232664084075320:=0
def tw11697390001626387026:=0
def tw11711983572626573702:=0
def tw11713284567281057634:=0
def tw11734936562325215821:=0
def tw11779041854545203791:=0
def tw117826882049725764:=0
def tw11798189425922422421:=0
def tw11835097830745031915:=0
def tw11837403747062210044:=0
def tw11917606281340955311:=0
def tw11940481334034531881:=0
def tw11951046457955545873:=0
def tw11960150164126970180:=0
def tw12088794056530736144:=0
def tw12098950999425506375:=0
def tw12130890392403411684:=0
def tw1215871897732738843:=0
def tw1216411581444321954:=0
def tw12165381350755071458:=0
def tw12184938100000583294:=0
def tw12208507503692544973:=0
def tw12231728946861940937:=0
def tw1225064771517336594:=0
def tw12300936283949585094:=0
def tw12305566333124259998:=0
def tw12387190484208932771:=0
def tw12403471066965306436:=0
def tw1245847302963410354:=0
def tw12478522356918401568:=0
def tw12489937553559362611:=0
def tw12549768637074711911:=0
def tw12550004710679271546:=0
def tw12557259688225332041:=0
def tw12562324837021427208:=0
def tw12586505836823196391:=0
def tw12621444608841475533:=0
def tw1264463956096042035:=0
def tw12746213492540827708:=0
def tw12786100821055662435:=0
def tw12794551600277921803:=0
def tw12819212719020606178:=0
def tw12821474712553311320:=0
def tw12889320890193676856:=0
def tw12906595287744528599:=0
def tw12953080943482762576:=0
def tw13028259599058809913:=0
def tw1304683525880377842:=0
def tw13118079582312524558:=0
def tw13159782709273122044:=0
def tw1324885207894410415:=0
def tw13316565003338201403:=0
def tw13404509929957612891:=0
def tw13445827515927479976:=0
def tw13473101513244540980:=0
def tw13497028967164396983:=0
def tw1354675788130488598:=0
def tw13605349299531330436:=0
def tw13622871061276746755:=0
def tw13626867271764841717:=0
def tw13634140260760473635:=0
def tw13637716187160050369:=0
def tw13645407538442796493:=0
def tw13657259823262030527:=0
def tw13709354327212459023:=0
def tw13717719026731725492:=0
def tw13752983357674391568:=0
def tw13766968221069117170:=0
def tw13796110129910546621:=0
def tw13814060147979145868:=0
def tw1381538413455995987:=0
def tw13887139153402414616:=0
def tw13912747625606588719:=0
def tw13944632993688737177:=0
def tw13963377335749564213:=0
def tw13964210869150749504:=0
def tw13966338774987656376:=0
def tw14012117330201857765:=0
def tw14062554248674960940:=0
def tw14085370253520715323:=0
def tw14092382362296578606:=0
def tw1410347896170288361:=0
def tw14113197451992693939:=0
def tw14114519207407772739:=0
def tw14114966320229290862:=0
def tw1421929525806457074:=0
def tw14232624996207726457:=0
def tw14235098555493702162:=0
def tw14260101785946657441:=0
def tw14273813639519307077:=0
def tw14281783936008563643:=0
def tw14292944124867901064:=0
def tw14326613305317366152:=0
def tw14350172481318405804:=0
def tw14357846437557185699:=0
def tw14377485996112493868:=0
def tw14379162615941540407:=0
def tw14416252340657027867:=0
def tw14468336106083915263:=0
def tw14520509293207377764:=0
def tw14541993921692542615:=0
def tw1458661803983704596:=0
def tw14607626069747913325:=0
def tw14607918249073737988:=0
def tw14656848022778357715:=0
def tw14665834667760332179:=0
def tw14691305386504203939:=0
def tw14745873969616661930:=0
def tw14837170956648146466:=0
def tw14840703095642369610:=0
def tw14914566799987992128:=0
def tw14921903324718317007:=0
def tw14938608997848531017:=0
def tw14941294989544063075:=0
def tw1495789915151487411:=0
def tw14959543300467570658:=0
def tw14991053199256498761:=0
def tw15025250621278617400:=0
def tw15130602218195922724:=0
def tw15153646170140081792:=0
def tw15175779808233115564:=0
def tw15223449783001695015:=0
def tw15226154383743310205:=0
def tw15229754766480752054:=0
def tw15233185577025807664:=0
def tw15241881788999793996:=0
def tw15265519549176200737:=0
def tw1532673376198785234:=0
def tw15345382488704754831:=0
def tw1534761119741846017:=0
def tw15352631282228685133:=0
def tw1535473181262363811:=0
def tw15409268803205098524:=0
def tw15413751514918398986:=0
def tw15470164452466338996:=0
def tw15470750967118244620:=0
def tw15479511638652588189:=0
def tw15523319377075079169:=0
def tw15529209252253603313:=0
def tw15535998347578593461:=0
def tw1558244250664878571:=0
def tw15626010801236696113:=0
def tw15667996842678018603:=0
def tw15673061370383003519:=0
def tw15676034158331398425:=0
def tw15706866722175249093:=0
def tw1572555745612922714:=0
def tw15727889334028986094:=0
def tw15730481612392440067:=0
def tw15767881626170414996:=0
def tw15790116218464877489:=0
def tw15792160482924362494:=0
def tw15815281112982049895:=0
def tw15818331484386057374:=0
def tw15848117895162933438:=0
def tw15886867354943611856:=0
def tw15924453571520479031:=0
def tw15931779169333938121:=0
def tw16032940430467033567:=0
def tw16053128554512979784:=0
def tw16082767545233530739:=0
def tw16089858780036705917:=0
def tw16095822140359540464:=0
def tw16117727734858670815:=0
def tw16178587556206596230:=0
def tw16183495106583411664:=0
def tw16212564376970359307:=0
def tw16251337383471911062:=0
def tw16281081880183167058:=0
def tw16281287706387732876:=0
def tw16392402792317818089:=0
def tw16413592352387790435:=0
def tw16427710329878359162:=0
def tw16442606501611149033:=0
def tw16491100471284674999:=0
def tw16558547025762537038:=0
def tw16567172768535106143:=0
def tw16625021564036547170:=0
def tw16664792692289834429:=0
def tw16664852946664749877:=0
def tw16687381958632927238:=0
def tw16695683416684273075:=0
def tw16710687289296197771:=0
def tw16749836143949881498:=0
def tw16775140599919384690:=0
def tw16813382674863171977:=0
def tw16890386227773804463:=0
def tw16906057197105741838:=0
def tw1697641741674227023:=0
def tw16998464013818384068:=0
def tw17007785112472268989:=0
def tw17031212787434466326:=0
def tw17082230493047340110:=0
def tw17086555857262624026:=0
def tw17116751941747987809:=0
def tw17147507320491249768:=0
def tw17169497745107961879:=0
def tw17169519117692826837:=0
def tw17172421530295468551:=0
def tw17225147133228737554:=0
def tw17227215435561970275:=0
def tw17229091942021672639:=0
def tw17247032741170498079:=0
def tw17249609130246567467:=0
def tw17347457223774367615:=0
def tw17350539319255818338:=0
def tw17354207827236535720:=0
def tw17355600783447567117:=0
def tw17367401313288809530:=0
def tw17398906277403101733:=0
def tw17400183818473612773:=0
def tw17456171401932259083:=0
def tw17463077064404108520:=0
def tw1746853615088506474:=0
def tw17495084571259178977:=0
def tw17507699074963910650:=0
def tw1756607476451182847:=0
def tw17577078263979338140:=0
def tw17592653271478798460:=0
def tw17634936781395915612:=0
def tw17645482054156401893:=0
def tw17728716879267146003:=0
def tw17737925288174271170:=0
def tw1779549116472145713:=0
def tw17967705282178945682:=0
def tw18004825175122593082:=0
def tw18005366767033497183:=0
def tw18019494155797500440:=0
def tw18019800671659056571:=0
def tw18020271320494613562:=0
def tw18025033091887651500:=0
def tw18038878870333355674:=0
def tw18052731415337492318:=0
def tw18072659969616479023:=0
def tw18089301132950040477:=0
def tw18091326695913299820:=0
def tw18098466915572918863:=0
def tw18131474249062424913:=0
def tw18145845661365940934:=0
def tw18218685528143719485:=0
def tw18240598653019586914:=0
def tw18243713453833472899:=0
def tw18252641678395864301:=0
def tw18265366244894141735:=0
def tw18266015249932111635:=0
def tw1826674697063820356:=0
def tw18290273822780543022:=0
def tw18292951891851218330:=0
def tw18309171135039249354:=0
def tw18317066347146612715:=0
def tw18345931600307447705:=0
def tw18379035850822198867:=0
def tw1878509228686882265:=0
def tw190279229340855350:=0
def tw1926249165302696090:=0
def tw1926885677977563487:=0
def tw1929733361906996788:=0
def tw1946177236106362036:=0
def tw1961044858732951766:=0
def tw1964694019310053821:=0
def tw1971595590854892714:=0
def tw2082587647621865828:=0
def tw209553191927489205:=0
def tw2146638220684481451:=0
def tw2184410191693016177:=0
def tw2188022087534016461:=0
def tw2202628765627287135:=0
def tw2238974797270447848:=0
def tw2247788307400189592:=0
def tw2254922162616812619:=0
def tw2274363100949235718:=0
def tw2305577309976614766:=0
def tw237824631238505805:=0
def tw2384912890851702179:=0
def tw240259832878459636:=0
def tw2463391081441092:=0
def tw2469893143177549893:=0
def tw2570627235879404731:=0
def tw258042696049269102:=0
def tw2626397868293855451:=0
def tw2680109866574313419:=0
def tw2680470288598412846:=0
def tw2710389915395118216:=0
def tw2713779936391073517:=0
def tw27169959861948074:=0
def tw2812690293662904822:=0
def tw2832953332986152051:=0
def tw2836012478932784571:=0
def tw2932498818867733522:=0
def tw2938413537309125376:=0
def tw2985763835019398943:=0
def tw2996149201117887852:=0
def tw3012498212080683319:=0
def tw3022882803836128522:=0
def tw3036420068987450389:=0
def tw3038286754180613113:=0
def tw3046730976572435273:=0
def tw3074871290589745559:=0
def tw3105904308465594262:=0
def tw3118591615746235718:=0
def tw3181808526666463108:=0
def tw3187403124471031520:=0
def tw3216442752307904445:=0
def tw3234126510782534589:=0
def tw3311922039346010788:=0
def tw3318713267455341134:=0
def tw335994730386823397:=0
def tw33665513074425535:=0
def tw3367467662967429071:=0
def tw3383153229706521183:=0
def tw3385934622121010691:=0
def tw3427841474515413916:=0
def tw348768123744666724:=0
def tw3508558427523857591:=0
def tw3622036130505632284:=0
def tw363149090487636772:=0
def tw3635169653620020239:=0
def tw3638198499765147498:=0
def tw364206296250926767:=0
def tw3715285317929493652:=0
def tw3717483016968696463:=0
def tw3720927860894390515:=0
def tw3727485301451159090:=0
def tw3744879984704710146:=0
def tw375567495038011526:=0
def tw3774281471490093423:=0
def tw3778699692009622854:=0
def tw3791000619533836479:=0
def tw3802659293962924658:=0
def tw3828287175575515080:=0
def tw3839459403832765138:=0
def tw3859889955389965809:=0
def tw3872226527886709352:=0
def tw3942150398317282344:=0
def tw3944701645368596890:=0
def tw3956465118034483063:=0
def tw3990855008684578792:=0
def tw402380785587459758:=0
def tw4024234301090049717:=0
def tw4052228094304187945:=0
def tw4057771988210699761:=0
def tw4086767460515242396:=0
def tw4106244584824203555:=0
def tw4112117345125093670:=0
def tw4120765092909146859:=0
def tw4123212462942307229:=0
def tw4130265227649703805:=0
def tw4140990979886236328:=0
def tw4191450189000545609:=0
def tw4244221474030840567:=0
def tw4258134616067632628:=0
def tw4259546556995592154:=0
def tw4267675212443299779:=0
def tw4277159473976855655:=0
def tw4351729730728727213:=0
def tw4378816334693707897:=0
def tw4382331383365945433:=0
def tw4397506062021349361:=0
def tw4450502516167211439:=0
def tw4496737905204037895:=0
def tw4517297334599778239:=0
def tw4532111195806587873:=0
def tw458447740910111107:=0
def tw4594298772916226420:=0
def tw4628283465066857846:=0
def tw468084295688461619:=0
def tw472222819050916260:=0
def tw4725537607735006457:=0
def tw4734205039257738832:=0
def tw4752897618800922700:=0
def tw4792455146413259540:=0
def tw4798956772942236885:=0
def tw4969124681720959643:=0
def tw4998973773324976408:=0
def tw5001894936447694094:=0
def tw5012328708806924322:=0
def tw5021217423909658848:=0
def tw5061293126734843227:=0
def tw5088510915069930959:=0
def tw5094335628210418697:=0
def tw5098177104823967213:=0
def tw5113187589666921390:=0
def tw5149933211370371714:=0
def tw5156052687578614825:=0
def tw5206722320325766272:=0
def tw5249425413488982338:=0
def tw5292046567047575578:=0
def tw5298362075084770492:=0
def tw5330258336476713337:=0
def tw5430359538228098381:=0
def tw5441378543978509817:=0
def tw5520461497517314676:=0
def tw5524972698809973905:=0
def tw5545195120661951920:=0
def tw5546070431775135952:=0
def tw5589979747741539302:=0
def tw5609986093538198535:=0
def tw5611866760959858888:=0
def tw5620139575466269565:=0
def tw5639988279663748281:=0
def tw5640674837250110575:=0
def tw5652668106882899640:=0
def tw5733918137681249163:=0
def tw5735127800449229839:=0
def tw5922272601460374044:=0
def tw5949485043887938367:=0
def tw5982689515359247867:=0
def tw6035243777496140590:=0
def tw6046245518270449485:=0
def tw6079660261811469717:=0
def tw6115047503404464645:=0
def tw612210302314011258:=0
def tw6133564117461630958:=0
def tw6141784554957199096:=0
def tw616703739665613720:=0
def tw6186532705833431834:=0
def tw6192170120247920439:=0
def tw6225001345499767866:=0
def tw6232161812737160734:=0
def tw6240169503725587816:=0
def tw6267473595991720472:=0
def tw6310120790514912985:=0
def tw6339669371084866936:=0
def tw6369291702419039468:=0
def tw6371217990769052468:=0
def tw6381653255222863692:=0
def tw6386576799020512968:=0
def tw6431504362481964941:=0
def tw6449390229858627630:=0
def tw6452422494004175610:=0
def tw6459408284624435698:=0
def tw6462008151747602805:=0
def tw646535671900100359:=0
def tw6528975898402729379:=0
def tw6539103011123425426:=0
def tw6561381705449231599:=0
def tw6586447164458489617:=0
def tw6597538046122404388:=0
def tw6661125707191035658:=0
def tw6704143508099844791:=0
def tw6737147913825161459:=0
def tw6759624131121028362:=0
def tw678627782190482749:=0
def tw6791018726892530193:=0
def tw6792315623395868953:=0
def tw6858800392705401745:=0
def tw6863761702967759409:=0
def tw6872133173133476501:=0
def tw6879006289714261075:=0
def tw690226490810254580:=0
def tw6903160991238032294:=0
def tw6916614030591790410:=0
def tw6919214312944369722:=0
def tw6941494582000119202:=0
def tw704020488615643755:=0
def tw7051696064043475708:=0
def tw7051885234630176692:=0
def tw7089875778915660942:=0
def tw7107288989429998973:=0
def tw7184787556893503785:=0
def tw7211583669066285895:=0
def tw7215060248340666811:=0
def tw7223441974667743150:=0
def tw724589440625267828:=0
def tw7275800237467772310:=0
def tw7339300222306263458:=0
def tw7348479538857280965:=0
def tw7365742970918162582:=0
def tw737277640537779783:=0
def tw7442467035441377077:=0
def tw7478143413896193730:=0
def tw758282887880202843:=0
def tw7595616381539239573:=0
def tw7602672815227741173:=0
def tw7605402247819704241:=0
def tw7606437952598282180:=0
def tw761432904382974402:=0
def tw762783171066401968:=0
def tw767079916726264962:=0
def tw7720680240707808065:=0
def tw7737274323855620666:=0
def tw7750521217562527915:=0
def tw7763834315939579508:=0
def tw7775888674908414857:=0
def tw7801424498001283930:=0
def tw7804476346982502748:=0
def tw7829782836673259802:=0
def tw7837049901854225520:=0
def tw7839830083794659560:=0
def tw7848901167572183705:=0
def tw7865579788295681610:=0
def tw7879359243347495854:=0
def tw7918757471966418656:=0
def tw7970725731402589871:=0
def tw797379711054315166:=0
def tw7997966520812600746:=0
def tw8010700161330432363:=0
def tw8058362482506950735:=0
def tw8061471215315611597:=0
def tw8063397879058385732:=0
def tw8080272091047834588:=0
def tw809769716653935040:=0
def tw8102988742540209972:=0
def tw8138594290102239384:=0
def tw8193745154290064014:=0
def tw8206474619567768314:=0
def tw8241944553417025161:=0
def tw8250746245785061751:=0
def tw8268470654264776495:=0
def tw8289946114866485287:=0
def tw8373823610809984117:=0
def tw8438230579666866484:=0
def tw8471341834000163771:=0
def tw8476450867715587479:=0
def tw8480280137786317530:=0
def tw8533082162308043841:=0
def tw8628081637645266251:=0
def tw8643920294115163963:=0
def tw8645270177224858516:=0
def tw8665996085208521103:=0
def tw8717704522766324687:=0
def tw8723355856259965654:=0
def tw8848316929834774530:=0
def tw8887845699597219747:=0
def tw8897405688526041864:=0
def tw8948430381556312117:=0
def tw9048457828587045585:=0
def tw9060258243970114932:=0
def tw9066625512458673465:=0
def tw9073985813986051742:=0
def tw907484895956877081:=0
def tw921259680940784449:=0
def tw9213860855098648887:=0
def tw9244164755084528502:=0
def tw942866814603769638:=0
def tw9462867604317980117:=0
def tw9471468250291479005:=0
def tw9489321500101978039:=0
def tw9530224378388721331:=0
def tw9546542403152421439:=0
def tw9596366931876689118:=0
def tw9665658196343943379:=0
def tw9676481953854165633:=0
def tw9733794372325442887:=0
def tw9741374706480301867:=0
def tw9778028553191889133:=0
def tw984742962088622638:=0
def tw9852998164732976986:=0
def tw9888186998364314153:=0
def tw9900331541676141827:=0
def tw9940390272508261151:=0
def tw9941075598693292611:=0
def tw9948489019674464016:=0
def tw1062715882530225390:=0
def tw1185182193464745710:=0
def tw12762958464866346586:=0
def tw14495754706713984716:=0
def tw14986403754332336595:=0
def tw17769478381346007962:=0
def tw2398392112519900745:=0
def tw3203671395641304285:=0
def tw4275676198905081428:=0
def tw4650281649326405958:=0
def tw6072790684526781276:=0
def tw7012383359324602205:=0
def tw7369319881761460669:=0
def tw9148422738634296453:=0
def tw12375231522035755287:=0
def tw13473975584229531773:=0
def tw14110419543523873454:=0
def tw14541474825747108538:=0
def tw15184718100881698850:=0
def tw16201441606939236901:=0
def tw17112061064266551499:=0
def tw17777993431149752005:=0
def tw6017016766261056626:=0
def tw6305026304217836688:=0
def tw7093215455608852930:=0
def tw7895282866606687715:=0
def tw8092855969069387830:=0
def tw918380545209096269:=0
def tw9247774523422921925:=0
def tw1391550010323962538:=0
def tw4919951384670513441:=0
def tw13955797532795355489:=0
def tw7644052130802317174:=0
end PySem.W.Fast
open PySem PySem.W PyProof.Rows
set_option maxRecDepth 100000 in
set_option maxHeartbeats 0 in
theorem PySem.Challenge.cw_slideroom_k32_looks_told_holds : PySem.Challenge.rw_slideroom_k32_looks_told.Holds := by
 w_on;o_law;k_head;(case hw=>w_witness2)
 k_fill
 refine K32.walk (l:=PySem.Challenge.rw_slideroom_k32_looks_told) rfl rfl (fun w h Y=>⟨PySem.W.km_in_of Y,PySem.W.km_tabs_of Y⟩) ?F
 case F =>
  intro w mg fa h KX G hmg
  refine' K32.all_mk KX G hmg ?_ ?_ ?_ ?_ ?_ ?_ ?_ ?_ ?_ ?_ ?_ ?_ ?_ ?_ ?_ ?_ ?_ ?_ ?_ ?_ ?_ ?_ ?_ ?_ ?_ ?_ ?_ ?_ ?_ ?_ ?tb_bysize ?tn_bysize ?_ ?_ ?_ ?_ ?_ ?_ ?_ ?_ ?_ ?_ ?_ ?_ ?_ ?_ ?_ ?_ ?_ ?_ ?_ ?_ ?_ ?_ ?_ ?_ ?_ ?_ ?_ ?_ ?_ ?_ ?_ ?_ ?_ ?_ ?_ ?_ ?_ ?_ ?_ ?_ ?_ ?_ ?_ ?_ ?_ ?_ ?_ ?_ ?_ ?_ ?_ ?_ ?_ ?_ ?_ ?_ ?_ ?_ ?_ ?_ ?_ ?_ ?_ ?_ ?_ ?_ ?_ ?_ ?_ ?_ ?_ ?_ ?_ ?_ ?_ ?_ ?_ ?_ ?_ ?_ ?_ ?_ ?_ ?_ ?_ ?_ ?_ ?_ ?_ ?_ ?_ ?ccF_k ?_ ?_ ?ccT_k ?_ ?_ ?ccN_k
  all_goals try first
   | k_is
   | exact ⟨_,_,_,_,_,_,_,_,_,_,by k_is,by k_is,by k_is,by k_is⟩
   | exact ⟨_,_,_,_,_,_,_,_,_,_,by k_is,by k_is,by k_is,by k_is,by k_is⟩
   | exact ⟨_,_,_,_,_,_,_,_,_,_,by k_is,by k_is,by k_is,by k_is,by k_is,by k_is⟩
   | exact ⟨by k_is,by k_is,by k_is,by k_is,by k_is,by k_is⟩
  (case ccF_k=>kit_is)
  (case ccT_k=>kit_is)
  (case ccN_k=>kit_is)
  (case tb_bysize=>kernel_rfl)
  (case tn_bysize=>kernel_rfl)

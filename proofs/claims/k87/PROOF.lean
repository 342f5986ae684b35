import PyProof.Rows.All
import Wide.All
import OpenK.AllK
import Wide.FinOn
import Lean
import PyProof.EqAt
import PyProof.EqKinds
import PyProof.TupleCall
import PyProof.NeKinds
import PyProof.ExcInit
import PyProof.StationsW
import PyProof.ExcBaseAll.ValueError
import PyProof.ExcArgs
import KE.KIsAll
import PyProof.ReprRoads
import PyProof.CallFns
import PyProof.ExcClass3
import PyProof.StrBlock2
import PyProof.FitsInt
import PyProof.StrLawsRepr
import KE.KTryMore
import PyProof.RulesAs
import KE.KIntText
import PyProof.StrLawsChain
import PyProof.StrCalls2
import PyProof.ZipIter
import PyProof.Conv_bool
import PyProof.CallStr
import PyProof.TupleIter
import KE.KEqDict
import PyProof.AutoListH
import PyProof.FactsAll.range_2
import PySem.Challenge.RW_slideroom_k87_tidied_walked
-- CHANGE: your row's module here, as the last of these rows
set_option Elab.async false
set_option linter.all false
set_option maxRecDepth 100000
namespace L2
open PySem PySem.Spec PyProof.Rows
abbrev Key := Sum Int Str
def keyIs : Key → Value → Bool
  | .inl k, v => Value.isInt k v
  | .inr x, v => Value.isStrOf x v
def keyH (w : World) : Key → Int
  | .inl k => hashInt k
  | .inr x => hashStr w x
theorem keyIs_shape : ∀ {k : Key} {v : Value}, keyIs k v = true → (∃ i t, k = Sum.inl i ∧ v = Value.int i t) ∨ (∃ x t, k = Sum.inr x ∧ v = Value.str x t)
  | .inl i, v, h => by
    obtain ⟨t, e⟩ := Value.isInt_shape (k := i) (v := v) h
    exact .inl ⟨i, t, rfl, e⟩
  | .inr x, v, h => by
    obtain ⟨t, e⟩ := Value.isStrOf_shape (x := x) (v := v) h
    exact .inr ⟨x, t, rfl, e⟩
theorem key_ll (a b : Int) : decide ((Sum.inl a : Key) = Sum.inl b) = (a == b) := by
  by_cases e : a = b
  · subst e; simp
  · have h : ¬ (Sum.inl a : Key) = Sum.inl b := fun q => e (Sum.inl.inj q)
    rw [decide_eq_false h]
    exact (beq_eq_false_iff_ne.mpr e).symm
theorem key_rr (a b : Str) : decide ((Sum.inr a : Key) = Sum.inr b) = decide (a = b) := by
  by_cases e : a = b
  · subst e; simp
  · have h : ¬ (Sum.inr a : Key) = Sum.inr b := fun q => e (Sum.inr.inj q)
    rw [decide_eq_false h, decide_eq_false e]
theorem key_lr (a : Int) (b : Str) : decide ((Sum.inl a : Key) = Sum.inr b) = false := decide_eq_false (fun q => nomatch q)
theorem key_rl (a : Str) (b : Int) : decide ((Sum.inr a : Key) = Sum.inl b) = false := decide_eq_false (fun q => nomatch q)
def mixKind (prog : Program) (w : World) : PySem.KeyKind prog w Key where
  is := keyIs
  hash := keyH w
  inj := fun v a b ha hb => by
    rcases keyIs_shape ha with ⟨i, t, rfl, rfl⟩ | ⟨x, t, rfl, rfl⟩
    · rcases keyIs_shape hb with ⟨j, u, rfl, e⟩ | ⟨y, u, rfl, e⟩
      · injection e with e1 _; rw [e1]
      · exact nomatch e
    · rcases keyIs_shape hb with ⟨j, u, rfl, e⟩ | ⟨y, u, rfl, e⟩
      · exact nomatch e
      · injection e with e1 _; rw [e1]
  byValue := fun k v h => by
    rcases keyIs_shape h with ⟨i, t, rfl, rfl⟩ | ⟨x, t, rfl, rfl⟩ <;> rfl
  pyHash := fun hv h => by
    rcases keyIs_shape hv with ⟨i, t, rfl, rfl⟩ | ⟨x, t, rfl, rfl⟩
    · exact wpAny_pyHash_int h
    · exact wpAny_pyHash_str h
  eqBool := fun hu hv h => by
    rcases keyIs_shape hu with ⟨i, t, rfl, rfl⟩ | ⟨x, t, rfl, rfl⟩
    · rcases keyIs_shape hv with ⟨j, u, rfl, rfl⟩ | ⟨y, u, rfl, rfl⟩
      · rw [key_ll] at h; exact wpAny_eqBool_int h
      · rw [key_lr] at h; exact SeqAt.EqAt.int_str i t y u _ _ _ _ h
    · rcases keyIs_shape hv with ⟨j, u, rfl, rfl⟩ | ⟨y, u, rfl, rfl⟩
      · rw [key_rl] at h; exact SeqAt.EqAt.str_int x t j u _ _ _ _ h
      · rw [key_rr] at h; exact wpAny_eqBool_str h
  «strs» := fun k x t v h => by
    rcases keyIs_shape h with ⟨i, u, rfl, e⟩ | ⟨y, u, rfl, e⟩
    · exact nomatch e
    · injection e with e1 _
      subst e1
      cases v <;> rfl
inductive V where
  | non | bl (b : Bool) | int (i : Int) | str (x : Str) | byt (b : Array UInt8) | flt (b : UInt64) | ref (a : Addr) | ty (n : String)
  deriving DecidableEq
def RelV : V → Value → Prop
  | .non, u => u = Value.none
  | .bl b, u => u = Value.bool b
  | .int i, u => ∃ t, u = Value.int i t
  | .str x, u => ∃ t, u = Value.str x t
  | .byt b, u => ∃ t, u = Value.bytes b t
  | .flt b, u => ∃ t, u = Value.float b t
  | .ref a, u => u = Value.ref a
  | .ty n, u => u = Value.type n
abbrev Vals : List V → List Value → Prop := Paired RelV
theorem Vals.length {xs : List V} {us : List Value} (r : Vals xs us) : xs.length = us.length := Paired.length r
theorem Vals.get : ∀ {xs : List V} {us : List Value} {i : Nat} {x : V}, Vals xs us → xs[i]? = some x → ∃ u, us[i]? = some u ∧ RelV x u
  | _, _, _, _, .nil, e => by simp at e
  | _, _, 0, _, .cons r _, e => by simp at e; subst e; exact ⟨_, rfl, r⟩
  | _, _, i + 1, x, .cons _ t, e => by
    obtain ⟨u, h1, h2⟩ := Vals.get (i := i) (x := x) t (by simpa using e)
    exact ⟨u, by simpa using h1, h2⟩
theorem Vals.set {x : V} {u : Value} (r : RelV x u) : ∀ {xs : List V} {us : List Value} (i : Nat), Vals xs us → Vals (xs.set i x) (us.set i u)
  | _, _, _, .nil => .nil
  | _, _, 0, .cons _ t => .cons r t
  | _, _, i + 1, .cons q t => .cons q (Vals.set r i t)
theorem Vals.append : ∀ {xs ys : List V} {us ws : List Value}, Vals xs us → Vals ys ws → Vals (xs ++ ys) (us ++ ws)
  | _, _, _, _, .nil, s => s
  | _, _, _, _, .cons r t, s => .cons r (Vals.append t s)
theorem Vals.take : ∀ {xs : List V} {us : List Value} (n : Nat), Vals xs us → Vals (xs.take n) (us.take n)
  | _, _, 0, _ => .nil
  | _, _, _ + 1, .nil => .nil
  | _, _, n + 1, .cons r t => .cons r (Vals.take n t)
theorem Vals.drop : ∀ {xs : List V} {us : List Value} (n : Nat), Vals xs us → Vals (xs.drop n) (us.drop n)
  | _, _, 0, r => r
  | _, _, _ + 1, .nil => .nil
  | _, _, n + 1, .cons _ t => Vals.drop n t
def RelO : Option V → Option Value → Prop
  | some v, some u => RelV v u
  | none, none => True
  | _, _ => False
def KV {κ : Type} : List (κ × V) → List (κ × Value) → Prop := Paired fun (p : κ × V) (q : κ × Value) => p.1 = q.1 ∧ RelV p.2 q.2
def kV : Key → V
  | .inl i => .int i
  | .inr x => .str x
inductive HO where
  /-- a list -/
  | lst (xs : List V)
  /-- a tuple (never changes) -/
  | tup (xs : List V)
  /-- a dict whose keys are ints and texts; one whose keys are tuples of ints and texts (the empty one is both) -/
  | dK (kvs : List (Key × V)) | dT (kvs : List (List Key × V))
  /-- a set of ints: its members, its size -/
  | set (S : Int → Bool) (n : Nat)
  /-- an instance of the class at C, its dict at dx, its attributes -/
  | ins (C dx : Addr) (fs : List (Str × V))
  /-- the dict of the instance at x -/
  | own (x : Addr)
  /-- the dict of an exception -/
  | xd (fs : List (Str × V))
  /-- a bound method, f of x -/
  | met (f x : Addr)
  /-- a range object lo, lo + 1, .. below hi -/
  | rng (lo hi : Int)
  /-- a thing that is known to the object (the script; a dict while a loop walks it): read, never written while it is so -/
  | frz (o : Obj) (u : HO)
  /-- a code object's table -/
  | tbl (ps : Array Value)
  /-- any other thing, by what is true of its one object (a def of one's own: SetO a S n := HO.ext fun h => ..) -/
  | ext (φ : Heap → Prop)
abbrev Hp := Addr → Option HO
def upd (H : Hp) (a : Addr) (o : HO) : Hp := fun b => if b = a then some o else H b
theorem upd_same {H : Hp} {a : Addr} {o : HO} : upd H a o a = some o := by unfold upd; rw [if_pos rfl]
theorem upd_ne {H : Hp} {a b : Addr} {o : HO} (h : b ≠ a) : upd H a o b = H b := by unfold upd; rw [if_neg h]
theorem upd_upd {H : Hp} {a : Addr} {o u : HO} : upd (upd H a o) a u = upd H a u := by
  funext b; unfold upd; split <;> rfl
theorem ne_of_none {H : Hp} {a b : Addr} {o : HO} (h : H a = some o) (h' : H b = none) : a ≠ b := by
  intro e; subst e; rw [h] at h'; cases h'
section
variable (P : Program) (w : World)
def ObjOk (H : Hp) (h : Heap) (a : Addr) : HO → Prop
  | .lst xs => xs.length ≤ sizeLine ∧ ∃ (its : List Value) (n : Nat), Vals xs its ∧ h.get? a = some { cls := .type "list", data := .seq its.toArray n }
  | .tup xs => xs.length ≤ sizeLine ∧ ∃ its : List Value, Vals xs its ∧ IsTup h a its.toArray
  | .dK kvs => kvs.length ≤ sizeLine ∧ (a == sysModules) = false ∧ ∃ vs, KV kvs vs ∧ h.DictOf (mixKind P w) a vs
  | .dT kvs => kvs.length ≤ sizeLine ∧ (a == sysModules) = false ∧ ∃ xs : List (List Key × Addr × Value),
      Paired (fun (p : List Key × V) (q : List Key × Addr × Value) => p.1 = q.1 ∧ H q.2.1 = some (.tup (p.1.map kV)) ∧ RelV p.2 q.2.2) kvs xs ∧
      ∃ o es ep, h.get? a = some o ∧ o.ExactDict ∧ o.data = .dict es ep ∧ es.toList = xs.map (entryOfKey (tupleKind (mixKind P w))) ∧ (xs.map (·.1)).Nodup
  | .set S n => h.SetOf (intKind P w) a S n
  | .ins C dx fs => H dx = some (.own a) ∧ fs.length ≤ 1000 ∧ dx ≠ a ∧ h.get? a = some (PySem.W.instObj C dx) ∧
      ∃ mA, h.Ns1 dx mA ∧ (∀ f, RelO (fs.lookup f) (mA f)) ∧ PySem.Within mA (fs.map (·.1))
  | .own _ => ∃ o, h.get? a = some o
  | .xd fs => ∃ mA, h.Ns1 a mA ∧ ∀ f, RelO (fs.lookup f) (mA f)
  | .rng lo hi => ∃ t u v, h.get? a = some { cls := .type "range", data := .fields #[.int lo t, .int hi u, .int 1 v] }
  | .frz o u => h.get? a = some o ∧ ObjOk H h a u
  | .tbl ps => h.get? a = some { cls := .none, data := .fields ps }
  | .met f x => h.get? a = some (PySem.W.methodObj (.ref f) (.ref x))
  | .ext φ => φ h ∧ (∃ o, h.get? a = some o) ∧ ∀ h1 h2 : Heap, φ h1 → (∀ o, h1.get? a = some o → h2.get? a = some o) → φ h2
def HOk (H : Hp) (h : Heap) : Prop := ∀ a o, H a = some o → ObjOk P w H h a o
end
section
variable {P : Program} {w : World} {H H' : Hp} {h h' : Heap} {a : Addr} {o : HO}
theorem ObjOk.lt (x : ObjOk P w H h a o) : a < h.objs.size := by
  cases o with
  | lst xs => obtain ⟨_, _, _, _, e⟩ := x; exact Heap.lt_size e
  | tup xs => obtain ⟨_, _, _, p⟩ := x; exact p.lt
  | dK kvs => obtain ⟨_, _, _, _, o, _, _, e, _⟩ := x; exact Heap.lt_size e
  | dT kvs => obtain ⟨_, _, _, _, o, _, _, e, _⟩ := x; exact Heap.lt_size e
  | set S n => obtain ⟨o, _, _, _, e, _⟩ := x; exact Heap.lt_size e
  | ins C dx fs => obtain ⟨_, _, _, e, _⟩ := x; exact Heap.lt_size e
  | own y => obtain ⟨_, e⟩ := x; exact Heap.lt_size e
  | xd fs => obtain ⟨_, ⟨_, _, _, e, _⟩, _⟩ := x; exact Heap.lt_size e
  | rng lo hi => obtain ⟨_, _, _, e⟩ := x; exact Heap.lt_size e
  | frz ob u => obtain ⟨e, _⟩ := x; exact Heap.lt_size e
  | tbl ps => exact Heap.lt_size (show h.get? a = some _ from x)
  | met f y => exact Heap.lt_size (show h.get? a = some _ from x)
  | ext φ => obtain ⟨_, ⟨_, e⟩, _⟩ := x; exact Heap.lt_size e
theorem Paired.mapP {α β : Type} {F G : α → β → Prop} : ∀ {l₁ : List α} {l₂ : List β}, Paired F l₁ l₂ → (∀ a b, F a b → G a b) → Paired G l₁ l₂
  | _, _, .nil, _ => .nil
  | _, _, .cons r t, f => .cons (f _ _ r) (Paired.mapP t f)
theorem ObjOk.stay (x : ObjOk P w H h a o) (k : ∀ b u, (b = a ∨ H b = some (.own a)) → h.get? b = some u → h'.get? b = some u)
    (ho : ∀ b, H b = some (.own a) → H' b = some (.own a)) (ht : ∀ b xs, H b = some (.tup xs) → H' b = some (.tup xs)) : ObjOk P w H' h' a o := by
  induction o with
  | lst xs => obtain ⟨z, its, n, r, e⟩ := x; exact ⟨z, its, n, r, k _ _ (.inl rfl) e⟩
  | tup xs => obtain ⟨z, its, r, ob, e, c⟩ := x; exact ⟨z, its, r, ob, k _ _ (.inl rfl) e, c⟩
  | dK kvs => obtain ⟨z, y, vs, r, ob, es, ep, e, c⟩ := x; exact ⟨z, y, vs, r, ob, es, ep, k _ _ (.inl rfl) e, c⟩
  | dT kvs =>
    obtain ⟨z, y, xs, r, ob, es, ep, e, c⟩ := x
    exact ⟨z, y, xs, Paired.mapP r fun p q z => ⟨z.1, ht _ _ z.2.1, z.2.2⟩, ob, es, ep, k _ _ (.inl rfl) e, c⟩
  | set S n => obtain ⟨ob, es, ep, t, e, c⟩ := x; exact ⟨ob, es, ep, t, k _ _ (.inl rfl) e, c⟩
  | ins C dx fs =>
    obtain ⟨d, z, ne, e, mA, ⟨od, es, ep, e2, c⟩, r⟩ := x
    exact ⟨ho _ d, z, ne, k _ _ (.inl rfl) e, mA, ⟨od, es, ep, k _ _ (.inr d) e2, c⟩, r⟩
  | own y => obtain ⟨ob, e⟩ := x; exact ⟨ob, k _ _ (.inl rfl) e⟩
  | xd fs => obtain ⟨mA, ⟨od, es, ep, e, c⟩, r⟩ := x; exact ⟨mA, ⟨od, es, ep, k _ _ (.inl rfl) e, c⟩, r⟩
  | rng lo hi => obtain ⟨t, u, v, e⟩ := x; exact ⟨t, u, v, k _ _ (.inl rfl) e⟩
  | frz ob u ih => obtain ⟨e, q⟩ := x; exact ⟨k _ _ (.inl rfl) e, ih q⟩
  | tbl ps =>
    have e : h.get? a = some { cls := .none, data := .fields ps } := x
    show h'.get? a = some { cls := .none, data := .fields ps }
    exact k a _ (.inl rfl) e
  | met f y =>
    have e : h.get? a = some (PySem.W.methodObj (.ref f) (.ref y)) := x
    show h'.get? a = some (PySem.W.methodObj (.ref f) (.ref y))
    exact k a _ (.inl rfl) e
  | ext φ => obtain ⟨p, ⟨o, e⟩, st⟩ := x; exact ⟨st _ _ p fun o q => k _ _ (.inl rfl) q, ⟨o, k _ _ (.inl rfl) e⟩, st⟩
theorem HOk.lt (x : HOk P w H h) (e : H a = some o) : a < h.objs.size := (x a o e).lt
theorem HOk.fresh (x : HOk P w H h) (e : h.objs.size ≤ a) : H a = none := by
  cases q : H a with
  | none => rfl
  | some u => exact absurd (Nat.lt_of_lt_of_le (x.lt q) e) (Nat.lt_irrefl _)
theorem HOk.kept (x : HOk P w H h) (k : ∀ b u, h.get? b = some u → h'.get? b = some u) : HOk P w H h' := fun a o e =>
  (x a o e).stay (fun b u _ q => k b u q) (fun _ q => q) fun _ _ q => q
theorem HOk.laid (x : HOk P w H h) (k : ∀ b u, h.get? b = some u → h'.get? b = some u) (hp : h.objs.size ≤ a) (new : ObjOk P w (upd H a o) h' a o) : HOk P w (upd H a o) h' := fun b u e => by
  have hn := x.fresh hp
  by_cases hb : b = a
  · subst hb; rw [upd_same] at e; cases e; exact new
  · rw [upd_ne hb] at e
    exact (x b u e).stay (fun c v _ q => k c v q) (fun c q => by rw [upd_ne (ne_of_none q hn)]; exact q) fun c xs q => by rw [upd_ne (ne_of_none q hn)]; exact q
end
def Rd (H : Hp) (a : Addr) (u : HO) : Prop := H a = some u ∨ ∃ o, H a = some (.frz o u)
theorem Rd.of {H : Hp} {a : Addr} {u : HO} (h : H a = some u) : Rd H a u := .inl h
theorem Rd.ok {P : Program} {w : World} {H : Hp} {h : Heap} {a : Addr} {u : HO} (r : Rd H a u) (x : HOk P w H h) : ObjOk P w H h a u := by
  rcases r with r | ⟨o, r⟩
  · exact x a u r
  · obtain ⟨_, q⟩ := x a _ r
    exact q
def Mut : Option HO → Prop
  | some (.lst _) => True
  | some (.dK _) => True
  | some (.dT _) => True
  | some (.set _ _) => True
  | some (.ins _ _ _) => True
  | some (.ext _) => True
  | _ => False
section
variable {P : Program} {w : World} {H : Hp} {h h' : Heap} {x e : Addr} {o' : HO}
theorem HOk.write (ok : HOk P w H h) (mu : Mut (H x)) (he : e = x ∨ H e = some (.own x)) (k : ∀ b u, b ≠ e → h.get? b = some u → h'.get? b = some u) (heo : ∃ u, h'.get? e = some u)
    (new : ObjOk P w (upd H x o') h' x o') : HOk P w (upd H x o') h' := fun b u q => by
  have nown : ∀ c y, H c = some (.own y) → c ≠ x := fun c y r z => by subst z; rw [r] at mu; exact mu
  have ntup : ∀ c xs, H c = some (.tup xs) → c ≠ x := fun c xs r z => by subst z; rw [r] at mu; exact mu
  by_cases hb : b = x
  · subst hb; rw [upd_same] at q; cases q; exact new
  · rw [upd_ne hb] at q
    by_cases hbe : b = e
    · have q' : H b = some (.own x) := by
        rcases he with z | z
        · exact absurd (hbe.trans z) hb
        · rw [hbe]; exact z
      rw [q] at q'; cases q'
      obtain ⟨v, hv⟩ := heo
      exact ⟨v, by rw [hbe]; exact hv⟩
    · refine (ok b u q).stay (fun c v hc r => k c v ?_ r) (fun c r => by rw [upd_ne (nown c b r)]; exact r) fun c xs r => by rw [upd_ne (ntup c xs r)]; exact r
      rcases hc with rfl | hc
      · exact hbe
      · rintro rfl
        rcases he with z | z
        · exact nown c b hc z
        · rw [hc] at z; cases z; exact hb rfl
end
structure Un (fs ex : List Addr) (H H' : Hp) (h h' : Heap) : Prop where
  keep : ∀ b o, h.get? b = some o → H b = none → b ∉ fs → b ∉ ex → h'.get? b = some o
  slot : ∀ b o, h.get? b = some o → H b = none → b ∈ fs → b ∉ ex → ∃ sl, h'.get? b = some { o with slots := sl }
  free : ∀ b o, h.get? b = some o → H b = none → b ∉ ex → H' b = none
  there : ∀ b o, h.get? b = some o → b ∉ ex → ∃ o', h'.get? b = some o'
  tups : ∀ b xs, H b = some (.tup xs) → H' b = some (.tup xs)
  frzs : ∀ b o u, H b = some (.frz o u) → H' b = some (.frz o u)
  tbls : ∀ b ps, H b = some (.tbl ps) → ∃ more, H' b = some (.tbl (ps ++ more))
section
variable {fs fs' ex ex' : List Addr} {H H1 H2 : Hp} {h h1 h2 h' : Heap} {a x e : Addr} {o : HO}
theorem Un.any (u : Un fs ex H H1 h h1) {b : Addr} {ob : Obj} (q : h.get? b = some ob) (n : H b = none) (hx : b ∉ ex) : ∃ sl, h1.get? b = some { ob with slots := sl } := by
  by_cases hb : b ∈ fs
  · exact u.slot b ob q n hb hx
  · exact ⟨ob.slots, u.keep b ob q n hb hx⟩
theorem Un.trans (a : Un fs ex H H1 h h1) (b : Un fs ex H1 H2 h1 h2) : Un fs ex H H2 h h2 where
  keep := fun c ob q n hc hx => b.keep c ob (a.keep c ob q n hc hx) (a.free c ob q n hx) hc hx
  slot := fun c ob q n hc hx => by
    obtain ⟨sl, e1⟩ := a.slot c ob q n hc hx
    obtain ⟨sl', e2⟩ := b.slot c _ e1 (a.free c ob q n hx) hc hx
    exact ⟨sl', e2⟩
  free := fun c ob q n hx => by
    obtain ⟨o', e1⟩ := a.there c ob q hx
    exact b.free c o' e1 (a.free c ob q n hx) hx
  there := fun c ob q hx => by
    obtain ⟨o', e1⟩ := a.there c ob q hx
    exact b.there c o' e1 hx
  tups := fun c xs q => b.tups c xs (a.tups c xs q)
  frzs := fun c ob xs q => b.frzs c ob xs (a.frzs c ob xs q)
  tbls := fun c ps q => by
    obtain ⟨m1, e1⟩ := a.tbls c ps q
    obtain ⟨m2, e2⟩ := b.tbls c _ e1
    exact ⟨m1 ++ m2, by rw [e2, Array.append_assoc]⟩
theorem Un.kept (k : ∀ b u, h.get? b = some u → h'.get? b = some u) : Un fs ex H H h h' :=
  ⟨fun b ob q _ _ _ => k b ob q, fun b ob q _ _ _ => ⟨ob.slots, k b ob q⟩, fun _ _ _ n _ => n, fun b ob q _ => ⟨ob, k b ob q⟩, fun _ _ q => q, fun _ _ _ q => q, fun _ ps q => ⟨#[], by rw [q]; simp⟩⟩
theorem Un.refl : Un fs ex H H h h := Un.kept fun _ _ q => q
theorem Un.laid (k : ∀ b u, h.get? b = some u → h'.get? b = some u) (hp : h.objs.size ≤ a) (hn : H a = none) : Un fs ex H (upd H a o) h h' where
  keep := fun b u q _ _ _ => k b u q
  slot := fun b u q _ _ _ => ⟨u.slots, k b u q⟩
  free := fun b u q n _ => by rw [upd_ne (Nat.ne_of_lt (Nat.lt_of_lt_of_le (Heap.lt_size q) hp))]; exact n
  there := fun b u q _ => ⟨u, k b u q⟩
  tups := fun b xs q => by rw [upd_ne (ne_of_none q hn)]; exact q
  frzs := fun b u xs q => by rw [upd_ne (ne_of_none q hn)]; exact q
  tbls := fun b ps q => ⟨#[], by rw [upd_ne (ne_of_none q hn), q]; simp⟩
theorem Un.write (mu : Mut (H x)) (he : e = x ∨ H e = some (.own x)) (k : ∀ b u, b ≠ e → h.get? b = some u → h'.get? b = some u) (heo : ∃ u, h'.get? e = some u) : Un fs ex H (upd H x o) h h' := by
  have hx : ∀ b, H b = none → b ≠ x := fun b n z => by subst z; rw [n] at mu; exact mu
  have hb : ∀ b, H b = none → b ≠ e := fun b n z => by
    subst z
    rcases he with r | r
    · exact hx b n r
    · rw [n] at r; cases r
  have hm : ∀ b u, H b = some u → ¬ Mut (some u) → b ≠ x := fun b u q nm z => by subst z; rw [q] at mu; exact nm mu
  refine ⟨fun b u q n _ _ => k b u (hb b n) q, fun b u q n _ _ => ⟨u.slots, k b u (hb b n) q⟩, fun b u q n _ => by rw [upd_ne (hx b n)]; exact n, fun b u q _ => ?_,
    fun b xs q => by rw [upd_ne (hm b _ q fun z => z)]; exact q, fun b u xs q => by rw [upd_ne (hm b _ q fun z => z)]; exact q, fun b ps q => ⟨#[], by rw [upd_ne (hm b _ q fun z => z), q]; simp⟩⟩
  by_cases hbe : b = e
  · subst hbe; exact heo
  · exact ⟨u, k b u hbe q⟩
end
def trk (h : Heap) (H : Hp) : List Addr := (List.range h.objs.size).filter fun a => (H a).isSome
def hidT (h : Heap) (H : Hp) : Heap := PySem.W.hideAll h (trk h H)
theorem hidT_size (h : Heap) (H : Hp) : (hidT h H).objs.size = h.objs.size := PySem.W.hideAll_size _ _
theorem hidT_get {h : Heap} {H : Hp} {b : Addr} {o : Obj} (e : h.get? b = some o) (n : H b = none) : (hidT h H).get? b = some o :=
  PySem.W.hideAll_get _ e fun hm => by
    have q : (H b).isSome = true := (List.mem_filter.mp hm).2
    rw [n] at q; simp at q
theorem of_hidT {h : Heap} {H : Hp} {b : Addr} {o : Obj} (e : (hidT h H).get? b = some o) : h.get? b = some o ∧ H b = none := by
  have e' : h.get? b = some o := PySem.W.of_hideAll (trk h H) e
  refine ⟨e', ?_⟩
  cases q : H b with
  | none => rfl
  | some x =>
    have hm : b ∈ trk h H := List.mem_filter.mpr ⟨List.mem_range.mpr (Heap.lt_size e'), by simp [q]⟩
    have z : (hidT h H).get? b = none := PySem.W.hideAll_none (trk h H) hm
    rw [z] at e; cases e
structure Mod (K : PySem.W.Frag) (mg : Str → Option Value) (base : Heap) : Prop where
  kin : K.In base
  glob : base.Ns mainGlobals mg
  blt : ∃ mb, base.Ns builtinsNs mb ∧ ∀ x : Str, x ≠ "__name__" → mb x = bootBuiltins x
  nolimit : base.NoLimit
/-- the context: a def's body (or a comprehension's block) running. base: fixed through the whole law; s₀, H₀: the entry; outer: the frames whose slots others may change (a def's callers); stack: all frames that run;
   ex: iterators that were made ahead of the entry and are walked here (a comprehension's); fn: the names whose cells were made at the entry (a def: all; a comprehension's block: its own); calm: not within an except suite; pn: pins that every state bears; xe: what is wanted of an exception that leaves the code -/
structure Cx where
  prog : Program
  w : World
  K : PySem.W.Frag
  mg : Str → Option Value
  base : Heap
  A : Around
  N : List Str
  s₀ : Shared
  H₀ : Hp
  env : Env
  outer : List Env
  stack : List Env
  ex : List Addr
  fn : Str → Bool
  calm : Bool
  pn : List (Addr × Obj)
  xe : Value → Shared → Prop
def frs (l : List Env) : List Addr := l.filterMap (·.frame)
abbrev Cx.fs (X : Cx) : List Addr := frs X.outer
def Vis (sc : Scope) (x : Str) : Prop := sc.names.lookup x = some .local ∨ sc.names.lookup x = some .cell ∨ sc.names.lookup x = some .free
def Loc (sc : Scope) (x : Str) : Prop := sc.names.lookup x = some .local ∨ sc.names.lookup x = some .cell
def Look (env : Env) (h : Heap) (m : Str → Option Value) (x : Str) (u : Value) : Prop :=
  (env.kindOf x = some .local ∧ m x = some u) ∨ ((env.kindOf x = some .cell ∨ env.kindOf x = some .free) ∧ ∃ c, env.cells.lookup x = some c ∧ h.IsCell c (some u))
structure Cx.Ok (X : Cx) : Prop where
  mod : Mod X.K X.mg X.base
  kind : X.env.scope.kind = .function
  glob : X.env.globals = mainGlobals
  blt : X.env.builtins = builtinsNs
  above : X.s₀.heap.objs.size ≤ X.env.locals
  inj : ∀ x y c, X.env.cells.lookup x = some c → X.env.cells.lookup y = some c → x = y
  has : ∀ x, (X.env.kindOf x = some .cell ∨ X.env.kindOf x = some .free) → ∃ c, X.env.cells.lookup x = some c
  cab : ∀ x c, X.fn x = true → X.env.cells.lookup x = some c → X.s₀.heap.objs.size ≤ c
  hd : X.calm = true → X.A.handled = none
  frames : X.A.frames = some X.stack
  stk : X.stack = X.outer ∨ (X.stack = X.env :: X.outer ∧ X.env.frame = some X.env.locals)
  exf : ∀ b ∈ X.ex, b ≠ X.env.locals ∧ ∀ x c, X.env.cells.lookup x = some c → c ≠ b
  bs : ∀ b o, X.base.get? b = some o → X.s₀.heap.get? b = some o ∧ X.H₀ b = none
  bsz : X.base.objs.size ≤ X.s₀.heap.objs.size
  noex : ∀ b o, X.base.get? b = some o → b ∉ X.ex
  exfs : ∀ b ∈ X.ex, b ∉ X.fs
  funs : X.s₀.heap.FunFrames X.base X.outer
  frf : ∀ b ∈ X.fs, X.H₀ b = none
structure Inv (X : Cx) (pins : List (Addr × Obj)) (σ : List (Option V)) (H : Hp) (s : Shared) : Prop where
  ok : X.Ok
  os : s.os = X.s₀.os
  bare : AllBare s.gens
  base : Un X.fs X.ex X.H₀ H X.s₀.heap s.heap
  loc : ∃ m, s.heap.Ns X.env.locals m ∧ ∀ (i : Nat) (x : Str) (v : V), X.N[i]? = some x → σ[i]? = some (some v) → Vis X.env.scope x → ∃ u, RelV v u ∧ Look X.env s.heap m x u
  cell : ∀ x c, X.env.cells.lookup x = some c → ∃ v, s.heap.IsCell c v
  free : H X.env.locals = none
  freeC : ∀ x c, X.env.cells.lookup x = some c → H c = none
  pin : ∀ p ∈ X.pn ++ pins, s.heap.get? p.1 = some p.2 ∧ H p.1 = none ∧ p.1 ≠ X.env.locals ∧ p.1 ∉ X.fs ∧ ∀ v, p.2.data ≠ .cell v
  hok : HOk X.prog X.w H s.heap
  len : σ.length = X.N.length
section
variable {X : Cx} {pins : List (Addr × Obj)} {σ : List (Option V)} {H H' : Hp} {s : Shared} {h' : Heap}
theorem Cx.Ok.nofr (ok : X.Ok) {b : Addr} {o : Obj} (e : X.base.get? b = some o) : b ∉ X.fs := fun hb => by
  have := (ok.funs.mem hb).1
  rw [e] at this; cases this
theorem Inv.bs (I : Inv X pins σ H s) : ∀ b o, X.base.get? b = some o → s.heap.get? b = some o ∧ H b = none := fun b o e =>
  ⟨I.base.keep b o (I.ok.bs b o e).1 (I.ok.bs b o e).2 (I.ok.nofr e) (I.ok.noex b o e), I.base.free b o (I.ok.bs b o e).1 (I.ok.bs b o e).2 (I.ok.noex b o e)⟩
theorem Inv.bk (I : Inv X pins σ H s) : ∀ b o, X.base.get? b = some o → s.heap.get? b = some o := fun b o e => (I.bs b o e).1
theorem Inv.mod (I : Inv X pins σ H s) : Mod X.K X.mg X.base := I.ok.mod
theorem Inv.kIn (I : Inv X pins σ H s) : X.K.In s.heap := I.ok.mod.kin.keeps I.bk
theorem Inv.fr (I : Inv X pins σ H s) : ∃ m, Fr X.base X.env.locals s.heap m :=
  let ⟨m, hn, _⟩ := I.loc
  ⟨m, hn, I.bk, Nat.le_trans I.ok.bsz I.ok.above⟩
theorem Inv.lt (I : Inv X pins σ H s) : X.env.locals < s.heap.objs.size := let ⟨_, hn, _⟩ := I.loc; hn.lt
theorem Inv.sz (I : Inv X pins σ H s) : X.s₀.heap.objs.size ≤ s.heap.objs.size := Nat.le_trans I.ok.above (Nat.le_of_lt I.lt)
theorem Inv.nofs (I : Inv X pins σ H s) {a : Addr} (h : s.heap.objs.size ≤ a) : a ∉ X.fs := fun hb => by
  obtain ⟨_, o, ho, _⟩ := I.ok.funs.mem hb
  exact absurd (Nat.lt_of_lt_of_le (Heap.lt_size ho) (Nat.le_trans I.sz h)) (Nat.lt_irrefl _)
theorem Inv.cne (I : Inv X pins σ H s) : ∀ x c, X.env.cells.lookup x = some c → c ≠ X.env.locals := fun x c e z => by
  obtain ⟨v, o, ho, hd⟩ := I.cell x c e
  obtain ⟨m, ⟨o', es, ep, ho', hd', _⟩, _⟩ := I.loc
  rw [z, ho'] at ho; cases ho; rw [hd'] at hd; cases hd
theorem Inv.funs (I : Inv X pins σ H s) : s.heap.FunFrames X.base X.outer := by
  have all : ∀ (l : List Env), (∀ b ∈ frs l, b ∈ X.fs) → X.s₀.heap.FunFrames X.base l → s.heap.FunFrames X.base l := by
    intro l
    induction l with
    | nil => intro _ _; trivial
    | cons env r ih =>
      intro hs hl
      obtain ⟨hk, ⟨L, o, hf, hn, ho, hd⟩, hr⟩ := hl
      have hL : L ∈ X.fs := hs L (by unfold frs; rw [List.filterMap_cons, hf]; exact List.mem_cons_self)
      obtain ⟨sl, e⟩ := I.base.slot L o ho (I.ok.frf L hL) hL fun z => I.ok.exfs L z hL
      exact ⟨hk, ⟨L, _, hf, hn, e, hd⟩, ih (fun b hb => hs b (by unfold frs; rw [List.filterMap_cons, hf]; exact List.mem_cons_of_mem _ hb)) hr⟩
  exact all X.outer (fun _ hb => hb) I.ok.funs
theorem Inv.stack (I : Inv X pins σ H s) : s.heap.FunFrames X.base X.stack := by
  rcases I.ok.stk with e | ⟨e, hf⟩
  · rw [e]; exact I.funs
  · rw [e]
    obtain ⟨m, hn, _⟩ := I.loc
    refine .cons (by rw [I.ok.kind]; decide) hf hn ?_ I.funs
    exact Heap.get?_none_of_le (Nat.le_trans I.ok.bsz I.ok.above)
theorem Inv.stkSub (I : Inv X pins σ H s) : ∀ b ∈ frs X.stack, b ∈ X.env.locals :: X.fs := fun b hb => by
  rcases I.ok.stk with e | ⟨e, hf⟩
  · rw [e] at hb; exact List.mem_cons_of_mem _ hb
  · rw [e] at hb
    unfold frs at hb
    rw [List.filterMap_cons, hf] at hb
    exact hb
theorem Inv.stkFree (I : Inv X pins σ H s) : ∀ b ∈ frs X.stack, H b = none := fun b hb => by
  rcases List.mem_cons.mp (I.stkSub b hb) with e | hb
  · rw [e]; exact I.free
  · obtain ⟨_, o, ho, _⟩ := I.ok.funs.mem hb
    exact I.base.free b o ho (I.ok.frf b hb) fun z => I.ok.exfs b z hb
theorem Inv.step {g' : Array GenState} {t' : Nat} {d' : Drawn} {ch : List Addr} (I : Inv X pins σ H s)
    (hch : ∀ b ∈ ch, (b ∈ X.ex ∨ X.s₀.heap.objs.size ≤ b) ∧ b ≠ X.env.locals ∧ (∀ x c, X.env.cells.lookup x = some c → c ≠ b) ∧ ∀ p ∈ X.pn ++ pins, p.1 ≠ b)
    (keep : ∀ b o, b ≠ X.env.locals → b ∉ X.fs → b ∉ ch → s.heap.get? b = some o → H b = none → h'.get? b = some o)
    (slot : ∀ b o, b ≠ X.env.locals → b ∈ X.fs → b ∉ ch → s.heap.get? b = some o → H b = none → ∃ sl, h'.get? b = some { o with slots := sl }) (free : ∀ b o, b ∉ ch → s.heap.get? b = some o → H b = none → H' b = none)
    (there : ∀ b o, b ∉ ch → s.heap.get? b = some o → ∃ o', h'.get? b = some o')
    (tups : ∀ b xs, H b = some (.tup xs) → H' b = some (.tup xs)) (frzs : ∀ b o u, H b = some (.frz o u) → H' b = some (.frz o u)) (tbls : ∀ b ps, H b = some (.tbl ps) → ∃ more, H' b = some (.tbl (ps ++ more)))
    (ns : ∀ m, s.heap.Ns X.env.locals m → h'.Ns X.env.locals m) (hok : HOk X.prog X.w H' h') (hg : AllBare g') :
    Inv X pins σ H' { s with heap := h', gens := g', drawn := d', toks := t' } := by
  have neL : ∀ b o, X.s₀.heap.get? b = some o → b ≠ X.env.locals := fun b o e => Nat.ne_of_lt (Nat.lt_of_lt_of_le (Heap.lt_size e) I.ok.above)
  have neC : ∀ b o, X.s₀.heap.get? b = some o → b ∉ X.ex → b ∉ ch := fun b o e hx hb => by
    rcases (hch b hb).1 with z | z
    · exact hx z
    · exact absurd (Nat.lt_of_lt_of_le (Heap.lt_size e) z) (Nat.lt_irrefl _)
  have cellK : ∀ x c, X.env.cells.lookup x = some c → ∀ v, s.heap.IsCell c v → h'.IsCell c v := fun x c e v ⟨o, ho, hd⟩ => by
    have nch : c ∉ ch := fun z => (hch c z).2.2.1 x c e rfl
    by_cases hc : c ∈ X.fs
    · obtain ⟨sl, q⟩ := slot c o (I.cne x c e) hc nch ho (I.freeC x c e)
      exact ⟨_, q, hd⟩
    · exact ⟨o, keep c o (I.cne x c e) hc nch ho (I.freeC x c e), hd⟩
  refine ⟨I.ok, I.os, hg, ⟨fun b o e n hb hx => ?_, fun b o e n hb hx => ?_, fun b o e n hx => ?_, fun b o e hx => ?_, fun b xs e => tups b xs (I.base.tups b xs e), fun b o xs e => frzs b o xs (I.base.frzs b o xs e), fun b ps e => ?_⟩, ?_, fun x c e => ?_, ?_, fun x c e => ?_, fun p hp => ?_, hok, I.len⟩
  · exact keep b o (neL b o e) hb (neC b o e hx) (I.base.keep b o e n hb hx) (I.base.free b o e n hx)
  · obtain ⟨sl, e1⟩ := I.base.slot b o e n hb hx
    obtain ⟨sl', e2⟩ := slot b _ (neL b o e) hb (neC b o e hx) e1 (I.base.free b o e n hx)
    exact ⟨sl', e2⟩
  · obtain ⟨o', e1⟩ := I.base.there b o e hx
    exact free b o' (neC b o e hx) e1 (I.base.free b o e n hx)
  · obtain ⟨o', e1⟩ := I.base.there b o e hx
    exact there b o' (neC b o e hx) e1
  · obtain ⟨m1, e1⟩ := I.base.tbls b ps e
    obtain ⟨m2, e2⟩ := tbls b _ e1
    exact ⟨m1 ++ m2, by rw [e2, Array.append_assoc]⟩
  · obtain ⟨m, hn, hl⟩ := I.loc
    refine ⟨m, ns m hn, fun i x v e1 e2 e3 => ?_⟩
    obtain ⟨u, r, l⟩ := hl i x v e1 e2 e3
    refine ⟨u, r, ?_⟩
    rcases l with l | ⟨k, c, e, z⟩
    · exact .inl l
    · exact .inr ⟨k, c, e, cellK x c e _ z⟩
  · obtain ⟨v, z⟩ := I.cell x c e
    exact ⟨v, cellK x c e v z⟩
  · obtain ⟨m, ⟨o, _, _, ho, _⟩, _⟩ := I.loc
    exact free _ o (fun z => (hch _ z).2.1 rfl) ho I.free
  · obtain ⟨v, o, ho, hd⟩ := I.cell x c e
    exact free c o (fun z => (hch c z).2.2.1 x c e rfl) ho (I.freeC x c e)
  · obtain ⟨e, n, ne, nf, d⟩ := I.pin p hp
    have nch : p.1 ∉ ch := fun z => (hch p.1 z).2.2.2 p hp rfl
    exact ⟨keep p.1 p.2 ne nf nch e n, free p.1 p.2 nch e n, ne, nf, d⟩
theorem Inv.un {t' : Nat} (I : Inv X pins σ H s) (u : Un X.fs [] H H' s.heap h') (hok : HOk X.prog X.w H' h') : Inv X pins σ H' { s with heap := h', toks := t' } := by
  obtain ⟨m, ⟨o, es, ep, ho, r⟩, _⟩ := id I.loc
  obtain ⟨sl, hL⟩ := u.any ho I.free (by simp)
  exact I.step (g' := s.gens) (d' := s.drawn) (ch := []) (fun _ z => nomatch z) (fun b o _ hb _ e n => u.keep b o e n hb (by simp)) (fun b o _ hb _ e n => u.slot b o e n hb (by simp)) (fun b o _ e n => u.free b o e n (by simp)) (fun b o _ e => u.there b o e (by simp)) u.tups u.frzs u.tbls (fun m' hm => by
    obtain ⟨o', es', ep', ho', r'⟩ := hm
    rw [ho] at ho'; cases ho'
    exact ⟨_, es', ep', hL, r'⟩) hok I.bare
theorem Inv.call {g' : Array GenState} {t' : Nat} {d' : Drawn} {ch : List Addr} (I : Inv X pins σ H s) (u : Un (frs X.stack) ch H H' s.heap h') (hok : HOk X.prog X.w H' h') (hg : AllBare g')
    (hch : ∀ b ∈ ch, (b ∈ X.ex ∨ X.s₀.heap.objs.size ≤ b) ∧ b ≠ X.env.locals ∧ (∀ x c, X.env.cells.lookup x = some c → c ≠ b) ∧ ∀ p ∈ X.pn ++ pins, p.1 ≠ b) :
    Inv X pins σ H' { s with heap := h', gens := g', drawn := d', toks := t' } := by
  obtain ⟨m, ⟨o, es, ep, ho, r⟩, _⟩ := id I.loc
  obtain ⟨sl, hL⟩ := u.any ho I.free fun z => (hch _ z).2.1 rfl
  exact I.step (ch := ch) hch (fun b o hL hb hc e n => u.keep b o e n (fun z => (List.mem_cons.mp (I.stkSub b z)).elim hL hb) hc) (fun b o _ _ hc e n => u.any e n hc) (fun b o hc e n => u.free b o e n hc) (fun b o hc e => u.there b o e hc) u.tups u.frzs u.tbls (fun m' hm => by
    obtain ⟨o', es', ep', ho', r'⟩ := hm
    rw [ho] at ho'; cases ho'
    exact ⟨_, es', ep', hL, r'⟩) hok hg
theorem Inv.turned {t' : Nat} {it : Addr} (I : Inv X pins σ H s) (k : ∀ b o, b ≠ it → s.heap.get? b = some o → h'.get? b = some o) (hn : H it = none) (hL : it ≠ X.env.locals)
    (h1 : it ∈ X.ex ∨ X.s₀.heap.objs.size ≤ it) (h2 : ∀ x c, X.env.cells.lookup x = some c → c ≠ it) (h3 : ∀ p ∈ X.pn ++ pins, p.1 ≠ it) : Inv X pins σ H { s with heap := h', toks := t' } := by
  have nit : ∀ b u, H b = some u → b ≠ it := fun b u e z => by rw [z, hn] at e; cases e
  refine I.step (g' := s.gens) (d' := s.drawn) (ch := [it]) (fun b hb => ?_) (fun b o _ _ hc e _ => k b o (fun z => hc (by simp [z])) e) (fun b o _ _ hc e _ => ⟨o.slots, k b o (fun z => hc (by simp [z])) e⟩) (fun _ _ _ _ n => n)
    (fun b o hc e => ⟨o, k b o (fun z => hc (by simp [z])) e⟩) (fun _ _ e => e) (fun _ _ _ e => e) (fun b ps e => ⟨#[], by rw [e]; simp⟩) (fun m hm => ?_) (fun b u e => ?_) I.bare
  · have e : b = it := by simpa using hb
    subst e
    exact ⟨h1, hL, h2, h3⟩
  · obtain ⟨o, es, ep, ho, r⟩ := hm
    exact ⟨o, es, ep, k _ o (Ne.symm hL) ho, r⟩
  · refine (I.hok b u e).stay (fun c v hc q => k c v ?_ q) (fun _ q => q) fun _ _ q => q
    rcases hc with z | z
    · rw [z]; exact nit b u e
    · exact nit c _ z
theorem Inv.tok (I : Inv X pins σ H s) (t : Nat) : Inv X pins σ H { s with toks := t } := I.un (h' := s.heap) (t' := t) Un.refl I.hok
theorem Inv.kept {t' : Nat} (I : Inv X pins σ H s) (k : ∀ b u, s.heap.get? b = some u → h'.get? b = some u) : Inv X pins σ H { s with heap := h', toks := t' } := I.un (Un.kept k) (I.hok.kept k)
theorem Inv.laid {a : Addr} {o : HO} {t' : Nat} (I : Inv X pins σ H s) (k : ∀ b u, s.heap.get? b = some u → h'.get? b = some u) (hp : s.heap.objs.size ≤ a) (new : ObjOk X.prog X.w (upd H a o) h' a o) :
    Inv X pins σ (upd H a o) { s with heap := h', toks := t' } := I.un (Un.laid k hp (I.hok.fresh hp)) (I.hok.laid k hp new)
theorem Inv.write {x e : Addr} {o : HO} {t' : Nat} (I : Inv X pins σ H s) (mu : Mut (H x)) (he : e = x ∨ H e = some (.own x)) (k : ∀ b u, b ≠ e → s.heap.get? b = some u → h'.get? b = some u) (heo : ∃ u, h'.get? e = some u)
    (new : ObjOk X.prog X.w (upd H x o) h' x o) : Inv X pins σ (upd H x o) { s with heap := h', toks := t' } := I.un (Un.write mu he k heo) (I.hok.write mu he k heo new)
theorem Inv.pins_of {pins' : List (Addr × Obj)} (I : Inv X pins σ H s) (h : ∀ p ∈ pins', s.heap.get? p.1 = some p.2 ∧ H p.1 = none ∧ p.1 ≠ X.env.locals ∧ p.1 ∉ X.fs ∧ ∀ v, p.2.data ≠ .cell v) : Inv X pins' σ H s :=
  ⟨I.ok, I.os, I.bare, I.base, I.loc, I.cell, I.free, I.freeC, fun p hp => (List.mem_append.mp hp).elim (fun z => I.pin p (List.mem_append_left _ z)) (h p), I.hok, I.len⟩
theorem nodup_ix {N : List Str} (hN : N.Nodup) {i j : Nat} {x : Str} (a : N[i]? = some x) (b : N[j]? = some x) : i = j := by
  obtain ⟨h1, e1⟩ := List.getElem?_eq_some_iff.mp a
  obtain ⟨h2, e2⟩ := List.getElem?_eq_some_iff.mp b
  exact (List.getElem_inj hN).mp (e1.trans e2.symm)
theorem store_ok2 {M : Model} {A : Around} {E : Value → Shared → Prop} {i : Nat} {x : Str} {v : V} {u : Value} {Q : Unit → Shared → Prop} (I : Inv X pins σ H s) (hN : X.N.Nodup) (hi : X.N[i]? = some x) (hx : Loc X.env.scope x) (r : RelV v u)
    (h : ∀ s', Inv X pins (σ.set i (some v)) H s' → (∃ a, Heap.SameBut a s.heap s'.heap ∧ (a = X.env.locals ∨ X.env.cells.lookup x = some a)) → Q () s') (hf : X.fn x = true ∨ X.env.scope.names.lookup x = some .local := by first | exact .inl rfl | exact .inr rfl | assumption) : wpAny M A (storeName X.env x u) Q E s := by
  obtain ⟨m, hn, hl⟩ := id I.loc
  have hcls : (X.env.scope.kind == .class || (X.env.scope.kind == .module && X.env.locals != X.env.globals)) = false := by rw [I.ok.kind]; rfl
  have hiσ : i < σ.length := by rw [I.len]; exact (List.getElem?_eq_some_iff.mp hi).1
  have cne := I.cne
  have tracked : ∀ {a : Addr} {h' : Heap}, (∃ o, s.heap.get? a = some o ∧ H a = none) → Heap.SameBut a s.heap h' → HOk X.prog X.w H h' := fun {a h'} ha hs b ob e => by
    obtain ⟨_, _, hfree⟩ := ha
    refine (I.hok b ob e).stay (fun c w' hc q => (hs.2 c ?_).trans q) (fun _ q => q) fun _ _ q => q
    rintro rfl
    rcases hc with rfl | hc
    · rw [hfree] at e; cases e
    · rw [hfree] at hc; cases hc
  rcases hx with hk | hk
  · refine wpAny_storeName_local hk hn (fun h' hn' hs => ?_) hcls
    obtain ⟨oL, _, _, hoL, _⟩ := id hn
    refine h _ ⟨I.ok, I.os, I.bare, ⟨fun b o e n hb hx => ?_, fun b o e n hb hx => ?_, I.base.free, fun b o e hx => ?_, I.base.tups, I.base.frzs, I.base.tbls⟩, ⟨_, hn', fun j y v' e1 e2 e3 => ?_⟩, fun y c e => ?_, I.free, I.freeC, fun p hp => ?_, tracked ⟨oL, hoL, I.free⟩ hs, by simpa using I.len⟩ ⟨_, hs, .inl rfl⟩
    · exact (hs.2 b (Nat.ne_of_lt (Nat.lt_of_lt_of_le (Heap.lt_size e) I.ok.above))).trans (I.base.keep b o e n hb hx)
    · obtain ⟨sl, e1⟩ := I.base.slot b o e n hb hx
      exact ⟨sl, (hs.2 b (Nat.ne_of_lt (Nat.lt_of_lt_of_le (Heap.lt_size e) I.ok.above))).trans e1⟩
    · obtain ⟨o', e1⟩ := I.base.there b o e hx
      exact ⟨o', (hs.2 b (Nat.ne_of_lt (Nat.lt_of_lt_of_le (Heap.lt_size e) I.ok.above))).trans e1⟩
    · by_cases hj : j = i
      · subst hj
        rw [hi] at e1; cases e1
        rw [List.getElem?_set_self hiσ] at e2
        cases e2
        exact ⟨u, r, .inl ⟨hk, by simp⟩⟩
      · rw [List.getElem?_set_ne (Ne.symm hj)] at e2
        obtain ⟨u', r', q⟩ := hl j y v' e1 e2 e3
        refine ⟨u', r', ?_⟩
        rcases q with ⟨k, e⟩ | ⟨k, c, e, z⟩
        · refine .inl ⟨k, ?_⟩
          have : y ≠ x := fun e => hj (nodup_ix hN e1 (e ▸ hi))
          simp [this, e]
        · exact .inr ⟨k, c, e, z.sameBut hs (cne y c e)⟩
    · obtain ⟨w', z⟩ := I.cell y c e
      exact ⟨w', z.sameBut hs (cne y c e)⟩
    · obtain ⟨e, n, ne, nf, d⟩ := I.pin p hp
      exact ⟨(hs.2 p.1 ne).trans e, n, ne, nf, d⟩
  · have hfn : X.fn x = true := by
      rcases hf with z | z
      · exact z
      · rw [z] at hk; cases hk
    obtain ⟨c, hc⟩ := I.ok.has x (.inl hk)
    obtain ⟨w', z⟩ := I.cell x c hc
    refine wpAny_storeName_cell I.ok.kind hk hc z (fun h' hc' hs => ?_)
    obtain ⟨oc, hoc, hocd⟩ := id z
    refine h { s with heap := h' } ⟨I.ok, I.os, I.bare, ⟨fun b o e n hb hx => ?_, fun b o e n hb hx => ?_, I.base.free, fun b o e hx => ?_, I.base.tups, I.base.frzs, I.base.tbls⟩, ⟨m, hn.sameBut hs (Ne.symm (cne x c hc)), fun j y v' e1 e2 e3 => ?_⟩, fun y c' e => ?_, I.free, I.freeC, fun p hp => ?_, tracked ⟨oc, hoc, I.freeC x c hc⟩ hs, by simpa using I.len⟩ ⟨c, hs, .inr hc⟩
    · exact (hs.2 b (Nat.ne_of_lt (Nat.lt_of_lt_of_le (Heap.lt_size e) (I.ok.cab x c hfn hc)))).trans (I.base.keep b o e n hb hx)
    · obtain ⟨sl, e1⟩ := I.base.slot b o e n hb hx
      exact ⟨sl, (hs.2 b (Nat.ne_of_lt (Nat.lt_of_lt_of_le (Heap.lt_size e) (I.ok.cab x c hfn hc)))).trans e1⟩
    · obtain ⟨o', e1⟩ := I.base.there b o e hx
      exact ⟨o', (hs.2 b (Nat.ne_of_lt (Nat.lt_of_lt_of_le (Heap.lt_size e) (I.ok.cab x c hfn hc)))).trans e1⟩
    · by_cases hj : j = i
      · subst hj
        rw [hi] at e1; cases e1
        rw [List.getElem?_set_self hiσ] at e2
        cases e2
        exact ⟨u, r, .inr ⟨.inl hk, c, hc, hc'⟩⟩
      · rw [List.getElem?_set_ne (Ne.symm hj)] at e2
        obtain ⟨u', r', q⟩ := hl j y v' e1 e2 e3
        refine ⟨u', r', ?_⟩
        rcases q with q | ⟨k, c', e, z'⟩
        · exact .inl q
        · refine .inr ⟨k, c', e, z'.sameBut hs ?_⟩
          rintro rfl
          exact hj (nodup_ix hN e1 (I.ok.inj _ _ _ e hc ▸ hi))
    · by_cases hcc : c' = c
      · subst hcc; exact ⟨_, hc'⟩
      · obtain ⟨w2, z2⟩ := I.cell y c' e
        exact ⟨w2, z2.sameBut hs hcc⟩
    · obtain ⟨e, n, ne, nf, d⟩ := I.pin p hp
      refine ⟨(hs.2 p.1 ?_).trans e, n, ne, nf, d⟩
      intro q
      rw [q, hoc] at e
      have q' : oc = p.2 := Option.some.inj e
      exact d w' (by rw [← q']; exact hocd)
theorem store_ok {M : Model} {A : Around} {E : Value → Shared → Prop} {i : Nat} {x : Str} {v : V} {u : Value} {Q : Unit → Shared → Prop} (I : Inv X pins σ H s) (hN : X.N.Nodup) (hi : X.N[i]? = some x) (hx : Loc X.env.scope x) (r : RelV v u)
    (h : ∀ s', Inv X pins (σ.set i (some v)) H s' → Q () s') (hf : X.fn x = true ∨ X.env.scope.names.lookup x = some .local := by first | exact .inl rfl | exact .inr rfl | assumption) : wpAny M A (storeName X.env x u) Q E s :=
  store_ok2 I hN hi hx r (fun s' I' _ => h s' I') hf
theorem Inv.call' {s' : Shared} {ch : List Addr} (I : Inv X pins σ H s) (ho : s'.os = s.os) (u : Un (frs X.stack) ch H H' s.heap s'.heap) (hok : HOk X.prog X.w H' s'.heap) (hg : AllBare s'.gens)
    (hch : ∀ b ∈ ch, (b ∈ X.ex ∨ X.s₀.heap.objs.size ≤ b) ∧ b ≠ X.env.locals ∧ (∀ x c, X.env.cells.lookup x = some c → c ≠ b) ∧ ∀ p ∈ X.pn ++ pins, p.1 ≠ b) : Inv X pins σ H' s' := by
  obtain ⟨h', g', d', t', o'⟩ := s'
  have e : o' = s.os := ho
  subst e
  exact I.call (g' := g') (t' := t') (d' := d') u hok hg hch
end
abbrev XK := Value → Option Addr → Hp → Prop
abbrev St := List (Option V)
abbrev VK := V → Hp → Prop
abbrev TE := St → Hp → VK → Prop
abbrev TT := St → Hp → (Bool → Hp → Prop) → Prop
abbrev TA := St → Hp → (List V → Hp → Prop) → Prop
structure Ends where
  nx : St → Hp → Prop
  rt : VK
  bk : St → Hp → Prop := fun _ _ => False
  ct : St → Hp → Prop := fun _ _ => False
abbrev TS := Ends → St → Hp → Prop
def EP (X : Cx) (pins : List (Addr × Obj)) (σ : St) (Q : VK) (u : Value) (s' : Shared) : Prop := ∃ v H', Inv X pins σ H' s' ∧ RelV v u ∧ Q v H'
def TP (X : Cx) (pins : List (Addr × Obj)) (σ : St) (Q : Bool → Hp → Prop) (b : Bool) (s' : Shared) : Prop := ∃ H', Inv X pins σ H' s' ∧ Q b H'
def AP (X : Cx) (pins : List (Addr × Obj)) (σ : St) (Q : List V → Hp → Prop) (us : List Value) (s' : Shared) : Prop := ∃ vs H', Inv X pins σ H' s' ∧ Vals vs us ∧ Q vs H'
def SP (X : Cx) (pins : List (Addr × Obj)) (D : Ends) (f : Flow) (s' : Shared) : Prop :=
  match f with
  | .next => ∃ σ' H', Inv X pins σ' H' s' ∧ D.nx σ' H'
  | .brk => ∃ σ' H', Inv X pins σ' H' s' ∧ D.bk σ' H'
  | .cont => ∃ σ' H', Inv X pins σ' H' s' ∧ D.ct σ' H'
  | .ret u => ∃ v σ' H', Inv X pins σ' H' s' ∧ RelV v u ∧ D.rt v H'
def PE (X : Cx) (e : Expr) (t : TE) : Prop :=
  ∀ (pins : List (Addr × Obj)) (s : Shared) (σ : St) (H : Hp) (Q : VK), Inv X pins σ H s → t σ H Q → wpAny (model X.prog X.w) X.A (eval e X.env) (EP X pins σ Q) X.xe s
def PT (X : Cx) (e : Expr) (t : TT) : Prop :=
  ∀ (pins : List (Addr × Obj)) (s : Shared) (σ : St) (H : Hp) (Q : Bool → Hp → Prop), Inv X pins σ H s → t σ H Q → wpAny (model X.prog X.w) X.A (isTrue e X.env (eval e X.env)) (TP X pins σ Q) X.xe s
def PW (X : Cx) (e : Expr) (t : TT) : Prop :=
  ∀ (whole : Sem Value) (pins : List (Addr × Obj)) (s : Shared) (σ : St) (H : Hp) (Q : Bool → Hp → Prop), Inv X pins σ H s → t σ H Q → wpAny (model X.prog X.w) X.A (isTrue e X.env whole) (TP X pins σ Q) X.xe s
theorem PW.pt {X : Cx} {e : Expr} {t : TT} (h : PW X e t) : PT X e t := h _
def PA (X : Cx) (es : List Expr) (t : TA) : Prop :=
  ∀ (pos : Pos) (pins : List (Addr × Obj)) (s : Shared) (σ : St) (H : Hp) (Q : List V → Hp → Prop), Inv X pins σ H s → t σ H Q → wpAny (model X.prog X.w) X.A (spliced (backTo pos (starEach es X.env))) (AP X pins σ Q) X.xe s
def PS (X : Cx) (st : Stmt) (t : TS) : Prop :=
  ∀ (pins : List (Addr × Obj)) (s : Shared) (σ : St) (H : Hp) (D : Ends), Inv X pins σ H s → t D σ H → wpAny (model X.prog X.w) X.A (exec st X.env) (SP X pins D) X.xe s
def PSs (X : Cx) (st : List Stmt) (t : TS) : Prop :=
  ∀ (pins : List (Addr × Obj)) (s : Shared) (σ : St) (H : Hp) (D : Ends), Inv X pins σ H s → t D σ H → wpAny (model X.prog X.w) X.A (execs st X.env) (SP X pins D) X.xe s
theorem thn {α : Type} {t : Sem α} {Q Q' : α → Shared → Prop} {M : Model} {A : Around} {E : Value → Shared → Prop} {s : Shared} (h : wpAny M A t Q E s) (hQ : ∀ a s, Q a s → Q' a s) : wpAny M A t Q' E s := wpAny_mono h hQ fun _ _ x => x
section
variable {X : Cx}
def tVar (i : Nat) : TE := fun σ H Q => ∃ v, σ[i]? = some (some v) ∧ Q v H
def tC (v : V) : TE := fun _ H Q => Q v H
theorem pe_var {i : Nat} {x : Str} {pos : Pos} (hN : X.N[i]? = some x) (hv : Vis X.env.scope x) (hd : (x == ("__debug__" : Str)) = false := by decide) (hcd : (x == ("__classdict__" : Str)) = false := by decide) : PE X (.Name x pos) (tVar i) := by
  intro pins s σ H Q I h
  obtain ⟨v, e, h⟩ := h
  obtain ⟨m, hn, hl⟩ := I.loc
  obtain ⟨u, r, l⟩ := hl i x v hN e hv
  have fin : EP X pins σ Q u s := ⟨v, H, I, r, h⟩
  rcases l with ⟨hk, hm⟩ | ⟨hk, c, hc, hcell⟩
  · exact wpAny_Name (wpAny_loadName_local I.ok.kind hk hn hm fin) hd
  · rcases hk with hk | hk
    · exact wpAny_Name (wpAny_loadName_cell I.ok.kind hk hc hcell fin) hd
    · exact wpAny_Name (wpAny_loadName_free I.ok.kind hk hc hcell fin hcd) hd
theorem pe_int {i j pos} : PE X (.Constant (.int i) j pos) (tC (.int i)) := fun _ _ _ H _ I h => wpAny_Constant_int ⟨.int i, H, I.tok _, ⟨_, rfl⟩, h⟩
theorem pe_bl {b j pos} : PE X (.Constant (.bool b) j pos) (tC (.bl b)) := fun _ _ _ H _ I h => Constant_bool ⟨.bl b, H, I, rfl, h⟩
theorem pe_non {j pos} : PE X (.Constant .none j pos) (tC .non) := fun _ _ _ H _ I h => Constant_none ⟨.non, H, I, rfl, h⟩
theorem pe_str {x j pos} : PE X (.Constant (.str x) j pos) (tC (.str x)) := fun _ _ _ H _ I h => Calls.Constant_str ⟨.str x, H, I.tok _, ⟨_, rfl⟩, h⟩
def Gl (X : Cx) (x : Str) : Prop := X.env.kindOf x = some .globalImplicit
theorem ld_glob {E : Value → Shared → Prop} {pins : List (Addr × Obj)} {s : Shared} {σ : St} {H : Hp} {x : Str} {u : Value} {pos : Pos} {Q : Value → Shared → Prop} (I : Inv X pins σ H s) (hg : Gl X x) (hm : X.mg x = some u) (h : Q u s)
    (hd : (x == ("__debug__" : Str)) = false := by decide) : wpAny (model X.prog X.w) X.A (eval (.Name x pos) X.env) Q E s :=
  Calls.Name_function_global I.ok.kind hg (Calls.loadGlobal_global (by rw [I.ok.glob]; exact I.mod.glob.keeps I.bk) hm h) hd
theorem ld_blt {E : Value → Shared → Prop} {pins : List (Addr × Obj)} {s : Shared} {σ : St} {H : Hp} {x : Str} {u : Value} {pos : Pos} {Q : Value → Shared → Prop} (I : Inv X pins σ H s) (hg : Gl X x) (hm : X.mg x = none) (hv : bootBuiltins x = some u) (h : Q u s)
    (hn : x ≠ "__name__" := by decide) (hd : (x == ("__debug__" : Str)) = false := by decide) : wpAny (model X.prog X.w) X.A (eval (.Name x pos) X.env) Q E s := by
  obtain ⟨mb, h1, h2⟩ := I.mod.blt
  exact Calls.Name_function_global I.ok.kind hg (Calls.loadGlobal_builtin (by rw [I.ok.glob]; exact I.mod.glob.keeps I.bk) hm (by rw [I.ok.blt]; exact h1.keeps I.bk) ((h2 x hn).trans hv) h) hd
theorem pe_glob {x : Str} {v : V} {u : Value} {pos : Pos} (hg : Gl X x) (hm : X.mg x = some u) (r : RelV v u) (hd : (x == ("__debug__" : Str)) = false := by decide) : PE X (.Name x pos) (tC v) :=
  fun _ _ _ H _ I h => ld_glob I hg hm ⟨v, H, I, r, h⟩ hd
theorem pe_bltn {x : Str} {v : V} {u : Value} {pos : Pos} (hg : Gl X x) (hm : X.mg x = none) (hv : bootBuiltins x = some u) (r : RelV v u) (hn : x ≠ "__name__" := by decide) (hd : (x == ("__debug__" : Str)) = false := by decide) : PE X (.Name x pos) (tC v) :=
  fun _ _ _ H _ I h => ld_blt I hg hm hv ⟨v, H, I, r, h⟩ hn hd
variable {a b : Expr} {ta tb : TE} {pos : Pos}
def tB (t : TE) : TT := fun σ H Q => t σ H fun x H1 => ∃ c, x = .bl c ∧ Q c H1
theorem pt_val {e : Expr} {t : TE} (h : PE X e t) (he : ∀ whole, isTrue e X.env whole = (do let v ← whole; standAt e.pos; holding [v] (truthy v)) := by intro _; rfl) : PT X e (tB t) := by
  intro pins s σ H Q I hw
  refine isTrue_plain (thn (h pins s σ H _ I hw) fun v s1 ⟨x, H1, I1, r1, q1⟩ => ?_) (he _)
  obtain ⟨d, rfl, q⟩ := q1
  cases r1
  exact wpAny_truthy_bool ⟨H1, I1, q⟩
variable {tA tB' : TT} {rest : List Expr}
def tAnd (t u : TT) : TT := fun σ H Q => t σ H fun c H1 => if c = true then u σ H1 Q else Q false H1
def tOr (t u : TT) : TT := fun σ H Q => t σ H fun c H1 => if c = true then Q true H1 else u σ H1 Q
def tNot (t : TT) : TT := fun σ H Q => t σ H fun c H1 => Q (!c) H1
theorem pw_and1 (ha : PT X a tA) : PW X (.BoolOp .And [a] pos) tA := by
  intro wh pins s σ H Q I h
  refine isTrue_and (thn (ha pins s σ H Q I h) fun c s1 e => ?_)
  cases c with
  | true => exact isTrue_and_nil e
  | false => exact e
theorem pw_or1 (ha : PT X a tA) : PW X (.BoolOp .Or [a] pos) tA := by
  intro wh pins s σ H Q I h
  refine isTrue_or (thn (ha pins s σ H Q I h) fun c s1 e => ?_)
  cases c with
  | false => exact isTrue_or_nil e
  | true => exact e
theorem pw_and (ha : PT X a tA) (hb : PW X (.BoolOp .And (b :: rest) pos) tB') : PW X (.BoolOp .And (a :: b :: rest) pos) (tAnd tA tB') := by
  intro wh pins s σ H Q I h
  refine isTrue_and (thn (ha pins s σ H _ I h) fun c s1 ⟨H1, I1, q1⟩ => ?_)
  cases c with
  | true => exact hb wh pins s1 σ H1 Q I1 q1
  | false => exact ⟨H1, I1, q1⟩
theorem pw_or (ha : PT X a tA) (hb : PW X (.BoolOp .Or (b :: rest) pos) tB') : PW X (.BoolOp .Or (a :: b :: rest) pos) (tOr tA tB') := by
  intro wh pins s σ H Q I h
  refine isTrue_or (thn (ha pins s σ H _ I h) fun c s1 ⟨H1, I1, q1⟩ => ?_)
  cases c with
  | true => exact ⟨H1, I1, q1⟩
  | false => exact hb wh pins s1 σ H1 Q I1 q1
theorem pt_not (ha : PT X a tA) : PT X (.UnaryOp .Not a pos) (tNot tA) := by
  intro pins s σ H Q I h
  exact isTrue_not (ha pins s σ H (fun c H1 => Q (!c) H1) I h)
def tAndV (ta tb : TE) : TE := fun σ H Q => ta σ H fun x H1 => ∃ c, x = .bl c ∧ if c = true then tb σ H1 Q else Q (.bl false) H1
def tNotV (ta : TE) : TE := fun σ H Q => ta σ H fun x H1 => ∃ c, x = .bl c ∧ Q (.bl (!c)) H1
theorem pe_one {op} {t : TE} (h : PE X a t) : PE X (.BoolOp op [a] pos) t := fun pins s σ H Q I hw => BoolOp_one (h pins s σ H Q I hw)
theorem pe_and (ha : PE X a ta) (hb : PE X (.BoolOp .And (b :: rest) pos) tb) : PE X (.BoolOp .And (a :: b :: rest) pos) (tAndV ta tb) := by
  intro pins s σ H Q I h
  refine BoolOp_and (thn (ha pins s σ H _ I h) fun v s1 ⟨x, H1, I1, r1, q1⟩ => ?_)
  obtain ⟨c, rfl, q1⟩ := q1
  cases r1
  refine wpAny_truthy_bool ?_
  cases c with
  | true => exact hb pins s1 σ H1 Q I1 q1
  | false => exact ⟨.bl false, H1, I1, rfl, q1⟩
theorem pe_not (ha : PE X a ta) : PE X (.UnaryOp .Not a pos) (tNotV ta) := by
  intro pins s σ H Q I h
  refine UnaryOp_ (thn (ha pins s σ H _ I h) fun v s1 ⟨x, H1, I1, r1, q1⟩ => ?_)
  obtain ⟨c, rfl, q1⟩ := q1
  cases r1
  exact not_of (wpAny_truthy_bool ⟨.bl (!c), H1, I1, rfl, q1⟩)
def tIf (t : TT) (ta tb : TE) : TE := fun σ H Q => t σ H fun c H1 => if c = true then ta σ H1 Q else tb σ H1 Q
theorem pe_ifExp {c : Expr} (hc : PT X c tA) (ha : PE X a ta) (hb : PE X b tb) : PE X (.IfExp c a b pos) (tIf tA ta tb) := by
  intro pins s σ H Q I h
  refine wpAny_IfExp (thn (hc pins s σ H _ I h) fun d s1 ⟨H1, I1, q1⟩ => ?_)
  cases d with
  | true => exact ha pins s1 σ H1 Q I1 q1
  | false => exact hb pins s1 σ H1 Q I1 q1
end
def SqL (K : PySem.W.Frag) (H : Hp) (a : Addr) (xs : List V) : Prop :=
  Rd H a (.lst xs) ∨
    ∃ (o : Obj) (its : Array Value) (n : Nat), K.lookup a = some o ∧ o.cls = .type "list" ∧ o.dict = none ∧ o.data = .seq its n ∧ its.size ≤ sizeLine ∧ Vals xs its.toList
def SqT (K : PySem.W.Frag) (H : Hp) (a : Addr) (xs : List V) : Prop :=
  Rd H a (.tup xs) ∨
    ∃ (o : Obj) (its : Array Value) (n : Nat), K.lookup a = some o ∧ o.cls = .type "tuple" ∧ o.data = .seq its n ∧ its.size ≤ sizeLine ∧ Vals xs its.toList
def absV : Value → Option V
  | .none => some .non
  | .bool b => some (.bl b)
  | .int i _ => some (.int i)
  | .str x _ => some (.str x)
  | .bytes b _ => some (.byt b)
  | .float b _ => some (.flt b)
  | .ref a => some (.ref a)
  | .type n => some (.ty n)
  | _ => none
theorem RelV.abs {x : V} {u : Value} (r : RelV x u) : absV u = some x := by
  cases x with
  | non => cases r; rfl
  | bl _ => cases r; rfl
  | int _ => obtain ⟨t, rfl⟩ := r; rfl
  | str _ => obtain ⟨t, rfl⟩ := r; rfl
  | byt _ => obtain ⟨t, rfl⟩ := r; rfl
  | flt _ => obtain ⟨t, rfl⟩ := r; rfl
  | ref _ => cases r; rfl
  | ty _ => cases r; rfl
theorem RelV.inj {x y : V} {u : Value} (r : RelV x u) (q : RelV y u) : x = y := Option.some.inj (r.abs.symm.trans q.abs)
theorem Vals.inj : ∀ {xs ys : List V} {us : List Value}, Vals xs us → Vals ys us → xs = ys
  | _, _, _, .nil, .nil => rfl
  | _, _, _, .cons r t, .cons r' t' => by rw [r.inj r', Vals.inj t t']
section
variable {X : Cx} {pins : List (Addr × Obj)} {σ : St} {H : Hp} {s : Shared} {a : Addr} {xs ys : List V}
theorem SqL.of {K : PySem.W.Frag} (h : H a = some (.lst xs)) : SqL K H a xs := .inl (.inl h)
theorem SqT.of {K : PySem.W.Frag} (h : H a = some (.tup xs)) : SqT K H a xs := .inl (.inl h)
theorem Inv.list (I : Inv X pins σ H s) (h : SqL X.K H a xs) : ∃ its : List Value, Vals xs its ∧ PlainL s.heap a its.toArray ∧ xs.length ≤ sizeLine := by
  rcases h with h | ⟨o, its, n, hk, hc, hd, hs, hz, r⟩
  · obtain ⟨z, its, n, r, e⟩ := h.ok I.hok
    exact ⟨its, r, ⟨_, n, e, rfl, rfl, rfl⟩, z⟩
  · refine ⟨its.toList, r, ⟨o, n, I.kIn a o hk, hc, hd, by simpa using hs⟩, ?_⟩
    have e := r.length
    simp only [Array.length_toList] at e
    omega
theorem Inv.tuple (I : Inv X pins σ H s) (h : SqT X.K H a xs) : ∃ its : List Value, Vals xs its ∧ IsTup s.heap a its.toArray ∧ xs.length ≤ sizeLine := by
  rcases h with h | ⟨o, its, n, hk, hc, hs, hz, r⟩
  · obtain ⟨z, its, r, p⟩ := h.ok I.hok
    exact ⟨its, r, p, z⟩
  · refine ⟨its.toList, r, ⟨o, I.kIn a o hk, hc, n, by simpa using hs⟩, ?_⟩
    have e := r.length
    simp only [Array.length_toList] at e
    omega
theorem Inv.list_inj (I : Inv X pins σ H s) (h : SqL X.K H a xs) (h' : SqL X.K H a ys) : xs = ys := by
  obtain ⟨its, r, ⟨o, n, e, _, _, d⟩, _⟩ := I.list h
  obtain ⟨its', r', ⟨o', n', e', _, _, d'⟩, _⟩ := I.list h'
  rw [e] at e'; cases e'
  rw [d] at d'
  injection d' with d1 _
  have : its = its' := by simpa using congrArg Array.toList d1
  subst this
  exact r.inj r'
theorem Inv.tuple_inj (I : Inv X pins σ H s) (h : SqT X.K H a xs) (h' : SqT X.K H a ys) : xs = ys := by
  obtain ⟨its, r, ⟨o, e, _, n, d⟩, _⟩ := I.tuple h
  obtain ⟨its', r', ⟨o', e', _, n', d'⟩, _⟩ := I.tuple h'
  rw [e] at e'; cases e'
  rw [d] at d'
  injection d' with d1 _
  have : its = its' := by simpa using congrArg Array.toList d1
  subst this
  exact r.inj r'
end
abbrev Cx.wish (X : Cx) (E : Value → Shared → Prop) : Cx := { X with xe := E }
abbrev Cx.nox (X : Cx) : Cx := X.wish fun _ _ => False
theorem Cx.Ok.wish {X : Cx} (ok : X.Ok) (E : Value → Shared → Prop) : (X.wish E).Ok :=
  ⟨ok.mod, ok.kind, ok.glob, ok.blt, ok.above, ok.inj, ok.has, ok.cab, ok.hd, ok.frames, ok.stk, ok.exf, ok.bs, ok.bsz, ok.noex, ok.exfs, ok.funs, ok.frf⟩
theorem Cx.Ok.unwish {X : Cx} {E : Value → Shared → Prop} (ok : (X.wish E).Ok) : X.Ok :=
  ⟨ok.mod, ok.kind, ok.glob, ok.blt, ok.above, ok.inj, ok.has, ok.cab, ok.hd, ok.frames, ok.stk, ok.exf, ok.bs, ok.bsz, ok.noex, ok.exfs, ok.funs, ok.frf⟩
section
variable {X : Cx} {pins : List (Addr × Obj)} {σ : St} {H : Hp} {s : Shared} {E : Value → Shared → Prop}
theorem Inv.wish (I : Inv X pins σ H s) (E : Value → Shared → Prop) : Inv (X.wish E) pins σ H s := ⟨I.ok.wish E, I.os, I.bare, I.base, I.loc, I.cell, I.free, I.freeC, I.pin, I.hok, I.len⟩
theorem Inv.unwish (I : Inv (X.wish E) pins σ H s) : Inv X pins σ H s := ⟨I.ok.unwish, I.os, I.bare, I.base, I.loc, I.cell, I.free, I.freeC, I.pin, I.hok, I.len⟩
theorem SP.unwish {D : Ends} {f : Flow} {s' : Shared} (h : SP (X.wish E) pins D f s') : SP X pins D f s' := by
  cases f with
  | next => obtain ⟨σ', H', I, q⟩ := h; exact ⟨σ', H', I.unwish, q⟩
  | brk => obtain ⟨σ', H', I, q⟩ := h; exact ⟨σ', H', I.unwish, q⟩
  | cont => obtain ⟨σ', H', I, q⟩ := h; exact ⟨σ', H', I.unwish, q⟩
  | ret u => obtain ⟨v, σ', H', I, r, q⟩ := h; exact ⟨v, σ', H', I.unwish, r, q⟩
theorem PE.nox {e : Expr} {t : TE} (h : PE X.nox e t) : PE X e t := fun pins s σ H Q I hw =>
  wpAny_mono (h pins s σ H Q (I.wish _) hw) (fun _ _ ⟨v, H', I', r, q⟩ => ⟨v, H', I'.unwish, r, q⟩) fun _ _ z => False.elim z
theorem PT.nox {e : Expr} {t : TT} (h : PT X.nox e t) : PT X e t := fun pins s σ H Q I hw =>
  wpAny_mono (h pins s σ H Q (I.wish _) hw) (fun _ _ ⟨H', I', q⟩ => ⟨H', I'.unwish, q⟩) fun _ _ z => False.elim z
theorem PSs.nox {st : List Stmt} {t : TS} (h : PSs X.nox st t) : PSs X st t := fun pins s σ H D I hw =>
  wpAny_mono (h pins s σ H D (I.wish _) hw) (fun _ _ q => q.unwish) fun _ _ z => False.elim z
end
section
variable {X : Cx} {st : Stmt} {rest : List Stmt} {t u : TS} {e : Expr} {te : TE} {pos : Pos}
def tNext : TS := fun D σ H => D.nx σ H
def tSeq (t u : TS) : TS := fun D σ H => t { D with nx := u D } σ H
theorem pss_nil : PSs X [] tNext := fun _ _ σ H _ I h => wpAny_execs_nil ⟨σ, H, I, h⟩
theorem pss_cons (h1 : PS X st t) (h2 : PSs X rest u) : PSs X (st :: rest) (tSeq t u) := by
  intro pins s σ H D I h
  refine wpAny_execs_cons (thn (h1 pins s σ H { D with nx := u D } I h) fun f s1 q => ?_)
  cases f with
  | next =>
    obtain ⟨σ', H', I', q⟩ := q
    exact h2 pins s1 σ' H' D I' q
  | ret v => exact q
  | brk => exact q
  | cont => exact q
theorem pss_one (h1 : PS X st t) : PSs X [st] t := by
  intro pins s σ H D I h
  refine wpAny_execs_cons (thn (h1 pins s σ H D I h) fun f s1 q => ?_)
  cases f with
  | next => exact wpAny_execs_nil q
  | ret v => exact q
  | brk => exact q
  | cont => exact q
theorem Inv.quiet {pins : List (Addr × Obj)} {σ : St} {H : Hp} {s : Shared} (I : Inv X pins σ H s) : interactive X.env = false := by simp [interactive, I.ok.kind]
def tDrop (te : TE) : TS := fun D σ H => te σ H fun _ H1 => D.nx σ H1
theorem ps_expr (he : PE X e te) (hs : swapsWith e none pos.line X.env = pure false := by rfl) : PS X (.Expr e pos) (tDrop te) := by
  intro pins s σ H D I h
  exact wpAny_Expr_any (thn (he pins s σ H _ I h) fun v s1 ⟨x, H1, I1, r1, q1⟩ => ⟨σ, H1, I1, q1⟩) I.quiet hs
def tRet (te : TE) : TS := fun D σ H => te σ H D.rt
theorem ps_ret (he : PE X e te) : PS X (.Return (some e) pos) (tRet te) := by
  intro pins s σ H D I h
  exact wpAny_Return_some (thn (he pins s σ H _ I h) fun v s1 ⟨x, H1, I1, r1, q1⟩ => ⟨x, σ, H1, I1, r1, q1⟩)
def tIfS (c : TT) (t u : TS) : TS := fun D σ H => c σ H fun b H1 => if b = true then t D σ H1 else u D σ H1
theorem ps_if {c : Expr} {a b : List Stmt} {tc : TT} (hc : PT X c tc) (ha : PSs X a t) (hb : PSs X b u) : PS X (.If c a b pos) (tIfS tc t u) := by
  intro pins s σ H D I h
  refine wpAny_If (thn (hc pins s σ H _ I h) fun d s1 ⟨H1, I1, q1⟩ => ?_)
  cases d with
  | true => exact ha pins s1 σ H1 D I1 q1
  | false => exact hb pins s1 σ H1 D I1 q1
def tNever : TS := fun _ _ _ => False
theorem pss_never {sts : List Stmt} : PSs X sts tNever := fun _ _ _ _ _ _ h => h.elim
end
abbrev TG := V → St → Hp → (St → Hp → Prop) → Prop
abbrev TGs := List V → St → Hp → (St → Hp → Prop) → Prop
def PG (X : Cx) (target : Expr) (t : TG) : Prop :=
  ∀ (pins : List (Addr × Obj)) (s : Shared) (σ : St) (H : Hp) (v : V) (u : Value) (Q : St → Hp → Prop), Inv X pins σ H s → RelV v u → t v σ H Q →
    wpAny (model X.prog X.w) X.A (assign target X.env u) (fun _ s' => ∃ σ' H', Inv X pins σ' H' s' ∧ Q σ' H') X.xe s
def PGs (X : Cx) (ts : List Expr) (t : TGs) : Prop :=
  ∀ (pins : List (Addr × Obj)) (s : Shared) (σ : St) (H : Hp) (vs : List V) (us : List Value) (Q : St → Hp → Prop), Inv X pins σ H s → Vals vs us → t vs σ H Q →
    wpAny (model X.prog X.w) X.A (assignInOrder ((assignEach ts X.env).map (·.2)) us) (fun _ s' => ∃ σ' H', Inv X pins σ' H' s' ∧ Q σ' H') X.xe s
abbrev TSet := V → V → V → Hp → (Hp → Prop) → Prop
def PSet (X : Cx) (t : TSet) : Prop :=
  ∀ (pins : List (Addr × Obj)) (s : Shared) (σ : St) (H : Hp) (o i v : V) (ov iv u : Value) (Q : Hp → Prop), Inv X pins σ H s → RelV o ov → RelV i iv → RelV v u → t o i v H Q →
    wpAny (model X.prog X.w) X.A (setItem ov iv u) (fun _ s' => ∃ H', Inv X pins σ H' s' ∧ Q H') X.xe s
section
variable {X : Cx} {pos : Pos}
def gName (i : Nat) : TG := fun v σ H Q => Q (σ.set i (some v)) H
theorem pg_name {i : Nat} {x : Str} (hN : X.N.Nodup) (hi : X.N[i]? = some x) (hx : Loc X.env.scope x) (hf : X.fn x = true ∨ X.env.scope.names.lookup x = some .local := by first | exact .inl rfl | exact .inr rfl | assumption) : PG X (.Name x pos) (gName i) := by
  intro pins s σ H v u Q I r h
  exact wpAny_assign_Name (store_ok I hN hi hx r (fun s' I' => ⟨_, H, I', h⟩) hf)
def gNil : TGs := fun vs σ H Q => vs = [] ∧ Q σ H
def gCons (t : TG) (u : TGs) : TGs := fun vs σ H Q => ∃ v r, vs = v :: r ∧ t v σ H fun σ' H' => u r σ' H' Q
theorem pgs_nil : PGs X [] gNil := by
  intro pins s σ H vs us Q I r h
  obtain ⟨e, h⟩ := h
  subst e
  cases r
  exact assignInOrder_nil ⟨σ, H, I, h⟩
theorem pgs_cons {e : Expr} {es : List Expr} {t : TG} {u : TGs} (h1 : PG X e t) (h2 : PGs X es u)
    (hs : (assignEach (e :: es) X.env).map (·.2) = assign e X.env :: (assignEach es X.env).map (·.2) := by rfl) : PGs X (e :: es) (gCons t u) := by
  intro pins s σ H vs us Q I r h
  obtain ⟨v, vr, e1, h⟩ := h
  subst e1
  cases r with
  | cons r rr =>
    rw [hs]
    refine assignInOrder_cons (thn (h1 pins s σ H _ _ _ I r h) fun _ s1 ⟨σ1, H1, I1, q1⟩ => ?_)
    exact h2 pins s1 σ1 H1 _ _ Q I1 rr q1
def gTup (K : PySem.W.Frag) (n : Nat) (t : TGs) : TG := fun v σ H Q => ∃ a xs, v = .ref a ∧ SqT K H a xs ∧ xs.length = n ∧ t xs σ H Q
theorem pg_tup {es : List Expr} {k : Nat} {t : TGs} {n : Nat} (hc : X.calm = true) (h : PGs X es t)
    (hn : (assignEach es X.env).length = n := by rfl) (hst : (assignEach es X.env).findIdx? (·.1) = none := by rfl) : PG X (.Tuple es k pos) (gTup X.K n t) := by
  intro pins s σ H v u Q I r hw
  obtain ⟨a, xs, e1, hq, hl, hw⟩ := hw
  subst e1
  cases r
  obtain ⟨its, rv, ht, hz⟩ := I.tuple hq
  refine assign_Tuple_tuple (I.ok.hd hc) ht (by simp [hn, ← hl, rv.length]) hst fun h' hx => ?_
  have I1 : Inv X pins σ H { s with heap := h' } := I.kept (t' := s.toks) fun b o e => hx b o (Nat.ne_of_lt (Heap.lt_size e)) e
  exact h pins _ σ H xs _ Q I1 (by simpa using rv) hw
def gSub (to ti : TE) (t : TSet) : TG := fun v σ H Q => to σ H fun o H1 => ti σ H1 fun i H2 => t o i v H2 fun H3 => Q σ H3
theorem pg_sub {o i : Expr} {to ti : TE} {t : TSet} (ho : PE X o to) (hi : PE X i ti) (hs : PSet X t)
    (ha : ∀ v, assign (.Subscript o i pos) X.env v = (do
      let ov ← holding [v] (eval o X.env)
      let iv ← holding [v, ov] (eval i X.env)
      standAt pos
      holding [v, ov, iv] (setItem ov iv v)
      release [v, ov, iv] []) := by intro _; rfl) : PG X (.Subscript o i pos) (gSub to ti t) := by
  intro pins s σ H v u Q I r h
  rw [ha]
  refine wpAny_bind (wpAny_holding (thn (ho pins s σ H _ I h) fun ov s1 ⟨x, H1, I1, r1, q1⟩ => ?_))
  refine wpAny_bind (wpAny_holding (thn (hi pins s1 σ H1 _ I1 q1) fun iv s2 ⟨y, H2, I2, r2, q2⟩ => ?_))
  refine wpAny_bind (wpAny_standAt (wpAny_bind (wpAny_holding (thn (hs pins s2 σ H2 x y v ov iv u _ I2 r1 r2 r q2) fun _ s3 ⟨H3, I3, q3⟩ => ?_))))
  exact wpAny_release ⟨σ, H3, I3, q3⟩
def tAsg (te : TE) (g : TG) : TS := fun D σ H => te σ H fun x H1 => g x σ H1 D.nx
theorem ps_asg {tg e : Expr} {te : TE} {g : TG} (he : PE X e te) (hg : PG X tg g) (hs : swapsWithSole [tg] e pos.line X.env = pure false := by rfl) (hw : swappedStores [tg] e X.env = pure none := by rfl)
    (h1 : (assignEach [tg] X.env).map (·.2) = [assign tg X.env] := by rfl) : PS X (.Assign [tg] e pos) (tAsg te g) := by
  intro pins s σ H D I h
  refine wpAny_Assign_stores (thn (he pins s σ H _ I h) fun v s1 ⟨x, H1, I1, r1, q1⟩ => ?_) hs hw
  rw [h1]
  exact thn (hg pins s1 σ H1 x v _ I1 r1 q1) fun _ s2 q => q
theorem ps_set {i : Nat} {x : Str} {e : Expr} {te : TE} {pos' : Pos} (hN : X.N.Nodup) (hi : X.N[i]? = some x) (hx : Loc X.env.scope x) (he : PE X e te) (hs : swapsWith e (some (.Name x pos')) pos.line X.env = pure false := by rfl) (hf : X.fn x = true ∨ X.env.scope.names.lookup x = some .local := by first | exact .inl rfl | exact .inr rfl | assumption) :
    PS X (.Assign [.Name x pos'] e pos) (tAsg te (gName i)) := by
  intro pins s σ H D I h
  refine wpAny_Assign_Name (thn (he pins s σ H _ I h) fun v s1 ⟨y, H1, I1, r1, q1⟩ => ?_) hs
  exact store_ok I1 hN hi hx r1 (fun s2 I2 => ⟨_, H1, I2, q1⟩) hf
end
section
variable {X : Cx} {pos : Pos}
def tWhile (c : TT) (tb : TS) : TS := fun D σ H => ∃ W : Nat → St → Hp → Prop, (∃ m, W m σ H) ∧ ∀ m σ H, W m σ H →
  c σ H fun b H1 => if b = true then ∃ N : St → Hp → Prop, (∀ σ' H', N σ' H' → ∃ m', m' < m ∧ W m' σ' H') ∧ tb { D with nx := N, ct := N, bk := D.nx } σ H1 else D.nx σ H1
theorem ps_while {c : Expr} {body : List Stmt} {tc : TT} {tb : TS} (hp : PassesOwn (model X.prog X.w) X.A X.env X.xe) (hc : PT X c tc) (hb : PSs X body tb) : PS X (.While c body [] pos) (tWhile tc tb) := by
  intro pins s σ H D I h
  obtain ⟨W, ⟨m0, w0⟩, turn⟩ := h
  refine wpAny_While (codeAny_whileLoop (fun n s' => ∃ σ' H', Inv X pins σ' H' s' ∧ W n σ' H') ?_ m0 ⟨σ, H, I, w0⟩)
  rintro n s1 ⟨σ1, H1, I1, w1⟩
  refine wpAny_passesOwn hp (thn (hc pins s1 σ1 H1 _ I1 (turn n σ1 H1 w1)) fun b s2 ⟨H2, I2, q2⟩ => ?_)
  cases b with
  | true =>
    obtain ⟨N, hN, q2⟩ := q2
    rw [if_pos rfl]
    refine wpAny_passesOwn hp (thn (hb pins s2 σ1 H2 _ I2 q2) fun f s3 q3 => ?_)
    cases f with
    | next =>
      obtain ⟨σ3, H3, I3, n3⟩ := q3
      obtain ⟨m', hm, w3⟩ := hN σ3 H3 n3
      exact ⟨m', hm, σ3, H3, I3, w3⟩
    | cont =>
      obtain ⟨σ3, H3, I3, n3⟩ := q3
      obtain ⟨m', hm, w3⟩ := hN σ3 H3 n3
      exact ⟨m', hm, σ3, H3, I3, w3⟩
    | brk => exact q3
    | ret v => exact q3
  | false =>
    rw [if_neg Bool.false_ne_true]
    exact wpAny_execs_nil ⟨σ1, H2, I2, q2⟩
end
structure It where
  go : Nat → Hp → Prop
  yld : Nat → Hp → V → Hp → Prop
  stop : Nat → Hp → Prop
def FpOk (X : Cx) (pins : List (Addr × Obj)) (H : Hp) (b : Addr) : Prop :=
  H b = none ∧ b ≠ X.env.locals ∧ b ∉ X.fs ∧ (b ∈ X.ex ∨ X.s₀.heap.objs.size ≤ b) ∧ (∀ x c, X.env.cells.lookup x = some c → c ≠ b) ∧ ∀ p ∈ X.pn ++ pins, p.1 ≠ b
theorem Inv.fpOk {X : Cx} {pins : List (Addr × Obj)} {σ : St} {H H' : Hp} {s : Shared} {b : Addr} (I : Inv X pins σ H s) (hb : s.heap.objs.size ≤ b) (hn : H' b = none) : FpOk X pins H' b := by
  refine ⟨hn, Nat.ne_of_gt (Nat.lt_of_lt_of_le I.lt hb), I.nofs hb, .inr (Nat.le_trans I.sz hb), fun x c e z => ?_, fun p hp z => ?_⟩
  · obtain ⟨v, q⟩ := I.cell x c e
    exact absurd (Nat.lt_of_lt_of_le q.lt (by rw [z]; exact hb)) (Nat.lt_irrefl _)
  · exact absurd (Nat.lt_of_lt_of_le (Heap.lt_size (I.pin p hp).1) (by rw [z]; exact hb)) (Nat.lt_irrefl _)
structure Turn (P : Program) (w : World) (K : PySem.W.Frag) (tg : Expr) (J : It) (fp : List Addr) (it : Addr) (tn : Nat → Heap → Prop) : Prop where
  mem : it ∈ fp
  obj : ∀ i h, tn i h → ∀ b ∈ fp, ∃ o, h.get? b = some o ∧ ∀ v, o.data ≠ .cell v
  keep : ∀ i h h', tn i h → (∀ b ∈ fp, ∀ o, h.get? b = some o → h'.get? b = some o) → tn i h'
  item : ∀ (X : Cx), X.prog = P → X.w = w → X.K = K → X.calm = true → ∀ (i : Nat) (pins : List (Addr × Obj)) (s : Shared) (σ : St) (H : Hp) (E : Value → Shared → Prop), Inv X pins σ H s → (∀ b ∈ fp, FpOk X pins H b) → tn i s.heap → J.go i H →
    wpAny (model P w) X.A (pyNext (.ref it)) (fun r s1 => ∃ u, r = some u ∧
      wpAny (model P w) X.A (letOwnedTupleGo tg (.ref it) u) (fun _ s2 => ∃ x H', Inv X pins σ H' s2 ∧ RelV x u ∧ J.yld i H x H' ∧ tn (i + 1) s2.heap ∧ ∀ b ∈ fp, H' b = none) E s1) E s
  done : ∀ (X : Cx), X.prog = P → X.w = w → X.K = K → X.calm = true → ∀ (i : Nat) (pins : List (Addr × Obj)) (s : Shared) (σ : St) (H : Hp) (E : Value → Shared → Prop), Inv X pins σ H s → (∀ b ∈ fp, FpOk X pins H b) → tn i s.heap → J.stop i H →
    wpAny (model P w) X.A (pyNext (.ref it)) (fun r s1 => r = none ∧ Inv X pins σ H s1) E s
  self : ∀ (A : Around) (i : Nat) (s : Shared) (Q : Value → Shared → Prop) (E : Value → Shared → Prop), tn i s.heap → Q (.ref it) s → wpAny (model P w) A (pyIter (.ref it)) Q E s
abbrev TI := St → Hp → (It → Hp → Prop) → Prop
def PIE (X : Cx) (pins : List (Addr × Obj)) (σ : St) (tg : Expr) (R : It → Hp → Prop) (itv : Value) (s2 : Shared) : Prop :=
  ∃ (it : Addr) (fp : List Addr) (tn : Nat → Heap → Prop) (J : It) (H' : Hp), itv = .ref it ∧ Inv X pins σ H' s2 ∧ Turn X.prog X.w X.K tg J fp it tn ∧ tn 0 s2.heap ∧ (∀ b ∈ fp, FpOk X pins H' b) ∧ R J H'
def PI (X : Cx) (tg iter : Expr) (wi : TI) : Prop :=
  ∀ (pins : List (Addr × Obj)) (s : Shared) (σ : St) (H : Hp) (R : It → Hp → Prop), Inv X pins σ H s → wi σ H R →
    wpAny (model X.prog X.w) X.A (eval iter X.env) (fun v s1 => wpAny (model X.prog X.w) X.A (pyIter v) (PIE X pins σ tg R) X.xe s1) X.xe s
theorem go_of {M : Model} {A : Around} {E : Value → Shared → Prop} {s : Shared} {tg : Expr} {it : Addr} {u : Value} {o : Obj} {n : String} {vs : Array Value} {Q : Unit → Shared → Prop} (ho : s.heap.get? it = some o) (hc : o.cls = .type n) (hd : o.data = .fields vs)
    (hn : ["enumerate", "zip", "dict_itemiterator", "dict_reverseitemiterator", "odict_iterator", "itertools.zip_longest", "itertools.pairwise"].contains n = false) (hQ : Q () s) : wpAny M A (letOwnedTupleGo tg (.ref it) u) Q E s := by
  unfold letOwnedTupleGo
  cases tg <;> first
    | exact wpAny_pure hQ
    | (cases u <;> first
        | exact wpAny_pure hQ
        | (refine wpAny_bind (wpAny_load ho ?_)
           rw [hc, hd]
           show wpAny M A (if (["enumerate", "zip", "dict_itemiterator", "dict_reverseitemiterator", "odict_iterator", "itertools.zip_longest", "itertools.pairwise"].contains n && vs[0]? == some (rawInt _)) = true then _ else _) Q E s
           rw [if_neg (by intro h; rw [hn, Bool.false_and] at h; cases h)]
           exact wpAny_pure hQ))
def Itl (K : PySem.W.Frag) (a : Addr) : It :=
  ⟨fun i H => ∃ xs x, SqL K H a xs ∧ xs[i]? = some x, fun i H x H' => H' = H ∧ ∀ xs, SqL K H a xs → xs[i]? = some x, fun i H => ∃ xs, SqL K H a xs ∧ xs.length ≤ i⟩
def Itr (lo : Int) (n : Nat) : It := ⟨fun i _ => i < n, fun i H x H' => H' = H ∧ x = .int (lo + i), fun i _ => n ≤ i⟩
theorem turn_list {P : Program} {w : World} {K : PySem.W.Frag} {tg : Expr} (a it : Addr) : Turn P w K tg (Itl K a) [it] it (fun i h => h.IsListIter it a i) where
  mem := by simp
  obj := fun i h st b hb => by
    have e : b = it := by simpa using hb
    subst e
    obtain ⟨o, e, c, d⟩ := st
    exact ⟨o, e, fun v z => by rw [d] at z; cases z⟩
  keep := fun i h h' st k => st.at fun o e => k it (by simp) o e
  item := by
    intro X hP hw hK hc i pins s σ H E I hf st hg
    subst hP hw hK
    obtain ⟨xs, x, hq, hx⟩ := hg
    obtain ⟨its, rv, p, hz⟩ := I.list hq
    obtain ⟨u, hu, ru⟩ := rv.get hx
    obtain ⟨f0, f1, f2, f3, f4, f5⟩ := hf it (by simp)
    refine wpAny_pyNext_list_item st p.isList (x := u) (by simpa using hu) fun h' st' sb => ?_
    have I1 : Inv X pins σ H { s with heap := h' } := I.turned (t' := s.toks) (fun b o hb e => (sb.2 b hb).trans e) f0 f1 f3 f4 f5
    obtain ⟨o, e, c, d⟩ := id st'
    exact ⟨u, rfl, go_of (s := { s with heap := h' }) e c d (by decide) ⟨x, H, I1, ru, ⟨rfl, fun ys hy => by rw [I.list_inj hy hq]; exact hx⟩, st', fun b hb => (hf b hb).1⟩⟩
  done := by
    intro X hP hw hK hc i pins s σ H E I hf st hg
    subst hP hw hK
    obtain ⟨xs, hq, hx⟩ := hg
    obtain ⟨its, rv, p, hz⟩ := I.list hq
    obtain ⟨f0, f1, f2, f3, f4, f5⟩ := hf it (by simp)
    have hl := rv.length
    exact wpAny_pyNext_list_end (I.ok.hd hc) st p.isList (by simp; omega) fun h' eb => ⟨rfl, I.turned (t' := s.toks) (fun b o hb e => eb b o hb e) f0 f1 f3 f4 f5⟩
  self := fun _ _ _ _ _ st h => wpAny_pyIter_listiter st h
theorem turn_range {P : Program} {w : World} {K : PySem.W.Frag} {tg : Expr} (it : Addr) (lo : Int) (n : Nat) : Turn P w K tg (Itr lo n) [it] it (fun i h => IsRangeIter h it (lo + (i : Nat) * 1) ((n : Int) - (i : Nat)) 1) where
  mem := by simp
  obj := fun i h st b hb => by
    have e : b = it := by simpa using hb
    subst e
    exact ⟨_, st, fun v z => by
      have z' : Data.fields _ = Data.cell v := z
      cases z'⟩
  keep := fun i h h' st k => k it (by simp) _ st
  item := by
    intro X hP hw hK hc i pins s σ H E I hf st hg
    subst hP hw hK
    obtain ⟨f0, f1, f2, f3, f4, f5⟩ := hf it (by simp)
    have W := Walks.range (prog := X.prog) (w := X.w) (I.ok.hd hc) it lo 1 n
    refine W.item i s _ _ hg st fun v h' tk hv st' kk => ?_
    obtain ⟨t, rfl⟩ := hv
    have I1 : Inv X pins σ H { s with heap := h', toks := tk } := I.turned (fun b o hb e => kk b o (by simpa using hb) e) f0 f1 f3 f4 f5
    refine ⟨_, rfl, go_of (s := { s with heap := h', toks := tk }) (n := "range_iterator") st' rfl rfl (by decide) ⟨.int (lo + i), H, I1, ⟨t, ?_⟩, ⟨rfl, rfl⟩, st', fun b hb => (hf b hb).1⟩⟩
    rw [Int.mul_one]
  done := by
    intro X hP hw hK hc i pins s σ H E I hf st hg
    subst hP hw hK
    obtain ⟨f0, f1, f2, f3, f4, f5⟩ := hf it (by simp)
    exact wpAny_pyNext_range_end (I.ok.hd hc) st (by have : n ≤ i := hg; omega) fun h' eb => ⟨rfl, I.turned (t' := s.toks) (fun b o hb e => eb b o hb e) f0 f1 f3 f4 f5⟩
  self := fun _ _ _ _ _ st h => wpAny_pyIter_rangeiter st h
section
variable {X : Cx} {tg : Expr}
def iList (K : PySem.W.Frag) (tl : TE) : TI := fun σ H R => tl σ H fun x H1 => ∃ a, x = .ref a ∧ (∃ xs, SqL K H1 a xs) ∧ R (Itl K a) H1
theorem pi_list {l : Expr} {tl : TE} (hl : PE X l tl) : PI X tg l (iList X.K tl) := by
  intro pins s σ H R I h
  refine thn (hl pins s σ H _ I h) fun v s1 ⟨x, H1, I1, r1, q1⟩ => ?_
  obtain ⟨a, e, ⟨xs, hq⟩, q⟩ := q1
  subst e
  cases r1
  obtain ⟨its, rv, p, hz⟩ := I1.list hq
  refine wpAny_pyIter_list p.isList ?_
  refine ⟨s1.heap.objs.size, [s1.heap.objs.size], _, _, H1, rfl, I1.kept (t' := s1.toks) fun b o e => Heap.get?_push_of_some _ e, turn_list a _, ⟨_, Heap.get?_push_size _ rfl, rfl, rfl⟩, fun b hb => ?_, q⟩
  have e : b = s1.heap.objs.size := by simpa using hb
  subst e
  exact I1.fpOk (Nat.le_refl _) (I1.hok.fresh (Nat.le_refl _))
theorem range_it {pins : List (Addr × Obj)} {σ : St} {H : Hp} {s : Shared} {R : It → Hp → Prop} {E : Value → Shared → Prop} {lo hi : Int} {t u v : Tok} {tk : Nat} (I : Inv X pins σ H s) (h1 : -(2 ^ 62) ≤ lo) (h2 : lo < 2 ^ 62) (h3 : -(2 ^ 62) ≤ hi) (h4 : hi < 2 ^ 62)
    (q : R (Itr lo (hi - lo).toNat) H) : wpAny (model X.prog X.w) X.A (pyIter (.ref s.heap.objs.size)) (PIE X pins σ tg R) E { s with heap := s.heap.push { cls := .type "range", data := .fields #[.int lo t, .int hi u, .int 1 v] }, toks := tk } := by
  refine wpAny_pyIter_range (IsRange.new ..) (small_one h1 h2 h3 h4) ?_
  have I1 : Inv X pins σ H { s with heap := s.heap.push { cls := .type "range", data := .fields #[.int lo t, .int hi u, .int 1 v] }, toks := tk } := I.kept fun b o e => Heap.get?_push_of_some _ e
  refine ⟨(s.heap.push { cls := .type "range", data := .fields #[.int lo t, .int hi u, .int 1 v] }).objs.size, [(s.heap.push { cls := .type "range", data := .fields #[.int lo t, .int hi u, .int 1 v] }).objs.size], _, _, H, rfl,
    I1.kept (t' := tk) fun b o e => Heap.get?_push_of_some _ e, turn_range _ lo (hi - lo).toNat, ?_, fun b hb => ?_, q⟩
  · have e1 : lo + ((0 : Nat) : Int) * 1 = lo := by simp
    have e2 : (((hi - lo).toNat : Nat) : Int) - ((0 : Nat) : Int) = Builtin.Range.rangeSize lo hi 1 := by rw [rangeSize_one]; split <;> omega
    show IsRangeIter _ _ (lo + ((0 : Nat) : Int) * 1) ((((hi - lo).toNat : Nat) : Int) - ((0 : Nat) : Int)) 1
    rw [e1, e2]
    exact Heap.get?_push_size _ rfl
  · have e : b = (s.heap.push { cls := .type "range", data := .fields #[.int lo t, .int hi u, .int 1 v] }).objs.size := by simpa using hb
    subst e
    exact I1.fpOk (Nat.le_refl _) (I1.hok.fresh (Nat.le_refl _))
def iRng1 (ta : TA) : TI := fun σ H R => ta σ H fun vs H1 => ∃ j : Int, vs = [.int j] ∧ -(2 ^ 62) ≤ j ∧ j < 2 ^ 62 ∧ R (Itr 0 j.toNat) H1
def iRng2 (ta : TA) : TI := fun σ H R => ta σ H fun vs H1 => ∃ i j : Int, vs = [.int i, .int j] ∧ (-(2 ^ 62) ≤ i ∧ i < 2 ^ 62 ∧ -(2 ^ 62) ≤ j ∧ j < 2 ^ 62) ∧ R (Itr i (j - i).toNat) H1
theorem pi_range1 {a : Expr} {ta : TA} {p pos : Pos} (hg : Gl X "range") (hm : X.mg "range" = none) (ha : PA X [a] ta) (hs : starEach [a] X.env = [(false, eval a X.env)] := by rfl) : PI X tg (.Call (.Name "range" p) [a] [] pos) (iRng1 ta) := by
  intro pins s σ H R I h
  refine Call_ (ld_blt I hg hm boot_range (PyProof.Rows.callWith_type1 (thn (ha pos pins s σ H _ I h) fun us s1 ⟨vs, H1, I1, r1, q1⟩ => ?_) hs rfl))
  obtain ⟨j, e, q1, q2, q⟩ := q1
  subst e
  cases r1 with
  | cons r rr =>
    cases rr
    obtain ⟨t, rfl⟩ := r
    exact call_range_1 (range_it I1 (by omega) (by omega) q1 q2 (by simpa using q))
theorem pi_range2 {a b : Expr} {ta : TA} {p pos : Pos} (hg : Gl X "range") (hm : X.mg "range" = none) (ha : PA X [a, b] ta) (hs : starEach [a, b] X.env = [(false, eval a X.env), (false, eval b X.env)] := by rfl) (hs2 : starEach [b] X.env = [(false, eval b X.env)] := by rfl) :
    PI X tg (.Call (.Name "range" p) [a, b] [] pos) (iRng2 ta) := by
  intro pins s σ H R I h
  refine Call_ (ld_blt I hg hm boot_range (PyProof.Rows.callWith_type1 (thn (ha pos pins s σ H _ I h) fun us s1 ⟨vs, H1, I1, r1, q1⟩ => ?_) (by rw [hs, hs2]) (by rw [hs2]; rfl)))
  obtain ⟨i, j, e, ⟨q1, q2, q3, q4⟩, q⟩ := q1
  subst e
  cases r1 with
  | cons r rr =>
    cases rr with
    | cons r' rr =>
      cases rr
      obtain ⟨t, rfl⟩ := r
      obtain ⟨t', rfl⟩ := r'
      exact call_range_2 (range_it I1 q1 q2 q3 q4 q)
def tFor (wi : TI) (g : TG) (tb : TS) : TS := fun D σ H => wi σ H fun J H1 => ∃ W : Nat → Nat → St → Hp → Prop, (∃ m, W 0 m σ H1) ∧ ∀ i m σ H, W i m σ H →
  (J.stop i H ∧ D.nx σ H) ∨ (J.go i H ∧ ∃ N : St → Hp → Prop, (∀ σ' H', N σ' H' → ∃ m', m' < m ∧ W (i + 1) m' σ' H') ∧ ∀ x H', J.yld i H x H' → g x σ H' fun σ2 H2 => tb { D with nx := N, ct := N, bk := D.nx } σ2 H2)
def pinsAt (fp : List Addr) (h : Heap) : List (Addr × Obj) := fp.filterMap fun b => (h.get? b).map fun o => (b, o)
theorem mem_pinsAt {fp : List Addr} {h : Heap} {b : Addr} {o : Obj} (hb : b ∈ fp) (e : h.get? b = some o) : (b, o) ∈ pinsAt fp h := List.mem_filterMap.mpr ⟨b, hb, by rw [e]; rfl⟩
theorem of_pinsAt {fp : List Addr} {h : Heap} {p : Addr × Obj} (hp : p ∈ pinsAt fp h) : p.1 ∈ fp ∧ h.get? p.1 = some p.2 := by
  obtain ⟨b, hb, e⟩ := List.mem_filterMap.mp hp
  cases q : h.get? b with
  | none => rw [q] at e; cases e
  | some o =>
    rw [q] at e
    have e' : (b, o) = p := Option.some.inj e
    subst e'
    exact ⟨hb, q⟩
theorem Inv.pinned {pins : List (Addr × Obj)} {σ : St} {H : Hp} {s : Shared} {fp : List Addr} (I : Inv X pins σ H s) (hf : ∀ b ∈ fp, FpOk X pins H b) (ho : ∀ b ∈ fp, ∃ o, s.heap.get? b = some o ∧ ∀ v, o.data ≠ .cell v) : Inv X (pins ++ pinsAt fp s.heap) σ H s :=
  I.pins_of fun p hp => (List.mem_append.mp hp).elim (fun z => I.pin p (List.mem_append_right _ z)) fun z => by
    obtain ⟨hb, e⟩ := of_pinsAt z
    obtain ⟨f0, f1, f2, _⟩ := hf p.1 hb
    obtain ⟨o, e', d⟩ := ho p.1 hb
    rw [e] at e'; cases e'
    exact ⟨e, f0, f1, f2, d⟩
theorem Inv.unpinned {pins pl : List (Addr × Obj)} {σ : St} {H : Hp} {s : Shared} (I : Inv X (pins ++ pl) σ H s) : Inv X pins σ H s := I.pins_of fun p hp => I.pin p (List.mem_append_right _ (List.mem_append_left _ hp))
theorem ps_for {iter : Expr} {body : List Stmt} {wi : TI} {g : TG} {tb : TS} {pos : Pos} (hp : PassesOwn (model X.prog X.w) X.A X.env X.xe) (hc : X.calm = true) (hi : PI X tg iter wi) (hg : PG X tg g) (hb : PSs X body tb)
    (hs : ∀ x, foldedSetIterable iter X.env x = pure x := by intro _; rfl) : PS X (.For tg iter body [] pos) (tFor wi g tb) := by
  intro pins s σ H D I h
  refine wpAny_For (thn (hi pins s σ H _ I h) fun v s1 h1 => thn h1 fun itv s2 h2 => ?_) hs
  obtain ⟨it, fp, tn, J, H2, e, I2, T, st2, f2, W, ⟨m0, w0⟩, turn⟩ := h2
  subst e
  -- what stays true of the iterator's objects through the loop
  have stat : ∀ {H' : Hp}, (∀ b ∈ fp, H' b = none) → ∀ b ∈ fp, FpOk X pins H' b := fun hn b hb => ⟨hn b hb, (f2 b hb).2⟩
  refine codeAny_forLoop_any (fun n s' => ∃ i σ' H', Inv X pins σ' H' s' ∧ tn i s'.heap ∧ (∀ b ∈ fp, H' b = none) ∧ W i n σ' H') ?_ m0 ⟨0, σ, H2, I2, st2, fun b hb => (f2 b hb).1, w0⟩
  rintro n s3 ⟨i, σ3, H3, I3, st3, fr3, w3⟩
  rcases turn i n σ3 H3 w3 with ⟨stop, qn⟩ | ⟨go, N, hN, step⟩
  · refine wpAny_passesOwn hp (thn (T.done X rfl rfl rfl hc i pins s3 σ3 H3 X.xe I3 (stat fr3) st3 stop) fun r s4 ⟨hr, I4⟩ => ?_)
    subst hr
    exact wpAny_execs_nil ⟨σ3, H3, I4, qn⟩
  · refine wpAny_passesOwn hp (thn (T.item X rfl rfl rfl hc i pins s3 σ3 H3 X.xe I3 (stat fr3) st3 go) fun r s4 ⟨u, hr, h4⟩ => ?_)
    subst hr
    refine wpAny_passesOwn hp (thn h4 fun _ s5 ⟨x, H5, I5, r5, y5, st5, fr5⟩ => ?_)
    have I5' := I5.pinned (stat fr5) (T.obj _ _ st5)
    refine wpAny_passesOwn hp (thn (hg _ s5 σ3 H5 x u _ I5' r5 (step x H5 y5)) fun _ s6 ⟨σ6, H6, I6, q6⟩ => ?_)
    refine wpAny_passesOwn hp (thn (hb _ s6 σ6 H6 _ I6 q6) fun f s7 q7 => ?_)
    have again : ∀ {σ7 : St} {H7 : Hp}, Inv X (pins ++ pinsAt fp s5.heap) σ7 H7 s7 → N σ7 H7 → ∃ m, m < n ∧ ∃ i σ' H', Inv X pins σ' H' s7 ∧ tn i s7.heap ∧ (∀ b ∈ fp, H' b = none) ∧ W i m σ' H' := fun {σ7 H7} I7 n7 => by
      obtain ⟨m', hm, w7⟩ := hN σ7 H7 n7
      refine ⟨m', hm, i + 1, σ7, H7, I7.unpinned, T.keep _ _ _ st5 fun b hb o e => (I7.pin (b, o) (List.mem_append_right _ (List.mem_append_right _ (mem_pinsAt hb e)))).1, fun b hb => ?_, w7⟩
      obtain ⟨o, e, d⟩ := T.obj _ _ st5 b hb
      exact (I7.pin (b, o) (List.mem_append_right _ (List.mem_append_right _ (mem_pinsAt hb e)))).2.1
    cases f with
    | next => obtain ⟨σ7, H7, I7, n7⟩ := q7; exact again I7 n7
    | cont => obtain ⟨σ7, H7, I7, n7⟩ := q7; exact again I7 n7
    | brk => obtain ⟨σ7, H7, I7, q7⟩ := q7; exact ⟨σ7, H7, I7.unpinned, q7⟩
    | ret v => obtain ⟨x7, σ7, H7, I7, r7, q7⟩ := q7; exact ⟨x7, σ7, H7, I7.unpinned, r7, q7⟩
end
theorem for_list {K : PySem.W.Frag} {a : Addr} {xs : List V} {g : TG} {tb : TS} {D : Ends} {σ : St} {H : Hp} (Pv : Nat → St → Hp → Prop) (h0 : Pv 0 σ H) (hl : ∀ i σ H, i ≤ xs.length → Pv i σ H → SqL K H a xs)
    (hs : ∀ i x σ H, xs[i]? = some x → Pv i σ H → g x σ H fun σ2 H2 => tb { D with nx := Pv (i + 1), ct := Pv (i + 1), bk := D.nx } σ2 H2) (hd : ∀ σ H, Pv xs.length σ H → D.nx σ H) :
    ∃ W : Nat → Nat → St → Hp → Prop, (∃ m, W 0 m σ H) ∧ ∀ i m σ H, W i m σ H →
      ((Itl K a).stop i H ∧ D.nx σ H) ∨ ((Itl K a).go i H ∧ ∃ N : St → Hp → Prop, (∀ σ' H', N σ' H' → ∃ m', m' < m ∧ W (i + 1) m' σ' H') ∧ ∀ x H', (Itl K a).yld i H x H' → g x σ H' fun σ2 H2 => tb { D with nx := N, ct := N, bk := D.nx } σ2 H2) := by
  refine ⟨fun i m σ H => m = xs.length - i ∧ i ≤ xs.length ∧ Pv i σ H, ⟨xs.length, by simp, Nat.zero_le _, h0⟩, ?_⟩
  rintro i m σ H ⟨rfl, hi, p⟩
  have q := hl i σ H hi p
  by_cases hlt : i < xs.length
  · refine .inr ⟨⟨xs, xs[i], q, by simp [hlt]⟩, Pv (i + 1), fun σ' H' p' => ⟨xs.length - (i + 1), by omega, rfl, hlt, p'⟩, fun x H' y => ?_⟩
    obtain ⟨e, y⟩ := y
    subst e
    exact hs i x σ _ (y xs q) p
  · have e : i = xs.length := by omega
    subst e
    exact .inl ⟨⟨xs, q, Nat.le_refl _⟩, hd σ H p⟩
theorem for_range {lo : Int} {n : Nat} {g : TG} {tb : TS} {D : Ends} {σ : St} {H : Hp} (Pv : Nat → St → Hp → Prop) (h0 : Pv 0 σ H)
    (hs : ∀ i σ H, i < n → Pv i σ H → g (.int (lo + i)) σ H fun σ2 H2 => tb { D with nx := Pv (i + 1), ct := Pv (i + 1), bk := D.nx } σ2 H2) (hd : ∀ σ H, Pv n σ H → D.nx σ H) :
    ∃ W : Nat → Nat → St → Hp → Prop, (∃ m, W 0 m σ H) ∧ ∀ i m σ H, W i m σ H →
      ((Itr lo n).stop i H ∧ D.nx σ H) ∨ ((Itr lo n).go i H ∧ ∃ N : St → Hp → Prop, (∀ σ' H', N σ' H' → ∃ m', m' < m ∧ W (i + 1) m' σ' H') ∧ ∀ x H', (Itr lo n).yld i H x H' → g x σ H' fun σ2 H2 => tb { D with nx := N, ct := N, bk := D.nx } σ2 H2) := by
  refine ⟨fun i m σ H => m = n - i ∧ i ≤ n ∧ Pv i σ H, ⟨n, by simp, Nat.zero_le _, h0⟩, ?_⟩
  rintro i m σ H ⟨rfl, hi, p⟩
  by_cases hlt : i < n
  · refine .inr ⟨hlt, Pv (i + 1), fun σ' H' p' => ⟨n - (i + 1), by omega, rfl, hlt, p'⟩, fun x H' y => ?_⟩
    obtain ⟨e, y⟩ := y
    subst e y
    exact hs i σ _ hlt p
  · have e : i = n := by omega
    subst e
    exact .inl ⟨Nat.le_refl _, hd σ H p⟩
abbrev R2 := V → V → Hp → VK → Prop
def OpR (X : Cx) (f : Value → Value → Sem Value) (r : R2) : Prop :=
  ∀ (pins : List (Addr × Obj)) (s : Shared) (σ : St) (H : Hp) (x y : V) (v u : Value) (Q : VK), Inv X pins σ H s → RelV x v → RelV y u → r x y H Q →
    wpAny (model X.prog X.w) X.A (f v u) (EP X pins σ Q) X.xe s
def CallR (X : Cx) (f : Value) (r : List V → Hp → VK → Prop) : Prop :=
  ∀ (pins : List (Addr × Obj)) (s : Shared) (σ : St) (H : Hp) (xs : List V) (us : List Value) (Q : VK), Inv X pins σ H s → Vals xs us → r xs H Q →
    wpAny (model X.prog X.w) X.A (call f us) (EP X pins σ Q) X.xe s
def tOp (r : R2) (ta tb : TE) : TE := fun σ H Q => ta σ H fun x H1 => tb σ H1 fun y H2 => r x y H2 Q
def rI (C : Int → Int → Prop) (g : Int → Int → V) : R2 := fun x y H Q => ∃ i j, x = .int i ∧ y = .int j ∧ C i j ∧ Q (g i j) H
def rI0 (g : Int → Int → V) : R2 := fun x y H Q => ∃ i j, x = .int i ∧ y = .int j ∧ Q (g i j) H
section
variable {X : Cx} {a b c : Expr} {ta tb tc : TE} {pos : Pos}
theorem binT (ha : PE X a ta) (hb : PE X b tb) {pins : List (Addr × Obj)} {s : Shared} {σ : St} {H : Hp} {R : V → V → Hp → Prop} (I : Inv X pins σ H s)
    (h : ta σ H fun x H1 => tb σ H1 fun y H2 => R x y H2) {Q : Value → Shared → Prop} {f : Value → Value → Sem Value}
    (hf : ∀ v u s2 x y H2, Inv X pins σ H2 s2 → RelV x v → RelV y u → R x y H2 → wpAny (model X.prog X.w) X.A (f v u) Q X.xe s2) :
    wpAny (model X.prog X.w) X.A (eval a X.env) (fun v s₁ => wpAny (model X.prog X.w) X.A (eval b X.env) (fun u s₂ => wpAny (model X.prog X.w) X.A (f v u) Q X.xe s₂) X.xe s₁) X.xe s := by
  refine thn (ha pins s σ H _ I h) fun v s1 ⟨x, H1, I1, r1, q1⟩ => ?_
  refine thn (hb pins s1 σ H1 _ I1 q1) fun u s2 ⟨y, H2, I2, r2, q2⟩ => ?_
  exact hf v u s2 x y H2 I2 r1 r2 q2
theorem pe_op {op : Operator} {r : R2} (ho : OpR X (binaryOp op) r) (ha : PE X a ta) (hb : PE X b tb) : PE X (.BinOp a op b pos) (tOp r ta tb) := by
  intro pins s σ H Q I h
  exact wpAny_BinOp (binT ha hb I h fun v u s2 x y H2 I2 rx ry q => ho pins s2 σ H2 x y v u Q I2 rx ry q)
theorem opI {f : Value → Value → Sem Value} {C : Int → Int → Prop} {g : Int → Int → Int}
    (rule : ∀ (i j : Int) (t u : Tok) (s : Shared) (Q : Value → Shared → Prop) (E : Value → Shared → Prop), C i j → Q (.int (g i j) s.toks) { s with toks := s.toks + 1 } → wpAny (model X.prog X.w) X.A (f (.int i t) (.int j u)) Q E s) :
    OpR X f (rI C fun i j => .int (g i j)) := by
  intro pins s σ H x y v u Q I rx ry h
  obtain ⟨i, j, rfl, rfl, hc, q⟩ := h
  obtain ⟨t, rfl⟩ := rx
  obtain ⟨t', rfl⟩ := ry
  exact rule i j t t' s _ _ hc ⟨.int (g i j), H, I.tok _, ⟨_, rfl⟩, q⟩
theorem opI0 {f : Value → Value → Sem Value} {g : Int → Int → Int}
    (rule : ∀ (i j : Int) (t u : Tok) (s : Shared) (Q : Value → Shared → Prop) (E : Value → Shared → Prop), Q (.int (g i j) s.toks) { s with toks := s.toks + 1 } → wpAny (model X.prog X.w) X.A (f (.int i t) (.int j u)) Q E s) :
    OpR X f (rI0 fun i j => .int (g i j)) := by
  intro pins s σ H x y v u Q I rx ry h
  obtain ⟨i, j, rfl, rfl, q⟩ := h
  obtain ⟨t, rfl⟩ := rx
  obtain ⟨t', rfl⟩ := ry
  exact rule i j t t' s _ _ ⟨.int (g i j), H, I.tok _, ⟨_, rfl⟩, q⟩
theorem opB0 {f : Value → Value → Sem Value} {g : Int → Int → Bool}
    (rule : ∀ (i j : Int) (t u : Tok) (s : Shared) (Q : Value → Shared → Prop) (E : Value → Shared → Prop), Q (.bool (g i j)) s → wpAny (model X.prog X.w) X.A (f (.int i t) (.int j u)) Q E s) :
    OpR X f (rI0 fun i j => .bl (g i j)) := by
  intro pins s σ H x y v u Q I rx ry h
  obtain ⟨i, j, rfl, rfl, q⟩ := h
  obtain ⟨t, rfl⟩ := rx
  obtain ⟨t', rfl⟩ := ry
  exact rule i j t t' s _ _ ⟨.bl (g i j), H, I, rfl, q⟩
def CDiv (i j : Int) : Prop := 0 < j ∧ j < 1073741824
def CPow (i j : Int) : Prop := 0 ≤ j ∧ j ≤ 1000000 ∧ i.natAbs < 2 ^ 64
def CMul (i j : Int) : Prop := (-(2 ^ 64) < i ∧ i < 2 ^ 64) ∨ (-(2 ^ 64) < j ∧ j < 2 ^ 64)
theorem CMul.ok {i j : Int} (h : CMul i j) : IntMulOk i j := by
  rcases h with ⟨h1, h2⟩ | ⟨h1, h2⟩
  · exact .of_left (intBits_le_64 h1 h2)
  · exact .of_right (intBits_le_64 h1 h2)
theorem op_add : OpR X (binaryOp .Add) (rI0 fun i j => .int (i + j)) := opI0 fun _ _ _ _ _ _ _ q => add_int q
theorem op_sub : OpR X (binaryOp .Sub) (rI0 fun i j => .int (i - j)) := opI0 fun _ _ _ _ _ _ _ q => sub_int q
theorem op_mul : OpR X (binaryOp .Mult) (rI CMul fun i j => .int (i * j)) := opI fun _ _ _ _ _ _ _ hc q => mul_int q hc.ok
theorem op_fdiv : OpR X (binaryOp .FloorDiv) (rI CDiv fun i j => .int (i / j)) := opI fun i j _ _ _ _ _ hc q => by
  have h1 : (0 : Int) < j := hc.1
  have h2 : j < 1073741824 := hc.2
  exact floordiv_int (by omega) (by rw [Int.fdiv_eq_ediv_of_nonneg i (by omega)]; exact q) (.inl (PyProof.noPylong_small (by omega)))
theorem op_mod : OpR X (binaryOp .Mod) (rI (fun _ j => 0 < j) fun i j => .int (i % j)) := opI fun i j _ _ _ _ _ hc q => by
  have h1 : (0 : Int) < j := hc
  exact mod_int' (by omega) (by rw [Int.fmod_eq_emod_of_nonneg i (by omega)]; exact q)
theorem op_pow : OpR X (binaryOp .Pow) (rI CPow fun i j => .int (i ^ j.toNat)) := opI fun _ _ _ _ _ _ _ hc q => pow_int_small hc.1 hc.2.1 hc.2.2 q
end
def scal : V → V → Bool
  | .non, .non => true | .non, .int _ => true | .int _, .non => true | .non, .bl _ => true | .bl _, .non => true | .non, .str _ => true | .str _, .non => true
  | .int _, .int _ => true | .bl _, .bl _ => true | .str _, .str _ => true | .byt _, .byt _ => true
  | .int _, .str _ => true | .str _, .int _ => true | .bl _, .str _ => true | .str _, .bl _ => true
  | _, _ => false
def rEq : R2 := fun x y H Q => scal x y = true ∧ Q (.bl (decide (x = y))) H
def rNe : R2 := fun x y H Q => scal x y = true ∧ Q (.bl (!decide (x = y))) H
theorem dec_int {i j : Int} : decide (V.int i = V.int j) = (i == j) := by
  rw [Bool.eq_iff_iff]
  simp
theorem dec_bl {i j : Bool} : decide (V.bl i = V.bl j) = (i == j) := by
  rw [Bool.eq_iff_iff]
  simp
theorem dec_str {i j : Str} : decide (V.str i = V.str j) = (i == j) := by
  rw [Bool.eq_iff_iff]
  simp
theorem dec_byt {i j : Array UInt8} : decide (V.byt i = V.byt j) = (i.toList == j.toList) := by
  rw [Bool.eq_iff_iff]
  cases i
  cases j
  simp
section
variable {X : Cx} {a b c : Expr} {ta tb tc : TE} {pos : Pos}
theorem fin_bl {pins : List (Addr × Obj)} {σ : St} {H : Hp} {s : Shared} {Q : VK} {k k' : Bool} (I : Inv X pins σ H s) (q : Q (.bl k) H) (e : k = k') : EP X pins σ Q (.bool k') s := by
  subst e
  exact ⟨.bl k, H, I, rfl, q⟩
theorem op_eq : OpR X (compareOp .Eq) rEq := by
  intro pins s σ H x y v u Q I rx ry h
  obtain ⟨hs, q⟩ := h
  cases x with
  | non =>
    cases rx
    cases y with
    | non => cases ry; exact PySem.EqNone.eq_none_none (fin_bl I q (by simp))
    | bl j => cases ry; exact PySem.EqNone.eq_none_bool (fin_bl I q (by simp))
    | int j => obtain ⟨t', rfl⟩ := ry; exact PySem.EqNone.eq_none_int (fin_bl I q (by simp))
    | str j => obtain ⟨t', rfl⟩ := ry; exact PySem.EqNone.eq_none_str (fin_bl I q (by simp))
    | _ => exact absurd (show false = true from hs) Bool.false_ne_true
  | bl i =>
    cases rx
    cases y with
    | non => cases ry; exact PySem.EqNone.eq_bool_none (fin_bl I q (by simp))
    | bl j => cases ry; exact eq_bool (fin_bl I q dec_bl)
    | str j => obtain ⟨t', rfl⟩ := ry; exact PySem.EqMixed.eq_bool_str (fin_bl I q (by simp))
    | _ => exact absurd (show false = true from hs) Bool.false_ne_true
  | int i =>
    obtain ⟨t, rfl⟩ := rx
    cases y with
    | non => cases ry; exact PySem.EqNone.eq_int_none (fin_bl I q (by simp))
    | int j => obtain ⟨t', rfl⟩ := ry; exact eq_int (fin_bl I q dec_int)
    | str j => obtain ⟨t', rfl⟩ := ry; exact PySem.EqMixed.eq_int_str (fin_bl I q (by simp))
    | _ => exact absurd (show false = true from hs) Bool.false_ne_true
  | str i =>
    obtain ⟨t, rfl⟩ := rx
    cases y with
    | non => cases ry; exact PySem.EqNone.eq_str_none (fin_bl I q (by simp))
    | bl j => cases ry; exact PySem.EqMixed.eq_str_bool (fin_bl I q (by simp))
    | int j => obtain ⟨t', rfl⟩ := ry; exact PySem.EqMixed.eq_str_int (fin_bl I q (by simp))
    | str j => obtain ⟨t', rfl⟩ := ry; exact eq_str (fin_bl I q dec_str)
    | _ => exact absurd (show false = true from hs) Bool.false_ne_true
  | byt i =>
    obtain ⟨t, rfl⟩ := rx
    cases y with
    | byt j => obtain ⟨t', rfl⟩ := ry; exact PySem.W.eq_bytes (fin_bl I q dec_byt)
    | _ => exact absurd (show false = true from hs) Bool.false_ne_true
  | _ => cases y <;> exact absurd (show false = true from hs) Bool.false_ne_true
theorem op_ne : OpR X (compareOp .NotEq) rNe := by
  intro pins s σ H x y v u Q I rx ry h
  obtain ⟨hs, q⟩ := h
  cases x with
  | non =>
    cases rx
    cases y with
    | non => cases ry; exact PySem.EqNone.ne_none_none (fin_bl I q (by simp))
    | bl j => cases ry; exact PySem.EqNone.ne_none_bool (fin_bl I q (by simp))
    | int j => obtain ⟨t', rfl⟩ := ry; exact PySem.EqNone.ne_none_int (fin_bl I q (by simp))
    | str j => obtain ⟨t', rfl⟩ := ry; exact PySem.EqNone.ne_none_str (fin_bl I q (by simp))
    | _ => exact absurd (show false = true from hs) Bool.false_ne_true
  | bl i =>
    cases rx
    cases y with
    | non => cases ry; exact PySem.EqNone.ne_bool_none (fin_bl I q (by simp))
    | bl j => cases ry; exact ne_bool (fin_bl I q (congrArg not dec_bl))
    | str j => obtain ⟨t', rfl⟩ := ry; exact PySem.EqMixed.ne_bool_str (fin_bl I q (by simp))
    | _ => exact absurd (show false = true from hs) Bool.false_ne_true
  | int i =>
    obtain ⟨t, rfl⟩ := rx
    cases y with
    | non => cases ry; exact PySem.EqNone.ne_int_none (fin_bl I q (by simp))
    | int j => obtain ⟨t', rfl⟩ := ry; exact ne_int (fin_bl I q (congrArg not dec_int))
    | str j => obtain ⟨t', rfl⟩ := ry; exact PySem.EqMixed.ne_int_str (fin_bl I q (by simp))
    | _ => exact absurd (show false = true from hs) Bool.false_ne_true
  | str i =>
    obtain ⟨t, rfl⟩ := rx
    cases y with
    | non => cases ry; exact PySem.EqNone.ne_str_none (fin_bl I q (by simp))
    | bl j => cases ry; exact PySem.EqMixed.ne_str_bool (fin_bl I q (by simp))
    | int j => obtain ⟨t', rfl⟩ := ry; exact PySem.EqMixed.ne_str_int (fin_bl I q (by simp))
    | str j => obtain ⟨t', rfl⟩ := ry; exact ne_str (fin_bl I q (congrArg not dec_str))
    | _ => exact absurd (show false = true from hs) Bool.false_ne_true
  | byt i =>
    obtain ⟨t, rfl⟩ := rx
    cases y with
    | byt j => obtain ⟨t', rfl⟩ := ry; exact PySem.W.ne_bytes (fin_bl I q (congrArg not dec_byt))
    | _ => exact absurd (show false = true from hs) Bool.false_ne_true
  | _ => cases y <;> exact absurd (show false = true from hs) Bool.false_ne_true
theorem op_lt : OpR X (compareOp .Lt) (rI0 fun i j => .bl (decide (i < j))) := opB0 fun _ _ _ _ _ _ _ q => lt_int q
theorem op_le : OpR X (compareOp .LtE) (rI0 fun i j => .bl (decide (i ≤ j))) := opB0 fun _ _ _ _ _ _ _ q => le_int q
theorem op_gt : OpR X (compareOp .Gt) (rI0 fun i j => .bl (decide (j < i))) := opB0 fun _ _ _ _ _ _ _ q => gt_int q
theorem op_ge : OpR X (compareOp .GtE) (rI0 fun i j => .bl (decide (j ≤ i))) := opB0 fun _ _ _ _ _ _ _ q => ge_int q
theorem op_isN : OpR X (compareOp .Is) (fun x y H Q => y = .non ∧ Q (.bl (decide (x = .non))) H) := by
  intro pins s σ H x y v u Q I rx ry h
  obtain ⟨rfl, q⟩ := h
  cases ry
  refine is_none_gen (fin_bl I q ?_)
  cases x <;> first
    | (cases rx; rfl)
    | (obtain ⟨t, rfl⟩ := rx; rfl)
theorem OpR.or {f : Value → Value → Sem Value} {r r' : R2} (h : OpR X f r) (h' : OpR X f r') : OpR X f (fun x y H Q => r x y H Q ∨ r' x y H Q) := by
  intro pins s σ H x y v u Q I rx ry q
  rcases q with q | q
  · exact h pins s σ H x y v u Q I rx ry q
  · exact h' pins s σ H x y v u Q I rx ry q
theorem nomark (b : Expr) {op : CmpOp} (h : op ≠ .In := by decide) (h2 : op ≠ .NotIn := by decide) : behindInMarks op b = false := by
  have e1 : (op == CmpOp.In) = false := by cases op <;> first | rfl | exact absurd rfl h
  have e2 : (op == CmpOp.NotIn) = false := by cases op <;> first | rfl | exact absurd rfl h2
  cases b <;> simp [behindInMarks, e1, e2]
theorem pe_cmpR {op : CmpOp} {r : R2} (ho : OpR X (compareOp op) r) (ha : PE X a ta) (hb : PE X b tb) (hm : behindInMarks op b = false) : PE X (.Compare a [op] [b] pos) (tOp r ta tb) := by
  intro pins s σ H Q I h
  exact wpAny_Compare1 (binT ha hb I h fun v u s2 x y H2 I2 rx ry q => ho pins s2 σ H2 x y v u Q I2 rx ry q) hm
def tTest (t : TE) : TT := fun σ H Q => t σ H fun x H' => ∃ k, x = .bl k ∧ Q k H'
theorem pt_cmpR {op : CmpOp} {r : R2} (ho : OpR X (compareOp op) r) (ha : PE X a ta) (hb : PE X b tb) (hm : behindInMarks op b = false) : PT X (.Compare a [op] [b] pos) (tTest (tOp r ta tb)) := by
  intro pins s σ H Q I h
  refine wpAny_isTrue_Compare1 (thn (ha pins s σ H _ I h) fun v s1 ⟨x, H1, I1, r1, q1⟩ => thn (hb pins s1 σ H1 _ I1 q1) fun u s2 ⟨y, H2, I2, r2, q2⟩ =>
    thn (ho pins s2 σ H2 x y v u _ I2 r1 r2 q2) fun c s3 ⟨z, H3, I3, r3, k, e, q3⟩ => ?_) hm
  subst e
  cases r3
  exact wpAny_truthy_bool ⟨H3, I3, q3⟩
def tChain (r r' : R2) (ta tb tc : TE) : TE := fun σ H Q => ta σ H fun x H1 => tb σ H1 fun y H2 => r x y H2 fun z H3 => ∃ k, z = .bl k ∧
  (if k = true then tc σ H3 fun w' H4 => r' y w' H4 Q else Q (.bl false) H3)
theorem pe_chain {op op' : CmpOp} {r r' : R2} (ho : OpR X (compareOp op) r) (ho' : OpR X (compareOp op') r') (ha : PE X a ta) (hb : PE X b tb) (hc : PE X c tc)
    (hm : lastMarks [op, op'] [b, c] = false := by with_unfolding_all rfl) : PE X (.Compare a [op, op'] [b, c] pos) (tChain r r' ta tb tc) := by
  intro pins s σ H Q I h
  refine Compare_chain (thn (ha pins s σ H _ I h) fun v s1 ⟨x, H1, I1, r1, q1⟩ => chain_link (thn (hb pins s1 σ H1 _ I1 q1) fun u s2 ⟨y, H2, I2, r2, q2⟩ =>
    thn (ho pins s2 σ H2 x y v u _ I2 r1 r2 q2) fun d s3 ⟨z, H3, I3, r3, k, e, q3⟩ => ?_)) hm
  subst e
  cases r3
  refine wpAny_truthy_bool ?_
  cases k with
  | false => exact ite_ff ⟨.bl false, H3, I3, rfl, q3⟩
  | true => exact ite_tt (chain_last (thn (hc pins s3 σ H3 _ I3 q3) fun w' s4 ⟨z', H4, I4, r4, q4⟩ => ho' pins s4 σ H4 y z' u w' Q I4 r2 r4 q4))
theorem pt_chain {op op' : CmpOp} {r r' : R2} (ho : OpR X (compareOp op) r) (ho' : OpR X (compareOp op') r') (ha : PE X a ta) (hb : PE X b tb) (hc : PE X c tc)
    (hm : lastMarks [op, op'] [b, c] = false := by with_unfolding_all rfl) : PT X (.Compare a [op, op'] [b, c] pos) (tTest (tChain r r' ta tb tc)) := by
  intro pins s σ H Q I h
  refine isTrue_chain (thn (ha pins s σ H _ I h) fun v s1 ⟨x, H1, I1, r1, q1⟩ => test_link (thn (hb pins s1 σ H1 _ I1 q1) fun u s2 ⟨y, H2, I2, r2, q2⟩ =>
    thn (ho pins s2 σ H2 x y v u _ I2 r1 r2 q2) fun d s3 ⟨z, H3, I3, r3, k, e, q3⟩ => ?_)) hm
  subst e
  cases r3
  refine wpAny_truthy_bool ?_
  cases k with
  | false =>
    obtain ⟨k', e', q'⟩ := q3
    cases e'
    exact ite_ff ⟨H3, I3, q'⟩
  | true =>
    refine ite_tt (test_last (thn (hc pins s3 σ H3 _ I3 q3) fun w' s4 ⟨z', H4, I4, r4, q4⟩ => thn (ho' pins s4 σ H4 y z' u w' _ I4 r2 r4 q4) fun d' s5 ⟨z2, H5, I5, r5, k2, e2, q5⟩ => ?_))
    subst e2
    cases r5
    exact wpAny_truthy_bool ⟨H5, I5, q5⟩
theorem line63 : (sizeLine : Nat) < 2 ^ 63 := by rw [sizeLine_eq]; decide
theorem op_add_str : OpR X (binaryOp .Add) (fun x y H Q => ∃ i j, x = .str i ∧ y = .str j ∧ i.length + j.length ≤ sizeLine ∧ Q (.str (i ++ j)) H) := by
  intro pins s σ H x y v u Q I rx ry h
  obtain ⟨i, j, rfl, rfl, hz, q⟩ := h
  obtain ⟨t, rfl⟩ := rx
  obtain ⟨t', rfl⟩ := ry
  exact add_str (fun t' tk => ⟨.str (i ++ j), H, I.tok _, ⟨_, rfl⟩, q⟩) hz
theorem vals1 {x : V} {us : List Value} (r : Vals [x] us) : ∃ u, us = [u] ∧ RelV x u := by
  cases r with
  | cons r1 r2 => cases r2; exact ⟨_, rfl, r1⟩
theorem vals2 {x y : V} {us : List Value} (r : Vals [x, y] us) : ∃ u w', us = [u, w'] ∧ RelV x u ∧ RelV y w' := by
  cases r with
  | cons r1 r2 =>
    cases r2 with
    | cons r3 r4 => cases r4; exact ⟨_, _, rfl, r1, r3⟩
theorem call_max2 (hc : X.calm = true) : CallR X (.builtin "max") (fun xs H Q => ∃ i j, xs = [.int i, .int j] ∧ Q (.int (if j > i then j else i)) H) := by
  intro pins s σ H xs us Q I r h
  obtain ⟨i, j, rfl, q⟩ := h
  obtain ⟨u, w', rfl, ⟨t, rfl⟩, ⟨t', rfl⟩⟩ := vals2 r
  refine max_two_ints (I.ok.hd hc) fun h' tk k => ⟨_, H, I.kept k, ?_, q⟩
  by_cases hj : j > i
  · rw [if_pos hj, if_pos hj]; exact ⟨_, rfl⟩
  · rw [if_neg hj, if_neg hj]; exact ⟨_, rfl⟩
theorem call_min2 (hc : X.calm = true) : CallR X (.builtin "min") (fun xs H Q => ∃ i j, xs = [.int i, .int j] ∧ Q (.int (if j < i then j else i)) H) := by
  intro pins s σ H xs us Q I r h
  obtain ⟨i, j, rfl, q⟩ := h
  obtain ⟨u, w', rfl, ⟨t, rfl⟩, ⟨t', rfl⟩⟩ := vals2 r
  refine min_two_ints (I.ok.hd hc) fun h' tk k => ⟨_, H, I.kept k, ?_, q⟩
  by_cases hj : j < i
  · rw [if_pos hj, if_pos hj]; exact ⟨_, rfl⟩
  · rw [if_neg hj, if_neg hj]; exact ⟨_, rfl⟩
def LenV (K : PySem.W.Frag) (x : V) (H : Hp) (n : Nat) : Prop :=
  match x with
  | .str y => y.length ≤ sizeLine ∧ n = y.length
  | .byt y => y.size ≤ sizeLine ∧ n = y.size
  | .ref p => (∃ xs, SqL K H p xs ∧ n = xs.length) ∨ ∃ xs, SqT K H p xs ∧ n = xs.length
  | _ => False
theorem call_len : CallR X (.builtin "len") (fun xs H Q => ∃ x n, xs = [x] ∧ LenV X.K x H n ∧ Q (.int n) H) := by
  intro pins s σ H xs us Q I r h
  obtain ⟨x, n, rfl, e, q⟩ := h
  obtain ⟨u, rfl, rx⟩ := vals1 r
  have hl := line63
  have hs : sizeLine = 16777216 := sizeLine_eq
  cases x with
  | str y =>
    obtain ⟨t, rfl⟩ := rx
    obtain ⟨hy, e'⟩ : y.length ≤ sizeLine ∧ n = y.length := e
    subst e'
    exact len_str (by omega) ⟨.int _, H, I.tok _, ⟨_, rfl⟩, q⟩
  | byt y =>
    obtain ⟨t, rfl⟩ := rx
    obtain ⟨hy, e'⟩ : y.size ≤ sizeLine ∧ n = y.size := e
    subst e'
    exact PySem.W.len_bytes (by omega) ⟨.int _, H, I.tok _, ⟨_, rfl⟩, q⟩
  | ref p =>
    cases rx
    have e' : (∃ xs, SqL X.K H p xs ∧ n = xs.length) ∨ ∃ xs, SqT X.K H p xs ∧ n = xs.length := e
    rcases e' with ⟨xs, hx, e'⟩ | ⟨xs, hx, e'⟩
    · subst e'
      obtain ⟨its, r', pl, hz⟩ := I.list hx
      have hlen := r'.length
      exact Calls.call_len_list pl.isList (by simp only [List.size_toArray]; omega) ⟨.int xs.length, H, I.tok _, ⟨_, by simp only [List.size_toArray]; rw [hlen]⟩, q⟩
    · subst e'
      obtain ⟨its, r', pl, hz⟩ := I.tuple hx
      have hlen := r'.length
      exact len_tuple pl (by simp only [List.size_toArray]; omega) ⟨.int xs.length, H, I.tok _, ⟨_, by simp only [List.size_toArray]; rw [hlen]⟩, q⟩
  | _ => exact (show False from e).elim
end
structure ObjM (h : Heap) (x dx C : Addr) (mA : Str → Option Value) : Prop where
  obj : h.get? x = some (PySem.W.instObj C dx)
  ns : h.Ns1 dx mA
  ne : dx ≠ x
theorem lookIn_ns {h : Heap} {dx : Addr} {mA : Str → Option Value} (n : h.Ns1 dx mA) : ∃ od, h.get? dx = some od ∧ ∀ name, PySem.W.lookIn name od = some (mA name) := by
  obtain ⟨o, es, ep, ho, hd, hk, _, hm⟩ := n
  refine ⟨o, ho, fun name => ?_⟩
  have e := hm name
  unfold nsFind findBy at e
  rw [← Array.find?_toList] at e
  unfold PySem.W.lookIn
  rw [hd]
  dsimp only
  split
  · rename_i y q
    rw [q] at e
    exact congrArg some e
  · rename_i q
    rw [q] at e
    have a : es.toList.any (·.refKey) = false := by
      rw [List.any_eq_false]
      intro y hy
      obtain ⟨z, t, hkey⟩ := hk y (Array.mem_toList_iff.mp hy)
      simp [DictEntry.refKey, hkey]
    have a' : ¬ es.toList.any (·.refKey) = true := by rw [a]; exact Bool.false_ne_true
    rw [if_neg a']
    exact congrArg some e
theorem ObjM.look {h : Heap} {x dx C : Addr} {mA : Str → Option Value} (I : ObjM h x dx C mA) : ∃ od, PySem.W.InstAt h x (PySem.W.instObj C dx) C (some od) ∧ ∀ name, PySem.W.lookIn name od = some (mA name) :=
  let ⟨od, ho, hl⟩ := lookIn_ns I.ns
  ⟨od, ⟨I.obj, rfl, rfl, ho⟩, hl⟩
section
variable {prog : Program} {w : World} {A : Around} {E : Value → Shared → Prop} {s : Shared} {K : PySem.W.Frag} {x dx C f : Addr} {mA : Str → Option Value} {name : Str} {v : Value}
theorem get_map {expr : Bool} {Q : Value → Shared → Prop} (X : K.In s.heap) (I : ObjM s.heap x dx C mA) (hg : PySem.W.plainGet K C name = true) (hh : PySem.W.hasDictIn K C = true)
    (ha : PySem.W.findIn K (.ref C) name = some none) (hv : mA name = some v) (hv' : PySem.W.handedIn v = true) (h : Q v { s with toks := s.toks + 1 }) :
    wpAny (model prog w) A (getAttr (.ref x) name expr) Q E s := by
  obtain ⟨od, J, hl⟩ := I.look
  exact PySem.W.get_value X J (PySem.W.plainGet_of hg).1 (PySem.W.findObj_own hh ha rfl (by rw [hl, hv])) hv' h
theorem get_meth {pl : Sem Bool} {Q : Value × List Value → Shared → Prop} (X : K.In s.heap) (I : ObjM s.heap x dx C mA) (hg : PySem.W.plainGet K C name = true)
    (hf : PySem.W.findIn K (.ref C) name = some (some (.ref f))) (ht : PySem.W.isFn K (.ref f) = true) (hv : mA name = none) (h : Q (.ref f, [.ref x]) s) :
    wpAny (model prog w) A (getMethod (.ref x) name pl) Q E s := by
  obtain ⟨od, J, hl⟩ := I.look
  exact PySem.W.method_fn X J (PySem.W.plainGet_of hg).1 (PySem.W.plainGet_of hg).2 hf (beq_iff_eq.mp ht) (by show (PySem.W.lookIn name od).map (·.isSome) = some false; rw [hl, hv]; rfl) h
theorem set_map {ns : List Str} {Q : Unit → Shared → Prop} (X : K.In s.heap) (I : ObjM s.heap x dx C mA)
    (hs : PySem.W.findIn K (.ref C) "__setattr__" = some (some (.builtin "object.__setattr__"))) (hp : PySem.W.plainOver K C = true) (ht : PySem.W.takerIn K C name = some none) (hh : PySem.W.hasDictIn K C = true)
    (hw : PySem.Within mA ns) (hsz : ns.length ≤ sizeLine)
    (h : ∀ h', ObjM h' x dx C (fun y => if y = name then some v else mA y) → Heap.SameBut dx s.heap h' → Q () { s with heap := h', toks := s.toks + 2 }) :
    wpAny (model prog w) A (setAttr (.ref x) name v) Q E s := by
  obtain ⟨od, J, hl⟩ := I.look
  refine PySem.W.set_plain X J hs (PySem.W.osa_open (s := { s with toks := s.toks + 1 }) (r := none) X J hp ht fun b => ?_)
  obtain ⟨cd, hc, hd'⟩ := PySem.W.any_some hh
  have hx : s.heap.get? x = some ⟨.ref C, some dx, .plain, #[]⟩ := I.obj
  refine wpAny_bind (wpAny_pure (wpAny_bind (wpAny_bind (wpAny_loadPart hx (wpAny_bind (PySem.W.Looks.here (s := { s with toks := s.toks + 1 }) (PySem.W.looks_clsIn X hc) ?_))))))
  rw [hd']
  refine wpAny_pure (a := some dx) (wpAny_bind (wpAny_pure (wpAny_bind ?_)))
  refine wpAny_nsSet1 (s := { s with toks := s.toks + 1 }) I.ns fun h' hn2 hs2 => ?_
  obtain ⟨oD, esD, epD, hoD, hdD, hcD⟩ := hn2.count (PySem.Within.cons name v hw)
  refine wpAny_bind (wpAny_lookBehind hoD (by rw [hdD]; exact pastItsLine_dict (Nat.le_trans hcD (by rw [List.length_cons]; omega))) ?_)
  exact wpAny_pure (h _ ⟨(hs2.2 _ (Ne.symm I.ne)).trans I.obj, hn2, I.ne⟩ hs2)
theorem make_map {R : Result → Shared → Prop} {vs : List Value} {kw : List (Str × Value)} (X : K.In s.heap) (hm : PySem.W.makesIn K C = true)
    (hi : PySem.W.findIn K (.ref C) "__init__" = some (some (.ref f))) (hf : PySem.W.typeIn K (.ref f) = some (.type "function"))
    (h : codeAny (model prog w) (A.under (.builtin "type.__call__" ⟨.ref C :: vs, kw⟩)) (.call (.ref f) ⟨.ref (s.heap.objs.size + 1) :: vs, kw⟩) (PySem.W.InitBack (s.heap.objs.size + 1) R)
      { s with heap := (s.heap.push PySem.W.emptyDict).push (PySem.W.instObj C s.heap.objs.size) }) :
    codeAny (model prog w) A (.call (.ref C) ⟨vs, kw⟩) R s := by
  obtain ⟨hh, g, d, t, os⟩ := s
  exact PySem.W.make_core (PySem.W.makes_of X hm) (PySem.W.looks_findIn X hi) (fun self => PySem.W.bind_fn X self hf) (.inl rfl) h
end
def putF (f : Str) (v : V) : List (Str × V) → List (Str × V)
  | [] => [(f, v)]
  | (g, x) :: r => if g = f then (g, v) :: r else (g, x) :: putF f v r
theorem lookup_putF (f g : Str) (v : V) : ∀ fs : List (Str × V), (putF f v fs).lookup g = if g = f then some v else fs.lookup g
  | [] => by
    show List.lookup g [(f, v)] = _
    by_cases h : g = f
    · have hb : (g == f) = true := beq_iff_eq.mpr h
      simp only [List.lookup, hb, if_pos h]
    · have hb : (g == f) = false := beq_eq_false_iff_ne.mpr h
      simp only [List.lookup, hb, if_neg h]
  | (k, x) :: r => by
    have ih := lookup_putF f g v r
    rw [show putF f v ((k, x) :: r) = (if k = f then (k, v) :: r else (k, x) :: putF f v r) from rfl]
    by_cases hk : k = f
    · rw [if_pos hk]
      by_cases h : g = k
      · have hb : (g == k) = true := beq_iff_eq.mpr h
        simp only [List.lookup, hb, if_pos (h.trans hk)]
      · have hb : (g == k) = false := beq_eq_false_iff_ne.mpr h
        simp only [List.lookup, hb, if_neg (fun e : g = f => h (e.trans hk.symm))]
    · rw [if_neg hk]
      by_cases h : g = k
      · have hb : (g == k) = true := beq_iff_eq.mpr h
        simp only [List.lookup, hb, if_neg (fun e : g = f => hk (h.symm.trans e))]
      · have hb : (g == k) = false := beq_eq_false_iff_ne.mpr h
        simp only [List.lookup, hb]
        exact ih
theorem keys_putF (f : Str) (v : V) : ∀ fs : List (Str × V), f ∈ (putF f v fs).map (·.1) ∧ ∀ g, g ∈ fs.map (·.1) → g ∈ (putF f v fs).map (·.1)
  | [] => ⟨by simp [putF], fun g h => by simp at h⟩
  | (k, x) :: r => by
    obtain ⟨i1, i2⟩ := keys_putF f v r
    rw [show putF f v ((k, x) :: r) = (if k = f then (k, v) :: r else (k, x) :: putF f v r) from rfl]
    by_cases hk : k = f
    · rw [if_pos hk]
      subst hk
      exact ⟨by simp, fun g h => by simpa using h⟩
    · rw [if_neg hk]
      refine ⟨?_, fun g h => ?_⟩
      · rw [List.map_cons]
        exact List.mem_cons_of_mem _ i1
      · rw [List.map_cons] at h ⊢
        rcases List.mem_cons.mp h with e | e
        · exact List.mem_cons.mpr (.inl e)
        · exact List.mem_cons_of_mem _ (i2 g e)
theorem length_putF (f : Str) (v : V) : ∀ fs : List (Str × V), (putF f v fs).length ≤ fs.length + 1
  | [] => by simp [putF]
  | (k, x) :: r => by
    have ih := length_putF f v r
    rw [show putF f v ((k, x) :: r) = (if k = f then (k, v) :: r else (k, x) :: putF f v r) from rfl]
    by_cases hk : k = f
    · rw [if_pos hk, List.length_cons, List.length_cons]; omega
    · rw [if_neg hk, List.length_cons, List.length_cons]; omega
theorem RelO.some_of {v : V} {o : Option Value} (r : RelO (some v) o) : ∃ u, o = some u ∧ RelV v u := by
  cases o with
  | none => exact (show False from r).elim
  | some u => exact ⟨u, rfl, r⟩
theorem RelO.none_of {o : Option Value} (r : RelO none o) : o = none := by
  cases o with
  | none => rfl
  | some u => exact (show False from r).elim
theorem handed_of {v : V} {u : Value} (r : RelV v u) : PySem.W.handedIn u = true := by
  cases v with
  | non => cases (show u = Value.none from r); rfl
  | bl b => cases (show u = Value.bool b from r); rfl
  | int i => obtain ⟨t, e⟩ := (show ∃ t, u = Value.int i t from r); cases e; rfl
  | str x => obtain ⟨t, e⟩ := (show ∃ t, u = Value.str x t from r); cases e; rfl
  | byt b => obtain ⟨t, e⟩ := (show ∃ t, u = Value.bytes b t from r); cases e; rfl
  | flt b => obtain ⟨t, e⟩ := (show ∃ t, u = Value.float b t from r); cases e; rfl
  | ref a => cases (show u = Value.ref a from r); rfl
  | ty n => cases (show u = Value.type n from r); rfl
section
variable {P : Program} {w : World} {H H' : Hp} {h h' : Heap} {a C dx : Addr} {fs fs' : List (Str × V)}
theorem ins_get (hok : HOk P w H h) (e : H a = some (.ins C dx fs)) : ∃ mA, ObjM h a dx C mA ∧ (∀ f, RelO (fs.lookup f) (mA f)) ∧ PySem.Within mA (fs.map (·.1)) ∧ fs.length ≤ 1000 ∧ H dx = some (.own a) := by
  obtain ⟨d, z, ne, ob, mA, n, r, q⟩ := (show ObjOk P w H h a (.ins C dx fs) from hok a _ e)
  exact ⟨mA, ⟨ob, n, ne⟩, r, q, z, d⟩
end
structure Cls (K : PySem.W.Frag) (C : Addr) : Prop where
  pg : PySem.W.plainGet K C Str.empty = true
  hd : PySem.W.hasDictIn K C = true
  po : PySem.W.plainOver K C = true
  sa : PySem.W.findIn K (.ref C) "__setattr__" = some (some (.builtin "object.__setattr__"))
theorem Cls.get {K : PySem.W.Frag} {C : Addr} (c : Cls K C) (f : Str) : PySem.W.plainGet K C f = true := c.pg
def NoAttr (K : PySem.W.Frag) (C : Addr) (f : Str) : Prop := PySem.W.findIn K (.ref C) f = some none
theorem NoAttr.taker {K : PySem.W.Frag} {C : Addr} {f : Str} (n : NoAttr K C f) : PySem.W.takerIn K C f = some none := by
  unfold PySem.W.takerIn
  rw [show PySem.W.findIn K (.ref C) f = some none from n]
  rfl
structure Meth (K : PySem.W.Frag) (C : Addr) (m : Str) (f : Addr) : Prop where
  at_ : PySem.W.findIn K (.ref C) m = some (some (.ref f))
  fn : PySem.W.isFn K (.ref f) = true
  kp : PySem.W.keepIn K (.ref f) = true
section
variable {X : Cx} {pins : List (Addr × Obj)} {σ : St} {H : Hp} {s : Shared} {a C dx : Addr} {fs : List (Str × V)} {f : Str} {v : V} {A : Around} {E : Value → Shared → Prop}
theorem getattr_ok {b : Bool} {Q : Value → Shared → Prop} (I : Inv X pins σ H s) (e : H a = some (.ins C dx fs)) (c : Cls X.K C) (n : NoAttr X.K C f) (l : fs.lookup f = some v)
    (h : ∀ u s', Inv X pins σ H s' → RelV v u → Q u s') : wpAny (model X.prog X.w) A (getAttr (.ref a) f b) Q E s := by
  obtain ⟨mA, O, r, _, _, _⟩ := ins_get I.hok e
  obtain ⟨u, hu, ru⟩ := RelO.some_of (v := v) (o := mA f) (by rw [← l]; exact r f)
  exact get_map I.kIn O (c.get f) c.hd n hu (handed_of ru) (h u _ (I.tok _) ru)
theorem getmeth_ok {m : Str} {g : Addr} {pl : Sem Bool} {Q : Value × List Value → Shared → Prop} (I : Inv X pins σ H s) (e : H a = some (.ins C dx fs)) (c : Cls X.K C) (k : Meth X.K C m g) (l : fs.lookup m = none)
    (h : Q (.ref g, [.ref a]) s) : wpAny (model X.prog X.w) A (getMethod (.ref a) m pl) Q E s := by
  obtain ⟨mA, O, r, _, _, _⟩ := ins_get I.hok e
  have hn : mA m = none := RelO.none_of (by rw [← l]; exact r m)
  exact get_meth I.kIn O (c.get m) k.at_ k.fn hn h
theorem setattr_ok {y : V} {u : Value} {Q : Unit → Shared → Prop} (I : Inv X pins σ H s) (e : H a = some (.ins C dx fs)) (c : Cls X.K C) (n : NoAttr X.K C f) (hl : fs.length < 1000) (ry : RelV y u)
    (h : ∀ s', Inv X pins σ (upd H a (.ins C dx (putF f y fs))) s' → Q () s') : wpAny (model X.prog X.w) A (setAttr (.ref a) f u) Q E s := by
  obtain ⟨mA, O, r, wi, _, ho⟩ := ins_get I.hok e
  have hz : (fs.map (·.1)).length ≤ sizeLine := by rw [List.length_map, sizeLine_eq]; omega
  refine set_map I.kIn O c.sa c.po n.taker c.hd wi hz fun h' O' sb => h _ ?_
  have hd : ∃ o, h'.get? dx = some o := let ⟨o, _, _, e', _⟩ := O'.ns; ⟨o, e'⟩
  refine I.write (x := a) (e := dx) (by rw [e]; exact True.intro) (.inr ho) (fun b q hb z => (sb.2 b hb).trans z) hd ?_
  refine ⟨by rw [upd_ne O.ne]; exact ho, ?_, O.ne, O'.obj, _, O'.ns, fun g => ?_, fun g hg => ?_⟩
  · have := length_putF f y fs; omega
  · show RelO ((putF f y fs).lookup g) (if g = f then some u else mA g)
    rw [lookup_putF]
    by_cases q : g = f
    · rw [if_pos q, if_pos q]; exact ry
    · rw [if_neg q, if_neg q]; exact r g
  · by_cases q : g = f
    · rw [q]; exact (keys_putF f y fs).1
    · refine (keys_putF f y fs).2 g (wi g fun z => hg ?_)
      show (if g = f then some u else mA g) = none
      rw [if_neg q]; exact z
theorem Inv.made (I : Inv X pins σ H s) : Inv X pins σ (upd (upd H s.heap.objs.size (.own (s.heap.objs.size + 1))) (s.heap.objs.size + 1) (.ins C s.heap.objs.size []))
    { s with heap := (s.heap.push PySem.W.emptyDict).push (PySem.W.instObj C s.heap.objs.size) } := by
  have e1 : (s.heap.push PySem.W.emptyDict).get? s.heap.objs.size = some PySem.W.emptyDict := Heap.get?_push_size s.heap rfl
  have e2 : ((s.heap.push PySem.W.emptyDict).push (PySem.W.instObj C s.heap.objs.size)).get? (s.heap.objs.size + 1) = some (PySem.W.instObj C s.heap.objs.size) := by
    have := Heap.get?_push_size (s.heap.push PySem.W.emptyDict) (o := PySem.W.instObj C s.heap.objs.size) rfl
    rwa [Heap.size_push] at this
  have e3 : (s.heap.push PySem.W.emptyDict).Ns s.heap.objs.size (fun _ => none) := ⟨PySem.W.emptyDict, #[], _, e1, rfl, (fun e he => absurd he (by simp)), fun _ => rfl⟩
  have I1 := I.laid (a := s.heap.objs.size) (o := .own (s.heap.objs.size + 1)) (h' := s.heap.push PySem.W.emptyDict) (t' := s.toks) (fun b u q => Heap.get?_push_of_some _ q) (Nat.le_refl _) ⟨_, e1⟩
  refine I1.laid (a := s.heap.objs.size + 1) (o := .ins C s.heap.objs.size []) (t' := s.toks) (fun b u q => Heap.get?_push_of_some _ q) (Nat.le_of_eq (Heap.size_push _ _)) ?_
  have ne : s.heap.objs.size ≠ s.heap.objs.size + 1 := Nat.ne_of_lt (Nat.lt_succ_self _)
  refine ⟨by rw [upd_ne ne, upd_same], Nat.zero_le _, ne, e2, fun _ => none, (Heap.Ns1.of_empty e3).at fun o q => Heap.get?_push_of_some _ q, fun _ => True.intro, fun y hy => absurd rfl hy⟩
theorem attr_of {prog : Program} {w : World} {env : Env} {e : Expr} {f : Str} {pos : Pos} {s : Shared} {Q : Value → Shared → Prop} (hb : attributeBase e f env (eval e env) = eval e env)
    (h : wpAny (model prog w) A (eval e env) (fun o s₁ => wpAny (model prog w) A (getAttr o f true) Q E s₁) E s) : wpAny (model prog w) A (eval (.Attribute e f pos) env) Q E s :=
  Attribute_any_ h (by rw [arm_eval_Attribute, hb])
end
def tFld (K : PySem.W.Frag) (ta : TE) (f : Str) : TE := fun σ H Q => ta σ H fun x H1 => ∃ a C dx fs v, x = .ref a ∧ H1 a = some (.ins C dx fs) ∧ Cls K C ∧ NoAttr K C f ∧ fs.lookup f = some v ∧ Q v H1
def sFld (K : PySem.W.Frag) (ta tv : TE) (f : Str) : TS := fun D σ H => tv σ H fun y H1 => ta σ H1 fun x H2 => ∃ a C dx fs, x = .ref a ∧ H2 a = some (.ins C dx fs) ∧ Cls K C ∧ NoAttr K C f ∧ fs.length < 1000 ∧
  D.nx σ (upd H2 a (.ins C dx (putF f y fs)))
section
variable {X : Cx} {o e value : Expr} {f : Str} {pos pos' tpos : Pos} {ta tv : TE}
theorem pe_fld (he : PE X e ta) (hb : attributeBase e f X.env (eval e X.env) = eval e X.env) : PE X (.Attribute e f pos) (tFld X.K ta f) := by
  intro pins s σ H Q I h
  refine attr_of hb (thn (he pins s σ H _ I h) fun u s1 ⟨x, H1, I1, rx, a, C, dx, fs, v, ex, ea, c, n, l, q⟩ => ?_)
  subst ex
  obtain rfl : u = Value.ref a := rx
  exact getattr_ok I1 ea c n l fun u' s2 I2 ru => ⟨v, H1, I2, ru, q⟩
theorem ps_fld (ha : PE X o ta) (hv : PE X value tv) (hs : swapsWith value (some (.Attribute o f pos')) pos.line X.env = pure false) : PS X (.Assign [.Attribute o f pos'] value pos) (sFld X.K ta tv f) := by
  intro pins s σ H D I h
  refine plainObj_wpAny_Assign_Attribute (thn (hv pins s σ H _ I h) fun u s1 ⟨y, H1, I1, ry, q⟩ => thn (ha pins s1 σ H1 _ I1 q) fun ov s2 ⟨x, H2, I2, rx, a, C, dx, fs, ex, ea, c, n, l, q2⟩ => ?_) hs
  subst ex
  obtain rfl : ov = Value.ref a := rx
  exact setattr_ok I2 ea c n l ry fun s3 I3 => ⟨σ, _, I3, q2⟩
end
section
variable {X : Cx} {pins : List (Addr × Obj)} {σ : St} {H : Hp} {s : Shared} {A : Around} {E : Value → Shared → Prop} {Q : Value → Shared → Prop} {c : Value} {b : Bool}
inductive TyOf (K : PySem.W.Frag) (H : Hp) : V → Value → Prop where
  | non : TyOf K H .non (.type "NoneType")
  | bl (x : Bool) : TyOf K H (.bl x) (.type "bool")
  | int (i : Int) : TyOf K H (.int i) (.type "int")
  | str (x : Str) : TyOf K H (.str x) (.type "str")
  | flt (x : UInt64) : TyOf K H (.flt x) (.type "float")
  | lst {a : Addr} {xs : List V} (e : H a = some (.lst xs)) : TyOf K H (.ref a) (.type "list")
  | frz {a : Addr} {o : Obj} {xs : List V} (e : H a = some (.frz o (.lst xs))) : TyOf K H (.ref a) (.type "list")
  | tup {a : Addr} {xs : List V} (e : H a = some (.tup xs)) : TyOf K H (.ref a) (.type "tuple")
  | dK {a : Addr} {kvs : List (Key × V)} (e : H a = some (.dK kvs)) : TyOf K H (.ref a) (.type "dict")
  | dT {a : Addr} {kvs : List (List Key × V)} (e : H a = some (.dT kvs)) : TyOf K H (.ref a) (.type "dict")
  | ins {a C dx : Addr} {fs : List (Str × V)} (e : H a = some (.ins C dx fs)) (cl : Cls K C) (ha : PySem.W.findIn K (.ref C) "__class__" = some (some (.builtin "object.__class__")))
      (hn : PySem.W.specialIn K (.builtin "object.__class__") "__get__" = some (some (.builtin "getset_descriptor.__get__"))) (htk : PySem.W.takesIn K (.builtin "object.__class__") = some true)
      (hm : PySem.W.mroIn K C (.type "object") = some true) : TyOf K H (.ref a) (.ref C)
theorem isinst_ok {x : V} {u t : Value} (I : Inv X pins σ H s) (rx : RelV x u) (ty : TyOf X.K H x t) (e : PySem.W.kitOne X.K t c = some b) (h : ∀ tk, Q (.bool b) { s with toks := tk }) :
    wpAny (model X.prog X.w) A (call (.builtin "isinstance") [u, c]) Q E s := by
  cases ty with
  | non => cases (show u = Value.none from rx); exact PySem.W.kia_one PySem.W.kitx_none I.kIn True.intro e (fun z => nomatch z) h
  | bl y => cases (show u = Value.bool y from rx); exact PySem.W.kia_one PySem.W.kitx_bool I.kIn True.intro e (fun z => nomatch z) h
  | int i => obtain ⟨t, q⟩ := (show ∃ t, u = Value.int i t from rx); cases q; exact PySem.W.kia_one PySem.W.kitx_int I.kIn True.intro e (fun z => nomatch z) h
  | str y => obtain ⟨t, q⟩ := (show ∃ t, u = Value.str y t from rx); cases q; exact PySem.W.kia_one PySem.W.kitx_str I.kIn True.intro e (fun z => nomatch z) h
  | flt y => obtain ⟨t, q⟩ := (show ∃ t, u = Value.float y t from rx); cases q; exact PySem.W.kia_one PySem.W.kitx_float I.kIn True.intro e (fun z => nomatch z) h
  | @lst a xs ea =>
    cases (show u = Value.ref a from rx)
    obtain ⟨_, _, n, _, h1⟩ := (show ObjOk X.prog X.w H s.heap a (.lst xs) from I.hok a _ ea)
    exact PySem.W.kia_one PySem.W.kitx_list I.kIn ⟨_, h1, rfl⟩ e (fun z => nomatch z) h
  | @frz a ob xs ea =>
    cases (show u = Value.ref a from rx)
    obtain ⟨_, _, _, n, _, h1⟩ := (show ObjOk X.prog X.w H s.heap a (.frz ob (.lst xs)) from I.hok a _ ea)
    exact PySem.W.kia_one PySem.W.kitx_list I.kIn ⟨_, h1, rfl⟩ e (fun z => nomatch z) h
  | @tup a xs ea =>
    cases (show u = Value.ref a from rx)
    obtain ⟨_, _, _, p⟩ := (show ObjOk X.prog X.w H s.heap a (.tup xs) from I.hok a _ ea)
    obtain ⟨o, h1, h2, _⟩ := p
    exact PySem.W.kia_one PySem.W.kitx_tuple I.kIn ⟨o, h1, h2⟩ e (fun z => nomatch z) h
  | @dK a kvs ea =>
    cases (show u = Value.ref a from rx)
    obtain ⟨_, _, vs, _, p⟩ := (show ObjOk X.prog X.w H s.heap a (.dK kvs) from I.hok a _ ea)
    obtain ⟨o, es, ep, h1, h2, _⟩ := p
    exact PySem.W.kia_one PySem.W.kitx_dict I.kIn ⟨o, h1, h2.1⟩ e (fun z => nomatch z) h
  | @dT a kvs ea =>
    cases (show u = Value.ref a from rx)
    obtain ⟨_, _, xs, _, o, es, ep, h1, h2, _⟩ := (show ObjOk X.prog X.w H s.heap a (.dT kvs) from I.hok a _ ea)
    exact PySem.W.kia_one PySem.W.kitx_dict I.kIn ⟨o, h1, h2.1⟩ e (fun z => nomatch z) h
  | @ins a C dx fs ea cl ha hn htk hm =>
    cases (show u = Value.ref a from rx)
    obtain ⟨mA, O, _⟩ := ins_get I.hok ea
    obtain ⟨od, J, _⟩ := O.look
    exact PySem.W.kia_one (PySem.W.kitx_own (cl.get _) cl.hd ha hn htk hm) I.kIn J e (fun z => nomatch z) h
end
structure Room (k : Nat) (A : Around) : Prop where
  hd : A.handled = none
  dp : A.depth + 3 * k + 5 < recursionLimit
  un : A.units + 16 * k + 200 < cLine
  gd : A.guards = some []
theorem Room.mono {j k : Nat} {A : Around} (r : Room k A) (h : j ≤ k) : Room j A := ⟨r.hd, by have := r.dp; omega, by have := r.un; omega, r.gd⟩
theorem Room.deeper {k : Nat} {A : Around} (r : Room (k + 1) A) (env : Env) : Room k (A.deeper env) :=
  ⟨r.hd, by have := r.dp; show A.depth + 1 + 3 * k + 5 < _; omega, by have := r.un; show A.units + 3 + 16 * k + 200 < _; omega, r.gd⟩
theorem Room.in1 {k : Nat} {A : Around} (r : Room (k + 1) A) : Room k A.in1 :=
  ⟨r.hd, by have := r.dp; show A.depth + 3 * k + 5 < _; omega, by have := r.un; show A.units + 1 + 16 * k + 200 < _; omega, r.gd⟩
theorem make_depth {A : Around} {C : Addr} {us : List Value} {kw : List (Str × Value)} : (A.under (.builtin "type.__call__" ⟨.ref C :: us, kw⟩)).depth = A.depth + 1 := by
  first | rfl | simp [Around.under, Code.weight, Code.isCreation, Code.isGuard, Code.isCaller, Code.frames, Code.isFrame, guardIds]
theorem make_units {A : Around} {C : Addr} {us : List Value} {kw : List (Str × Value)} : (A.under (.builtin "type.__call__" ⟨.ref C :: us, kw⟩)).units = A.units + 1 := by
  first | rfl | simp [Around.under, Code.cUnits, Code.frames, Code.isFrame]
theorem Room.make {k : Nat} {A : Around} (r : Room (k + 1) A) (C : Addr) (us : List Value) (kw : List (Str × Value)) : Room k (A.under (.builtin "type.__call__" ⟨.ref C :: us, kw⟩)) :=
  ⟨r.hd, by have := r.dp; rw [make_depth]; omega, by have := r.un; rw [make_units]; omega, by first | exact r.gd | (simp [Around.under, Code.guards, Code.isGuard, guardIds, pushGuards]; exact r.gd)⟩
theorem Room.depth {k : Nat} {A : Around} (r : Room k A) : A.depth < recursionLimit := by have := r.dp; omega
def tNil : TA := fun _ H Q => Q [] H
def tCons (ta : TE) (tr : TA) : TA := fun σ H Q => ta σ H fun x H1 => tr σ H1 fun xs H2 => Q (x :: xs) H2
section
variable {X : Cx} {e : Expr} {es : List Expr} {te : TE} {t : TA} {pos : Pos}
theorem pa_nil : PA X [] tNil := fun _ _ _ _ H Q I h => Calls.spliced_nil ⟨[], H, I, .nil, h⟩
theorem pa_cons (ha : PE X e te) (hr : PA X es t) (hs : starEach (e :: es) X.env = (false, eval e X.env) :: starEach es X.env := by rfl) : PA X (e :: es) (tCons te t) := by
  intro pos pins s σ H Q I h
  rw [hs]
  show wpAny _ _ (spliced ((false, eval e X.env) :: backTo pos (starEach es X.env))) _ _ s
  refine Calls.spliced_cons (thn (ha pins s σ H _ I h) fun u s1 ⟨x, H1, I1, r1, q1⟩ => ?_)
  exact thn (hr pos pins s1 σ H1 _ I1 q1) fun us s2 ⟨xs, H2, I2, r2, q2⟩ => ⟨x :: xs, H2, I2, .cons r1 r2, q2⟩
end
abbrev Sp := List V → Hp → VK → XK → Prop
abbrev CXT := List Env → Hp → Shared → XK → Value → Shared → Prop
structure Env0 (P : Program) (w : World) (K : PySem.W.Frag) (mg : Str → Option Value) (base : Heap) (A : Around) (outer : List Env) (s : Shared) (H : Hp) : Prop where
  frames : A.frames = some outer
  mod : Mod K mg base
  bs : ∀ b o, base.get? b = some o → s.heap.get? b = some o ∧ H b = none
  bsz : base.objs.size ≤ s.heap.objs.size
  funs : s.heap.FunFrames base outer
  frf : ∀ b ∈ frs outer, H b = none
  hok : HOk P w H s.heap
  bare : AllBare s.gens
def CE (outer : List Env) (P : Program) (w : World) (H : Hp) (s : Shared) (Q : VK) (u : Value) (s' : Shared) : Prop :=
  ∃ v H', s'.os = s.os ∧ AllBare s'.gens ∧ Un (frs outer) [] H H' s.heap s'.heap ∧ HOk P w H' s'.heap ∧ RelV v u ∧ Q v H'
def CR (CX : CXT) (outer : List Env) (P : Program) (w : World) (H : Hp) (s : Shared) (Q : VK) (E : XK) (r : Result) (s' : Shared) : Prop :=
  match r with
  | .ok (.ret u) => CE outer P w H s Q u s'
  | .ok _ => False
  | .error e => CX outer H s E e s'
structure FnOk (P : Program) (w : World) (K : PySem.W.Frag) (mg : Str → Option Value) (base : Heap) (CX : CXT) (k : Nat) (f : Addr) (fd : FuncData) (ps : List Str) (sp : Sp) : Prop where
  len : ∀ vs H Q E, sp vs H Q E → vs.length = ps.length
  run : ∀ (A : Around) (outer : List Env) (s : Shared) (H : Hp) (args : Args) (us : List Value) (vs : List V) (Q : VK) (E : XK), Room k A → Env0 P w K mg base A outer s H → BindsTo s fd args (ps.zip us) → Vals vs us → sp vs H Q E →
    codeAny (model P w) A (.call (.ref f) args) (CR CX outer P w H s Q E) s
theorem FnOk.imp {P : Program} {w : World} {K : PySem.W.Frag} {mg : Str → Option Value} {base : Heap} {CX : CXT} {k : Nat} {f : Addr} {fd : FuncData} {ps : List Str} {sp sp' : Sp} (F : FnOk P w K mg base CX k f fd ps sp)
    (h : ∀ vs H Q E, sp' vs H Q E → sp vs H Q E) : FnOk P w K mg base CX k f fd ps sp' :=
  ⟨fun vs H Q E q => F.len vs H Q E (h _ _ _ _ q), fun A outer s H args us vs Q E hr he hb hv hs => F.run A outer s H args us vs Q E hr he hb hv (h _ _ _ _ hs)⟩
theorem Env0.make {P : Program} {w : World} {K : PySem.W.Frag} {mg : Str → Option Value} {base : Heap} {A : Around} {outer : List Env} {s : Shared} {H : Hp} (e : Env0 P w K mg base A outer s H) (C : Addr) (us : List Value) (kw : List (Str × Value)) :
    Env0 P w K mg base (A.under (.builtin "type.__call__" ⟨.ref C :: us, kw⟩)) outer s H := ⟨by first | exact e.frames | (simpa [Around.under, Code.envs, Code.isFrame, pushEnvs] using e.frames), e.mod, e.bs, e.bsz, e.funs, e.frf, e.hok, e.bare⟩
theorem Env0.in1 {P : Program} {w : World} {K : PySem.W.Frag} {mg : Str → Option Value} {base : Heap} {A : Around} {outer : List Env} {s : Shared} {H : Hp} (e : Env0 P w K mg base A outer s H) :
    Env0 P w K mg base A.in1 outer s H := ⟨e.frames, e.mod, e.bs, e.bsz, e.funs, e.frf, e.hok, e.bare⟩
section
variable {X : Cx} {pins : List (Addr × Obj)} {σ : St} {H : Hp} {s s' : Shared}
theorem Inv.env0 (I : Inv X pins σ H s) : Env0 X.prog X.w X.K X.mg X.base X.A X.stack s H :=
  ⟨I.ok.frames, I.ok.mod, I.bs, Nat.le_trans I.ok.bsz I.sz, I.stack, I.stkFree, I.hok, I.bare⟩
theorem Inv.after {Q : VK} {u : Value} (I : Inv X pins σ H s) (h : CE X.stack X.prog X.w H s Q u s') : EP X pins σ Q u s' := by
  obtain ⟨v, H', os, bare, un, hok, r, q⟩ := h
  obtain ⟨hh, g, d, t, os'⟩ := s'
  obtain rfl : os' = s.os := os
  exact ⟨v, H', I.call (h' := hh) (g' := g) (d' := d) (t' := t) (ch := []) un hok bare (fun b z => absurd z (by simp)), r, q⟩
end
def tCall (sp : Sp) (dvs : List V) (E : XK) (t : TA) : TE := fun σ H Q => t σ H fun vs H1 => sp (vs ++ dvs) H1 Q E
def tMeth (C : Addr) (m : Str) (sp : Sp) (dvs : List V) (E : XK) (ta : TE) (t : TA) : TE := fun σ H Q => ta σ H fun x H1 => ∃ a dx fs, x = .ref a ∧ H1 a = some (.ins C dx fs) ∧ fs.lookup m = none ∧
  t σ H1 fun vs H2 => sp (x :: (vs ++ dvs)) H2 Q E
def Binds (K : PySem.W.Frag) (fd : FuncData) (ps : List Str) (ds : List Value) : Prop :=
  ∀ (s : Shared) (us : List Value), K.In s.heap → (us ++ ds).length = ps.length → BindsTo s fd ⟨us, []⟩ (ps.zip (us ++ ds))
theorem Binds.all {K : PySem.W.Frag} {fd : FuncData} {ps : List Str} (h : ∀ us : List Value, us.length = ps.length → bindArgs fd ⟨us, []⟩ = pure (ps.zip us)) : Binds K fd ps [] := fun s us _ hl => by
  rw [List.append_nil] at hl ⊢
  exact .of_eq (h us hl)
def Passes (CX : CXT) (X : Cx) (E : XK) : Prop := ∀ (pins : List (Addr × Obj)) (σ : St) (H : Hp) (s : Shared) (e : Value) (s' : Shared), Inv X pins σ H s → CX X.stack H s E e s' → X.xe e s'
section
variable {X : Cx} {CX : CXT} {k : Nat} {f C : Addr} {fd : FuncData} {ps : List Str} {sp : Sp} {dvs : List V} {ds : List Value} {E : XK} {x m : Str} {p pos apos : Pos} {e o : Expr} {es : List Expr} {ta : TE} {t : TA}
theorem run_fn {pins : List (Addr × Obj)} {σ : St} {H : Hp} {s : Shared} {Q : VK} {us : List Value} {vs : List V} (F : FnOk X.prog X.w X.K X.mg X.base CX k f fd ps sp) (hr : Room k X.A) (hb : Binds X.K fd ps ds) (hd : Vals dvs ds) (hx : Passes CX X E)
    (I : Inv X pins σ H s) (r : Vals vs us) (h : sp (vs ++ dvs) H Q E) : wpAny (model X.prog X.w) X.A (call (.ref f) us) (EP X pins σ Q) X.xe s := by
  have r2 : Vals (vs ++ dvs) (us ++ ds) := r.append hd
  have hl : (us ++ ds).length = ps.length := by rw [← r2.length]; exact F.len _ _ _ _ h
  refine wpAny_call (codeAny_mono (F.run X.A X.stack s H ⟨us, []⟩ (us ++ ds) (vs ++ dvs) Q E hr I.env0 (hb s us I.kIn hl) r2 h) fun r s' hq => ?_)
  cases r with
  | error e => exact hx pins σ H s e s' I hq
  | ok fl =>
    cases fl with
    | ret u => exact I.after hq
    | next => exact False.elim hq
    | brk => exact False.elim hq
    | cont => exact False.elim hq
theorem pe_call (F : FnOk X.prog X.w X.K X.mg X.base CX k f fd ps sp) (hr : Room k X.A) (hg : Gl X x) (hm : X.mg x = some (.ref f)) (hk : PySem.W.keepIn X.K (.ref f) = true) (hb : Binds X.K fd ps ds) (hd : Vals dvs ds) (hx : Passes CX X E)
    (ha : PA X (e :: es) t) (hdb : (x == ("__debug__" : Str)) = false := by decide) (he : starEach (e :: es) X.env = (false, eval e X.env) :: starEach es X.env := by rfl) (hpl : (backTo pos (starEach es X.env)).any (·.1) = false := by rfl) :
    PE X (.Call (.Name x p) (e :: es) [] pos) (tCall sp dvs E t) := by
  intro pins s σ H Q I h
  refine wpAny_Call_Name_kw (ld_glob I hg hm ?_ hdb)
  refine PySem.W.callWith_K (h₀ := X.base) I.ok.mod.kin hk (thn (ha pos pins s σ H _ I h) fun us s1 ⟨vs, H1, I1, r, q⟩ => ⟨I1.kIn, ?_⟩) he hpl
  exact run_fn F hr hb hd hx I1 r q
theorem pe_meth0 {pl : Sem Bool} (he : PE X o ta) (c : Cls X.K C) (hm : Meth X.K C m f) (F : FnOk X.prog X.w X.K X.mg X.base CX k f fd ps sp) (hr : Room k X.A) (hb : Binds X.K fd ps ds) (hd : Vals dvs ds) (hx : Passes CX X E)
    (ht : eval (.Call (.Attribute o m apos) [] [] pos) X.env = (do
      let ov ← eval o X.env
      standAt apos.atName
      let (f, first) ← holding [ov] (getMethod ov m pl)
      callWith pos f first (backTo pos (starEach [] X.env)) (backToKw pos (keywordEach [] X.env))) := by rfl) :
    PE X (.Call (.Attribute o m apos) [] [] pos) (tMeth C m sp dvs E ta tNil) := by
  intro pins s σ H Q I h
  refine PySem.W.methodCall_KW (pl := pl) (thn (he pins s σ H _ I h) fun u s1 ⟨x, H1, I1, rx, a, dx, fs, ex, ea, l, q⟩ => ?_) ht
  subst ex
  obtain rfl : u = Value.ref a := rx
  refine getmeth_ok I1 ea c hm l ?_
  exact PySem.W.callWith_K0 (first := [.ref a]) I1.kIn hm.kp (run_fn (us := [.ref a]) (vs := [.ref a]) F hr hb hd hx I1 (.cons rfl .nil) q)
structure Mk (K : PySem.W.Frag) (C f : Addr) : Prop where
  makes : PySem.W.makesIn K C = true
  init : PySem.W.findIn K (.ref C) "__init__" = some (some (.ref f))
  fn : PySem.W.isFn K (.ref f) = true
  kp : PySem.W.keepIn K (.ref C) = true
theorem run_make {pins : List (Addr × Obj)} {σ : St} {H : Hp} {s : Shared} {Q : VK} {us : List Value} {vs : List V} (M : Mk X.K C f) (F : FnOk X.prog X.w X.K X.mg X.base CX k f fd ps sp) (hr : Room (k + 1) X.A) (hb : Binds X.K fd ps ds) (hd : Vals dvs ds)
    (hx : Passes CX X E) (I : Inv X pins σ H s) (r : Vals vs us)
    (h : ∀ x dx, H x = none → H dx = none → dx ≠ x → sp (.ref x :: (vs ++ dvs)) (upd (upd H dx (.own x)) x (.ins C dx [])) (fun v H2 => v = .non ∧ Q (.ref x) H2) E) :
    wpAny (model X.prog X.w) X.A (call (.ref C) us) (EP X pins σ Q) X.xe s := by
  have hq := h (s.heap.objs.size + 1) s.heap.objs.size (I.hok.fresh (Nat.le_succ _)) (I.hok.fresh (Nat.le_refl _)) (Nat.ne_of_lt (Nat.lt_succ_self _))
  have I2 := Inv.made (C := C) I
  have r2 : Vals (V.ref (s.heap.objs.size + 1) :: (vs ++ dvs)) (Value.ref (s.heap.objs.size + 1) :: (us ++ ds)) := .cons rfl (r.append hd)
  have hl : (Value.ref (s.heap.objs.size + 1) :: us ++ ds).length = ps.length := by
    have e := r2.length
    rw [F.len _ _ _ _ hq] at e
    exact e.symm
  refine wpAny_call (make_map (f := f) I.kIn M.makes M.init (beq_iff_eq.mp M.fn) (codeAny_mono (F.run _ X.stack _ _ ⟨Value.ref (s.heap.objs.size + 1) :: us, []⟩ (Value.ref (s.heap.objs.size + 1) :: (us ++ ds)) _ _ E (hr.make C us [])
    (I2.env0.make C us []) (hb _ (Value.ref (s.heap.objs.size + 1) :: us) I2.kIn hl) r2 hq) fun r s' hq' => ?_))
  cases r with
  | error e => exact hx pins σ _ _ e s' I2 hq'
  | ok fl =>
    cases fl with
    | ret u =>
      obtain ⟨v, H', I3, rv, ev, q3⟩ := I2.after hq'
      subst ev
      exact ⟨rv, ⟨V.ref (s.heap.objs.size + 1), H', I3, rfl, q3⟩⟩
    | next => exact False.elim hq'
    | brk => exact False.elim hq'
    | cont => exact False.elim hq'
end
structure FnScope (N P : List Str) (sc : Scope) : Prop where
  kind : sc.kind = .function
  co : sc.isCoroutine = false
  gen : sc.isGenerator = false
  nd : N.Nodup
  pre : N.take P.length = P
  par : ∀ x ∈ P, sc.names.lookup x = some .local ∨ sc.names.lookup x = some .cell
  nofree : ∀ y ∈ sc.names, y.2 ≠ .free
theorem bindL_out {kindOf : Str → Option NameKind} {x : Str} : ∀ {binds : List (Str × Value)} {m : Str → Option Value}, (∀ v, (x, v) ∉ binds) → bindL kindOf binds m x = m x
  | [], _, _ => rfl
  | (n, v) :: r, m, h => by
    unfold bindL
    rw [bindL_out fun w hw => h w (List.mem_cons_of_mem _ hw)]
    split
    · have : x ≠ n := by rintro rfl; exact h v List.mem_cons_self
      simp [this]
    · rfl
theorem bindC_out {kindOf : Str → Option NameKind} {x : Str} : ∀ {binds : List (Str × Value)} {m : Str → Option Value}, (∀ v, (x, v) ∉ binds) → bindC kindOf binds m x = m x
  | [], _, _ => rfl
  | (n, v) :: r, m, h => by
    unfold bindC
    rw [bindC_out fun w hw => h w (List.mem_cons_of_mem _ hw)]
    split
    · rfl
    · have : x ≠ n := by rintro rfl; exact h v List.mem_cons_self
      simp [this]
theorem bindL_get {kindOf : Str → Option NameKind} {x : Str} {v : Value} : ∀ {P : List Str} {vs : List Value} {i : Nat} {m : Str → Option Value}, P.Nodup → P[i]? = some x → vs[i]? = some v → kindOf x = some .local →
    bindL kindOf (P.zip vs) m x = some v
  | [], _, _, _, _, h, _, _ => by simp at h
  | _ :: _, [], _, _, _, _, h, _ => by simp at h
  | p :: P, w :: vs, 0, m, nd, h1, h2, hk => by
    simp at h1 h2; subst h1; subst h2
    show bindL kindOf ((p, w) :: P.zip vs) m p = _
    unfold bindL
    rw [bindL_out fun v hv => (List.nodup_cons.mp nd).1 (List.of_mem_zip hv).1, if_pos hk]
    simp
  | p :: P, w :: vs, i + 1, m, nd, h1, h2, hk => by
    show bindL kindOf ((p, w) :: P.zip vs) m x = _
    unfold bindL
    exact bindL_get (i := i) (List.nodup_cons.mp nd).2 (by simpa using h1) (by simpa using h2) hk
theorem bindC_get {kindOf : Str → Option NameKind} {x : Str} {v : Value} : ∀ {P : List Str} {vs : List Value} {i : Nat} {m : Str → Option Value}, P.Nodup → P[i]? = some x → vs[i]? = some v → kindOf x ≠ some .local →
    bindC kindOf (P.zip vs) m x = some v
  | [], _, _, _, _, h, _, _ => by simp at h
  | _ :: _, [], _, _, _, _, h, _ => by simp at h
  | p :: P, w :: vs, 0, m, nd, h1, h2, hk => by
    simp at h1 h2; subst h1; subst h2
    show bindC kindOf ((p, w) :: P.zip vs) m p = _
    unfold bindC
    rw [bindC_out fun v hv => (List.nodup_cons.mp nd).1 (List.of_mem_zip hv).1, if_neg hk]
    simp
  | p :: P, w :: vs, i + 1, m, nd, h1, h2, hk => by
    show bindC kindOf ((p, w) :: P.zip vs) m x = _
    unfold bindC
    exact bindC_get (i := i) (List.nodup_cons.mp nd).2 (by simpa using h1) (by simpa using h2) hk
def start (N : List Str) (vs : List V) : St := vs.map some ++ List.replicate (N.length - vs.length) none
def cxOf (CX : CXT) (P : Program) (w : World) (K : PySem.W.Frag) (mg : Str → Option Value) (base : Heap) (N : List Str) (qual : Str) (scope : Scope) (f : Addr) (cd : Value) (A : Around) (outer : List Env) (s : Shared) (H : Hp) (E : XK) : Cx where
  prog := P
  w := w
  K := K
  mg := mg
  base := base
  A := A.deeper (envOfC qual scope s.heap.objs.size f cd)
  N := N
  s₀ := s
  H₀ := H
  env := envOfC qual scope s.heap.objs.size f cd
  outer := outer
  stack := envOfC qual scope s.heap.objs.size f cd :: outer
  ex := []
  calm := true
  fn := fun _ => true
  pn := []
  xe := fun e s' => wpAny (model P w) (A.deeper (envOfC qual scope s.heap.objs.size f cd)) (leaving (envOfC qual scope s.heap.objs.size f cd) e) (fun _ s'' => CX outer H s E e s'') (fun e' s'' => CX outer H s E e' s'') s'
theorem cell_has {sc : Scope} {n : Nat} {x : Str} (h : sc.names.lookup x = some .cell) : ∃ c, (cellsFrom n sc.names []).lookup x = some c := by
  have q := PySem.W.cellsFrom_some sc.names n [] (.inl h)
  exact Option.isSome_iff_exists.mp q
theorem inv_start {CX : CXT} {P : Program} {w : World} {K : PySem.W.Frag} {mg : Str → Option Value} {base : Heap} {N ps : List Str} {qual : Str} {scope : Scope} {f : Addr} {cd : Value} {A : Around} {outer : List Env} {s s1 : Shared} {H : Hp} {E : XK} {us : List Value} {vs : List V}
    (S : FnScope N ps scope) (hd : A.handled = none) (e0 : Env0 P w K mg base A outer s H) (hl : vs.length = ps.length) (r : Vals vs us)
    (x : InCallC s s.heap.objs.size (bindL (envOfC qual scope s.heap.objs.size f cd).kindOf (ps.zip us) fun _ => none) (cellsFrom (s.heap.objs.size + 1) scope.names []) (bindC (envOfC qual scope s.heap.objs.size f cd).kindOf (ps.zip us) fun _ => none) s1) :
    Inv (cxOf CX P w K mg base N qual scope f cd A outer s H E) [] (start N vs) H s1 := by
  have hpl : ps.length ≤ N.length := by have := congrArg List.length S.pre; rw [List.length_take] at this; omega
  obtain ⟨h1, tk, rfl, hk⟩ := x.done
  have noA : ∀ b : Addr, b ∉ (cxOf CX P w K mg base N qual scope f cd A outer s H E).ex := fun b z => absurd (show b ∈ ([] : List Addr) from z) (by simp)
  refine ⟨⟨e0.mod, S.kind, rfl, rfl, Nat.le_refl _, fun y z c h1 h2 => ?_, fun y hy => ?_, fun y c _ h => ?_, fun _ => hd, Around.frames_deeper e0.frames, .inr ⟨rfl, rfl⟩, fun b z => absurd z (noA b), e0.bs, e0.bsz, fun b _ _ => noA b, fun b z => absurd z (noA b), e0.funs, e0.frf⟩,
    rfl, e0.bare, Un.kept hk, ⟨_, x.toInCall.ns, fun i y v h1 h2 h3 => ?_⟩, fun y c h => ⟨_, x.cell y c h⟩, e0.hok.fresh (Nat.le_refl _), fun y c h => ?_, fun p hp => absurd (show p ∈ ([] : List (Addr × Obj)) from hp) (by simp), e0.hok.kept hk, ?_⟩
  · exact name_of_addr x.apart (PySem.mem_of_lookup h1) (PySem.mem_of_lookup h2)
  · have hy : scope.names.lookup y = some .cell ∨ scope.names.lookup y = some .free := hy
    rcases hy with hy | hy
    · exact cell_has hy
    · exact absurd rfl (S.nofree _ (PySem.mem_of_lookup hy))
  · exact Nat.le_of_lt (x.above y c (PySem.mem_of_lookup h))
  · have hi : i < vs.length := by
      unfold start at h2
      by_cases hi : i < vs.length
      · exact hi
      · rw [List.getElem?_append_right (by simpa using hi)] at h2
        rw [List.getElem?_replicate] at h2
        split at h2 <;> cases h2
    have ha : vs[i]? = some v := by
      unfold start at h2
      rw [List.getElem?_append_left (by simpa using hi), List.getElem?_map] at h2
      cases e : vs[i]? with
      | none => rw [e] at h2; cases h2
      | some a => rw [e] at h2; cases h2; rfl
    obtain ⟨u, hu, rv⟩ := r.get ha
    have hp : ps[i]? = some y := by
      rw [← S.pre, List.getElem?_take_of_lt (by omega)]; exact h1
    have ndP : ps.Nodup := by rw [← S.pre]; exact S.nd.sublist (List.take_sublist _ _)
    refine ⟨u, rv, ?_⟩
    rcases S.par y (List.mem_of_getElem? hp) with k | k
    · exact .inl ⟨k, bindL_get ndP hp hu k⟩
    · obtain ⟨c, e⟩ := cell_has (n := s.heap.objs.size + 1) k
      refine .inr ⟨.inl k, c, e, ?_⟩
      have q := x.cell y c e
      rw [bindC_get ndP hp hu (by show scope.names.lookup y ≠ _; rw [k]; decide)] at q
      exact q
  · exact e0.hok.fresh (Nat.le_of_lt (x.above y c (PySem.mem_of_lookup h)))
  · unfold start
    show _ = N.length
    rw [List.length_append, List.length_map, List.length_replicate]
    omega
theorem fn_of {CX : CXT} {P : Program} {w : World} {K : PySem.W.Frag} {mg : Str → Option Value} {base : Heap} {k : Nat} {f : Addr} {name qual : Str} {params : Arguments} {body : List Stmt} {scope : Scope} {dV kV doc pm cdv ct oc : Value} {an od : Option Addr}
    {osl : Array (Option Value)} {N ps : List Str} {sp : Sp} (lk : K.lookup f = some ⟨oc, od, .func (PySem.W.fnOf name qual params body scope dV kV doc pm an cdv ct), osl⟩) (hcd : PySem.W.codeIn K cdv qual = true) (S : FnScope N ps scope)
    (len : ∀ vs H Q E, sp vs H Q E → vs.length = ps.length)
    (hbody : ∀ (A : Around) (outer : List Env) (s : Shared) (H : Hp) (vs : List V) (Q : VK) (E : XK), Room k (A.deeper (envOfC qual scope s.heap.objs.size f cdv)) → sp vs H Q E →
      ∃ t, PSs (cxOf CX P w K mg base N qual scope f cdv A outer s H E) body t ∧ t { nx := fun _ H' => Q .non H', rt := Q } (start N vs) H) :
    FnOk P w K mg base CX (k + 1) f (PySem.W.fnOf name qual params body scope dV kV doc pm an cdv ct) ps sp := by
  refine ⟨len, fun A outer s H args us vs Q E hr e0 hb r hsp => ?_⟩
  have hl := len _ _ _ _ hsp
  have KX : K.In s.heap := e0.mod.kin.keeps fun b o e => (e0.bs b o e).1
  have lim : s.heap.NoLimit := e0.mod.nolimit.keeps fun b o e => (e0.bs b o e).1
  have hkind : ∀ y ∈ ps.zip us, scope.names.lookup y.1 = some .local ∨ (scope.names.lookup y.1 = some .cell ∧ ((cellsFrom (s.heap.objs.size + 1) scope.names []).lookup y.1).isSome = true) := fun ⟨n, v⟩ hy => by
    rcases S.par n (List.of_mem_zip hy).1 with q | q
    · exact .inl q
    · exact .inr ⟨q, PySem.W.cellsFrom_some _ _ _ (.inl q)⟩
  refine codeAny_call_function hr.depth (KX _ _ lk) rfl S.co S.gen rfl (PySem.W.codeRec_of KX hcd) (hb _ _ _ _ ?_)
  refine wpAny_newFunctionEnv_cells S.kind hkind fun env he s1 x => ?_
  subst he
  refine ⟨lim.keeps x.toInCall.keep, codeAny_func ?_⟩
  obtain ⟨t, ht, hq⟩ := hbody A outer s H vs Q E (hr.deeper _) hsp
  have I : Inv (cxOf CX P w K mg base N qual scope f cdv A outer s H E) [] (start N vs) H s1 := inv_start S hr.hd e0 hl r x
  refine wpAny_mono (ht [] s1 (start N vs) H _ I hq) (fun fl s' hs => ?_) fun e s' hs => hs
  have fin : ∀ {σ' : St} {H' : Hp} {v : V} {u : Value}, Inv (cxOf CX P w K mg base N qual scope f cdv A outer s H E) [] σ' H' s' → RelV v u → Q v H' → CE outer P w H s Q u s' :=
    fun {σ' H' v u} J rv q => ⟨v, H', J.os, J.bare, J.base, J.hok, rv, q⟩
  cases fl with
  | ret u =>
    obtain ⟨v, σ', H', J, rv, q⟩ := hs
    exact fin J rv q
  | next =>
    obtain ⟨σ', H', J, q⟩ := hs
    exact fin (v := V.non) (u := Value.none) J rfl q
  | brk =>
    obtain ⟨_, _, _, q⟩ := hs
    exact False.elim q
  | cont =>
    obtain ⟨_, _, _, q⟩ := hs
    exact False.elim q
section
variable {X : Cx} {x : Str} {p pos : Pos} {e : Expr} {es : List Expr} {t : TA} {id T : String} {r : List V → Hp → VK → Prop}
def tCB (r : List V → Hp → VK → Prop) (t : TA) : TE := fun σ H Q => t σ H fun vs H1 => r vs H1 Q
theorem pe_callB (hc : CallR X (.builtin id) r) (hg : Gl X x) (hm : X.mg x = none) (hv : bootBuiltins x = some (.builtin id)) (ha : PA X (e :: es) t) (hn : x ≠ "__name__" := by decide) (hdb : (x == ("__debug__" : Str)) = false := by decide)
    (he : starEach (e :: es) X.env = (false, eval e X.env) :: starEach es X.env := by rfl) (hpl : (backTo pos (starEach es X.env)).any (·.1) = false := by rfl) : PE X (.Call (.Name x p) (e :: es) [] pos) (tCB r t) := by
  intro pins s σ H Q I h
  refine wpAny_Call_Name_kw (ld_blt I hg hm hv ?_ hn hdb)
  exact PyProof.Rows.callWith_builtin1 (thn (ha pos pins s σ H _ I h) fun us s1 ⟨vs, H1, I1, r1, q1⟩ => hc pins s1 σ H1 vs us Q I1 r1 q1) he hpl
theorem pe_callTy (hc : CallR X (.type T) r) (hg : Gl X x) (hm : X.mg x = none) (hv : bootBuiltins x = some (.type T)) (ha : PA X (e :: es) t) (hn : x ≠ "__name__" := by decide) (hdb : (x == ("__debug__" : Str)) = false := by decide)
    (he : starEach (e :: es) X.env = (false, eval e X.env) :: starEach es X.env := by rfl) (hpl : (backTo pos (starEach es X.env)).any (·.1) = false := by rfl) : PE X (.Call (.Name x p) (e :: es) [] pos) (tCB r t) := by
  intro pins s σ H Q I h
  refine wpAny_Call_Name_kw (ld_blt I hg hm hv ?_ hn hdb)
  exact PyProof.Rows.callWith_type1 (thn (ha pos pins s σ H _ I h) fun us s1 ⟨vs, H1, I1, r1, q1⟩ => hc pins s1 σ H1 vs us Q I1 r1 q1) he hpl
end
end L2
namespace HT
open PySem PyProof.Rows
section
open PySem.SeqAt
open PySem.AutoSeq1 (wpAny_loadPart')
open PySem.MeetsSeq PySem.MeetsSeq2 PySem.MeetsSeq3
end
section
variable {prog : Program} {w : World} {A : Around} {E : Value → Shared → Prop} {s : Shared}
def sIx (n d : Nat) : Option Int → Nat
  | none => d
  | some v => if v < 0 then (v + (n : Int)).toNat else min v.toNat n
theorem sIx_nat (n d k : Nat) : sIx n d (some (k : Int)) = min k n := by
  show (if (k : Int) < 0 then ((k : Int) + (n : Int)).toNat else min (k : Int).toNat n) = min k n
  rw [if_neg (by omega), Int.toNat_natCast]
end
end HT
namespace L2
open PySem PySem.Spec PyProof.Rows
abbrev TO := St → Hp → (Option Int → Hp → Prop) → Prop
def PO (X : Cx) (e : Option Expr) (t : TO) : Prop :=
  ∀ (pins : List (Addr × Obj)) (s : Shared) (σ : St) (H : Hp) (Q : Option Int → Hp → Prop), Inv X pins σ H s → t σ H Q →
    wpAny (model X.prog X.w) X.A (evalPart e X.env) (fun u s' => ∃ o H', Inv X pins σ H' s' ∧ IsPart u o ∧ Q o H') X.xe s
def tNoPart : TO := fun _ H Q => Q none H
def tPart (t : TE) : TO := fun σ H Q => t σ H fun x H1 => ∃ i, x = .int i ∧ Q (some i) H1
section
variable {X : Cx} {e : Expr} {te : TE} {lo hi : Option Expr} {tl th : TO} {pos p2 : Pos}
theorem po_none : PO X none tNoPart := by
  intro pins s σ H Q I h
  rw [evalPart_none]
  exact wpAny_pure ⟨none, H, I, .none, h⟩
theorem po_some (h : PE X e te) : PO X (some e) (tPart te) := by
  intro pins s σ H Q I hw
  rw [evalPart_some]
  refine thn (h pins s σ H _ I hw) fun u s1 ⟨x, H1, I1, r1, q1⟩ => ?_
  obtain ⟨i, rfl, q⟩ := q1
  obtain ⟨t, rfl⟩ := r1
  exact ⟨some i, H1, I1, .int i t, q⟩
def SlR (X : Cx) (r : V → Option Int → Option Int → Hp → VK → Prop) : Prop :=
  ∀ (pins : List (Addr × Obj)) (s : Shared) (σ : St) (H : Hp) (x : V) (v vl vu : Value) (lo hi : Option Int) (sl : Addr) (Q : VK), Inv X pins σ H s → RelV x v → s.heap.IsSliceOf sl vl vu .none → IsPart vl lo → IsPart vu hi → r x lo hi H Q →
    ∃ T id, typeLookup (.type T) "__getitem__" = pure (some (.builtin id)) ∧ s.TypeIs v T ∧ wpAny (model X.prog X.w) X.A (getItem v (.ref sl)) (EP X pins σ Q) X.xe s
theorem SlR.or {r r' : V → Option Int → Option Int → Hp → VK → Prop} (h : SlR X r) (h' : SlR X r') : SlR X (fun x lo hi H Q => r x lo hi H Q ∨ r' x lo hi H Q) := by
  intro pins s σ H x v vl vu lo hi sl Q I rx hs pl pu q
  rcases q with q | q
  · exact h pins s σ H x v vl vu lo hi sl Q I rx hs pl pu q
  · exact h' pins s σ H x v vl vu lo hi sl Q I rx hs pl pu q
def tSl (r : V → Option Int → Option Int → Hp → VK → Prop) (te : TE) (tl th : TO) : TE := fun σ H Q => te σ H fun x H1 => tl σ H1 fun l H2 => th σ H2 fun u H3 => r x l u H3 Q
theorem pe_slice {r : V → Option Int → Option Int → Hp → VK → Prop} (hr : SlR X r) (he : PE X e te) (hl : PO X lo tl) (hu : PO X hi th) : PE X (.Subscript e (.Slice lo hi none p2) pos) (tSl r te tl th) := by
  intro pins s σ H Q I h
  refine Subscript_ (thn (he pins s σ H _ I h) fun v s1 ⟨x, H1, I1, r1, q1⟩ => ?_)
  refine wpAny_Slice (thn (hl pins s1 σ H1 _ I1 q1) fun vl s2 ⟨l, H2, I2, pl, q2⟩ => thn (hu pins s2 σ H2 _ I2 q2) fun vu s3 ⟨u, H3, I3, pu, q3⟩ => ?_)
  rw [evalPart_none]
  refine wpAny_pure ?_
  have I4 : Inv X pins σ H3 { s3 with heap := s3.heap.push { cls := .type "slice", data := .fields #[vl, vu, .none] } } := I3.kept (t' := s3.toks) fun b ob q => Heap.get?_push_of_some _ q
  obtain ⟨T, id, hT, ht, hg⟩ := hr pins { s3 with heap := s3.heap.push { cls := .type "slice", data := .fields #[vl, vu, .none] } } σ H3 x v vl vu l u s3.heap.objs.size Q I4 r1 (Heap.IsSliceOf.new ..) pl pu q3
  show wpAny (model X.prog X.w) X.A (subscriptTail e (.Slice lo hi none p2) v (.ref s3.heap.objs.size)) (EP X pins σ Q) X.xe { s3 with heap := s3.heap.push { cls := .type "slice", data := .fields #[vl, vu, .none] } }
  exact tail_any (ops := [.ref s3.heap.objs.size, v]) ht hT hg (by with_unfolding_all rfl)
def cutV (xs : List V) (lo hi : Option Int) : List V := (xs.drop (HT.sIx xs.length 0 lo)).take (HT.sIx xs.length xs.length hi - HT.sIx xs.length 0 lo)
theorem cutV_length (xs : List V) (lo hi : Option Int) : (cutV xs lo hi).length ≤ xs.length := by
  unfold cutV
  rw [List.length_take, List.length_drop]
  omega
end
def ixN (n : Nat) (i : Int) : Option Nat := if 0 ≤ i then (if i < n then some i.toNat else none) else if -(n : Int) ≤ i then some (i + n).toNat else none
def atI {α : Type} (xs : List α) (i : Int) : Option α := (ixN xs.length i).bind fun j => xs[j]?
theorem ixN_seq {n : Nat} {i : Int} {j : Nat} (h : ixN n i = some j) : seqIndex? i n = some j ∧ j < n ∧ -(n : Int) ≤ i ∧ i < n := by
  unfold ixN at h
  by_cases h0 : 0 ≤ i
  · rw [if_pos h0] at h
    by_cases h1 : i < n
    · rw [if_pos h1] at h
      have e : i.toNat = j := Option.some.inj h
      exact ⟨by rw [seqIndex_of h0 h1, e], by omega, by omega, h1⟩
    · rw [if_neg h1] at h; cases h
  · rw [if_neg h0] at h
    by_cases h1 : -(n : Int) ≤ i
    · rw [if_pos h1] at h
      have e : (i + n).toNat = j := Option.some.inj h
      exact ⟨by rw [seqIndex_neg (by omega) h1, e], by omega, h1, by omega⟩
    · rw [if_neg h1] at h; cases h
theorem atI_get {α : Type} {xs : List α} {i : Int} {v : α} (h : atI xs i = some v) : ∃ j, seqIndex? i xs.length = some j ∧ xs[j]? = some v ∧ j < xs.length ∧ -(xs.length : Int) ≤ i ∧ i < xs.length := by
  unfold atI at h
  cases e : ixN xs.length i with
  | none => rw [e] at h; cases h
  | some j =>
    rw [e] at h
    obtain ⟨h1, h2, h3, h4⟩ := ixN_seq e
    exact ⟨j, h1, h, h2, h3, h4⟩
theorem atI_nat {α : Type} {xs : List α} {j : Nat} {v : α} (h : xs[j]? = some v) : atI xs (j : Int) = some v := by
  have hj : j < xs.length := (List.getElem?_eq_some_iff.mp h).1
  have e : ixN xs.length (j : Int) = some j := by
    unfold ixN
    rw [if_pos (by omega), if_pos (by omega)]; simp
  unfold atI; rw [e]; exact h
def PlainIx (b : Expr) : Prop := ∀ o i, subscripted b false o i = operate [o, i] (getItem o i)
def IxR (X : Cx) (r : R2) : Prop :=
  ∀ (value slice : Expr) (pins : List (Addr × Obj)) (s : Shared) (σ : St) (H : Hp) (x y : V) (v u : Value) (Q : VK), Inv X pins σ H s → RelV x v → RelV y u → r x y H Q →
    subscripted slice false v u = operate [v, u] (getItem v u) → wpAny (model X.prog X.w) X.A (subscriptTail value slice v u) (EP X pins σ Q) X.xe s
def MtR (X : Cx) (id : String) (r : V → List V → Hp → VK → Prop) : Prop :=
  ∀ (pins : List (Addr × Obj)) (s : Shared) (σ : St) (H : Hp) (x : V) (xs : List V) (v : Value) (us : List Value) (Q : VK), Inv X pins σ H s → RelV x v → Vals xs us → r x xs H Q →
    wpAny (model X.prog X.w) X.A (call (.builtin id) (v :: us)) (EP X pins σ Q) X.xe s
section
variable {X : Cx} {a b : Expr} {ta tb : TE} {pos : Pos}
theorem IxR.or {r r' : R2} (h : IxR X r) (h' : IxR X r') : IxR X (fun x y H Q => r x y H Q ∨ r' x y H Q) := by
  intro value slice pins s σ H x y v u Q I rx ry q hs
  rcases q with q | q
  · exact h value slice pins s σ H x y v u Q I rx ry q hs
  · exact h' value slice pins s σ H x y v u Q I rx ry q hs
theorem MtR.or {id : String} {r r' : V → List V → Hp → VK → Prop} (h : MtR X id r) (h' : MtR X id r') : MtR X id (fun x xs H Q => r x xs H Q ∨ r' x xs H Q) := by
  intro pins s σ H x xs v us Q I rx rs q
  rcases q with q | q
  · exact h pins s σ H x xs v us Q I rx rs q
  · exact h' pins s σ H x xs v us Q I rx rs q
theorem pe_ix {r : R2} (hr : IxR X r) (ha : PE X a ta) (hb : PE X b tb) (hs : PlainIx b) : PE X (.Subscript a b pos) (tOp r ta tb) := by
  intro pins s σ H Q I h
  exact Subscript_ (binT ha hb I h fun v u s2 x y H2 I2 rx ry q => hr a b pins s2 σ H2 x y v u Q I2 rx ry q (hs _ _))
def rIxL (K : PySem.W.Frag) : R2 := fun x y H Q => ∃ p xs i v, x = .ref p ∧ y = .int i ∧ SqL K H p xs ∧ atI xs i = some v ∧ Q v H
def rIxT (K : PySem.W.Frag) : R2 := fun x y H Q => ∃ p xs i v, x = .ref p ∧ y = .int i ∧ SqT K H p xs ∧ atI xs i = some v ∧ Q v H
def rIxS : R2 := fun x y H Q => ∃ z i c, x = .str z ∧ y = .int i ∧ z.length ≤ sizeLine ∧ atI z.cps.toList i = some c ∧ Q (.str ⟨#[c]⟩) H
theorem ix_list : IxR X (rIxL X.K) := by
  intro value slice pins s σ H x y v u Q I rx ry h hs
  obtain ⟨p, xs, i, z, rfl, rfl, hq, he, q⟩ := h
  cases rx
  obtain ⟨t, rfl⟩ := ry
  obtain ⟨its, r, pl, hz⟩ := I.list hq
  obtain ⟨j, h1, h2, h3, h4, h5⟩ := atI_get he
  obtain ⟨w, ew, rw'⟩ := r.get h2
  have hl := r.length
  have hn := line63
  have fin : EP X pins σ Q w s := ⟨z, H, I, rw', q⟩
  by_cases h0 : 0 ≤ i
  · have hj : i.toNat = j := by
      rw [seqIndex_of h0 h5] at h1
      exact Option.some.inj h1
    exact item_listR pl.isList h0 (by omega) (by rw [hj]; simpa using ew) fin hs
  · have hj : (i + (its.toArray.size : Int)).toNat = j := by
      rw [seqIndex_neg (by omega) h4] at h1
      rw [List.size_toArray, ← hl]
      exact Option.some.inj h1
    exact subscriptTail_builtinR (x := w) pl.isList.typeIs slot_list_getitem.lookup
      (wpAny_getItem_list_neg (Q := fun r s' => r = w ∧ EP X pins σ Q r s') pl.isList (by omega) (by rw [List.size_toArray] <;> omega) (by omega) (by rw [hj]; simpa using ew) ⟨rfl, fin⟩) hs
theorem ix_tup : IxR X (rIxT X.K) := by
  intro value slice pins s σ H x y v u Q I rx ry h hs
  obtain ⟨p, xs, i, z, rfl, rfl, hq, he, q⟩ := h
  cases rx
  obtain ⟨t, rfl⟩ := ry
  obtain ⟨its, r, pl, hz⟩ := I.tuple hq
  obtain ⟨j, h1, h2, h3, h4, h5⟩ := atI_get he
  obtain ⟨w, ew, rw'⟩ := r.get h2
  have hl := r.length
  have hn := line63
  have fin : EP X pins σ Q w s := ⟨z, H, I, rw', q⟩
  exact subscriptTail_builtinR (x := w) pl.typeIs slot_tuple_getitem.lookup
    (getItem_tuple (j := j) (Q := fun r s' => r = w ∧ EP X pins σ Q r s') pl (by omega) (by omega) (by rw [List.size_toArray, ← hl]; exact h1) (by simpa using ew) ⟨rfl, fin⟩) hs
theorem ix_str : IxR X rIxS := by
  intro value slice pins s σ H x y v u Q I rx ry h hs
  obtain ⟨z, i, c, rfl, rfl, hz, he, q⟩ := h
  obtain ⟨t, rfl⟩ := rx
  obtain ⟨t', rfl⟩ := ry
  obtain ⟨j, h1, h2, h3, h4, h5⟩ := atI_get he
  have hl : z.cps.toList.length = z.length := by simp [Str.length]
  rw [hl] at h1 h4 h5
  have hn := line63
  exact tail_any (typeIs_str s z t) slot_str_getitem.lookup (getItem_str (c := c) (by
    have e1 : decide (i < -(2 ^ 63 : Int)) = false := decide_eq_false (by omega)
    have e2 : decide (i ≥ 2 ^ 63) = false := decide_eq_false (by omega)
    rw [e1, e2, Bool.or_false]) (by rw [h1]; simpa using h2) ⟨.str ⟨#[c]⟩, H, I.tok _, ⟨_, rfl⟩, q⟩) hs
theorem mapSeq_set (its : List Value) (n j : Nat) (u : Value) : Obj.mapSeq (·.setIfInBounds j u) { cls := .type "list", data := .seq its.toArray n } = { cls := .type "list", data := .seq (its.set j u).toArray n } := by
  simp [Obj.mapSeq]
theorem Inv.lst {pins : List (Addr × Obj)} {σ : St} {H : Hp} {s : Shared} {p : Addr} {xs : List V} (I : Inv X pins σ H s) (h : H p = some (.lst xs)) :
    ∃ (its : List Value) (n : Nat), Vals xs its ∧ s.heap.get? p = some { cls := .type "list", data := .seq its.toArray n } ∧ xs.length ≤ sizeLine := by
  obtain ⟨z, its, n, r, e⟩ := I.hok p _ h
  exact ⟨its, n, r, e, z⟩
theorem Inv.lstUpd {pins : List (Addr × Obj)} {σ : St} {H : Hp} {s : Shared} {p : Addr} {xs ys : List V} {its its' : List Value} {n n' : Nat} {f : Obj → Obj} (I : Inv X pins σ H s) (h : H p = some (.lst xs))
    (ho : s.heap.get? p = some { cls := .type "list", data := .seq its.toArray n }) (hf : f { cls := .type "list", data := .seq its.toArray n } = { cls := .type "list", data := .seq its'.toArray n' }) (r : Vals ys its') (hz : ys.length ≤ sizeLine) (t : Nat) :
    Inv X pins σ (upd H p (.lst ys)) { s with heap := s.heap.update p f, toks := t } := by
  have e : (s.heap.update p f).get? p = some { cls := .type "list", data := .seq its'.toArray n' } := by
    rw [Heap.get?_update_self f ho (by rw [hf] <;> rfl), hf]
  refine I.write (x := p) (e := p) (by rw [h]; trivial) (.inl rfl) (fun b u hb q => (Heap.get?_update_other _ _ (Ne.symm hb)).trans q) ⟨_, e⟩ ?_
  exact ⟨hz, its', n', r, e⟩
def rSetL : V → V → V → Hp → (Hp → Prop) → Prop := fun o i v H Q => ∃ p xs k j, o = .ref p ∧ i = .int k ∧ H p = some (.lst xs) ∧ ixN xs.length k = some j ∧ Q (upd H p (.lst (xs.set j v)))
theorem set_list : PSet X rSetL := by
  intro pins s σ H o i v ov iv u Q I ro ri rv h
  obtain ⟨p, xs, k, j, rfl, rfl, hp, hj, q⟩ := h
  cases ro
  obtain ⟨t, rfl⟩ := ri
  obtain ⟨its, n, r, ho, hz⟩ := I.lst hp
  obtain ⟨h1, h2, h3, h4⟩ := ixN_seq hj
  have hl := r.length
  have hn := line63
  have I' : Inv X pins σ (upd H p (.lst (xs.set j v))) { s with heap := s.heap.update p (Obj.mapSeq (·.setIfInBounds j u)) } :=
    I.lstUpd hp ho (mapSeq_set its n j u) (r.set rv j) (by rw [List.length_set]; exact hz) s.toks
  by_cases h0 : 0 ≤ k
  · have hk : k.toNat = j := by
      rw [seqIndex_of h0 h4] at h1
      exact Option.some.inj h1
    exact PySem.W.ki_setAt ho h0 (by omega) (by rw [List.size_toArray, ← hl]; exact h4) (by rw [hk]; exact ⟨_, I', q⟩)
  · have hk : (k + (its.toArray.size : Int)).toNat = j := by
      rw [seqIndex_neg (by omega) h3] at h1
      rw [List.size_toArray, ← hl]
      exact Option.some.inj h1
    exact PySem.W.ki_setBack ho (by omega) (by rw [List.size_toArray, ← hl]; exact h3) (by omega) (by rw [hk]; exact ⟨_, I', q⟩)
theorem slice_bounds (lo hi : Option Int) (n : Nat) : (sliceBounds lo hi none n).1 = ((HT.sIx n 0 lo : Nat) : Int) ∧ (sliceBounds lo hi none n).2.1 = ((HT.sIx n n hi : Nat) : Int) ∧ (sliceBounds lo hi none n).2.2 = 1 := by
  refine ⟨?_, ?_, rfl⟩
  · cases lo with
    | none => simp [sliceBounds, HT.sIx]
    | some i =>
      simp only [sliceBounds, HT.sIx, Option.getD_none, show (1 : Int) > 0 by decide, if_true]
      by_cases h : i < 0
      · simp only [h, if_true] <;> omega
      · simp only [h, if_false] <;> omega
  · cases hi with
    | none => simp [sliceBounds, HT.sIx]
    | some i =>
      simp only [sliceBounds, HT.sIx, Option.getD_none, show (1 : Int) > 0 by decide, if_true]
      by_cases h : i < 0
      · simp only [h, if_true] <;> omega
      · simp only [h, if_false] <;> omega
theorem slicePick_cut (its : List Value) (lo hi : Option Int) : slicePick its.toArray lo hi none = ((its.drop (HT.sIx its.length 0 lo)).take (HT.sIx its.length its.length hi - HT.sIx its.length 0 lo)).toArray := by
  obtain ⟨h1, h2, h3⟩ := slice_bounds lo hi its.toArray.size
  unfold slicePick
  rw [h1, h2, h3]
  simp only [sliceRange_one, pick_run, List.size_toArray] <;> rfl
def rSlL (K : PySem.W.Frag) : V → Option Int → Option Int → Hp → VK → Prop := fun x lo hi H Q => ∃ a xs, x = .ref a ∧ SqL K H a xs ∧ ∀ p, H p = none → Q (.ref p) (upd H p (.lst (cutV xs lo hi)))
theorem sl_list : SlR X (rSlL X.K) := by
  intro pins s σ H x v vl vu lo hi sl Q I rx hs pl pu h
  obtain ⟨a, xs, rfl, hx, q⟩ := h
  cases rx
  obtain ⟨its, r, ht, hz⟩ := I.list hx
  have hlen := r.length
  refine ⟨"list", _, slot_list_getitem.lookup, ht.isList.typeIs, ?_⟩
  refine wpAny_getItem_list_slice ht.isList hs pl pu .none (by simp) ?_ (by rw [List.size_toArray] <;> omega)
  rw [slicePick_cut, ← hlen]
  refine ⟨.ref s.heap.objs.size, _, I.laid (t' := s.toks) (o := .lst (cutV xs lo hi)) (fun b ob q => Heap.get?_push_of_some _ q) (Nat.le_refl _) ?_, rfl, q _ (I.hok.fresh (Nat.le_refl _))⟩
  exact ⟨Nat.le_trans (cutV_length xs lo hi) hz, _, 0, (r.drop (HT.sIx xs.length 0 lo)).take (HT.sIx xs.length xs.length hi - HT.sIx xs.length 0 lo), Heap.get?_push_size _ rfl⟩
def flatV : V → Bool
  | .non => true
  | .bl _ => true
  | .int _ => true
  | .str _ => true
  | _ => false
def eqV : V → V → Bool
  | .non, .non => true
  | .bl a, .bl b => a == b
  | .bl a, .int b => (if a then 1 else 0) == b
  | .int a, .bl b => a == (if b then 1 else 0)
  | .int a, .int b => a == b
  | .str a, .str b => a == b
  | _, _ => false
theorem eqAt_V {A : Around} {s : Shared} {y x : V} {u v : Value} (ry : RelV y u) (rx : RelV x v) (fy : flatV y = true) (fx : flatV x = true) : SeqAt.EqAt A s u v (eqV y x) := by
  cases y with
  | non =>
    cases ry
    cases x with
    | non => cases rx; exact SeqAt.EqAt.same _
    | bl b => cases rx; exact SeqAt.EqAt.none_bool b
    | int b => obtain ⟨t, rfl⟩ := rx; exact SeqAt.EqAt.none_int b t
    | str b => obtain ⟨t, rfl⟩ := rx; exact SeqAt.EqAt.none_str b t
    | _ => exact absurd (show false = true from fx) Bool.false_ne_true
  | bl a =>
    cases ry
    cases x with
    | non => cases rx; exact SeqAt.EqAt.bool_none a
    | bl b => cases rx; exact SeqAt.EqAt.bool_bool a b
    | int b => obtain ⟨t, rfl⟩ := rx; exact SeqAt.EqAt.bool_int a b t
    | str b => obtain ⟨t, rfl⟩ := rx; exact SeqAt.EqAt.bool_str a b t
    | _ => exact absurd (show false = true from fx) Bool.false_ne_true
  | int a =>
    obtain ⟨t', rfl⟩ := ry
    cases x with
    | non => cases rx; exact SeqAt.EqAt.int_none a t'
    | bl b => cases rx; exact SeqAt.EqAt.int_bool a t' b
    | int b => obtain ⟨t, rfl⟩ := rx; exact SeqAt.EqAt.int_int a t' b t
    | str b => obtain ⟨t, rfl⟩ := rx; exact SeqAt.EqAt.int_str a t' b t
    | _ => exact absurd (show false = true from fx) Bool.false_ne_true
  | str a =>
    obtain ⟨t', rfl⟩ := ry
    cases x with
    | non => cases rx; exact SeqAt.EqAt.str_none a t'
    | bl b => cases rx; exact SeqAt.EqAt.str_bool a t' b
    | int b => obtain ⟨t, rfl⟩ := rx; exact SeqAt.EqAt.str_int a t' b t
    | str b => obtain ⟨t, rfl⟩ := rx; exact SeqAt.EqAt.str_str a t' b t
    | _ => exact absurd (show false = true from fx) Bool.false_ne_true
  | _ => exact absurd (show false = true from fy) Bool.false_ne_true
def eqU (x : V) (u : Value) : Bool := match u with
  | .none => eqV .non x
  | .bool b => eqV (.bl b) x
  | .int i _ => eqV (.int i) x
  | .str z _ => eqV (.str z) x
  | _ => false
theorem eqU_of {x y : V} {u : Value} (r : RelV y u) (f : flatV y = true) : eqU x u = eqV y x := by
  cases y with
  | non => cases r; rfl
  | bl b => cases r; rfl
  | int i => obtain ⟨t, rfl⟩ := r; rfl
  | str z => obtain ⟨t, rfl⟩ := r; rfl
  | _ => exact absurd (show false = true from f) Bool.false_ne_true
theorem any_eqU {x : V} : ∀ {xs : List V} {us : List Value}, Vals xs us → xs.all flatV = true → us.any (eqU x) = xs.any fun y => eqV y x
  | _, _, .nil, _ => rfl
  | y :: xs, u :: us, .cons r t, f => by
    rw [List.all_cons, Bool.and_eq_true] at f
    rw [List.any_cons, List.any_cons, eqU_of r f.1, any_eqU t f.2]
theorem mem_eqAt {A : Around} {s : Shared} {x : V} {v : Value} (rx : RelV x v) (fx : flatV x = true) : ∀ {xs : List V} {us : List Value}, Vals xs us → xs.all flatV = true → ∀ u ∈ us, SeqAt.EqAt A s u v (eqU x u)
  | _, _, .nil, _ => fun u hu => by cases hu
  | y :: xs, u :: us, .cons r t, f => fun u' hu => by
    rw [List.all_cons, Bool.and_eq_true] at f
    rcases List.mem_cons.mp hu with rfl | hu
    · rw [eqU_of r f.1]; exact eqAt_V r rx f.1 fx
    · exact mem_eqAt rx fx t f.2 u' hu
def inV (x : V) (xs : List V) : Bool := xs.any fun y => eqV y x
def rIn (K : PySem.W.Frag) (neg : Bool) : R2 := fun x y H Q => ∃ p xs, y = .ref p ∧ (SqL K H p xs ∨ SqT K H p xs) ∧ flatV x = true ∧ xs.all flatV = true ∧ Q (.bl (if neg then !inV x xs else inV x xs)) H
theorem op_in_seq : OpR X (compareOp .In) (rIn X.K false) := by
  intro pins s σ H x y v u Q I rx ry h
  obtain ⟨p, xs, rfl, hq, fx, fs, q⟩ := h
  cases ry
  rcases hq with hq | hq
  · obtain ⟨its, r, pl, hz⟩ := I.list hq
    refine SeqAt.in_listAt (eqU x) pl.isList (fun w hw => mem_eqAt rx fx r fs w (by simpa using hw)) ⟨.bl _, H, I, rfl, ?_⟩
    rw [show its.toArray.any (eqU x) = its.any (eqU x) by simp, any_eqU r fs]
    exact q
  · obtain ⟨its, r, pl, hz⟩ := I.tuple hq
    refine SeqAt.in_tupleAt (eqU x) pl (fun w hw => mem_eqAt rx fx r fs w (by simpa using hw)) ⟨.bl _, H, I, rfl, ?_⟩
    rw [show its.toArray.any (eqU x) = its.any (eqU x) by simp, any_eqU r fs]
    exact q
theorem op_notIn_seq : OpR X (compareOp .NotIn) (rIn X.K true) := by
  intro pins s σ H x y v u Q I rx ry h
  obtain ⟨p, xs, rfl, hq, fx, fs, q⟩ := h
  cases ry
  rcases hq with hq | hq
  · obtain ⟨its, r, pl, hz⟩ := I.list hq
    refine SeqAt.notIn_listAt (eqU x) pl.isList (fun w hw => mem_eqAt rx fx r fs w (by simpa using hw)) ⟨.bl _, H, I, rfl, ?_⟩
    rw [show its.toArray.any (eqU x) = its.any (eqU x) by simp, any_eqU r fs]
    exact q
  · obtain ⟨its, r, pl, hz⟩ := I.tuple hq
    refine SeqAt.notIn_tupleAt (eqU x) pl (fun w hw => mem_eqAt rx fx r fs w (by simpa using hw)) ⟨.bl _, H, I, rfl, ?_⟩
    rw [show its.toArray.any (eqU x) = its.any (eqU x) by simp, any_eqU r fs]
    exact q
theorem CallR.or {f : Value} {r r' : List V → Hp → VK → Prop} (h : CallR X f r) (h' : CallR X f r') : CallR X f (fun xs H Q => r xs H Q ∨ r' xs H Q) := by
  intro pins s σ H xs us Q I rs q
  rcases q with q | q
  · exact h pins s σ H xs us Q I rs q
  · exact h' pins s σ H xs us Q I rs q
theorem call_list_of : CallR X (.type "list") (fun xs H Q => ∃ p ys, xs = [.ref p] ∧ (SqL X.K H p ys ∨ SqT X.K H p ys) ∧ ∀ l, H l = none → Q (.ref l) (upd H l (.lst ys))) := by
  intro pins s σ H xs us Q I r h
  obtain ⟨p, ys, rfl, hq, q⟩ := h
  obtain ⟨u, rfl, rx⟩ := vals1 r
  cases rx
  have fin : ∀ (its : List Value), Vals ys its → ys.length ≤ sizeLine → ∀ (h' : Heap) (c' : Nat), (∀ b o', s.heap.get? b = some o' → h'.get? b = some o') →
      h'.get? s.heap.objs.size = some { cls := .type "list", dict := none, data := .seq its.toArray c', slots := #[] } → EP X pins σ Q (.ref s.heap.objs.size) { s with heap := h' } := fun its r' hz h' c' kp e =>
    ⟨.ref s.heap.objs.size, _, I.laid (t' := s.toks) kp (Nat.le_refl _) (show ObjOk X.prog X.w _ h' _ (.lst ys) from ⟨hz, its, c', r', e⟩), rfl, q _ (I.hok.fresh (Nat.le_refl _))⟩
  rcases hq with hq | hq
  · obtain ⟨its, r', pl, hz⟩ := I.list hq
    have hlen := r'.length
    obtain ⟨o, ho, hc, n, hd⟩ := pl.isList
    exact call_list_seq p (.inl rfl) ho hc hd (fun h' c' kp e => fin its r' hz h' c' kp e) (by simp only [List.size_toArray] <;> omega)
  · obtain ⟨its, r', pl, hz⟩ := I.tuple hq
    have hlen := r'.length
    obtain ⟨o, ho, hc, n, hd⟩ := pl
    exact call_list_seq p (.inr rfl) ho hc hd (fun h' c' kp e => fin its r' hz h' c' kp e) (by simp only [List.size_toArray] <;> omega)
theorem call_tuple_of : CallR X (.type "tuple") (fun xs H Q => ∃ p ys, xs = [.ref p] ∧ ((SqL X.K H p ys ∧ ∀ l, H l = none → Q (.ref l) (upd H l (.tup ys))) ∨ (SqT X.K H p ys ∧ Q (.ref p) H))) := by
  intro pins s σ H xs us Q I r h
  obtain ⟨p, ys, rfl, h⟩ := h
  obtain ⟨u, rfl, rx⟩ := vals1 r
  cases rx
  rcases h with ⟨hq, q⟩ | ⟨hq, q⟩
  · obtain ⟨its, r', pl, hz⟩ := I.list hq
    have hlen := r'.length
    refine call_tuple_list pl.isList (fun h' kp => ?_) (by simp only [List.size_toArray] <;> omega)
    have I1 : Inv X pins σ H { s with heap := h' } := I.kept (t' := s.toks) kp
    have I2 : Inv X pins σ (upd H h'.objs.size (.tup ys)) { s with heap := h'.push { cls := .type "tuple", data := .seq its.toArray } } :=
      I1.laid (t' := s.toks) (fun b o e => Heap.get?_push_of_some _ e) (Nat.le_refl _) (show ObjOk X.prog X.w _ _ _ (.tup ys) from ⟨hz, its, r', IsTup.new _ _⟩)
    exact ⟨.ref h'.objs.size, _, I2, rfl, q _ (I1.hok.fresh (Nat.le_refl _))⟩
  · obtain ⟨its, r', pl, hz⟩ := I.tuple hq
    exact call_tuple_same pl ⟨.ref p, H, I, rfl, q⟩
def tyV (K : PySem.W.Frag) (T : String) (x : V) (H : Hp) : Prop := match x with
  | .str _ => T = "str"
  | .int _ => T = "int"
  | .ref p => (T = "list" ∧ ∃ xs, SqL K H p xs) ∨ (T = "tuple" ∧ ∃ o, K.lookup p = some o ∧ o.cls = .type "tuple" ∧ o.dict = none) ∨
      (T = "dict" ∧ ((∃ kvs, H p = some (.dK kvs)) ∨ ∃ kvs, H p = some (.dT kvs))) ∨ (T = "set" ∧ ∃ S n, H p = some (.set S n))
  | _ => False
theorem tyV_is {pins : List (Addr × Obj)} {σ : St} {H : Hp} {s : Shared} {T : String} {x : V} {v : Value} (I : Inv X pins σ H s) (r : RelV x v) (ty : tyV X.K T x H) :
    s.TypeIs v T ∧ ∀ a, v = .ref a → ∃ ob, s.heap.get? a = some ob ∧ ob.dict = none := by
  cases x with
  | str z =>
    obtain ⟨t, rfl⟩ := r
    cases (show T = "str" from ty)
    exact ⟨typeIs_str s z t, fun _ e => nomatch e⟩
  | int i =>
    obtain ⟨t, rfl⟩ := r
    cases (show T = "int" from ty)
    exact ⟨typeIs_int s i t, fun _ e => nomatch e⟩
  | ref p =>
    cases r
    rcases ty with ⟨rfl, xs, hq⟩ | ⟨rfl, o, hk, hc, hd⟩ | ⟨rfl, hk⟩ | ⟨rfl, S, n, hk⟩
    · obtain ⟨its, _, pl, _⟩ := I.list hq
      refine ⟨pl.isList.typeIs, fun a e => ?_⟩
      cases e
      obtain ⟨o, n, e, c, hd, _⟩ := pl
      exact ⟨o, e, hd⟩
    · refine ⟨⟨o, I.kIn p o hk, hc⟩, fun a e => ?_⟩
      cases e
      exact ⟨o, I.kIn _ o hk, hd⟩
    · have z : ∃ o, s.heap.get? p = some o ∧ o.ExactDict := by
        rcases hk with ⟨kvs, hk⟩ | ⟨kvs, hk⟩
        · obtain ⟨_, _, _, _, o, _, _, e, ex, _⟩ := I.hok p _ hk
          exact ⟨o, e, ex⟩
        · obtain ⟨_, _, _, _, o, _, _, e, ex, _⟩ := I.hok p _ hk
          exact ⟨o, e, ex⟩
      obtain ⟨o, e, ex⟩ := z
      refine ⟨⟨o, e, ex.1⟩, fun a e2 => ?_⟩
      cases e2
      exact ⟨o, e, ex.2.1⟩
    · obtain ⟨o, _, _, _, e, ex, _⟩ := I.hok p _ hk
      refine ⟨⟨o, e, ex.1⟩, fun a e2 => ?_⟩
      cases e2
      exact ⟨o, e, ex.2.1⟩
  | _ => exact False.elim ty
def tBM (K : PySem.W.Frag) (T : String) (r : V → List V → Hp → VK → Prop) (to : TE) (t : TA) : TE := fun σ H Q => to σ H fun x H1 => tyV K T x H1 ∧ t σ H1 fun xs H2 => r x xs H2 Q
variable {o e : Expr} {es : List Expr} {to : TE} {t : TA} {name : Str} {apos cpos : Pos} {T id : String} {r : V → List V → Hp → VK → Prop}
theorem pe_bm (pa : PlainAttrs T) (slot : Slot T name id) (hty : typeOf (.builtin id) = pure (.type "method_descriptor")) (hm : MtR X id r) (ho : PE X o to) (ha : PA X (e :: es) t)
    (hbase : attributeBase o name X.env (eval o X.env) = eval o X.env := by rfl)
    (hfew : ((backTo cpos (starEach (e :: es) X.env)).all (fun x => !x.1) && (backToKw cpos (keywordEach [] X.env)).all (fun x => x.1.isSome)
      && decide ((e :: es).length + ([] : List Keyword).length + (if ([] : List Keyword).isEmpty then 0 else 1) < 30)) = true := by rfl)
    (hline : (apos.endLine == cpos.line) = true := by rfl) (hs : starEach (e :: es) X.env = (false, eval e X.env) :: starEach es X.env := by rfl) (hplain : (backTo cpos (starEach es X.env)).any (·.1) = false := by rfl) :
    PE X (.Call (.Attribute o name apos) (e :: es) [] cpos) (tBM X.K T r to t) := by
  intro pins s σ H Q I h
  refine wpAny_Call_method_late hbase hfew hline rfl (thn (ho pins s σ H _ I h) fun v s1 ⟨x, H1, I1, r1, ty, q1⟩ => ?_)
  obtain ⟨h1, h2⟩ := tyV_is I1 r1 ty
  refine ⟨T, id, pa, slot, hty, h1, h2, ?_⟩
  have hA := ha cpos pins s1 σ H1 _ I1 q1
  rw [hs] at hA ⊢
  refine Calls.callWith_builtin (by show (false || (backTo cpos (starEach es X.env)).any (·.1)) = false; rw [hplain] <;> rfl) (Calls.evalArgs_plain ?_)
  exact thn hA fun us s2 ⟨vs, H2, I2, r2, q2⟩ => hm pins s2 σ H2 x vs v us Q I2 r1 r2 q2
end
def MtM (X : Cx) (id : String) (r : V → List V → Hp → VK → Prop) : Prop :=
  ∀ (pins : List (Addr × Obj)) (s : Shared) (σ : St) (H : Hp) (x : V) (xs : List V) (v : Value) (us : List Value) (Q : VK), Inv X pins σ H s → RelV x v → Vals xs us → r x xs H Q →
    wpAny (model X.prog X.w) X.A (call (.builtin id) (v :: us)) (EP X pins σ Q) X.xe s
theorem Vals.one : ∀ {x : V} {us : List Value}, Vals [x] us → ∃ u, us = [u] ∧ RelV x u
  | _, _, .cons r .nil => ⟨_, rfl, r⟩
theorem Vals.two : ∀ {x y : V} {us : List Value}, Vals [x, y] us → ∃ u v, us = [u, v] ∧ RelV x u ∧ RelV y v
  | _, _, _, .cons r (.cons q .nil) => ⟨_, _, rfl, r, q⟩
theorem Vals.zero : ∀ {us : List Value}, Vals [] us → us = []
  | _, .nil => rfl
theorem Vals.eraseIdx : ∀ {xs : List V} {us : List Value} (i : Nat), Vals xs us → Vals (xs.eraseIdx i) (us.eraseIdx i)
  | _, _, _, .nil => .nil
  | _, _, 0, .cons _ t => t
  | _, _, i + 1, .cons r t => .cons r (Vals.eraseIdx i t)
theorem len_erase {α : Type} : ∀ (l : List α) (i : Nat), (l.eraseIdx i).length ≤ l.length
  | [], _ => Nat.le_refl _
  | _ :: _, 0 => Nat.le_succ _
  | _ :: r, i + 1 => Nat.succ_le_succ (len_erase r i)
section
variable {X : Cx} {pins : List (Addr × Obj)} {σ : St} {H : Hp} {s : Shared} {l b : Addr} {xs ys zs : List V}
theorem Inv.lset {its its' : List Value} {n : Nat} {f : Array Value → Array Value} {t' : Nat} (I : Inv X pins σ H s) (hH : H l = some (.lst xs))
    (e : s.heap.get? l = some { cls := .type "list", data := .seq its.toArray n }) (hf : f its.toArray = its'.toArray) (hv : Vals ys its') (hz : ys.length ≤ sizeLine) :
    Inv X pins σ (upd H l (.lst ys)) { s with heap := s.heap.update l (Obj.mapSeq f), toks := t' } := by
  have q := PySem.IsL.update e f
  rw [hf] at q
  refine I.write (x := l) (e := l) (by rw [hH]; exact trivial) (.inl rfl) (fun b' u hb hu => (Heap.get?_update_other s.heap (Obj.mapSeq f) (Ne.symm hb)).trans hu) ⟨_, q⟩ ?_
  exact ⟨hz, its', _, hv, q⟩
theorem Inv.lnew {its : List Value} {t' : Nat} (I : Inv X pins σ H s) (hv : Vals ys its) (hz : ys.length ≤ sizeLine) :
    Inv X pins σ (upd H s.heap.objs.size (.lst ys)) { s with heap := s.heap.push { cls := .type "list", data := .seq its.toArray }, toks := t' } :=
  I.laid (fun _ _ q => Heap.get?_push_of_some _ q) (Nat.le_refl _) ⟨hz, its, 0, hv, Heap.get?_push_size _ rfl⟩
theorem Inv.fresh (I : Inv X pins σ H s) : H s.heap.objs.size = none := I.hok.fresh (Nat.le_refl _)
theorem Inv.lstM (I : Inv X pins σ H s) (hH : H l = some (.lst xs)) : xs.length ≤ sizeLine ∧ ∃ (its : List Value) (n : Nat), Vals xs its ∧ xs.length = its.length ∧ s.heap.get? l = some { cls := .type "list", data := .seq its.toArray n } := by
  obtain ⟨z, its, n, r, e⟩ := I.hok l _ hH
  exact ⟨z, its, n, r, r.length, e⟩
theorem notLongL {n : Nat} (h : n ≤ sizeLine) : Builtin.List.listTooLong n = false := by
  unfold Builtin.List.listTooLong
  exact decide_eq_false (by omega)
end
section
variable {X : Cx}
def rAppend : V → List V → Hp → VK → Prop := fun x vs H Q => ∃ l xs y, x = .ref l ∧ vs = [y] ∧ H l = some (.lst xs) ∧ xs.length < sizeLine ∧ Q .non (upd H l (.lst (xs ++ [y])))
theorem mt_append : MtM X "list.append" rAppend := by
  intro pins s σ H x vs v us Q I rx rv h
  obtain ⟨l, xs, y, rfl, rfl, hH, hz, q⟩ := h
  cases rx
  obtain ⟨u, rfl, ru⟩ := rv.one
  obtain ⟨z, its, n, r, hl, e⟩ := I.lstM hH
  refine call_meets F.slot_list_append ⟨_, e, rfl⟩ F.entry_list_append (F.args_list_append_2 _ _) (PySem.list_append l its.toArray n u (by rw [List.size_toArray]; omega)) ⟨e, ?_⟩
  refine ⟨.non, _, I.lset (its' := its ++ [u]) hH e (by simp) (r.append (.cons ru .nil)) ?_, rfl, q⟩
  rw [List.length_append, List.length_singleton]
  omega
def rExtend : V → List V → Hp → VK → Prop := fun x vs H Q => ∃ l b xs zs, x = .ref l ∧ vs = [.ref b] ∧ H l = some (.lst xs) ∧ H b = some (.lst zs) ∧ xs.length + zs.length ≤ sizeLine ∧ Q .non (upd H l (.lst (xs ++ zs)))
theorem mt_extend : MtM X "list.extend" rExtend := by
  intro pins s σ H x vs v us Q I rx rv h
  obtain ⟨l, b, xs, zs, rfl, rfl, hH, hB, hz, q⟩ := h
  cases rx
  obtain ⟨u, rfl, ru⟩ := rv.one
  cases ru
  obtain ⟨z, its, n, r, hl, e⟩ := I.lstM hH
  obtain ⟨z2, its2, n2, r2, hl2, e2⟩ := I.lstM hB
  have hsz : its.toArray.size + its2.toArray.size ≤ sizeLine := by rw [List.size_toArray, List.size_toArray]; omega
  have hlong : ¬ (!its.toArray.isEmpty && Builtin.List.listTooLong (its.toArray.size + its2.toArray.size)) = true := by
    rw [notLongL hsz, Bool.and_false]
    exact Bool.false_ne_true
  refine call_meets F.slot_list_extend ⟨_, e, rfl⟩ F.entry_list_extend (F.args_list_extend_2 _ _)
    (AutoSeq1.list_extend_list_list_0 l its.toArray n b its2.toArray n2 hlong (by rw [List.size_toArray]; omega) (by omega)) ⟨e, e2, ?_⟩
  refine ⟨.non, _, I.lset (its' := its ++ its2) hH e (by simp) (r.append r2) ?_, rfl, q⟩
  rw [List.length_append]
  omega
def rPopAt : V → List V → Hp → VK → Prop := fun x vs H Q => ∃ l xs i k y, x = .ref l ∧ vs = [.int i] ∧ H l = some (.lst xs) ∧ -(2 ^ 63) ≤ i ∧ i < 2 ^ 63 ∧ seqIndex? i xs.length = some k ∧ xs[k]? = some y ∧ Q y (upd H l (.lst (xs.eraseIdx k)))
theorem mt_popAt : MtM X "list.pop" rPopAt := by
  intro pins s σ H x vs v us Q I rx rv h
  obtain ⟨l, xs, i, k, y, rfl, rfl, hH, h1, h2, hk, hy, q⟩ := h
  cases rx
  obtain ⟨u, rfl, ru⟩ := rv.one
  obtain ⟨t, rfl⟩ := ru
  obtain ⟨z, its, n, r, hl, e⟩ := I.lstM hH
  obtain ⟨w, hw, rw'⟩ := r.get hy
  refine call_meets F.slot_list_pop ⟨_, e, rfl⟩ F.entry_list_pop (F.args_list_pop_2 _ _)
    (MeetsSeq.list_pop_at l its.toArray n i t k w (fitsIndex_both h1 h2) (by rw [List.size_toArray, ← hl]; exact hk) (by rw [← Array.getElem?_toList]; exact hw) (by rw [List.size_toArray]; omega)) ⟨e, ?_⟩
  refine ⟨y, _, I.lset (its' := its.eraseIdx k) hH e ?_ (r.eraseIdx k) ?_, rw', q⟩
  · show its.toArray.eraseIdxIfInBounds k = (its.eraseIdx k).toArray
    rw [List.eraseIdxIfInBounds_toArray]
  · have := len_erase xs k
    omega
def rCat : R2 := fun x y H Q => ∃ l b xs zs, x = .ref l ∧ y = .ref b ∧ H l = some (.lst xs) ∧ H b = some (.lst zs) ∧ xs.length + zs.length ≤ sizeLine ∧ ∀ p, H p = none → Q (.ref p) (upd H p (.lst (xs ++ zs)))
theorem op_cat : OpR X (binaryOp .Add) rCat := by
  intro pins s σ H x y v u Q I rx ry h
  obtain ⟨l, b, xs, zs, rfl, rfl, hH, hB, hz, q⟩ := h
  cases rx
  cases ry
  obtain ⟨z, its, n, r, hl, e⟩ := I.lstM hH
  obtain ⟨z2, its2, n2, r2, hl2, e2⟩ := I.lstM hB
  refine PySem.P.add_list e e2 ?_ (by rw [List.size_toArray, List.size_toArray]; omega)
  have ea : its.toArray ++ its2.toArray = (its ++ its2).toArray := by simp
  rw [ea]
  exact ⟨.ref _, _, I.lnew (t' := s.toks) (r.append r2) (by rw [List.length_append]; omega), rfl, q _ I.fresh⟩
end
end L2
namespace Att
open PySem PySem.W PySem.Calls PyProof.Rows
theorem ints_of_wellAll {P : Params} {h : Heap} : ∀ (ns : List Int) (vs : List Value), WellAll P h vs (ns.map WData.int) → IntsAre vs ns := by
  intro ns
  induction ns with
  | nil =>
    intro vs w
    rw [List.map_nil] at w
    cases w
    exact .nil
  | cons n ns ih =>
    intro vs w
    rw [List.map_cons] at w
    cases w with
    | cons a b =>
      cases a
      exact .cons _ _ (ih _ b)
theorem script_of {l : OpenLaw} {n : Nat} (hn : l.most = some n) {P : Params} {h : Heap} {args : List WData} {vals : List Value}
    (hpre : l.row.toRowW.claim.pre args = true) (hwl : WellAll P h vals args) :
    ∃ a vs ns, vals = [Value.ref a] ∧ args = [WData.list (ns.map WData.int)] ∧ h.get? a = some { cls := .type "list", data := .seq vs.toArray } ∧ IntsAre vs ns ∧ ns.length ≤ n := by
  have hsh : WShape.hasAll [] args [.list .int] = true := (pre_splitW hpre).1
  have hc : l.pre.holds [] { args := args } = true := (pre_splitW hpre).2
  obtain ⟨d, r, rfl, h1, h2⟩ := hasAllW_cons hsh
  obtain rfl := hasAllW_nil h2
  obtain ⟨xs, rfl, h3⟩ := hasW_list h1
  obtain ⟨ns, rfl⟩ := items_int h3
  have hlen : ns.length ≤ n := by
    unfold OpenLaw.pre at hc
    have h4 : (WTm.not (.lt (.lit (.int (n : Int))) (.len (.arg 0)))).holds [] { args := [.list (ns.map .int)] } = true := by
      have h4 := (holds_andW hc).1
      rw [hn] at h4
      exact h4
    have h5 := condW_of h4 (w_not (w_lt w_lit (w_len_list (w_arg rfl))))
    rw [List.length_map] at h5
    refine Nat.le_of_not_lt fun q => ?_
    have q' : (n : Int) < ((ns.length : Nat) : Int) := by omega
    first
      | (rw [decide_eq_true q'] at h5; exact absurd h5 (by decide))
      | (simp at h5; omega)
  cases hwl with
  | cons w1 w2 =>
    cases w2
    cases w1 with
    | list ho hall => exact ⟨_, _, ns, rfl, rfl, ho, ints_of_wellAll ns _ hall, hlen⟩
theorem post_true (l : OpenLaw) (args : List WData) : l.row.toRowW.claim.post args (.bool true) args = true :=
  postW_of (r := l.row.toRowW) (X := (true == true))
    (show WShape.has [] (.bool true) .bool = true by first | rfl | decide | simp [WShape.has, WShape.arms, WShape.armsAll])
    (show (WTm.eq .res (.lit (.bool true))).value [] { args := args, res := some (.bool true), after := args } = some (.bool (true == true)) from w_eq_bool (w_res rfl) w_lit) rfl
theorem attach_call {l : OpenLaw} {n : Nat} {q : Program} {loose : List Str} {XP : (Str → Option Value) → Heap → Prop} {YP : World → Heap → Prop} {d : DefRec}
    (hn : l.most = some n) (hdf : d.params.defaults = [])
    (call : ∀ (w : World) (s₀ s₁ : Shared) (mg mb : Str → Option Value) (fa : Addr) (o : Obj) (pm cd doc : Value) (a : Addr) (vs : List Value) (ns : List Int),
      Ground q loose [] XP w s₀ mg mb s₁.heap → YP w s₁.heap →
      s₁.heap.get? fa = some o → o.data = .func (docDef d.name d.params d.body d.scope pm cd doc) → s₁.heap.CodeRec cd d.name → mg d.name = some (.ref fa) →
      s₁.heap.get? a = some { cls := .type "list", data := .seq vs.toArray } → IntsAre vs ns → ns.length ≤ n → s₁.gens = #[] →
      codeAny (model l.prog w) callerA (.call (.ref fa) ⟨[.ref a], []⟩) (fun r s' => r = .ok (.ret (.bool true)) ∧ OldK s₁.heap s'.heap ∧ s'.os = s₁.os ∧ AllBare s'.gens) s₁) :
    WalkO q loose XP YP l.row.toRowW d [] (fun f vs => PySem.call f vs) := by
  intro w s₀ s₁ mg mb G Y fa o pm cd doc dV kV ho hd hcd hD hmg hg args vals as hpre hlay hrd hwl hlo
  obtain rfl : dV = .none := Dflts.none hD hdf
  obtain rfl : kV = .none := Dflts.noKw hD
  obtain ⟨a, vs, ns, rfl, rfl, hobj, hints, hlen⟩ := script_of hn hpre hwl
  refine enter_call (codeAny_mono (call w s₀ s₁ mg mb fa o pm cd doc a vs ns G Y ho (fd_plain hd) hcd hmg hobj hints hlen hg) fun r s' hq => ?_)
  obtain ⟨rfl, h2, h3, h4⟩ := hq
  exact ⟨.inl ⟨.bool true, .bool true, [], rfl, fun _ => rfl, .bool true, post_true l _, fun _ => ⟨List.Pairwise.nil, fun _ hm => (nomatch hm)⟩⟩, h2, h3, h4⟩
end Att
namespace L2
open PySem PySem.Spec PyProof.Rows
theorem vals_ints : ∀ {vs : List Value} {ns : List Int}, IntsAre vs ns → Vals (ns.map V.int) vs
  | _, _, .nil => .nil
  | _, _, .cons n t h => .cons ⟨t, rfl⟩ (vals_ints h)
def inClass (s : Stmt) (j : Nat) : Stmt := match s with
  | .ClassDef _ _ _ body _ _ _ _ _ _ _ => body.getD j (.Pass ⟨0, 0, 0, 0⟩)
  | _ => .Pass ⟨0, 0, 0, 0⟩
def defArgs (s : Stmt) : Arguments := match s with
  | .FunctionDef _ a _ _ _ _ _ _ _ _ => a
  | _ => { posonlyargs := [], args := [], vararg := none, kwonlyargs := [], kw_defaults := [], kwarg := none, defaults := [] }
def defBody (s : Stmt) : List Stmt := match s with
  | .FunctionDef _ _ b _ _ _ _ _ _ _ => b
  | _ => []
def defScope (s : Stmt) : Scope := match s with
  | .FunctionDef _ _ _ _ _ _ sc _ _ _ => sc
  | _ => { kind := .function, names := [], isGenerator := false, isCoroutine := false }
abbrev CX0 : CXT := fun _ _ _ _ _ _ => False
abbrev E0 : XK := fun _ _ _ => False
theorem pass0 {X : Cx} : Passes CX0 X E0 := fun _ _ _ _ _ _ _ h => h.elim
structure Fun (K : PySem.W.Frag) (x qual : Str) (st : Stmt) (f : Addr) (fd : FuncData) : Prop where
  ex : ∃ (oc : Value) (od : Option Addr) (kV doc pm : Value) (an : Option Addr) (cdv ct : Value) (osl : Array (Option Value)),
    fd = PySem.W.fnOf x qual (defArgs st) (defBody st) (defScope st) .none kV doc pm an cdv ct ∧ K.lookup f = some ⟨oc, od, .func fd, osl⟩ ∧ PySem.W.codeIn K cdv qual = true
  kp : PySem.W.keepIn K (.ref f) = true
section
variable {P : Program} {w : World} {K : PySem.W.Frag} {mg : Str → Option Value} {base : Heap}
theorem Fun.ok {x qual : Str} {st : Stmt} {f : Addr} {fd : FuncData} {N ps : List Str} {k : Nat} {sp : Sp} (F : Fun K x qual st f fd) (S : FnScope N ps (defScope st)) (len : ∀ vs H Q E, sp vs H Q E → vs.length = ps.length)
    (hbody : ∀ (cdv : Value) (A : Around) (outer : List Env) (s : Shared) (H : Hp) (vs : List V) (Q : VK) (E : XK), Room k (A.deeper (envOfC qual (defScope st) s.heap.objs.size f cdv)) → sp vs H Q E →
      ∃ t, PSs (cxOf CX0 P w K mg base N qual (defScope st) f cdv A outer s H E).nox (defBody st) t ∧ t { nx := fun _ H' => Q .non H', rt := Q } (start N vs) H) : FnOk P w K mg base CX0 (k + 1) f fd ps sp := by
  obtain ⟨oc, od, kV, doc, pm, an, cdv, ct, osl, rfl, lk, hcd⟩ := F.ex
  refine fn_of lk hcd S len fun A outer s H vs Q E hr hsp => ?_
  obtain ⟨t, h, q⟩ := hbody cdv A outer s H vs Q E hr hsp
  exact ⟨t, h.nox, q⟩
theorem Fun.binds {x qual : Str} {st : Stmt} {f : Addr} {fd : FuncData} {ps : List Str} (F : Fun K x qual st f fd)
    (h : ∀ (kV doc pm : Value) (an : Option Addr) (cdv ct : Value) (us : List Value), us.length = ps.length → bindArgs (PySem.W.fnOf x qual (defArgs st) (defBody st) (defScope st) .none kV doc pm an cdv ct) ⟨us, []⟩ = pure (ps.zip us)) : Binds K fd ps [] := by
  obtain ⟨oc, od, kV, doc, pm, an, cdv, ct, osl, rfl, lk, hcd⟩ := F.ex
  exact .all (h kV doc pm an cdv ct)
theorem fun_mk {x qual : Str} {st : Stmt} {f : Addr} {oc : Value} {od an : Option Addr} {osl : Array (Option Value)} {kV doc pm cdv ct : Value} (l : K.lookup f = some ⟨oc, od, .func (PySem.W.fnOf x qual (defArgs st) (defBody st) (defScope st) .none kV doc pm an cdv ct), osl⟩)
    (c : PySem.W.codeIn K cdv qual = true) (k : PySem.W.keepIn K (.ref f) = true) : Fun K x qual st f (PySem.W.fnOf x qual (defArgs st) (defBody st) (defScope st) .none kV doc pm an cdv ct) := ⟨⟨oc, od, kV, doc, pm, an, cdv, ct, osl, rfl, l, c⟩, k⟩
end
section
variable {X : Cx}
theorem pv (i : Nat) {x : Str} {pos : Pos} (hN : X.N[i]? = some x := by rfl) (hv : Vis X.env.scope x := by first | exact Or.inl rfl | exact Or.inr (Or.inl rfl) | exact Or.inr (Or.inr rfl)) (hd : (x == ("__debug__" : Str)) = false := by decide)
    (hcd : (x == ("__classdict__" : Str)) = false := by decide) : PE X (.Name x pos) (tVar i) := pe_var hN hv hd hcd
end
theorem iteF {A B : Prop} (h : B) : if false = true then A else B := by
  rw [if_neg Bool.false_ne_true]
  exact h
theorem iteT {A B : Prop} (h : A) : if true = true then A else B := by
  rw [if_pos rfl]
  exact h
def Same (H H' : Hp) : Prop := ∀ b o, H b = some o → H' b = some o
theorem Same.refl (H : Hp) : Same H H := fun _ _ h => h
theorem Same.trans {H H1 H2 : Hp} (a : Same H H1) (b : Same H1 H2) : Same H H2 := fun c o h => b c o (a c o h)
theorem Same.free {H H' : Hp} (e : Same H H') {l : Addr} (h : H' l = Option.none) : H l = Option.none := by
  cases q : H l with
  | none => rfl
  | some o =>
    rw [e l o q] at h
    cases h
theorem Same.seq {K : PySem.W.Frag} {H H' : Hp} {a : Addr} {xs : List V} (e : Same H H') (h : SqL K H a xs) : SqL K H' a xs := by
  rcases h with (h | ⟨o, h⟩) | h
  · exact .inl (.inl (e _ _ h))
  · exact .inl (.inr ⟨o, e _ _ h⟩)
  · exact .inr h
section
variable {κ : Type} [DecidableEq κ]
def valV (kvs : List (κ × V)) (k : κ) : Option V := (kvs.find? fun kv => decide (kv.1 = k)).map (·.2)
def putK (kvs : List (κ × V)) (k : κ) (v : V) : List (κ × V) :=
  if (kvs.any fun kv => decide (kv.1 = k)) = true then kvs.map (fun kv => if kv.1 = k then (kv.1, v) else kv) else kvs ++ [(k, v)]
theorem valV_pos {p : κ × V} {r : List (κ × V)} {k : κ} (e : p.1 = k) : valV (p :: r) k = some p.2 := by simp [valV, List.find?_cons, e]
theorem valV_neg {p : κ × V} {r : List (κ × V)} {k : κ} (e : ¬ p.1 = k) : valV (p :: r) k = valV r k := by simp [valV, List.find?_cons, e]
theorem RelO.getD {o : Option V} {u : Option Value} {d : V} {d' : Value} (r : RelO o u) (rd : RelV d d') : RelV (o.getD d) (u.getD d') := by
  cases o with
  | none => cases u with
    | none => exact rd
    | some _ => exact (show False from r).elim
  | some _ => cases u with
    | none => exact (show False from r).elim
    | some _ => exact r
theorem KV.val {kvs : List (κ × V)} {vs : List (κ × Value)} (r : KV kvs vs) (k : κ) : RelO (valV kvs k) (valueAt vs k) := by
  unfold KV at r
  induction r with
  | nil => exact True.intro
  | @cons p q ps qs h t ih =>
    obtain ⟨h1, h2⟩ := h
    by_cases e : p.1 = k
    · have e' : q.1 = k := h1.symm.trans e
      have b : valueAt (q :: qs) k = some q.2 := by simp [valueAt, List.find?_cons, e']
      rw [valV_pos e, b]; exact h2
    · have e' : ¬ q.1 = k := fun z => e (h1.trans z)
      have b : valueAt (q :: qs) k = valueAt qs k := by simp [valueAt, List.find?_cons, e']
      rw [valV_neg e, b]; exact ih
theorem KV.any {kvs : List (κ × V)} {vs : List (κ × Value)} (r : KV kvs vs) (k : κ) : (kvs.any fun kv => decide (kv.1 = k)) = vs.any fun kv => decide (kv.1 = k) := by
  unfold KV at r
  induction r with
  | nil => rfl
  | cons h t ih => rw [List.any_cons, List.any_cons, ih, h.1]
theorem KV.keys {kvs : List (κ × V)} {vs : List (κ × Value)} (r : KV kvs vs) : kvs.map (·.1) = vs.map (·.1) := by
  unfold KV at r
  induction r with
  | nil => rfl
  | cons h t ih => rw [List.map_cons, List.map_cons, ih, h.1]
theorem KV.length {kvs : List (κ × V)} {vs : List (κ × Value)} (r : KV kvs vs) : kvs.length = vs.length := Paired.length r
end
abbrev KT (H : Hp) : List (List Key × V) → List (List Key × Addr × Value) → Prop := Paired fun p q => p.1 = q.1 ∧ H q.2.1 = some (.tup (p.1.map kV)) ∧ RelV p.2 q.2.2
theorem KT.val {H : Hp} {kvs : List (List Key × V)} {xs : List (List Key × Addr × Value)} (r : KT H kvs xs) (k : List Key) : RelO (valV kvs k) ((atKey xs k).map (·.2)) := by
  induction r with
  | nil => exact True.intro
  | @cons p q ps qs h t ih =>
    obtain ⟨h1, _, h2⟩ := h
    by_cases e : p.1 = k
    · have e' : q.1 = k := h1.symm.trans e
      have b : atKey (q :: qs) k = some q.2 := by simp [atKey, List.find?_cons, e']
      rw [valV_pos e, b]; exact h2
    · have e' : ¬ q.1 = k := fun z => e (h1.trans z)
      have b : atKey (q :: qs) k = atKey qs k := by simp [atKey, List.find?_cons, e']
      rw [valV_neg e, b]; exact ih
def DGet (H : Hp) (a : Addr) (y : V) (r : Option V) : Prop :=
  (∃ kvs k, Rd H a (.dK kvs) ∧ y = kV k ∧ r = valV kvs k) ∨ ∃ kvs k b, Rd H a (.dT kvs) ∧ y = .ref b ∧ H b = some (.tup (k.map kV)) ∧ r = valV kvs k
def DPut (H : Hp) (a : Addr) (y v : V) (H' : Hp) : Prop :=
  (∃ kvs k, H a = some (.dK kvs) ∧ y = kV k ∧ kvs.length < sizeLine ∧ H' = upd H a (.dK (putK kvs k v))) ∨
  ∃ kvs k b, H a = some (.dT kvs) ∧ y = .ref b ∧ H b = some (.tup (k.map kV)) ∧ kvs.length < sizeLine ∧ H' = upd H a (.dT (putK kvs k v))
theorem DGet.k {H : Hp} {a : Addr} {kvs : List (Key × V)} {k : Key} (e : H a = some (.dK kvs)) : DGet H a (kV k) (valV kvs k) := .inl ⟨kvs, k, .inl e, rfl, rfl⟩
theorem DGet.t {H : Hp} {a b : Addr} {kvs : List (List Key × V)} {k : List Key} (e : H a = some (.dT kvs)) (eb : H b = some (.tup (k.map kV))) : DGet H a (.ref b) (valV kvs k) := .inr ⟨kvs, k, b, .inl e, rfl, eb, rfl⟩
theorem DPut.k {H : Hp} {a : Addr} {kvs : List (Key × V)} {k : Key} {v : V} (e : H a = some (.dK kvs)) (hl : kvs.length < sizeLine) : DPut H a (kV k) v (upd H a (.dK (putK kvs k v))) := .inl ⟨kvs, k, e, rfl, hl, rfl⟩
theorem DPut.t {H : Hp} {a b : Addr} {kvs : List (List Key × V)} {k : List Key} {v : V} (e : H a = some (.dT kvs)) (eb : H b = some (.tup (k.map kV))) (hl : kvs.length < sizeLine) :
    DPut H a (.ref b) v (upd H a (.dT (putK kvs k v))) := .inr ⟨kvs, k, b, e, rfl, eb, hl, rfl⟩
end L2
set_option maxHeartbeats 4000000
namespace L2
open PySem PySem.Spec PyProof.Rows
section
variable {P : Program} {w : World} {K : PySem.W.Frag} {mg : Str → Option Value} {base : Heap} {CX : CXT} {x : Str} {ps : List Str} {sp : Sp} {j k : Nat}
structure Def (P : Program) (w : World) (K : PySem.W.Frag) (mg : Str → Option Value) (base : Heap) (CX : CXT) (k : Nat) (x : Str) (ps : List Str) (sp : Sp) : Prop where
  ex : ∃ (f : Addr) (fd : FuncData), FnOk P w K mg base CX k f fd ps sp ∧ mg x = some (.ref f) ∧ PySem.W.keepIn K (.ref f) = true ∧ Binds K fd ps []
def HasDef (K : PySem.W.Frag) (mg : Str → Option Value) (x : Str) (st : Stmt) : Prop := ∃ (f : Addr) (fd : FuncData), Fun K x x st f fd ∧ mg x = some (.ref f)
theorem HasDef.mk {st : Stmt} {f : Addr} {oc : Value} {od an : Option Addr} {osl : Array (Option Value)} {kV doc pm cdv ct : Value} (m : mg x = some (.ref f))
    (l : K.lookup f = some ⟨oc, od, .func (PySem.W.fnOf x x (defArgs st) (defBody st) (defScope st) .none kV doc pm an cdv ct), osl⟩)
    (c : PySem.W.codeIn K cdv x = true) (k : PySem.W.keepIn K (.ref f) = true) : HasDef K mg x st := ⟨f, _, fun_mk l c k, m⟩
theorem def_of {st : Stmt} {N : List Str} (h : HasDef K mg x st) (S : FnScope N ps (defScope st)) (len : ∀ vs H Q E, sp vs H Q E → vs.length = ps.length)
    (hb : ∀ (kV doc pm : Value) (an : Option Addr) (cdv ct : Value) (us : List Value), us.length = ps.length → bindArgs (PySem.W.fnOf x x (defArgs st) (defBody st) (defScope st) .none kV doc pm an cdv ct) ⟨us, []⟩ = pure (ps.zip us))
    (hbody : ∀ (f : Addr) (cdv : Value) (A : Around) (outer : List Env) (s : Shared) (H : Hp) (vs : List V) (Q : VK) (E : XK), Room k (A.deeper (envOfC x (defScope st) s.heap.objs.size f cdv)) → sp vs H Q E →
      ∃ t, PSs (cxOf CX P w K mg base N x (defScope st) f cdv A outer s H E).nox (defBody st) t ∧ t { nx := fun _ H' => Q .non H', rt := Q } (start N vs) H) : Def P w K mg base CX (k + 1) x ps sp := by
  obtain ⟨f, fd, F, m⟩ := h
  refine ⟨f, fd, ?_, m, F.kp, F.binds hb⟩
  obtain ⟨oc, od, kV, doc, pm, an, cdv, ct, osl, rfl, lk, hcd⟩ := F.ex
  refine fn_of lk hcd S len fun A outer s H vs Q E hr hsp => ?_
  obtain ⟨t, h, q⟩ := hbody f cdv A outer s H vs Q E hr hsp
  exact ⟨t, h.nox, q⟩
end
section
variable {X : Cx} {CX : CXT} {k m : Nat} {x : Str} {ps : List Str} {sp : Sp} {E : XK} {p pos : Pos} {e : Expr} {es : List Expr} {t : TA}
theorem pe_def (D : Def X.prog X.w X.K X.mg X.base CX k x ps sp) (hr : Room m X.A) (ha : PA X (e :: es) t) (hk : k ≤ m := by decide) (hx : Passes CX X E := by exact pass0) (hg : Gl X x := by rfl)
    (hdb : (x == ("__debug__" : Str)) = false := by decide) (he : starEach (e :: es) X.env = (false, eval e X.env) :: starEach es X.env := by rfl) (hpl : (backTo pos (starEach es X.env)).any (·.1) = false := by rfl) :
    PE X (.Call (.Name x p) (e :: es) [] pos) (tCall sp [] E t) := by
  obtain ⟨f, fd, F, hm, kp, b⟩ := D.ex
  exact pe_call F (hr.mono hk) hg hm kp b .nil hx ha hdb he hpl
end
def GlobIs (mg : Str → Option Value) (x : Str) (v : V) : Prop := ∃ u, mg x = some u ∧ RelV v u
theorem pe_gl {X : Cx} {x : Str} {v : V} {pos : Pos} (h : GlobIs X.mg x v) (hg : Gl X x := by rfl) (hd : (x == ("__debug__" : Str)) = false := by decide) : PE X (.Name x pos) (tC v) :=
  let ⟨_, e, r⟩ := h
  pe_glob hg e r hd
section
variable {X : Cx} {T : String} {pos : Pos}
theorem pe_ty {x : Str} (hg : Gl X x) (hm : X.mg x = none) (hv : bootBuiltins x = some (.type T)) (hn : x ≠ "__name__" := by decide) (hd : (x == ("__debug__" : Str)) = false := by decide) : PE X (.Name x pos) (tC (.ty T)) :=
  pe_bltn hg hm hv rfl hn hd
def clsIs (K : PySem.W.Frag) (t : Value) : V → Option Bool
  | .ty T => PySem.W.kitOne K t (.type T)
  | .ref C => PySem.W.kitOne K t (.ref C)
  | _ => none
theorem call_isinstance : CallR X (.builtin "isinstance") (fun xs H Q => ∃ x c t b, xs = [x, c] ∧ TyOf X.K H x t ∧ clsIs X.K t c = some b ∧ Q (.bl b) H) := by
  intro pins s σ H xs us Q I r h
  obtain ⟨x, c, t, b, rfl, ty, e, q⟩ := h
  obtain ⟨u, v, rfl, ru, rv⟩ := vals2 r
  cases c with
  | ty T =>
    obtain rfl : v = Value.type T := rv
    exact isinst_ok I ru ty e fun tk => ⟨.bl b, H, I.tok _, rfl, q⟩
  | ref C =>
    obtain rfl : v = Value.ref C := rv
    exact isinst_ok I ru ty e fun tk => ⟨.bl b, H, I.tok _, rfl, q⟩
  | _ => cases e
end
section
variable {X : Cx}
theorem vals_bools : ∀ {bs : List Bool} {us : List Value}, Vals (bs.map V.bl) us → LSm.BoolsAre us bs
  | [], _, .nil => .nil
  | b :: bs, _, .cons r t => by
    cases (show _ = Value.bool b from r)
    exact .cons b (vals_bools t)
theorem call_all (hc : X.calm = true) : CallR X (.builtin "all") (fun xs H Q => ∃ (p : Addr) (bs : List Bool), xs = [.ref p] ∧ SqL X.K H p (bs.map V.bl) ∧ Q (.bl (bs.all id)) H) := by
  intro pins s σ H xs us Q I r h
  obtain ⟨p, bs, rfl, hq, q⟩ := h
  obtain ⟨u, rfl, rx⟩ := vals1 r
  cases rx
  obtain ⟨its, rv, pl, hz⟩ := I.list hq
  have hb := vals_bools rv
  have hl := pl.isList
  have hlt : p < s.heap.objs.size := by obtain ⟨_, e, _⟩ := hl; exact Heap.lt_size e
  refine call_all_walk (wpAny_pyIter_list hl ?_)
  refine ⟨s.heap.objs.size, [s.heap.objs.size, p], [s.heap.objs.size], its.toArray.size, _, _, fun i => (bs[i]?).getD true, rfl, Walks.list (A := X.A.in1) (I.ok.hd hc) _ p (Nat.ne_of_lt hlt) its.toArray,
    ⟨⟨_, Heap.get?_push_size _ rfl, rfl, rfl⟩, hl.push _⟩, fun i v s' Q' E' hP hQ => ?_, fun h' tk hk => ?_⟩
  · obtain ⟨b, e, rfl⟩ := hb.get i v (by simpa using hP)
    simp only [e, Option.getD_some] at hQ
    exact wpAny_truthy_bool hQ
  · have e : ((List.range its.toArray.size).all fun i => (bs[i]?).getD true) = bs.all id := by
      rw [List.size_toArray, hb.length]; exact LSm.range_all bs
    rw [e]
    exact ⟨.bl _, H, I.kept (LSm.kept_iter hk), rfl, q⟩
end
section
variable {X : Cx}
theorem op_in_str1 : OpR X (compareOp .In) (fun x y H Q => ∃ c j, x = .str ⟨#[c]⟩ ∧ y = .str j ∧ Q (.bl (decide (c ∈ j.cps.toList))) H) := by
  intro pins s σ H x y v u Q I rx ry h
  obtain ⟨c, j, rfl, rfl, q⟩ := h
  obtain ⟨t, rfl⟩ := rx
  obtain ⟨t', rfl⟩ := ry
  exact in_str (fin_bl I q (PySem.StrLaws.found_one j c).symm)
def Its (z : Str) : It := ⟨fun i _ => i < z.cps.size, fun i H x H' => H' = H ∧ ∃ c, z.cps[i]? = some c ∧ x = .str ⟨#[c]⟩, fun i _ => z.cps.size ≤ i⟩
section
variable {P : Program} {w : World} {K : PySem.W.Frag} {tg : Expr}
theorem turn_strA (it : Addr) (z : Str) (t : Tok) : Turn P w K tg (Its z) [it] it (fun i h => h.IsStrIter it "str_ascii_iterator" z t i) where
  mem := by simp
  obj := fun i h st b hb => by
    have e : b = it := by simpa using hb
    subst e
    obtain ⟨o, e, c, d⟩ := st
    exact ⟨o, e, fun v z => by rw [d] at z; cases z⟩
  keep := fun i h h' st k => let ⟨o, e, r⟩ := st; ⟨o, k it (by simp) o e, r⟩
  item := by
    intro X hP hw hK hc i pins s σ H E I hf st hg
    subst hP hw hK
    obtain ⟨f0, f1, f2, f3, f4, f5⟩ := hf it (by simp)
    have hi : i < z.cps.size := hg
    refine wpAny_pyNext_ascii_item st (c := z.cps[i]) (by simp [hi]) fun h' st' sb => ?_
    have I1 : Inv X pins σ H { s with heap := h', toks := s.toks + 1 } := I.turned (fun b o hb e => sb.extBut b o hb e) f0 f1 f3 f4 f5
    obtain ⟨o, e, c, d⟩ := id st'
    exact ⟨_, rfl, go_of (s := { s with heap := h', toks := s.toks + 1 }) e c d (by decide) ⟨.str ⟨#[z.cps[i]]⟩, H, I1, ⟨_, rfl⟩, ⟨rfl, z.cps[i], by simp [hi], rfl⟩, st', fun b hb => (hf b hb).1⟩⟩
  done := by
    intro X hP hw hK hc i pins s σ H E I hf st hg
    subst hP hw hK
    obtain ⟨f0, f1, f2, f3, f4, f5⟩ := hf it (by simp)
    have hi : z.cps.size ≤ i := hg
    exact wpAny_pyNext_ascii_end (I.ok.hd hc) st (by simp [hi]) fun h' eb => ⟨rfl, I.turned (t' := s.toks) (fun b o hb e => eb b o hb e) f0 f1 f3 f4 f5⟩
  self := fun _ _ _ _ _ st h => wpAny_pyIter_striter_ascii st h
theorem turn_strW (it : Addr) (z : Str) (t : Tok) : Turn P w K tg (Its z) [it] it (fun i h => h.IsStrIter it "str_iterator" z t i) where
  mem := by simp
  obj := fun i h st b hb => by
    have e : b = it := by simpa using hb
    subst e
    obtain ⟨o, e, c, d⟩ := st
    exact ⟨o, e, fun v z => by rw [d] at z; cases z⟩
  keep := fun i h h' st k => let ⟨o, e, r⟩ := st; ⟨o, k it (by simp) o e, r⟩
  item := by
    intro X hP hw hK hc i pins s σ H E I hf st hg
    subst hP hw hK
    obtain ⟨f0, f1, f2, f3, f4, f5⟩ := hf it (by simp)
    have hi : i < z.cps.size := hg
    refine wpAny_pyNext_wide_item st (c := z.cps[i]) (by simp [hi]) fun h' st' sb => ?_
    have I1 : Inv X pins σ H { s with heap := h', toks := s.toks + 1 } := I.turned (fun b o hb e => sb.extBut b o hb e) f0 f1 f3 f4 f5
    obtain ⟨o, e, c, d⟩ := id st'
    exact ⟨_, rfl, go_of (s := { s with heap := h', toks := s.toks + 1 }) e c d (by decide) ⟨.str ⟨#[z.cps[i]]⟩, H, I1, ⟨_, rfl⟩, ⟨rfl, z.cps[i], by simp [hi], rfl⟩, st', fun b hb => (hf b hb).1⟩⟩
  done := by
    intro X hP hw hK hc i pins s σ H E I hf st hg
    subst hP hw hK
    obtain ⟨f0, f1, f2, f3, f4, f5⟩ := hf it (by simp)
    have hi : z.cps.size ≤ i := hg
    exact wpAny_pyNext_wide_end (I.ok.hd hc) st (by simp [hi]) fun h' eb => ⟨rfl, I.turned (t' := s.toks) (fun b o hb e => eb b o hb e) f0 f1 f3 f4 f5⟩
  self := fun _ _ _ _ _ st h => wpAny_pyIter_striter_wide st h
end
def iStr (tl : TE) : TI := fun σ H R => tl σ H fun x H1 => ∃ z, x = .str z ∧ R (Its z) H1
theorem pi_str {tg l : Expr} {tl : TE} (hl : PE X l tl) : PI X tg l (iStr tl) := by
  intro pins s σ H R I h
  refine thn (hl pins s σ H _ I h) fun v s1 ⟨x, H1, I1, r1, q1⟩ => ?_
  obtain ⟨z, e, q⟩ := q1
  subst e
  obtain ⟨t, rfl⟩ := r1
  have fp : ∀ (b : Addr), b ∈ [s1.heap.objs.size] → FpOk X pins H1 b := fun b hb => by
    have e : b = s1.heap.objs.size := by simpa using hb
    subst e
    exact I1.fpOk (Nat.le_refl _) (I1.hok.fresh (Nat.le_refl _))
  cases ha : z.cps.all (· < 128)
  · exact wpAny_pyIter_wide ha ⟨s1.heap.objs.size, [s1.heap.objs.size], _, _, H1, rfl, I1.kept (t' := s1.toks) fun b o e => Heap.get?_push_of_some _ e, turn_strW _ z t, ⟨_, Heap.get?_push_size _ rfl, rfl, rfl⟩, fp, q⟩
  · exact wpAny_pyIter_ascii ha ⟨s1.heap.objs.size, [s1.heap.objs.size], _, _, H1, rfl, I1.kept (t' := s1.toks) fun b o e => Heap.get?_push_of_some _ e, turn_strA _ z t, ⟨_, Heap.get?_push_size _ rfl, rfl, rfl⟩, fp, q⟩
end
def closOf (env : Env) : List (Str × NameKind) → Option (List (Str × Addr))
  | [] => some []
  | (n, k) :: r => if k = .free then (env.cells.lookup n).bind fun c => (closOf env r).map fun cl => cl ++ [(n, c)] else closOf env r
theorem closOf_lookup {env : Env} : ∀ {names : List (Str × NameKind)} {cl : List (Str × Addr)}, closOf env names = some cl → ∀ x c, cl.lookup x = some c → env.cells.lookup x = some c
  | [], cl, h, x, c, e => by
    cases (Option.some.inj h)
    cases e
  | (n, k) :: r, cl, h, x, c, e => by
    unfold closOf at h
    by_cases hk : k = .free
    · rw [if_pos hk] at h
      cases hc : env.cells.lookup n with
      | none => rw [hc] at h; cases h
      | some c' =>
        rw [hc] at h
        have h : (closOf env r).map (fun cl => cl ++ [(n, c')]) = some cl := h
        cases hr : closOf env r with
        | none => rw [hr] at h; cases h
        | some cl' =>
          rw [hr] at h
          have h : cl' ++ [(n, c')] = cl := Option.some.inj h
          subst h
          rw [List.lookup_append] at e
          cases h2 : cl'.lookup x with
          | some c2 =>
            rw [h2] at e
            have e : c2 = c := by simpa using e
            subst e
            exact closOf_lookup hr x c2 h2
          | none =>
            rw [h2] at e
            have e : List.lookup x [(n, c')] = some c := by simpa using e
            by_cases hx : x = n
            · subst hx
              have : c' = c := by simpa using e
              subst this
              exact hc
            · have hb : (x == n) = false := by simpa using hx
              simp [List.lookup_cons, hb] at e
    · rw [if_neg hk] at h
      exact closOf_lookup h x c e
theorem closureFor_go {env : Env} : ∀ (names : List (Str × NameKind)) (acc cl : List (Str × Addr)), closOf env names = some cl →
    (forIn (m := Sem) names acc fun x c => if x.2 == NameKind.free then (do let a ← cellOf env x.1; pure (ForInStep.yield ((x.1, a) :: c))) else pure (ForInStep.yield c)) = pure (cl ++ acc)
  | [], acc, cl, h => by
    cases (Option.some.inj h)
    rfl
  | (n, k) :: r, acc, cl, h => by
    unfold closOf at h
    rw [List.forIn_cons]
    by_cases hk : k = .free
    · rw [if_pos hk] at h
      cases hc : env.cells.lookup n with
      | none => rw [hc] at h; cases h
      | some c' =>
        rw [hc] at h
        have h : (closOf env r).map (fun cl => cl ++ [(n, c')]) = some cl := h
        cases hr : closOf env r with
        | none => rw [hr] at h; cases h
        | some cl' =>
          rw [hr] at h
          have h : cl' ++ [(n, c')] = cl := Option.some.inj h
          subst h
          have hb : (k == NameKind.free) = true := by simpa using hk
          have := closureFor_go r ((n, c') :: acc) cl' hr
          have ec : cellOf env n = pure c' := by unfold cellOf; rw [hc]
          simp only [hb, if_true, ec, pure_bind, bind_assoc]
          rw [this]
          simp
    · rw [if_neg hk] at h
      have hb : (k == NameKind.free) = false := by simpa using hk
      have := closureFor_go r acc cl h
      simp only [hb, Bool.false_eq_true, if_false, pure_bind]
      exact this
theorem closureFor_of {env : Env} {scope : Scope} {cl : List (Str × Addr)} (h : closOf env scope.names = some cl) : closureFor scope env = pure cl := by
  have := closureFor_go scope.names [] cl h
  rw [List.append_nil] at this
  have key : closureFor scope env = (forIn (m := Sem) scope.names ([] : List (Str × Addr)) fun x c => if x.2 == NameKind.free then (do let a ← cellOf env x.1; pure (ForInStep.yield ((x.1, a) :: c))) else pure (ForInStep.yield c)) >>= fun cs => pure cs := by
    unfold closureFor
    rfl
  rw [key, this]
  rfl
theorem comp_loop {prog : Program} {w : World} {A : Around} {R : Result → Shared → Prop} {s : Shared} {elt target iter : Expr} {ifs : List Expr} {scope : Scope} {pos : Pos} {it acc : Value} {env : Env} (I : Nat → Shared → Prop)
    (turn : ∀ n s, I n s → wpAny (model prog w) A (pyNext it) (fun r s₁ => match r with
      | none => R (.ok .next) s₁
      | some v => wpAny (model prog w) A (letOwnedTupleGo target it v) (fun _ s₀ => wpAny (model prog w) A (assign target env v) (fun _ s₂ =>
          wpAny (model prog w) A (forIn ifs true fun c r => if r = true then do let ok ← isTrue c env (eval c env); pure (ForInStep.yield ok) else pure (ForInStep.yield r)) (fun ok s₃ =>
            if ok = true then wpAny (model prog w) A (eval elt env) (fun x s₄ =>
              wpAny (model prog w) A (call (.builtin "list.append") [acc, x]) (fun _ s₅ => ∃ m, m < n ∧ I m s₅) (fun _ _ => False) s₄) (fun _ _ => False) s₃
            else ∃ m, m < n ∧ I m s₃) (fun _ _ => False) s₂) (fun _ _ => False) s₀) (fun _ _ => False) s₁) (fun _ _ => False) s)
    (n : Nat) (h : I n s) :
    codeAny (model prog w) A (.compLoop (.ListComp elt [⟨target, iter, ifs, 0⟩] scope pos) 0 it acc env) R s := by
  refine codeAny_loop rfl I (fun n s hI => ?_) n h
  show wpAny _ A ((compTurn (.ListComp elt [⟨target, iter, ifs, 0⟩] scope pos) 0 it acc env).onRaise (fun x => do noteFrame x env; theTreesLotGoes x)) _ _ s
  refine wpAny_noted ?_
  rw [compTurn_list]
  refine wpAny_bind (wpAny_standAt (wpAny_bind (wpAny_mono (turn n s hI) (fun r s₁ h₁ => ?_) fun _ _ h' => h'.elim)))
  cases r with
  | none => exact wpAny_pure h₁
  | some v =>
    refine wpAny_bind (wpAny_mono h₁ (fun _ s₀ h₀ => ?_) fun _ _ h' => h'.elim)
    refine wpAny_bind (wpAny_mono h₀ (fun _ s₂ h₂ => wpAny_bind (wpAny_mono h₂ (fun ok s₃ h₃ => ?_) fun _ _ h' => h'.elim)) fun _ _ h' => h'.elim)
    cases ok with
    | false => exact wpAny_pure ⟨rfl, h₃⟩
    | true =>
      exact wpAny_bind (wpAny_bind (wpAny_mono h₃ (fun x s₄ h₄ => wpAny_bind (wpAny_mono h₄ (fun _ s₅ h₅ => wpAny_pure (wpAny_pure ⟨rfl, h₅⟩)) fun _ _ h' => h'.elim)) fun _ _ h' => h'.elim))
def cxComp (X : Cx) (N : List Str) (scope : Scope) (cl : List (Str × Addr)) (pins : List (Addr × Obj)) (s : Shared) (H : Hp) (fp : List Addr) : Cx where
  prog := X.prog
  w := X.w
  K := X.K
  mg := X.mg
  base := X.base
  A := X.A
  N := N
  s₀ := s
  H₀ := H
  env := compEnvC scope cl s.heap.objs.size X.env
  outer := X.stack
  stack := X.stack
  ex := fp
  fn := fun _ => false
  calm := X.calm
  pn := X.pn ++ pins
  xe := fun _ _ => False
def compStart0 (nt : Nat) (fr : List Nat) (σ : St) : St := List.replicate nt none ++ fr.map fun i => (σ[i]?).getD none
structure CompNames (X : Cx) (N : List Str) (nt : Nat) (fr : List Nat) (scope : Scope) (cl : List (Str × Addr)) : Prop where
  len : N.length = nt + fr.length
  free : ∀ (j : Nat) (i : Nat) (x : Str), fr[j]? = some i → N[nt + j]? = some x → X.N[i]? = some x ∧ (∃ c, cl.lookup x = some c) ∧ (X.env.kindOf x = some .cell ∨ X.env.kindOf x = some .free) ∧
    ((relabel scope X.env).names.lookup x = some .cell ∨ (relabel scope X.env).names.lookup x = some .free)
  cells : ∀ x c, cl.lookup x = some c → X.env.cells.lookup x = some c
  has : ∀ x, ((relabel scope X.env).names.lookup x = some .cell ∨ (relabel scope X.env).names.lookup x = some .free) → ∃ c, cl.lookup x = some c
  kind : scope.kind = .function
theorem Vis_of_cell {X : Cx} {x : Str} (h : X.env.kindOf x = some .cell ∨ X.env.kindOf x = some .free) : Vis X.env.scope x := by
  rcases h with h | h
  · exact .inr (.inl h)
  · exact .inr (.inr h)
section
variable {X : Cx} {N : List Str} {nt : Nat} {fr : List Nat} {scope : Scope} {cl : List (Str × Addr)} {pins : List (Addr × Obj)} {σ : St} {H : Hp} {s : Shared} {fp : List Addr}
theorem comp_ok (I : Inv X pins σ H s) (cn : CompNames X N nt fr scope cl) (hf : ∀ b ∈ fp, FpOk X pins H b) (ho : ∀ b ∈ fp, b < s.heap.objs.size) : (cxComp X N scope cl pins s H fp).Ok where
  mod := I.mod
  kind := cn.kind
  glob := I.ok.glob
  blt := I.ok.blt
  above := Nat.le_refl _
  inj := fun x y c h1 h2 => I.ok.inj x y c (cn.cells x c h1) (cn.cells y c h2)
  has := fun x hx => cn.has x hx
  cab := fun x c h _ => by cases (show false = true from h)
  hd := I.ok.hd
  frames := I.ok.frames
  stk := .inl rfl
  exf := fun b hb => ⟨Nat.ne_of_lt (ho b hb), fun x c e => (hf b hb).2.2.2.2.1 x c (cn.cells x c e)⟩
  bs := I.bs
  bsz := Nat.le_trans I.ok.bsz I.sz
  noex := fun b o e hb => by
    rcases (hf b hb).2.2.2.1 with z | z
    · exact I.ok.noex b o e z
    · exact absurd (Nat.lt_of_lt_of_le (Heap.lt_size e) (Nat.le_trans I.ok.bsz z)) (Nat.lt_irrefl _)
  exfs := fun b hb z => (List.mem_cons.mp (I.stkSub b z)).elim (fun e => (hf b hb).2.1 e) fun e => (hf b hb).2.2.1 e
  funs := I.stack
  frf := I.stkFree
theorem comp_inv {h4 : Heap} {t' : Nat} (I : Inv X pins σ H s) (cn : CompNames X N nt fr scope cl) (hf : ∀ b ∈ fp, FpOk X pins H b) (ho : ∀ b ∈ fp, b < s.heap.objs.size)
    (k : ∀ b o, s.heap.get? b = some o → h4.get? b = some o) (hns : ∃ m, h4.Ns s.heap.objs.size m) : Inv (cxComp X N scope cl pins s H fp) [] (compStart0 nt fr σ) H { s with heap := h4, toks := t' } := by
  have ck : ∀ {c : Addr} {v : Option Value}, s.heap.IsCell c v → h4.IsCell c v := fun ⟨o, e, d⟩ => ⟨o, k _ o e, d⟩
  refine ⟨comp_ok I cn hf ho, rfl, I.bare, Un.kept k, ?_, fun x c e => ?_, ?_, fun x c e => ?_, fun p hp => ?_, I.hok.kept k, ?_⟩
  · obtain ⟨m, hm⟩ := hns
    refine ⟨m, hm, fun i x v e1 e2 _ => ?_⟩
    have e2 : (compStart0 nt fr σ)[i]? = some (some v) := e2
    have e1 : N[i]? = some x := e1
    unfold compStart0 at e2
    by_cases hi : i < nt
    · rw [List.getElem?_append_left (by simpa using hi), List.getElem?_replicate, if_pos hi] at e2
      cases e2
    · obtain ⟨j, rfl⟩ : ∃ j, i = nt + j := ⟨i - nt, by omega⟩
      rw [List.getElem?_append_right (by simp), List.length_replicate, Nat.add_sub_cancel_left, List.getElem?_map] at e2
      cases hj : fr[j]? with
      | none => rw [hj] at e2; cases e2
      | some i' =>
        rw [hj] at e2
        have e2 : (σ[i']?).getD none = some v := Option.some.inj e2
        have e3 : σ[i']? = some (some v) := by
          cases q : σ[i']? with
          | none => rw [q] at e2; cases e2
          | some o => rw [q] at e2; rw [show o = some v from e2]
        obtain ⟨hN, ⟨c, hc⟩, hk, hk'⟩ := cn.free j i' x hj e1
        obtain ⟨m0, _, hl⟩ := I.loc
        obtain ⟨u, r, l⟩ := hl i' x v hN e3 (Vis_of_cell hk)
        refine ⟨u, r, .inr ⟨hk', c, hc, ?_⟩⟩
        rcases l with ⟨hl', _⟩ | ⟨_, c', hc', hcell⟩
        · rcases hk with z | z <;> (rw [hl'] at z; cases z)
        · have hcc := cn.cells x c hc
          rw [hc'] at hcc; cases hcc
          exact ck hcell
  · obtain ⟨v, hv⟩ := I.cell x c (cn.cells x c e)
    exact ⟨v, ck hv⟩
  · exact I.hok.fresh (Nat.le_refl _)
  · exact I.freeC x c (cn.cells x c e)
  · have hp : p ∈ (X.pn ++ pins) ++ [] := hp
    rw [List.append_nil] at hp
    obtain ⟨e, n, ne, nf, d⟩ := I.pin p hp
    exact ⟨k p.1 p.2 e, n, Nat.ne_of_lt (Heap.lt_size e), fun z => (List.mem_cons.mp (I.stkSub p.1 z)).elim ne nf, d⟩
  · show (compStart0 nt fr σ).length = N.length
    unfold compStart0
    rw [cn.len, List.length_append, List.length_replicate, List.length_map]
theorem comp_back {H' : Hp} {s1 s' : Shared} {h' : Heap} {σ' : St} (I : Inv X pins σ H s) (hsz : s.heap.objs.size ≤ s1.heap.objs.size) (hos : s1.os = s.os) {H1 : Hp} (hH : Un (frs X.stack) fp H H1 s.heap s1.heap)
    (hf : ∀ b ∈ fp, FpOk X pins H b)
    (J : Inv (cxComp X N scope cl pins s1 H1 fp) [] σ' H' s') (sb : Heap.SameBut s1.heap.objs.size s'.heap h') : Inv X pins σ H' { s' with heap := h' } := by
  have u : Un (frs X.stack) fp H H' s.heap s'.heap := hH.trans J.base
  have lt : ∀ b o, s.heap.get? b = some o → b ≠ s1.heap.objs.size := fun b o e => Nat.ne_of_lt (Nat.lt_of_lt_of_le (Heap.lt_size e) hsz)
  have kk : ∀ b o, b ≠ s1.heap.objs.size → s'.heap.get? b = some o → h'.get? b = some o := fun b o hb e => sb.extBut b o hb e
  have u' : Un (frs X.stack) fp H H' s.heap h' := ⟨fun b o e n hb hx => kk b o (lt b o e) (u.keep b o e n hb hx), fun b o e n hb hx => let ⟨sl, z⟩ := u.slot b o e n hb hx; ⟨sl, kk b _ (lt b o e) z⟩, u.free,
    fun b o e hx => let ⟨o', z⟩ := u.there b o e hx; ⟨o', kk b o' (lt b o e) z⟩, u.tups, u.frzs, u.tbls⟩
  have nC : H' s1.heap.objs.size = none := J.free
  refine I.call' (s' := { s' with heap := h' }) (ch := fp) (J.os.trans hos) u' (fun a o e => ?_) J.bare fun b hb => ⟨(hf b hb).2.2.2.1, (hf b hb).2.1, (hf b hb).2.2.2.2.1, (hf b hb).2.2.2.2.2⟩
  refine (J.hok a o e).stay (fun b v hb q => kk b v ?_ q) (fun _ q => q) fun _ _ q => q
  rcases hb with z | z
  · rintro rfl
    rw [← z, nC] at e; cases e
  · rintro rfl
    rw [nC] at z; cases z
end
def freeB (X : Cx) (N : List Str) (nt : Nat) (scope : Scope) : List Nat → Nat → Bool
  | [], _ => true
  | i :: r, j => (match N[nt + j]? with
    | some x => decide (X.N[i]? = some x) && decide (scope.names.lookup x = some .free) && (decide (X.env.kindOf x = some .cell) || decide (X.env.kindOf x = some .free))
    | none => false) && freeB X N nt scope r (j + 1)
theorem freeB_at {X : Cx} {N : List Str} {nt : Nat} {scope : Scope} : ∀ {fr : List Nat} {k : Nat}, freeB X N nt scope fr k = true → ∀ (j i : Nat) (x : Str), fr[j]? = some i → N[nt + (k + j)]? = some x →
    X.N[i]? = some x ∧ scope.names.lookup x = some .free ∧ (X.env.kindOf x = some .cell ∨ X.env.kindOf x = some .free)
  | [], _, _, j, i, x, e, _ => by simp at e
  | i0 :: r, k, h, j, i, x, e1, e2 => by
    unfold freeB at h
    rw [Bool.and_eq_true] at h
    obtain ⟨h1, h2⟩ := h
    cases j with
    | zero =>
      have e1 : i0 = i := by simpa using e1
      subst e1
      rw [Nat.add_zero] at e2
      rw [e2] at h1
      simp only [Bool.and_eq_true, Bool.or_eq_true, decide_eq_true_eq] at h1
      exact ⟨h1.1.1, h1.1.2, h1.2⟩
    | succ j =>
      exact freeB_at h2 j i x (by simpa using e1) (by rw [show nt + (k + 1 + j) = nt + (k + (j + 1)) by omega]; exact e2)
theorem lookup_relabel {env : Env} : ∀ {names : List (Str × NameKind)} {x : Str} {k' : NameKind},
    (names.map fun (n, k) => if (k == NameKind.free && env.scope.kind == .function && env.kindOf n == some .cell) then (n, NameKind.cell) else (n, k)).lookup x = some k' →
    ∃ k, names.lookup x = some k ∧ (k = k' ∨ (k = .free ∧ k' = .cell))
  | [], _, _, h => by simp at h
  | (n, k) :: r, x, k', h => by
    have h : List.lookup x ((if (k == NameKind.free && env.scope.kind == .function && env.kindOf n == some .cell) = true then (n, NameKind.cell) else (n, k)) :: r.map _) = some k' := h
    cases hx : x == n with
    | true =>
      by_cases hc : (k == NameKind.free && env.scope.kind == .function && env.kindOf n == some .cell) = true
      · rw [if_pos hc] at h
        simp only [List.lookup_cons, hx] at h
        have hk : k = .free := by
          simp only [Bool.and_eq_true, beq_iff_eq] at hc
          exact hc.1.1
        exact ⟨k, by simp [List.lookup_cons, hx], .inr ⟨hk, (Option.some.inj h).symm⟩⟩
      · rw [if_neg hc] at h
        simp only [List.lookup_cons, hx] at h
        exact ⟨k, by simp [List.lookup_cons, hx], .inl (Option.some.inj h)⟩
    | false =>
      have h2 : List.lookup x (r.map fun (n, k) => if (k == NameKind.free && env.scope.kind == .function && env.kindOf n == some .cell) then (n, NameKind.cell) else (n, k)) = some k' := by
        by_cases hc : (k == NameKind.free && env.scope.kind == .function && env.kindOf n == some .cell) = true
        · rw [if_pos hc] at h; simpa only [List.lookup_cons, hx] using h
        · rw [if_neg hc] at h; simpa only [List.lookup_cons, hx] using h
      obtain ⟨k2, e2, o2⟩ := lookup_relabel h2
      exact ⟨k2, by simp only [List.lookup_cons, hx]; exact e2, o2⟩
theorem relabel_free {env : Env} : ∀ {names : List (Str × NameKind)} {x : Str}, names.lookup x = some .free →
    (names.map fun (n, k) => if (k == NameKind.free && env.scope.kind == .function && env.kindOf n == some .cell) then (n, NameKind.cell) else (n, k)).lookup x = some .cell ∨
    (names.map fun (n, k) => if (k == NameKind.free && env.scope.kind == .function && env.kindOf n == some .cell) then (n, NameKind.cell) else (n, k)).lookup x = some .free
  | [], _, h => by simp at h
  | (n, k) :: r, x, h => by
    show List.lookup x ((if (k == NameKind.free && env.scope.kind == .function && env.kindOf n == some .cell) = true then (n, NameKind.cell) else (n, k)) :: r.map _) = some .cell ∨ List.lookup x ((if (k == NameKind.free && env.scope.kind == .function && env.kindOf n == some .cell) = true then (n, NameKind.cell) else (n, k)) :: r.map _) = some .free
    cases hx : x == n with
    | true =>
      simp only [List.lookup_cons, hx] at h
      cases h
      by_cases hc : (NameKind.free == NameKind.free && env.scope.kind == .function && env.kindOf n == some .cell) = true
      · rw [if_pos hc]; left; simp [List.lookup_cons, hx]
      · rw [if_neg hc]; right; simp [List.lookup_cons, hx]
    | false =>
      simp only [List.lookup_cons, hx] at h
      have ih := relabel_free (env := env) h
      by_cases hc : (k == NameKind.free && env.scope.kind == .function && env.kindOf n == some .cell) = true
      · rw [if_pos hc]; simpa only [List.lookup_cons, hx] using ih
      · rw [if_neg hc]; simpa only [List.lookup_cons, hx] using ih
theorem closOf_has {env : Env} : ∀ {names : List (Str × NameKind)} {cl : List (Str × Addr)}, closOf env names = some cl → ∀ x, names.lookup x = some .free → ∃ c, cl.lookup x = some c
  | [], _, _, x, e => by simp at e
  | (n, k) :: r, cl, h, x, e => by
    unfold closOf at h
    by_cases hk : k = .free
    · rw [if_pos hk] at h
      cases hc : env.cells.lookup n with
      | none => rw [hc] at h; cases h
      | some c' =>
        rw [hc] at h
        have h : (closOf env r).map (fun cl => cl ++ [(n, c')]) = some cl := h
        cases hr : closOf env r with
        | none => rw [hr] at h; cases h
        | some cl' =>
          rw [hr] at h
          have h : cl' ++ [(n, c')] = cl := Option.some.inj h
          subst h
          rw [List.lookup_append]
          cases h2 : cl'.lookup x with
          | some c2 => exact ⟨c2, by simp⟩
          | none =>
            cases hx : x == n with
            | true => exact ⟨c', by simp [List.lookup_cons, hx]⟩
            | false =>
              simp only [List.lookup_cons, hx] at e
              obtain ⟨c3, e3⟩ := closOf_has hr x e
              rw [h2] at e3; cases e3
    · rw [if_neg hk] at h
      cases hx : x == n with
      | true =>
        simp only [List.lookup_cons, hx] at e
        exact absurd (Option.some.inj e) hk
      | false =>
        simp only [List.lookup_cons, hx] at e
        exact closOf_has h x e
theorem CompNames.of {X : Cx} {N : List Str} {nt : Nat} {fr : List Nat} {scope : Scope} {cl : List (Str × Addr)} (hcl : closOf X.env scope.names = some cl) (hlen : N.length = nt + fr.length) (hB : freeB X N nt scope fr 0 = true)
    (hcell : ∀ y ∈ scope.names, y.2 ≠ .cell) (hkind : scope.kind = .function) : CompNames X N nt fr scope cl where
  len := hlen
  free := fun j i x e1 e2 => by
    obtain ⟨h1, h2, h3⟩ := freeB_at hB j i x e1 (by rw [Nat.zero_add]; exact e2)
    exact ⟨h1, closOf_has hcl x h2, h3, relabel_free h2⟩
  cells := closOf_lookup hcl
  has := fun x hx => by
    have : scope.names.lookup x = some .free := by
      rcases hx with hx | hx
      · obtain ⟨k, e, o⟩ := lookup_relabel (names := scope.names) (env := X.env) hx
        rcases o with rfl | ⟨rfl, _⟩
        · exact absurd rfl (hcell _ (PySem.mem_of_lookup e))
        · exact e
      · obtain ⟨k, e, o⟩ := lookup_relabel (names := scope.names) (env := X.env) hx
        rcases o with rfl | ⟨rfl, _⟩
        · exact e
        · exact e
    exact closOf_has hcl x this
  kind := hkind
def PIf (X : Cx) (ifs : List Expr) (t : TT) : Prop :=
  ∀ (pins : List (Addr × Obj)) (s : Shared) (σ : St) (H : Hp) (Q : Bool → Hp → Prop), Inv X pins σ H s → t σ H Q →
    wpAny (model X.prog X.w) X.A (forIn ifs true fun c r => if r = true then do let ok ← isTrue c X.env (eval c X.env); pure (ForInStep.yield ok) else pure (ForInStep.yield r)) (TP X pins σ Q) X.xe s
def tTrue : TT := fun _ H Q => Q true H
theorem pif_nil {X : Cx} : PIf X [] tTrue := fun _ _ _ H _ I h => wpAny_pure ⟨H, I, h⟩
theorem pif_one {X : Cx} {c : Expr} {t : TT} (h : PT X c t) : PIf X [c] t := by
  intro pins s σ H Q I hw
  rw [List.forIn_cons]
  simp only [if_true]
  refine wpAny_bind (wpAny_bind (thn (h pins s σ H Q I hw) fun b s1 q => wpAny_pure ?_))
  exact wpAny_pure q
def CompGoal (J : It) (nt : Nat) (fr : List Nat) (g : TG) (c : TT) (te : TE) (σ : St) (H1 : Hp) (Q : VK) (acc : Addr) : Prop :=
  ∃ W : Nat → Nat → St → List V → Hp → Prop, (∃ m, W 0 m (compStart0 nt fr σ) [] (upd H1 acc (.lst []))) ∧ ∀ i m σ' ys H', W i m σ' ys H' → H' acc = some (.lst ys) ∧
    ((J.stop i H' ∧ Q (.ref acc) H') ∨ (J.go i H' ∧ ∀ x H2, J.yld i H' x H2 → g x σ' H2 fun σ2 H3 => c σ2 H3 fun b H4 => if b = true then
      te σ2 H4 fun y H5 => ys.length < sizeLine ∧ H5 acc = some (.lst ys) ∧ ∃ m', m' < m ∧ W (i + 1) m' σ2 (ys ++ [y]) (upd H5 acc (.lst (ys ++ [y])))
      else ∃ m', m' < m ∧ W (i + 1) m' σ2 ys H4))
def tComp (wi : TI) (nt : Nat) (fr : List Nat) (g : TG) (c : TT) (te : TE) : TE := fun σ H Q => wi σ H fun J H1 => ∀ acc, H1 acc = none → CompGoal J nt fr g c te σ H1 Q acc
section
variable {X : Cx} {target iter elt : Expr} {ifs : List Expr} {scope : Scope} {pos : Pos} {N : List Str} {nt : Nat} {fr : List Nat} {cl : List (Str × Addr)} {wi : TI} {g : TG} {c : TT} {te : TE}
theorem comp_fp {pins : List (Addr × Obj)} {σ : St} {H H1 : Hp} {s : Shared} {fp : List Addr} (I : Inv X pins σ H s) (cn : CompNames X N nt fr scope cl) (hf : ∀ b ∈ fp, FpOk X pins H b) (ho : ∀ b ∈ fp, b < s.heap.objs.size) {H' : Hp} (hn : ∀ b ∈ fp, H' b = none) :
    ∀ b ∈ fp, FpOk (cxComp X N scope cl pins s H1 fp) [] H' b := fun b hb =>
  ⟨hn b hb, Nat.ne_of_lt (ho b hb), fun z => (List.mem_cons.mp (I.stkSub b z)).elim (hf b hb).2.1 (hf b hb).2.2.1, .inl hb, fun x c e => (hf b hb).2.2.2.2.1 x c (cn.cells x c e), fun p hp => (hf b hb).2.2.2.2.2 p (by
    have hp : p ∈ (X.pn ++ pins) ++ [] := hp
    rw [List.append_nil] at hp
    exact hp)⟩
theorem comp_block {pins : List (Addr × Obj)} {σ : St} {s : Shared} {Q : VK} {itv : Value} {RR : Value → Addr → Result → Shared → Prop} {E : Value → Shared → Prop}
    (hc : X.calm = true) (cn : CompNames X N nt fr scope cl) (hcell : ∀ y ∈ scope.names, y.2 ≠ .cell)
    (hg : ∀ pins s H fp, PG (cxComp X N scope cl pins s H fp) target g) (hif : ∀ pins s H fp, PIf (cxComp X N scope cl pins s H fp) ifs c) (he : ∀ pins s H fp, PE (cxComp X N scope cl pins s H fp) elt te)
    (h : PIE X pins σ target (fun J H1 => ∀ acc, H1 acc = none → CompGoal J nt fr g c te σ H1 Q acc) itv s)
    (hRR : ∀ (acc C : Addr) (s' : Shared) (H' : Hp), (∃ m, s'.heap.Ns C m) → Inv X pins σ H' s' → FpOk X pins H' C → Q (.ref acc) H' → RR (.ref acc) C (.ok .next) s') :
    wpAny (model X.prog X.w) X.A (newList []) (fun acc s₃ => wpAny (model X.prog X.w) X.A (newFunctionEnv scope X.env.globals cl [] X.env.qual none .none (some X.env)) (fun cenv s₄ =>
      codeAny (model X.prog X.w) X.A (.compStart (.ListComp elt [⟨target, iter, ifs, 0⟩] scope pos) 0 itv acc { cenv with scope := relabel scope X.env }) (RR acc cenv.locals) s₄) E s₃) E s := by
  obtain ⟨it, fp, tn, J, H2, e, I2, T, st2, f2, R⟩ := h
  subst e
  have fo : ∀ b ∈ fp, b < s.heap.objs.size := fun b hb => let ⟨o, e, _⟩ := T.obj 0 _ st2 b hb; Heap.lt_size e
  refine wpAny_newObj_type (wpAny_newFunctionEnv hcell (by intro y hy; simp at hy) (fun h₁ hns₁ hsb₁ => ?_) cn.kind)
  dsimp only at hns₁ hsb₁ ⊢
  have ha : H2 s.heap.objs.size = none := I2.hok.fresh (Nat.le_refl _)
  have I3 : Inv X pins σ (upd H2 s.heap.objs.size (.lst [])) { s with heap := s.heap.push { cls := .type "list", data := .seq ([] : List Value).toArray } } :=
    I2.laid (t' := s.toks) (fun b u e => Heap.get?_push_of_some _ e) (Nat.le_refl _) ⟨Nat.zero_le _, [], 0, .nil, Heap.get?_push_size _ rfl⟩
  generalize hs3 : ({ s with heap := s.heap.push { cls := .type "list", data := .seq ([] : List Value).toArray } } : Shared) = s3 at I3
  have hh3 : s3.heap = s.heap.push { cls := .type "list", data := .seq ([] : List Value).toArray } := by rw [← hs3]
  have hsz : s3.heap.objs.size = s.heap.objs.size + 1 := by rw [hh3, Heap.size_push]
  have fne : ∀ b ∈ fp, b ≠ s.heap.objs.size := fun b hb => Nat.ne_of_lt (fo b hb)
  have f3 : ∀ b ∈ fp, FpOk X pins (upd H2 s.heap.objs.size (.lst [])) b := fun b hb => ⟨by rw [upd_ne (fne b hb)]; exact (f2 b hb).1, (f2 b hb).2⟩
  have fo3 : ∀ b ∈ fp, b < s3.heap.objs.size := fun b hb => by rw [hsz]; exact Nat.lt_succ_of_lt (fo b hb)
  have k3 : ∀ b o, s3.heap.get? b = some o → h₁.get? b = some o := fun b o e => hsb₁.extBut b o (by rw [← hh3]; exact Nat.ne_of_lt (Heap.lt_size e)) (by rw [← hh3]; exact Heap.get?_push_of_some _ e)
  have hns : ∃ m, h₁.Ns s3.heap.objs.size m := ⟨_, by rw [hh3]; exact hns₁⟩
  have I4 : Inv (cxComp X N scope cl pins s3 (upd H2 s.heap.objs.size (.lst [])) fp) [] (compStart0 nt fr σ) (upd H2 s.heap.objs.size (.lst [])) { s3 with heap := h₁, toks := s3.toks + ([] : List (Str × Value)).length } := comp_inv I3 cn f3 fo3 k3 hns
  have st4 : tn 0 h₁ := T.keep 0 _ _ st2 fun b hb o e => k3 b o (by rw [hh3]; exact Heap.get?_push_of_some _ e)
  obtain ⟨W, ⟨m0, w0⟩, turn⟩ := R s.heap.objs.size ha
  have stat : ∀ {H' : Hp}, (∀ b ∈ fp, H' b = none) → ∀ b ∈ fp, FpOk (cxComp X N scope cl pins s3 (upd H2 s.heap.objs.size (.lst [])) fp) [] H' b := fun hn => comp_fp I3 cn f3 fo3 hn
  have hH : Un (frs X.stack) fp H2 (upd H2 s.heap.objs.size (.lst [])) s.heap s3.heap := by
    rw [hh3]
    exact Un.laid (fun b u e => Heap.get?_push_of_some _ e) (Nat.le_refl _) ha
  have back : ∀ {σ' : St} {H' : Hp} {s' : Shared} {h' : Heap}, Inv (cxComp X N scope cl pins s3 (upd H2 s.heap.objs.size (.lst [])) fp) [] σ' H' s' → Heap.SameBut s3.heap.objs.size s'.heap h' → Inv X pins σ H' { s' with heap := h' } := fun J' sb =>
    comp_back I2 (by rw [hsz]; exact Nat.le_succ _) (by rw [← hs3]) hH f2 J' sb
  have loop : codeAny (model X.prog X.w) X.A (.compLoop (.ListComp elt [⟨target, iter, ifs, 0⟩] scope pos) 0 (.ref it) (.ref s.heap.objs.size) (compEnvC scope cl s3.heap.objs.size X.env)) (RR (.ref s.heap.objs.size) s3.heap.objs.size)
      { s3 with heap := h₁, toks := s3.toks + ([] : List (Str × Value)).length } := by
    refine comp_loop (fun n s' => ∃ i σ' ys H', Inv (cxComp X N scope cl pins s3 (upd H2 s.heap.objs.size (.lst [])) fp) [] σ' H' s' ∧ tn i s'.heap ∧ (∀ b ∈ fp, H' b = none) ∧ W i n σ' ys H') ?_ m0
      ⟨0, _, [], _, I4, st4, fun b hb => (f3 b hb).1, w0⟩
    rintro n s5 ⟨i, σ5, ys, H5, I5, st5, fr5, w5⟩
    obtain ⟨hacc, step⟩ := turn i n σ5 ys H5 w5
    rcases step with ⟨stop, q⟩ | ⟨go, step⟩
    · refine thn (T.done (cxComp X N scope cl pins s3 (upd H2 s.heap.objs.size (.lst [])) fp) rfl rfl rfl hc i [] s5 σ5 H5 (fun _ _ => False) I5 (stat fr5) st5 stop) fun r s6 ⟨hr, I6⟩ => ?_
      subst hr
      obtain ⟨m, hm, _⟩ := I6.loc
      exact hRR _ _ s6 H5 ⟨m, hm⟩ (back I6 (Heap.SameBut.refl _ _)) (I2.fpOk (by rw [hsz]; exact Nat.le_succ _) I6.free) q
    · refine thn (T.item (cxComp X N scope cl pins s3 (upd H2 s.heap.objs.size (.lst [])) fp) rfl rfl rfl hc i [] s5 σ5 H5 (fun _ _ => False) I5 (stat fr5) st5 go) fun r s6 ⟨u, hr, h6⟩ => ?_
      subst hr
      refine thn h6 fun _ s7 ⟨x, H7, I7, r7, y7, st7, fr7⟩ => ?_
      have I7' := I7.pinned (stat fr7) (T.obj _ _ st7)
      refine thn (hg pins s3 _ fp _ s7 σ5 H7 x u _ I7' r7 (step x H7 y7)) fun _ s8 ⟨σ8, H8, I8, q8⟩ => ?_
      have keepT : ∀ {σ' : St} {H' : Hp} {s' : Shared}, Inv (cxComp X N scope cl pins s3 (upd H2 s.heap.objs.size (.lst [])) fp) ([] ++ pinsAt fp s7.heap) σ' H' s' → tn (i + 1) s'.heap ∧ ∀ b ∈ fp, H' b = none := fun {σ' H' s'} I' =>
        ⟨T.keep _ _ _ st7 fun b hb o e => (I'.pin (b, o) (List.mem_append_right _ (List.mem_append_right _ (mem_pinsAt hb e)))).1, fun b hb => by
          obtain ⟨o, e, d⟩ := T.obj _ _ st7 b hb
          exact (I'.pin (b, o) (List.mem_append_right _ (List.mem_append_right _ (mem_pinsAt hb e)))).2.1⟩
      refine thn (hif pins s3 _ fp _ s8 σ8 H8 _ I8 q8) fun ok s9 ⟨H9, I9, q9⟩ => ?_
      cases ok with
      | false =>
        have q9 : ∃ m', m' < n ∧ W (i + 1) m' σ8 ys H9 := q9
        obtain ⟨m', hm, w9⟩ := q9
        exact ⟨m', hm, i + 1, σ8, ys, H9, I9.unpinned, (keepT I9).1, (keepT I9).2, w9⟩
      | true =>
        rw [if_pos rfl]
        refine thn (he pins s3 _ fp _ s9 σ8 H9 _ I9 q9) fun z s10 ⟨y, H10, I10, r10, hz, ha10, m', hm, w10⟩ => ?_
        refine thn (mt_append _ s10 σ8 H10 (.ref s.heap.objs.size) [y] (.ref s.heap.objs.size) [z] (fun v H' => v = .non ∧ H' = upd H10 s.heap.objs.size (.lst (ys ++ [y]))) I10 rfl (.cons r10 .nil) ⟨_, ys, y, rfl, rfl, ha10, hz, rfl, rfl⟩) fun v s11 ⟨_, H11, I11, _, _, e11⟩ => ?_
        subst e11
        exact ⟨m', hm, i + 1, σ8, ys ++ [y], _, I11.unpinned, (keepT I11).1, (keepT I11).2, w10⟩
  have fin : codeAny (model X.prog X.w) X.A (.compStart (.ListComp elt [⟨target, iter, ifs, 0⟩] scope pos) 0 (.ref it) (.ref s.heap.objs.size) (compEnvC scope cl s3.heap.objs.size X.env)) (RR (.ref s.heap.objs.size) s3.heap.objs.size)
      { s3 with heap := h₁, toks := s3.toks + ([] : List (Str × Value)).length } :=
    codeAny_compStart_list loop (T.self _ 0 _ _ _ st4 loop)
  rw [← hs3] at fin
  exact fin
theorem pe_comp (hi : PI X target iter wi) (hg : ∀ pins s H fp, PG (cxComp X N scope cl pins s H fp) target g) (hif : ∀ pins s H fp, PIf (cxComp X N scope cl pins s H fp) ifs c) (he : ∀ pins s H fp, PE (cxComp X N scope cl pins s H fp) elt te)
    (hc : X.calm = true := by rfl) (hcl : closOf X.env scope.names = some cl := by rfl) (hlen : N.length = nt + fr.length := by rfl) (hB : freeB X N nt scope fr 0 = true := by rfl)
    (hcell : ∀ y ∈ scope.names, y.2 ≠ .cell := by decide +kernel) (hkind : scope.kind = .function := by rfl) (hnames : ∀ y ∈ scope.names, y.2 = .local → scope.names.lookup y.1 = some .local := by decide +kernel)
    (hs : ∀ x, foldedSetIterable iter X.env x = pure x := by intro _; rfl) : PE X (.ListComp elt [⟨target, iter, ifs, 0⟩] scope pos) (tComp wi nt fr g c te) := by
  intro pins s σ H Q I h
  rw [eval_ListComp]
  refine wpAny_comprehension_free (use := none) rfl hs (closureFor_of hcl) hkind hnames (thn (hi pins s σ H _ I h) fun xv s1 h1 => thn h1 fun itv s2 h2 => ?_)
  exact comp_block hc (CompNames.of hcl hlen hB hcell hkind) hcell hg hif he h2 fun acc C s' H' ⟨m, hm⟩ hI hF hq => ⟨m, hm, fun h' sb => ⟨.ref acc, H', hI.turned (t' := s'.toks) (fun b o hb e => sb.extBut b o hb e) hF.1 hF.2.1 hF.2.2.2.1 hF.2.2.2.2.1 hF.2.2.2.2.2, rfl, hq⟩⟩
theorem ps_setc {i : Nat} {y : Str} {py spos : Pos} (hN : X.N.Nodup) (hyi : X.N[i]? = some y) (hy : Loc X.env.scope y) (hi : PI X target iter wi) (hg : ∀ pins s H fp, PG (cxComp X N scope cl pins s H fp) target g) (hif : ∀ pins s H fp, PIf (cxComp X N scope cl pins s H fp) ifs c) (he : ∀ pins s H fp, PE (cxComp X N scope cl pins s H fp) elt te)
    (hsw : swapsWith (.ListComp elt [⟨target, iter, ifs, 0⟩] scope pos) (some (.Name y py)) spos.line X.env = pure true := by rfl)
    (hc : X.calm = true := by rfl) (hcl : closOf X.env scope.names = some cl := by rfl) (hlen : N.length = nt + fr.length := by rfl) (hB : freeB X N nt scope fr 0 = true := by rfl)
    (hcell : ∀ y ∈ scope.names, y.2 ≠ .cell := by decide +kernel) (hkind : scope.kind = .function := by rfl) (hnames : ∀ y ∈ scope.names, y.2 = .local → scope.names.lookup y.1 = some .local := by decide +kernel)
    (hs : ∀ x, foldedSetIterable iter X.env x = pure x := by intro _; rfl) (hf : X.fn y = true ∨ X.env.scope.names.lookup y = some .local := by first | exact .inl rfl | exact .inr rfl | assumption) :
    PS X (.Assign [.Name y py] (.ListComp elt [⟨target, iter, ifs, 0⟩] scope pos) spos) (tAsg (tComp wi nt fr g c te) (gName i)) := by
  intro pins s σ H D I h
  rw [exec_Assign_Name_used _ _ _ _ hsw]
  refine wpAny_bind (wpAny_standAt (wpAny_bind ?_))
  show wpAny _ X.A (do let _ ← comprehension (.ListComp elt [⟨target, iter, ifs, 0⟩] scope pos) scope X.env _ (newList []) false (eval iter X.env) (some (assign (.Name y py) X.env))) _ _ s
  refine wpAny_bind (wpAny_mono (wpAny_comprehension_free (use := some (assign (.Name y py) X.env)) (Q := fun _ s' => SP X pins D .next s') rfl hs (closureFor_of hcl) hkind hnames (thn (hi pins s σ H _ I h) fun xv s1 h1 => thn h1 fun itv s2 h2 => ?_)) (fun _ s' hq => wpAny_pure (wpAny_pure hq)) fun _ _ e => e)
  refine comp_block (Q := fun x H1 => gName i x σ H1 D.nx) (RR := fun acc C => compPost (model X.prog X.w) X.A X.xe (some (assign (.Name y py) X.env)) (fun _ s' => SP X pins D .next s') acc C) hc (CompNames.of hcl hlen hB hcell hkind) hcell hg hif he h2 fun acc C s' H' ⟨m, hm⟩ hI hF hq => ?_
  show wpAny _ X.A (assign (.Name y py) X.env (.ref acc)) _ _ _
  refine wpAny_assign_Name (store_ok2 hI hN hyi hy (v := .ref acc) rfl (fun s3 I3 ⟨a, sb, ha⟩ => ?_) hf)
  have hne : C ≠ a := by
    rcases ha with rfl | ha
    · exact hF.2.1
    · exact fun z => hF.2.2.2.2.1 y a ha z.symm
  refine ⟨m, hm.sameBut sb hne, fun h' sb' => ⟨_, H', I3.turned (t' := s3.toks) (fun b o hb e => sb'.extBut b o hb e) hF.1 hF.2.1 hF.2.2.2.1 hF.2.2.2.2.1 hF.2.2.2.2.2, hq⟩⟩
end
structure ItemsOf (J : It) (xs : List V) (L : Hp → Prop) : Prop where
  go : ∀ i H, L H → i < xs.length → J.go i H
  yld : ∀ i H x H', L H → i < xs.length → J.yld i H x H' → H' = H ∧ xs[i]? = some x
  stop : ∀ H, L H → J.stop xs.length H
theorem items_list {K : PySem.W.Frag} {a : Addr} {xs : List V} : ItemsOf (Itl K a) xs (fun H => SqL K H a xs) :=
  ⟨fun i H h hi => ⟨xs, xs[i], h, by simp [hi]⟩, fun i H x H' h hi y => ⟨y.1, y.2 xs h⟩, fun H h => ⟨xs, h, Nat.le_refl _⟩⟩
def rangeV (lo : Int) (n : Nat) : List V := (List.range n).map fun i : Nat => V.int (lo + (i : Int))
theorem items_range {lo : Int} {n : Nat} : ItemsOf (Itr lo n) (rangeV lo n) (fun _ => True) :=
  ⟨fun i H _ hi => by show i < n; simpa [rangeV] using hi, fun i H x H' _ hi y => ⟨y.1, by
    have hi : i < n := by simpa [rangeV] using hi
    rw [y.2]; simp [rangeV, hi]⟩, fun H _ => by show n ≤ _; simp [rangeV]⟩
def signsV (z : Str) : List V := z.cps.toList.map fun c => V.str ⟨#[c]⟩
theorem items_str {z : Str} : ItemsOf (Its z) (signsV z) (fun _ => True) :=
  ⟨fun i H _ hi => by show i < z.cps.size; simpa [signsV] using hi, fun i H x H' _ hi y => ⟨y.1, by
    obtain ⟨_, c, e, rfl⟩ := y
    have hi : i < z.cps.size := by simpa [signsV] using hi
    have e : z.cps[i] = c := by simpa [hi] using e
    simp [signsV, hi, e]⟩, fun H _ => by show z.cps.size ≤ _; simp [signsV]⟩
def CompW (xs : List V) (nt : Nat) (fvs : St) (Pv : Nat → List V → Hp → Prop) : Nat → Nat → St → List V → Hp → Prop := fun i m σ' ys H' =>
  m = xs.length - i ∧ i ≤ xs.length ∧ Pv i ys H' ∧ ∃ tv : List (Option V), tv.length = nt ∧ σ' = tv ++ fvs
theorem CompW.next {xs : List V} {nt : Nat} {fvs : St} {Pv : Nat → List V → Hp → Prop} {i : Nat} {tv : List (Option V)} {ys : List V} {H : Hp} (hi : i < xs.length) (p : Pv (i + 1) ys H) (ht : tv.length = nt) :
    ∃ m', m' < xs.length - i ∧ CompW xs nt fvs Pv (i + 1) m' (tv ++ fvs) ys H := ⟨xs.length - (i + 1), by omega, rfl, hi, p, tv, ht, rfl⟩
theorem comp_by {J : It} {xs : List V} {L : Hp → Prop} {σ : St} {H1 : Hp} {nt : Nat} {fr : List Nat} {g : TG} {c : TT} {te : TE} {Q : VK} {acc : Addr} (it : ItemsOf J xs L) (Pv : Nat → List V → Hp → Prop)
    (h0 : Pv 0 [] (upd H1 acc (.lst []))) (hL : ∀ i ys H', i ≤ xs.length → Pv i ys H' → L H' ∧ H' acc = some (.lst ys))
    (turn : ∀ i x tv ys H', xs[i]? = some x → i < xs.length → Pv i ys H' → tv.length = nt → g x (tv ++ fr.map fun i => (σ[i]?).getD none) H' fun σ2 H3 =>
      c σ2 H3 fun b H4 => if b = true then te σ2 H4 fun y H5 => ys.length < sizeLine ∧ H5 acc = some (.lst ys) ∧ ∃ m', m' < xs.length - i ∧ CompW xs nt (fr.map fun i => (σ[i]?).getD none) Pv (i + 1) m' σ2 (ys ++ [y]) (upd H5 acc (.lst (ys ++ [y])))
        else ∃ m', m' < xs.length - i ∧ CompW xs nt (fr.map fun i => (σ[i]?).getD none) Pv (i + 1) m' σ2 ys H4)
    (hd : ∀ ys H', Pv xs.length ys H' → Q (.ref acc) H') : CompGoal J nt fr g c te σ H1 Q acc := by
  refine ⟨CompW xs nt (fr.map fun i => (σ[i]?).getD none) Pv, ⟨xs.length, by simp, Nat.zero_le _, h0, List.replicate nt none, by simp, rfl⟩, ?_⟩
  rintro i m σ' ys H' ⟨rfl, hi, p, tv, htv, rfl⟩
  obtain ⟨l, ha⟩ := hL i ys H' hi p
  refine ⟨ha, ?_⟩
  by_cases hlt : i < xs.length
  · refine .inr ⟨it.go i H' l hlt, fun x H2 y => ?_⟩
    obtain ⟨rfl, hx⟩ := it.yld i H' x H2 l hlt y
    exact turn i x tv ys H2 hx hlt p htv
  · have e : i = xs.length := by omega
    subst e
    exact .inl ⟨it.stop H' l, hd ys H' p⟩
end L2
namespace L2
open PySem PySem.Spec PyProof.Rows PySem.SeqAt
inductive Dt where
  | non | bl (b : Bool) | int (i : Int) | str (x : Str) | lst (xs : List Dt) | tup (xs : List Dt)
mutual
def Rep (K : PySem.W.Frag) (H : Hp) : Dt → V → Prop
  | .non, v => v = .non
  | .bl b, v => v = .bl b
  | .int i, v => v = .int i
  | .str x, v => v = .str x
  | .lst ds, v => ∃ p xs, v = .ref p ∧ SqL K H p xs ∧ Reps K H ds xs
  | .tup ds, v => ∃ p xs, v = .ref p ∧ SqT K H p xs ∧ Reps K H ds xs
def Reps (K : PySem.W.Frag) (H : Hp) : List Dt → List V → Prop
  | [], xs => xs = []
  | d :: ds, xs => ∃ x r, xs = x :: r ∧ Rep K H d x ∧ Reps K H ds r
end
mutual
def eqDt : Dt → Dt → Bool
  | .non, .non => true
  | .bl a, .bl b => a == b
  | .bl a, .int b => (if a then 1 else 0) == b
  | .int a, .bl b => a == (if b then 1 else 0)
  | .int a, .int b => a == b
  | .str a, .str b => a == b
  | .lst xs, .lst ys => eqDts xs ys
  | .tup xs, .tup ys => eqDts xs ys
  | _, _ => false
def eqDts : List Dt → List Dt → Bool
  | [], [] => true
  | x :: xs, y :: ys => eqDt x y && eqDts xs ys
  | _, _ => false
end
mutual
def depD : Dt → Nat
  | .lst xs => depDs xs + 1
  | .tup xs => depDs xs + 1
  | _ => 0
def depDs : List Dt → Nat
  | [] => 0
  | x :: xs => max (depD x) (depDs xs)
end
theorem Reps.length {K : PySem.W.Frag} {H : Hp} : ∀ {ds : List Dt} {xs : List V}, Reps K H ds xs → ds.length = xs.length
  | [], xs, h => by rw [show xs = [] from by simpa [Reps] using h]; rfl
  | d :: ds, xs, h => by
    obtain ⟨x, r, rfl, _, h2⟩ : ∃ x r, xs = x :: r ∧ Rep K H d x ∧ Reps K H ds r := by simpa [Reps] using h
    simp [Reps.length h2]
theorem Reps.get {K : PySem.W.Frag} {H : Hp} : ∀ {ds : List Dt} {xs : List V} {j : Nat} {d : Dt}, Reps K H ds xs → ds[j]? = some d → ∃ x, xs[j]? = some x ∧ Rep K H d x
  | [], _, _, _, _, e => by simp at e
  | d0 :: ds, xs, j, d, h, e => by
    obtain ⟨x, r, rfl, h1, h2⟩ : ∃ x r, xs = x :: r ∧ Rep K H d0 x ∧ Reps K H ds r := by simpa [Reps] using h
    cases j with
    | zero =>
      have e : d0 = d := by simpa using e
      subst e
      exact ⟨x, rfl, h1⟩
    | succ j =>
      obtain ⟨y, e1, e2⟩ := Reps.get (j := j) h2 (by simpa using e)
      exact ⟨y, by simpa using e1, e2⟩
theorem depDs_get : ∀ {ds : List Dt} {j : Nat} {d : Dt}, ds[j]? = some d → depD d ≤ depDs ds
  | [], _, _, e => by simp at e
  | d0 :: ds, j, d, e => by
    cases j with
    | zero =>
      have e : d0 = d := by simpa using e
      subst e
      simp only [depDs]; omega
    | succ j =>
      have := depDs_get (ds := ds) (j := j) (d := d) (by simpa using e)
      simp only [depDs]; omega
theorem eqDts_all : ∀ (ds es : List Dt), ds.length = es.length → ((List.range ds.length).all fun j => eqDt (ds.getD j .non) (es.getD j .non)) = eqDts ds es
  | [], [], _ => rfl
  | [], _ :: _, h => by simp at h
  | _ :: _, [], h => by simp at h
  | d :: ds, e :: es, h => by
    have h : ds.length = es.length := by simpa using h
    rw [List.length_cons, List.range_succ_eq_map, List.all_cons, List.all_map]
    have := eqDts_all ds es h
    simp only [eqDts]
    rw [← this]
    rfl
theorem eqDts_length : ∀ (ds es : List Dt), ds.length ≠ es.length → eqDts ds es = false
  | [], [], h => by simp at h
  | [], _ :: _, _ => rfl
  | _ :: _, [], _ => rfl
  | d :: ds, e :: es, h => by
    have h : ds.length ≠ es.length := fun z => h (by simp [z])
    simp only [eqDts, eqDts_length ds es h, Bool.and_false]
mutual
theorem eqDt_refl : ∀ d : Dt, eqDt d d = true
  | .non => rfl
  | .bl b => by simp [eqDt]
  | .int i => by simp [eqDt]
  | .str x => by simp [eqDt]
  | .lst xs => by simp only [eqDt]; exact eqDts_refl xs
  | .tup xs => by simp only [eqDt]; exact eqDts_refl xs
theorem eqDts_refl : ∀ ds : List Dt, eqDts ds ds = true
  | [] => rfl
  | d :: ds => by simp only [eqDts, eqDt_refl d, eqDts_refl ds, Bool.and_true]
end
section
variable {X : Cx} {pins : List (Addr × Obj)} {σ : St} {H : Hp} {s : Shared}
theorem lst_not_tup {a : Addr} {xs ys : List V} (I : Inv X pins σ H s) (h : SqL X.K H a xs) (h' : SqT X.K H a ys) : False := by
  obtain ⟨its, _, pl, _⟩ := I.list h
  obtain ⟨its', _, pt, _⟩ := I.tuple h'
  obtain ⟨o, n, e, c, _, _⟩ := pl
  obtain ⟨o', e', c', _⟩ := pt
  rw [e] at e'; cases e'
  rw [c] at c'
  exact absurd c' (by decide)
mutual
theorem rep_inj (I : Inv X pins σ H s) : ∀ (d d' : Dt) (v : V), Rep X.K H d v → Rep X.K H d' v → d = d'
  | .non, d', v, h, h' => by
    have h : v = .non := by simpa [Rep] using h
    subst h
    cases d' <;> simp [Rep] at h' <;> rfl
  | .bl b, d', v, h, h' => by
    have h : v = .bl b := by simpa [Rep] using h
    subst h
    cases d' <;> simp [Rep] at h'
    rw [h']
  | .int b, d', v, h, h' => by
    have h : v = .int b := by simpa [Rep] using h
    subst h
    cases d' <;> simp [Rep] at h'
    rw [h']
  | .str b, d', v, h, h' => by
    have h : v = .str b := by simpa [Rep] using h
    subst h
    cases d' <;> simp [Rep] at h'
    rw [h']
  | .lst ds, d', v, h, h' => by
    obtain ⟨p, xs, rfl, hq, hr⟩ : ∃ p xs, v = .ref p ∧ SqL X.K H p xs ∧ Reps X.K H ds xs := by simpa only [Rep] using h
    cases d' with
    | lst es =>
      obtain ⟨p', ys, e, hq', hr'⟩ : ∃ p' ys, V.ref p = .ref p' ∧ SqL X.K H p' ys ∧ Reps X.K H es ys := by simpa only [Rep] using h'
      cases e
      rw [I.list_inj hq' hq] at hr'
      rw [reps_inj I ds es xs hr hr']
    | tup es =>
      obtain ⟨p', ys, e, hq', hr'⟩ : ∃ p' ys, V.ref p = .ref p' ∧ SqT X.K H p' ys ∧ Reps X.K H es ys := by simpa only [Rep] using h'
      cases e
      exact (lst_not_tup I hq hq').elim
    | _ => simp [Rep] at h'
  | .tup ds, d', v, h, h' => by
    obtain ⟨p, xs, rfl, hq, hr⟩ : ∃ p xs, v = .ref p ∧ SqT X.K H p xs ∧ Reps X.K H ds xs := by simpa only [Rep] using h
    cases d' with
    | tup es =>
      obtain ⟨p', ys, e, hq', hr'⟩ : ∃ p' ys, V.ref p = .ref p' ∧ SqT X.K H p' ys ∧ Reps X.K H es ys := by simpa only [Rep] using h'
      cases e
      rw [I.tuple_inj hq' hq] at hr'
      rw [reps_inj I ds es xs hr hr']
    | lst es =>
      obtain ⟨p', ys, e, hq', hr'⟩ : ∃ p' ys, V.ref p = .ref p' ∧ SqL X.K H p' ys ∧ Reps X.K H es ys := by simpa only [Rep] using h'
      cases e
      exact (lst_not_tup I hq' hq).elim
    | _ => simp [Rep] at h'
theorem reps_inj (I : Inv X pins σ H s) : ∀ (ds es : List Dt) (xs : List V), Reps X.K H ds xs → Reps X.K H es xs → ds = es
  | [], es, xs, h, h' => by
    have h : xs = [] := by simpa [Reps] using h
    subst h
    cases es with
    | nil => rfl
    | cons e es => simp [Reps] at h'
  | d :: ds, es, xs, h, h' => by
    obtain ⟨x, r, rfl, h1, h2⟩ : ∃ x r, xs = x :: r ∧ Rep X.K H d x ∧ Reps X.K H ds r := by simpa only [Reps] using h
    cases es with
    | nil => simp [Reps] at h'
    | cons e es =>
      obtain ⟨x', r', e', h1', h2'⟩ : ∃ x' r', x :: r = x' :: r' ∧ Rep X.K H e x' ∧ Reps X.K H es r' := by simpa only [Reps] using h'
      cases e'
      rw [rep_inj I d e x h1 h1', reps_inj I ds es r h2 h2']
end
structure Eq3 (A : Around) (s : Shared) (u v : Value) (b : Bool) : Prop where
  eq : EqAt A s u v b
  rc : RcAt A s u v b
  ne : RcNeAt A s u v (!b)
theorem items_eq (I : Inv X pins σ H s) {n : Nat} {A : Around} (ih : ∀ (d d' : Dt) (x y : V) (u v : Value), depD d ≤ n → Rep X.K H d x → Rep X.K H d' y → RelV x u → RelV y v → Eq3 A.in1 s u v (eqDt d d'))
    {ds es : List Dt} {xs ys : List V} {us vs : List Value} (hd : depDs ds ≤ n) (hx : Reps X.K H ds xs) (hy : Reps X.K H es ys) (ru : Vals xs us) (rv : Vals ys vs) :
    ∀ j (h1 : j < us.toArray.size) (h2 : j < vs.toArray.size), EqAt A.in1 s us.toArray[j] vs.toArray[j] (eqDt (ds.getD j .non) (es.getD j .non)) := by
  intro j h1 h2
  have l1 : j < ds.length := by rw [hx.length, ru.length]; simpa using h1
  have l2 : j < es.length := by rw [hy.length, rv.length]; simpa using h2
  have e1 : ds[j]? = some ds[j] := by simp [l1]
  have e2 : es[j]? = some es[j] := by simp [l2]
  obtain ⟨x, ex, rx⟩ := hx.get e1
  obtain ⟨y, ey, ry⟩ := hy.get e2
  obtain ⟨u, eu, qu⟩ := ru.get ex
  obtain ⟨v, ev, qv⟩ := rv.get ey
  have h1' : j < us.length := by simpa using h1
  have h2' : j < vs.length := by simpa using h2
  have z1 : us.toArray[j] = u := by
    have : us[j]? = some us[j] := by simp [h1']
    rw [this] at eu
    simpa using eu
  have z2 : vs.toArray[j] = v := by
    have : vs[j]? = some vs[j] := by simp [h2']
    rw [this] at ev
    simpa using ev
  rw [z1, z2]
  have g1 : ds.getD j .non = ds[j] := by simp [List.getD, l1]
  have g2 : es.getD j .non = es[j] := by simp [List.getD, l2]
  rw [g1, g2]
  exact (ih _ _ x y u v (Nat.le_trans (depDs_get e1) hd) rx ry qu qv).eq
theorem eq3_lists (I : Inv X pins σ H s) {n : Nat} {A : Around} (hu : A.units < cLine) (ih : ∀ (d d' : Dt) (x y : V) (u v : Value), depD d ≤ n → Rep X.K H d x → Rep X.K H d' y → RelV x u → RelV y v → Eq3 A.in1 s u v (eqDt d d'))
    {ds es : List Dt} {p q : Addr} (hd : depDs ds ≤ n) (hp : Rep X.K H (.lst ds) (.ref p)) (hq : Rep X.K H (.lst es) (.ref q)) : Eq3 A s (.ref p) (.ref q) (eqDts ds es) := by
  obtain ⟨p', xs, e, lx, hx⟩ : ∃ p' xs, V.ref p = .ref p' ∧ SqL X.K H p' xs ∧ Reps X.K H ds xs := by simpa only [Rep] using hp
  cases e
  obtain ⟨q', ys, e, ly, hy⟩ : ∃ q' ys, V.ref q = .ref q' ∧ SqL X.K H q' ys ∧ Reps X.K H es ys := by simpa only [Rep] using hq
  cases e
  obtain ⟨us, ru, pu, _⟩ := I.list lx
  obtain ⟨vs, rv, pv', _⟩ := I.list ly
  have both : RcAt A s (.ref p) (.ref q) (eqDts ds es) ∧ RcNeAt A s (.ref p) (.ref q) (!eqDts ds es) := by
    by_cases hl : ds.length = es.length
    · have hsz : us.toArray.size = vs.toArray.size := by simp [← ru.length, ← rv.length, ← hx.length, ← hy.length, hl]
      have hz : us.toArray.size = ds.length := by simp [← ru.length, ← hx.length]
      have a := RcAt.lists pu.isList pv'.isList hsz hu (items_eq I ih hd hx hy ru rv)
      have b := RcNeAt.lists pu.isList pv'.isList hsz hu (items_eq I ih hd hx hy ru rv)
      rw [hz, eqDts_all ds es hl] at a b
      exact ⟨a, b⟩
    · have hsz : (us.toArray.size != vs.toArray.size) = true := by simp [← ru.length, ← rv.length, ← hx.length, ← hy.length, hl]
      rw [eqDts_length ds es hl]
      exact ⟨RcAt.lists_lengths pu.isList pv'.isList hsz hu, RcNeAt.lists_lengths pu.isList pv'.isList hsz hu⟩
  refine ⟨?_, both.1, both.2⟩
  by_cases hpq : p = q
  · subst hpq
    have : ds = es := by
      rw [I.list_inj ly lx] at hy
      exact reps_inj I ds es xs hx hy
    subst this
    rw [eqDts_refl]
    exact EqAt.same _
  · exact EqAt.of_refs hpq both.1
theorem eq3_tups (I : Inv X pins σ H s) {n : Nat} {A : Around} (hu : A.units < cLine) (ih : ∀ (d d' : Dt) (x y : V) (u v : Value), depD d ≤ n → Rep X.K H d x → Rep X.K H d' y → RelV x u → RelV y v → Eq3 A.in1 s u v (eqDt d d'))
    {ds es : List Dt} {p q : Addr} (hd : depDs ds ≤ n) (hp : Rep X.K H (.tup ds) (.ref p)) (hq : Rep X.K H (.tup es) (.ref q)) : Eq3 A s (.ref p) (.ref q) (eqDts ds es) := by
  obtain ⟨p', xs, e, lx, hx⟩ : ∃ p' xs, V.ref p = .ref p' ∧ SqT X.K H p' xs ∧ Reps X.K H ds xs := by simpa only [Rep] using hp
  cases e
  obtain ⟨q', ys, e, ly, hy⟩ : ∃ q' ys, V.ref q = .ref q' ∧ SqT X.K H q' ys ∧ Reps X.K H es ys := by simpa only [Rep] using hq
  cases e
  obtain ⟨us, ru, pu, _⟩ := I.tuple lx
  obtain ⟨vs, rv, pv', _⟩ := I.tuple ly
  have hz : us.toArray.size = ds.length := by simp [← ru.length, ← hx.length]
  have hz' : vs.toArray.size = es.length := by simp [← rv.length, ← hy.length]
  have key : ((List.range (min us.toArray.size vs.toArray.size)).all (fun j => eqDt (ds.getD j .non) (es.getD j .non)) && us.toArray.size == vs.toArray.size) = eqDts ds es := by
    rw [hz, hz']
    by_cases hl : ds.length = es.length
    · rw [← hl, Nat.min_self, eqDts_all ds es hl]; simp
    · rw [eqDts_length ds es hl]; simp [hl]
  have a := RcAt.tuples pu pv' hu (items_eq I ih hd hx hy ru rv)
  have b := RcNeAt.tuples pu pv' hu (items_eq I ih hd hx hy ru rv)
  rw [key] at a b
  refine ⟨?_, a, b⟩
  by_cases hpq : p = q
  · subst hpq
    have : ds = es := by
      rw [I.tuple_inj ly lx] at hy
      exact reps_inj I ds es xs hx hy
    subst this
    rw [eqDts_refl]
    exact EqAt.same _
  · exact EqAt.of_refs hpq a
end
section
variable {X : Cx} {pins : List (Addr × Obj)} {σ : St} {H : Hp} {s : Shared}
theorem rep_ref_l {ds : List Dt} {x : V} (h : Rep X.K H (.lst ds) x) : ∃ p xs, x = .ref p ∧ SqL X.K H p xs := by
  obtain ⟨p, xs, e, l, _⟩ : ∃ p xs, x = .ref p ∧ SqL X.K H p xs ∧ Reps X.K H ds xs := by simpa only [Rep] using h
  exact ⟨p, xs, e, l⟩
theorem rep_ref_t {ds : List Dt} {x : V} (h : Rep X.K H (.tup ds) x) : ∃ p xs, x = .ref p ∧ SqT X.K H p xs := by
  obtain ⟨p, xs, e, l, _⟩ : ∃ p xs, x = .ref p ∧ SqT X.K H p xs ∧ Reps X.K H ds xs := by simpa only [Rep] using h
  exact ⟨p, xs, e, l⟩
theorem eq3_step (I : Inv X pins σ H s) {n : Nat} {A : Around} (ih : ∀ (d d' : Dt) (x y : V) (u v : Value), depD d < n → Rep X.K H d x → Rep X.K H d' y → RelV x u → RelV y v → Eq3 A.in1 s u v (eqDt d d'))
    {d d' : Dt} {x y : V} {u v : Value} (hu : A.units + n < cLine) (hd : depD d ≤ n) (hx : Rep X.K H d x) (hy : Rep X.K H d' y) (rx : RelV x u) (ry : RelV y v) : Eq3 A s u v (eqDt d d') := by
  have hu0 : A.units < cLine := by omega
  cases d with
  | non =>
    have e : x = V.non := by simpa [Rep] using hx
    subst e
    cases rx
    cases d' with
    | non =>
      have e : y = V.non := by simpa [Rep] using hy
      subst e
      cases ry
      exact ⟨(EqAt.same _), RcAt.none_none , RcNeAt.none_none ⟩
    | bl b =>
      have e : y = V.bl b := by simpa [Rep] using hy
      subst e
      cases ry
      exact ⟨(EqAt.none_bool b), RcAt.none_bool b, RcNeAt.none_bool b⟩
    | int b =>
      have e : y = V.int b := by simpa [Rep] using hy
      subst e
      obtain ⟨u, rfl⟩ := ry
      exact ⟨(EqAt.none_int b u), RcAt.none_int b u, RcNeAt.none_int b u⟩
    | str b =>
      have e : y = V.str b := by simpa [Rep] using hy
      subst e
      obtain ⟨u, rfl⟩ := ry
      exact ⟨(EqAt.none_str b u), RcAt.none_str b u, RcNeAt.none_str b u⟩
    | lst b =>
      obtain ⟨pW, xsW, rfl, lW⟩ := rep_ref_l hy
      cases ry
      obtain ⟨itW, _, plW, _⟩ := I.list lW
      exact ⟨EqAt.none_list  plW.isList hu0, RcAt.none_list  plW.isList hu0, RcNeAt.none_list  plW.isList hu0⟩
    | tup b =>
      obtain ⟨pW, xsW, rfl, lW⟩ := rep_ref_t hy
      cases ry
      obtain ⟨itW, _, plW, _⟩ := I.tuple lW
      exact ⟨EqAt.none_tuple  plW hu0, RcAt.none_tuple  plW hu0, RcNeAt.none_tuple  plW hu0⟩
  | bl a =>
    have e : x = V.bl a := by simpa [Rep] using hx
    subst e
    cases rx
    cases d' with
    | non =>
      have e : y = V.non := by simpa [Rep] using hy
      subst e
      cases ry
      exact ⟨(EqAt.bool_none a), RcAt.bool_none a, RcNeAt.bool_none a⟩
    | bl b =>
      have e : y = V.bl b := by simpa [Rep] using hy
      subst e
      cases ry
      exact ⟨(EqAt.bool_bool a b), RcAt.bool_bool a b, RcNeAt.bool_bool a b⟩
    | int b =>
      have e : y = V.int b := by simpa [Rep] using hy
      subst e
      obtain ⟨u, rfl⟩ := ry
      exact ⟨(EqAt.bool_int a b u), RcAt.bool_int a b u, RcNeAt.bool_int a b u⟩
    | str b =>
      have e : y = V.str b := by simpa [Rep] using hy
      subst e
      obtain ⟨u, rfl⟩ := ry
      exact ⟨(EqAt.bool_str a b u), RcAt.bool_str a b u, RcNeAt.bool_str a b u⟩
    | lst b =>
      obtain ⟨pW, xsW, rfl, lW⟩ := rep_ref_l hy
      cases ry
      obtain ⟨itW, _, plW, _⟩ := I.list lW
      exact ⟨EqAt.bool_list a plW.isList hu0, RcAt.bool_list a plW.isList hu0, RcNeAt.bool_list a plW.isList hu0⟩
    | tup b =>
      obtain ⟨pW, xsW, rfl, lW⟩ := rep_ref_t hy
      cases ry
      obtain ⟨itW, _, plW, _⟩ := I.tuple lW
      exact ⟨EqAt.bool_tuple a plW hu0, RcAt.bool_tuple a plW hu0, RcNeAt.bool_tuple a plW hu0⟩
  | int a =>
    have e : x = V.int a := by simpa [Rep] using hx
    subst e
    obtain ⟨t, rfl⟩ := rx
    cases d' with
    | non =>
      have e : y = V.non := by simpa [Rep] using hy
      subst e
      cases ry
      exact ⟨(EqAt.int_none a t), RcAt.int_none a t, RcNeAt.int_none a t⟩
    | bl b =>
      have e : y = V.bl b := by simpa [Rep] using hy
      subst e
      cases ry
      exact ⟨(EqAt.int_bool a t b), RcAt.int_bool a t b, RcNeAt.int_bool a t b⟩
    | int b =>
      have e : y = V.int b := by simpa [Rep] using hy
      subst e
      obtain ⟨u, rfl⟩ := ry
      exact ⟨(EqAt.int_int a t b u), RcAt.int_int a t b u, RcNeAt.int_int a t b u⟩
    | str b =>
      have e : y = V.str b := by simpa [Rep] using hy
      subst e
      obtain ⟨u, rfl⟩ := ry
      exact ⟨(EqAt.int_str a t b u), RcAt.int_str a t b u, RcNeAt.int_str a t b u⟩
    | lst b =>
      obtain ⟨pW, xsW, rfl, lW⟩ := rep_ref_l hy
      cases ry
      obtain ⟨itW, _, plW, _⟩ := I.list lW
      exact ⟨EqAt.int_list a t plW.isList hu0, RcAt.int_list a t plW.isList hu0, RcNeAt.int_list a t plW.isList hu0⟩
    | tup b =>
      obtain ⟨pW, xsW, rfl, lW⟩ := rep_ref_t hy
      cases ry
      obtain ⟨itW, _, plW, _⟩ := I.tuple lW
      exact ⟨EqAt.int_tuple a t plW hu0, RcAt.int_tuple a t plW hu0, RcNeAt.int_tuple a t plW hu0⟩
  | str a =>
    have e : x = V.str a := by simpa [Rep] using hx
    subst e
    obtain ⟨t, rfl⟩ := rx
    cases d' with
    | non =>
      have e : y = V.non := by simpa [Rep] using hy
      subst e
      cases ry
      exact ⟨(EqAt.str_none a t), RcAt.str_none a t, RcNeAt.str_none a t⟩
    | bl b =>
      have e : y = V.bl b := by simpa [Rep] using hy
      subst e
      cases ry
      exact ⟨(EqAt.str_bool a t b), RcAt.str_bool a t b, RcNeAt.str_bool a t b⟩
    | int b =>
      have e : y = V.int b := by simpa [Rep] using hy
      subst e
      obtain ⟨u, rfl⟩ := ry
      exact ⟨(EqAt.str_int a t b u), RcAt.str_int a t b u, RcNeAt.str_int a t b u⟩
    | str b =>
      have e : y = V.str b := by simpa [Rep] using hy
      subst e
      obtain ⟨u, rfl⟩ := ry
      exact ⟨(EqAt.str_str a t b u), RcAt.str_str a t b u, RcNeAt.str_str a t b u⟩
    | lst b =>
      obtain ⟨pW, xsW, rfl, lW⟩ := rep_ref_l hy
      cases ry
      obtain ⟨itW, _, plW, _⟩ := I.list lW
      exact ⟨EqAt.str_list a t plW.isList hu0, RcAt.str_list a t plW.isList hu0, RcNeAt.str_list a t plW.isList hu0⟩
    | tup b =>
      obtain ⟨pW, xsW, rfl, lW⟩ := rep_ref_t hy
      cases ry
      obtain ⟨itW, _, plW, _⟩ := I.tuple lW
      exact ⟨EqAt.str_tuple a t plW hu0, RcAt.str_tuple a t plW hu0, RcNeAt.str_tuple a t plW hu0⟩
  | lst a =>
    obtain ⟨pU, xsU, rfl, lU⟩ := rep_ref_l hx
    cases rx
    obtain ⟨itU, _, plU, _⟩ := I.list lU
    cases d' with
    | non =>
      have e : y = V.non := by simpa [Rep] using hy
      subst e
      cases ry
      exact ⟨EqAt.list_none  plU.isList hu0, RcAt.list_none  plU.isList hu0, RcNeAt.list_none  plU.isList hu0⟩
    | bl b =>
      have e : y = V.bl b := by simpa [Rep] using hy
      subst e
      cases ry
      exact ⟨EqAt.list_bool b plU.isList hu0, RcAt.list_bool b plU.isList hu0, RcNeAt.list_bool b plU.isList hu0⟩
    | int b =>
      have e : y = V.int b := by simpa [Rep] using hy
      subst e
      obtain ⟨u, rfl⟩ := ry
      exact ⟨EqAt.list_int b u plU.isList hu0, RcAt.list_int b u plU.isList hu0, RcNeAt.list_int b u plU.isList hu0⟩
    | str b =>
      have e : y = V.str b := by simpa [Rep] using hy
      subst e
      obtain ⟨u, rfl⟩ := ry
      exact ⟨EqAt.list_str b u plU.isList hu0, RcAt.list_str b u plU.isList hu0, RcNeAt.list_str b u plU.isList hu0⟩
    | lst b =>
      obtain ⟨pW, xsW, rfl, lW⟩ := rep_ref_l hy
      cases ry
      obtain ⟨itW, _, plW, _⟩ := I.list lW
      have hd : depDs a + 1 ≤ n := by simpa only [depD] using hd
      exact eq3_lists I (n := n - 1) hu0 (fun d d' x y u v h => ih d d' x y u v (by omega)) (by omega) hx hy
    | tup b =>
      obtain ⟨pW, xsW, rfl, lW⟩ := rep_ref_t hy
      cases ry
      obtain ⟨itW, _, plW, _⟩ := I.tuple lW
      exact ⟨EqAt.list_tuple plU.isList plW hu0, RcAt.list_tuple plU.isList plW hu0, RcNeAt.list_tuple plU.isList plW hu0⟩
  | tup a =>
    obtain ⟨pU, xsU, rfl, lU⟩ := rep_ref_t hx
    cases rx
    obtain ⟨itU, _, plU, _⟩ := I.tuple lU
    cases d' with
    | non =>
      have e : y = V.non := by simpa [Rep] using hy
      subst e
      cases ry
      exact ⟨EqAt.tuple_none  plU hu0, RcAt.tuple_none  plU hu0, RcNeAt.tuple_none  plU hu0⟩
    | bl b =>
      have e : y = V.bl b := by simpa [Rep] using hy
      subst e
      cases ry
      exact ⟨EqAt.tuple_bool b plU hu0, RcAt.tuple_bool b plU hu0, RcNeAt.tuple_bool b plU hu0⟩
    | int b =>
      have e : y = V.int b := by simpa [Rep] using hy
      subst e
      obtain ⟨u, rfl⟩ := ry
      exact ⟨EqAt.tuple_int b u plU hu0, RcAt.tuple_int b u plU hu0, RcNeAt.tuple_int b u plU hu0⟩
    | str b =>
      have e : y = V.str b := by simpa [Rep] using hy
      subst e
      obtain ⟨u, rfl⟩ := ry
      exact ⟨EqAt.tuple_str b u plU hu0, RcAt.tuple_str b u plU hu0, RcNeAt.tuple_str b u plU hu0⟩
    | lst b =>
      obtain ⟨pW, xsW, rfl, lW⟩ := rep_ref_l hy
      cases ry
      obtain ⟨itW, _, plW, _⟩ := I.list lW
      exact ⟨EqAt.tuple_list plU plW.isList hu0, RcAt.tuple_list plU plW.isList hu0, RcNeAt.tuple_list plU plW.isList hu0⟩
    | tup b =>
      obtain ⟨pW, xsW, rfl, lW⟩ := rep_ref_t hy
      cases ry
      obtain ⟨itW, _, plW, _⟩ := I.tuple lW
      have hd : depDs a + 1 ≤ n := by simpa only [depD] using hd
      exact eq3_tups I (n := n - 1) hu0 (fun d d' x y u v h => ih d d' x y u v (by omega)) (by omega) hx hy
end
section
variable {X : Cx} {pins : List (Addr × Obj)} {σ : St} {H : Hp} {s : Shared}
theorem eq3 (I : Inv X pins σ H s) : ∀ (n : Nat) (A : Around) (d d' : Dt) (x y : V) (u v : Value), A.units + n < cLine → depD d ≤ n → Rep X.K H d x → Rep X.K H d' y → RelV x u → RelV y v → Eq3 A s u v (eqDt d d') := by
  intro n
  induction n with
  | zero => exact fun A d d' x y u v hu hd hx hy rx ry => eq3_step I (n := 0) (fun _ _ _ _ _ _ h => absurd h (Nat.not_lt_zero _)) hu hd hx hy rx ry
  | succ n ih => exact fun A d d' x y u v hu hd hx hy rx ry => eq3_step I (n := n + 1) (fun d d' x y u v h hx hy rx ry => ih A.in1 d d' x y u v (by show A.units + 1 + n < cLine; omega) (Nat.le_of_lt_succ h) hx hy rx ry) hu hd hx hy rx ry
end
section
variable {X : Cx}
theorem op_eq_d {k : Nat} (hr : Room k X.A) : OpR X (compareOp .Eq) (fun x y H Q => ∃ d d', Rep X.K H d x ∧ Rep X.K H d' y ∧ depD d ≤ 100 ∧ Q (.bl (eqDt d d')) H) := by
  intro pins s σ H x y v u Q I rx ry h
  obtain ⟨d, d', h1, h2, hd, q⟩ := h
  exact (eq3 I 100 X.A d d' x y v u (by have := hr.un; omega) hd h1 h2 rx ry).rc X.prog X.w X.xe _ ⟨.bl _, H, I, rfl, q⟩
theorem op_ne_d {k : Nat} (hr : Room k X.A) : OpR X (compareOp .NotEq) (fun x y H Q => ∃ d d', Rep X.K H d x ∧ Rep X.K H d' y ∧ depD d ≤ 100 ∧ Q (.bl (!eqDt d d')) H) := by
  intro pins s σ H x y v u Q I rx ry h
  obtain ⟨d, d', h1, h2, hd, q⟩ := h
  exact (eq3 I 100 X.A d d' x y v u (by have := hr.un; omega) hd h1 h2 rx ry).ne X.prog X.w X.xe _ ⟨.bl _, H, I, rfl, q⟩
end
end L2
namespace L2
open PySem PySem.Spec PyProof.Rows
def isW : V → Bool
  | .int _ => true
  | _ => false
def isIB : V → Bool
  | .int _ => true
  | .bl _ => true
  | _ => false
def isB : V → Bool
  | .bl _ => true
  | _ => false
def isS : V → Bool
  | .str _ => true
  | _ => false
theorem isW_eq (x : V) : isW x = (isIB x && !isB x) := by cases x <;> rfl
section
variable {K : PySem.W.Frag} {H H' : Hp} {x : V} {n : String}
theorem bt_int (h : TyOf K H x (.type n)) : clsIs K (.type n) (.ty "int") = some (isIB x) := by cases h <;> rfl
theorem bt_bool (h : TyOf K H x (.type n)) : clsIs K (.type n) (.ty "bool") = some (isB x) := by cases h <;> rfl
theorem bt_str (h : TyOf K H x (.type n)) : clsIs K (.type n) (.ty "str") = some (isS x) := by cases h <;> rfl
theorem bt_list (h : TyOf K H x (.type n)) : clsIs K (.type n) (.ty "list") = some (n == "list") := by cases h <;> rfl
theorem bt_tuple (h : TyOf K H x (.type n)) : clsIs K (.type n) (.ty "tuple") = some (n == "tuple") := by cases h <;> rfl
theorem TyOf.same {t : Value} (e : Same H H') (h : TyOf K H x t) : TyOf K H' x t := by
  cases h with
  | non => exact .non
  | bl b => exact .bl b
  | int i => exact .int i
  | str y => exact .str y
  | flt y => exact .flt y
  | lst q => exact .lst (e _ _ q)
  | frz q => exact .frz (e _ _ q)
  | tup q => exact .tup (e _ _ q)
  | dK q => exact .dK (e _ _ q)
  | dT q => exact .dT (e _ _ q)
  | ins q c a b d m => exact .ins (e _ _ q) c a b d m
end
theorem atI_0 {α : Type} {c : α} {cs : List α} : atI (c :: cs) (0 : Int) = some c := atI_nat (j := 0) rfl
theorem atI_lt {α : Type} {xs : List α} {i : Int} (h0 : 0 ≤ i) (h1 : i < xs.length) : ∃ v, atI xs i = some v ∧ v ∈ xs := by
  obtain ⟨j, rfl⟩ : ∃ j : Nat, i = (j : Int) := ⟨i.toNat, by omega⟩
  have hj : j < xs.length := by omega
  exact ⟨xs[j], atI_nat (by simp [hj]), List.getElem_mem hj⟩
theorem Same.new {H : Hp} {p : Addr} {o : HO} (h : H p = none) : Same H (upd H p o) := fun b u e => by
  rw [upd_ne (ne_of_none e h)]
  exact e
theorem Same.tup {K : PySem.W.Frag} {H H' : Hp} {a : Addr} {xs : List V} (e : Same H H') (h : SqT K H a xs) : SqT K H' a xs := by
  rcases h with (h | ⟨o, h⟩) | h
  · exact .inl (.inl (e _ _ h))
  · exact .inl (.inr ⟨o, e _ _ h⟩)
  · exact .inr h
def Off (p : Addr) (H H' : Hp) : Prop := ∀ b, b ≠ p → H' b = H b
theorem Off.trans {p : Addr} {H H1 H2 : Hp} (a : Off p H H1) (b : Off p H1 H2) : Off p H H2 := fun c h => (b c h).trans (a c h)
theorem Off.upd {p : Addr} {H : Hp} {o : HO} : Off p H (upd H p o) := fun _ h => upd_ne h
theorem small_line {n : Nat} (h : n ≤ 1000000) : n ≤ sizeLine := Nat.le_trans h (by decide)
theorem fnok_of {P : Program} {w : World} {K : PySem.W.Frag} {mg : Str → Option Value} {base : Heap} {CX : CXT} {x : Str} {ps : List Str} {sp : Sp} {k : Nat} {st : Stmt} {N : List Str} {f : Addr} {fd : FuncData}
    (F : Fun K x x st f fd) (S : FnScope N ps (defScope st)) (len : ∀ vs H Q E, sp vs H Q E → vs.length = ps.length)
    (hbody : ∀ (cdv : Value) (A : Around) (outer : List Env) (s : Shared) (H : Hp) (vs : List V) (Q : VK) (E : XK), Room k (A.deeper (envOfC x (defScope st) s.heap.objs.size f cdv)) → sp vs H Q E →
      ∃ t, PSs (cxOf CX P w K mg base N x (defScope st) f cdv A outer s H E).nox (defBody st) t ∧ t { nx := fun _ H' => Q .non H', rt := Q } (start N vs) H) : FnOk P w K mg base CX (k + 1) f fd ps sp := by
  obtain ⟨oc, od, kV, doc, pm, an, cdv, ct, osl, rfl, lk, hcd⟩ := F.ex
  refine fn_of lk hcd S len fun A outer s H vs Q E hr hsp => ?_
  obtain ⟨t, h, q⟩ := hbody cdv A outer s H vs Q E hr hsp
  exact ⟨t, h.nox, q⟩
structure ExcF (B newId initId : String) (bm : List Value) : Prop where
  call : ExcCallFacts B newId initId
  split : splitId newId = some (B, "__new__")
  kind : builtinKind newId = some .builtinFn
  row : Manifest.signature? newId = some ⟨.any, B, B, .cls, [⟨"args", .varPos, false⟩, ⟨"kwargs", .varKw, false⟩]⟩
  hasB : bm.contains (.type B) = true
  hasE : bm.contains (.type "BaseException") = true
  noA : bm.contains (.type "AttributeError") = false
  noN : bm.contains (.type "NameError") = false
  canon : Manifest.canonical newId = Manifest.canonical "BaseException.__new__"
theorem ExcF.under {B newId initId : String} {bm : List Value} (F : ExcF B newId initId bm) (R : Addr) : ExcF B newId initId (.ref R :: bm) :=
  ⟨F.call, F.split, F.kind, F.row, by rw [List.contains_cons, F.hasB, Bool.or_true], by rw [List.contains_cons, F.hasE, Bool.or_true], by rw [List.contains_cons, F.noA]; rfl, by rw [List.contains_cons, F.noN]; rfl, F.canon⟩
section
variable {prog : Program} {w : World} {M : Model} {A : Around} {E : Value → Shared → Prop} {R : Result → Shared → Prop} {h : Heap} {g : Array GenState} {d : Drawn} {t : Nat} {os : OsState}
variable {nm q : Str} {C N : Addr} {bs bm : List Value} {hdct : Bool} {sn : List Str} {sub : List Value} {ab : Bool} {col : Option Bool} {dd : Option Addr} {k0 k1 k2 k3 k5 : Option Value} {B newId initId : String}
theorem ExcF.has (F : ExcF B newId initId bm) : (Value.ref C :: bm).contains (.type B) = true := by rw [List.contains_cons, F.hasB, Bool.or_true]
end
def excO (e C : Addr) (dx : Option Addr) : HO := .ext fun h => ∃ t sl, h.get? e = some { cls := .ref C, dict := dx, data := .fields #[.ref t, .none, .none, .none, .bool false, .none], slots := sl }
def dctO (dx : Addr) (fs : List (Str × V)) : HO := .ext fun h => ∃ mA, h.Ns1 dx mA ∧ (∀ f, RelO (fs.lookup f) (mA f)) ∧ PySem.Within mA (fs.map (·.1)) ∧ fs.length ≤ 100
section
variable {X : Cx} {CX : CXT} {k m : Nat} {f C : Addr} {fd : FuncData} {ps : List Str} {sp : Sp} {E : XK} {x : Str} {p pos : Pos} {e : Expr} {es : List Expr} {t : TA} {bm : List Value}
structure ExcG (K : PySem.W.Frag) (C : Addr) : Prop where
  ga : PySem.W.findIn K (.ref C) "__getattribute__" = some (some (.builtin "BaseException.__getattribute__"))
  gb : PySem.W.findIn K (.ref C) "__getattr__" = some none
  mb : PySem.W.mroIn K C (.type "BaseException") = some true
  hd : PySem.W.hasDictIn K C = true
end
mutual
def pyD : Dt → PyData
  | .non => .none
  | .bl b => .bool b
  | .int i => .int i
  | .str x => .str x
  | .lst xs => .list (pyDs xs)
  | .tup xs => .tuple (pyDs xs)
def pyDs : List Dt → List PyData
  | [] => []
  | x :: xs => pyD x :: pyDs xs
end
structure ExcI (K : PySem.W.Frag) (C R : Addr) : Prop where
  g : ExcG K C
  mro : (PySem.W.clsIn K C).map (·.mro) = some [.ref C, .ref R, .type "ValueError", .type "Exception", .type "BaseException", .type "object"]
  ty : PySem.W.typeIn K (.ref C) = some (.type "type")
  ha : PySem.W.findIn K (.ref C) "__class__" = some (some (.builtin "object.__class__"))
  hn : PySem.W.specialIn K (.builtin "object.__class__") "__get__" = some (some (.builtin "getset_descriptor.__get__"))
  tk : PySem.W.takesIn K (.builtin "object.__class__") = some true
section
variable {prog : Program} {w : World} {A : Around} {E : Value → Shared → Prop} {s : Shared} {K : PySem.W.Frag} {e C R D : Addr} {oe : Obj} {odo : Option Obj}
theorem ExcI.in (G : ExcI K C R) (b : Value) : PySem.W.mroIn K C b = some ([Value.ref C, .ref R, .type "ValueError", .type "Exception", .type "BaseException", .type "object"].contains b) := by
  obtain ⟨cd, hc, hm⟩ := Option.map_eq_some_iff.mp G.mro
  unfold PySem.W.mroIn
  rw [hc, Option.bind_some, hm]
  rfl
end
def ExcAt (H : Hp) (x C : Addr) (fs : List (Str × V)) : Prop := (fs = [] ∧ H x = some (excO x C none)) ∨ ∃ dx, H x = some (excO x C (some dx)) ∧ H dx = some (dctO dx fs) ∧ dx ≠ x
theorem ExcAt.same {H H' : Hp} {x C : Addr} {fs : List (Str × V)} (e : Same H H') (h : ExcAt H x C fs) : ExcAt H' x C fs := by
  rcases h with ⟨a, b⟩ | ⟨dx, a, b, c⟩
  · exact .inl ⟨a, e _ _ b⟩
  · exact .inr ⟨dx, e _ _ a, e _ _ b, c⟩
section
variable {X : Cx}
theorem op_mul_str : OpR X (binaryOp .Mult) (fun x y H Q => ∃ z n, x = .str z ∧ y = .int n ∧ MulOk z n ∧ Q (.str (Txt.mul z n)) H) := by
  intro pins s σ H x y v u Q I rx ry h
  obtain ⟨z, n, rfl, rfl, ok, q⟩ := h
  obtain ⟨t, rfl⟩ := rx
  obtain ⟨t', rfl⟩ := ry
  exact SB.mul ok fun t'' k => ⟨.str _, H, I.tok _, ⟨_, rfl⟩, q⟩
end
structure Shm (m d : Nat) (x : PyData) : Prop where
  sh : x.showable = true
  ln : x.shown.length ≤ m
  dp : x.depth ≤ d
structure New (H H' : Hp) (p : Addr) (o : HO) : Prop where
  s : Same H H'
  e : H' p = some o
  n : ∀ a u, H a = some u → a ≠ p
theorem New.mk' {H : Hp} {p : Addr} {o : HO} (h : H p = none) : New H (upd H p o) p o := ⟨Same.new h, upd_same, fun a u q => ne_of_none q h⟩
section
variable {X : Cx} {es : List Expr} {t : TA} {pos : Pos}
def tTupA (t : TA) : TE := fun σ H Q => t σ H fun xs H1 => xs.length ≤ sizeLine ∧ ∀ p H', New H1 H' p (.tup xs) → Q (.ref p) H'
def tLstA (t : TA) : TE := fun σ H Q => t σ H fun xs H1 => xs.length ≤ sizeLine ∧ ∀ p H', New H1 H' p (.lst xs) → Q (.ref p) H'
theorem pe_tupA {x1} (h : PA X es t) : PE X (.Tuple es x1 pos) (tTupA t) := by
  intro pins s σ H Q I hq
  refine wpAny_Tuple_spliced (thn (h pos pins s σ H _ I hq) fun us s1 ⟨xs, H1, I1, r, z, q⟩ => ⟨by rw [← r.length]; exact z, ?_⟩)
  have hf : H1 s1.heap.objs.size = none := I1.hok.fresh (Nat.le_refl _)
  refine ⟨.ref s1.heap.objs.size, upd H1 s1.heap.objs.size (.tup xs), I1.laid (t' := s1.toks) (fun b u e => Heap.get?_push_of_some _ e) (Nat.le_refl _) ?_, rfl, q _ _ (.mk' hf)⟩
  exact ⟨z, us, r, ⟨_, Heap.get?_push_size _ rfl, rfl, _, rfl⟩⟩
theorem pe_lstA (h : PA X es t) : PE X (.List es pos) (tLstA t) := by
  intro pins s σ H Q I hq
  refine wpAny_List_spliced (thn (h pos pins s σ H _ I hq) fun us s1 ⟨xs, H1, I1, r, z, q⟩ => ⟨by rw [← r.length]; exact z, ?_⟩)
  have hf : H1 s1.heap.objs.size = none := I1.hok.fresh (Nat.le_refl _)
  refine ⟨.ref s1.heap.objs.size, upd H1 s1.heap.objs.size (.lst xs), I1.laid (t' := s1.toks) (fun b u e => Heap.get?_push_of_some _ e) (Nat.le_refl _) ?_, rfl, q _ _ (.mk' hf)⟩
  exact ⟨z, us, 0, r, Heap.get?_push_size _ rfl⟩
def rCatA : R2 := fun x y H Q => ∃ l b xs zs, x = .ref l ∧ y = .ref b ∧ H l = some (.lst xs) ∧ H b = some (.lst zs) ∧ xs.length + zs.length ≤ sizeLine ∧ ∀ p H', New H H' p (.lst (xs ++ zs)) → Q (.ref p) H'
theorem op_catA : OpR X (binaryOp .Add) rCatA := by
  intro pins s σ H x y v u Q I rx ry h
  obtain ⟨l, b, xs, zs, e1, e2, hH, hB, hz, q⟩ := h
  exact op_cat pins s σ H x y v u Q I rx ry ⟨l, b, xs, zs, e1, e2, hH, hB, hz, fun p hp => q p _ (.mk' hp)⟩
def rAppA : V → List V → Hp → VK → Prop := fun x vs H Q => ∃ l xs y, x = .ref l ∧ vs = [y] ∧ H l = some (.lst xs) ∧ xs.length < sizeLine ∧ ∀ H', Off l H H' → H' l = some (.lst (xs ++ [y])) → Q .non H'
theorem mt_appendA : MtM X "list.append" rAppA := by
  intro pins s σ H x vs v us Q I rx rv h
  obtain ⟨l, xs, y, e1, e2, hH, hz, q⟩ := h
  exact mt_append pins s σ H x vs v us Q I rx rv ⟨l, xs, y, e1, e2, hH, hz, q _ Off.upd upd_same⟩
theorem pe_appendA {o e : Expr} {to te : TE} {apos cpos : Pos} (ho : PE X o to) (he : PE X e te) (hbase : attributeBase o "append" X.env (eval o X.env) = eval o X.env := by rfl)
    (hfew : ((backTo cpos (starEach [e] X.env)).all (fun x => !x.1) && (backToKw cpos (keywordEach [] X.env)).all (fun x => x.1.isSome)
      && decide (([e] : List Expr).length + ([] : List Keyword).length + (if ([] : List Keyword).isEmpty then 0 else 1) < 30)) = true := by rfl)
    (hline : (apos.endLine == cpos.line) = true := by rfl) (hs : starEach [e] X.env = (false, eval e X.env) :: starEach [] X.env := by rfl) :
    PE X (.Call (.Attribute o "append" apos) [e] [] cpos) (tBM X.K "list" rAppA to (tCons te tNil)) :=
  pe_bm PySem.F.plainAttrs_list PySem.F.slot_list_append PySem.F.type_list_append mt_appendA ho (pa_cons he pa_nil hs) hbase hfew hline hs (by rfl)
end
def Tel (t : TE) (σ : St) (H : Hp) (v : V) : Prop := ∀ Q : VK, Q v H → t σ H Q
def TelA (t : TA) (σ : St) (H : Hp) (vs : List V) : Prop := ∀ Q : List V → Hp → Prop, Q vs H → t σ H Q
section
variable {σ σ' : St} {H : Hp} {v x y : V} {vs : List V} {t ta tb : TE} {tr : TA} {i j : Nat} {a C : Addr} {f g : Str} {fs : List (Str × V)} {Q : VK} {D : Ends} {s u : TS} {K : PySem.W.Frag} {tg : TG} {c : TT}
theorem rd_var (h : σ[i]? = some (some v)) : Tel (tVar i) σ H v := fun Q q => ⟨v, h, q⟩
theorem rd_c : Tel (tC v) σ H v := fun Q q => q
theorem rda_nil : TelA tNil σ H [] := fun Q q => q
theorem rda_cons (h : Tel t σ H v) (k : TelA tr σ H vs) : TelA (tCons t tr) σ H (v :: vs) := fun Q q => h _ (k _ q)
theorem go_cons {Q : List V → Hp → Prop} (h : t σ H fun x H1 => tr σ H1 fun xs H2 => Q (x :: xs) H2) : tCons t tr σ H Q := h
theorem go_nil {Q : List V → Hp → Prop} (h : Q [] H) : tNil σ H Q := h
theorem go_seq (h : s { D with nx := u D } σ H) : tSeq s u D σ H := h
theorem go_nx {nx bk ct : St → Hp → Prop} {rt : VK} (h : nx σ H) : (Ends.mk nx rt bk ct).nx σ H := h
theorem go_next (h : D.nx σ H) : tNext D σ H := h
theorem go_asg (h : t σ H fun x H1 => tg x σ H1 D.nx) : tAsg t tg D σ H := h
theorem go_tupA (h : tr σ H fun xs H1 => xs.length ≤ sizeLine ∧ ∀ p H', New H1 H' p (.tup xs) → Q (.ref p) H') : tTupA tr σ H Q := h
theorem go_lstA (h : tr σ H fun xs H1 => xs.length ≤ sizeLine ∧ ∀ p H', New H1 H' p (.lst xs) → Q (.ref p) H') : tLstA tr σ H Q := h
theorem go_op {r : R2} (h : ta σ H fun x H1 => tb σ H1 fun y H2 => r x y H2 Q) : tOp r ta tb σ H Q := h
theorem go_ret (h : t σ H D.rt) : tRet t D σ H := h
theorem go_drop (h : t σ H fun _ H1 => D.nx σ H1) : tDrop t D σ H := h
theorem go_if (h : c σ H fun b H1 => if b = true then s D σ H1 else u D σ H1) : tIfS c s u D σ H := h
theorem go_test {Q : Bool → Hp → Prop} (h : t σ H fun x H' => ∃ k, x = .bl k ∧ Q k H') : tTest t σ H Q := h
theorem go_b {Q : Bool → Hp → Prop} (h : t σ H fun x H' => ∃ k, x = .bl k ∧ Q k H') : tB t σ H Q := h
theorem go_cb {r : List V → Hp → VK → Prop} (h : tr σ H fun vs H1 => r vs H1 Q) : tCB r tr σ H Q := h
end
section
variable {σ : St} {H : Hp} {te : TE} {tr : TA} {Q : VK} {c : TT} {fr : List Nat} {fvs : St} {n : Nat}
theorem rangeV_get {i : Nat} {x : V} (h : (rangeV 0 n)[i]? = some x) (hi : i < n) : x = .int i := by
  have : (rangeV 0 n)[i]? = some (V.int (0 + (i : Int))) := by simp [rangeV, hi]
  rw [this] at h
  have := Option.some.inj h
  rw [← this, Int.zero_add]
theorem go_map_range {F : Nat → V} (hr : TelA tr σ H [.int (n : Int)]) (hn : n < 2 ^ 62) (hz : n ≤ 1000000) (hf : (fr.map fun i => (σ[i]?).getD none) = fvs)
    (turn : ∀ i H', i < n → Same H H' → Tel te (some (.int i) :: fvs) H' (F i)) (k : ∀ p H', New H H' p (.lst ((List.range n).map F)) → Q (.ref p) H') : tComp (iRng1 tr) 1 fr (gName 0) tTrue te σ H Q := by
  refine hr _ ⟨n, rfl, by omega, by omega, fun acc hacc => ?_⟩
  subst hf
  rw [Int.toNat_natCast]
  refine comp_by items_range (fun i ys H' => H' = upd H acc (.lst ys) ∧ ys = (List.range i).map F) ⟨rfl, rfl⟩ (fun i ys H' _ h => ⟨trivial, by rw [h.1]; exact upd_same⟩) ?_ ?_
  · rintro i x tv ys H' hx hi ⟨rfl, rfl⟩ htv
    obtain ⟨tv0, rfl⟩ : ∃ a, tv = [a] := List.length_eq_one_iff.mp htv
    have hi' : i < n := by simpa [rangeV] using hi
    obtain rfl := rangeV_get hx hi'
    unfold gName tTrue
    dsimp only
    rw [if_pos rfl]
    refine turn i _ hi' (Same.new hacc) _ ⟨?_, upd_same, ?_⟩
    · rw [List.length_map, List.length_range]
      exact Nat.lt_of_lt_of_le hi' (small_line hz)
    · exact CompW.next (tv := [some (V.int i)]) hi ⟨upd_upd, by rw [List.range_succ, List.map_append]; rfl⟩ rfl
  · rintro ys H' ⟨rfl, rfl⟩
    rw [show (rangeV 0 n).length = n by simp [rangeV]]
    exact k acc _ (.mk' hacc)
end
def excT (a C : Addr) (dx : Option Addr) : HO := .ext fun h => ∃ oe vs, h.get? a = some oe ∧ oe.cls = .ref C ∧ oe.dict = dx ∧ oe.data = .fields vs
def ExcT (H : Hp) (x C : Addr) (fs : List (Str × V)) : Prop := (fs = [] ∧ H x = some (excT x C none)) ∨ ∃ dx, H x = some (excT x C (some dx)) ∧ H dx = some (dctO dx fs) ∧ dx ≠ x
theorem ExcT.same {H H' : Hp} {x C : Addr} {fs : List (Str × V)} (e : Same H H') (h : ExcT H x C fs) : ExcT H' x C fs := by
  rcases h with ⟨a, b⟩ | ⟨dx, a, b, c⟩
  · exact .inl ⟨a, e _ _ b⟩
  · exact .inr ⟨dx, e _ _ a, e _ _ b, c⟩
structure Caught (X : Cx) (pins : List (Addr × Obj)) (σ : St) (H : Hp) (s : Shared) (a C : Addr) (dx : Option Addr) : Prop where
  I : Inv X pins σ H s
  ha : H a = some (excT a C dx)
  tb : ∃ T oe vs oT ts, s.heap.get? a = some oe ∧ oe.data = .fields vs ∧ vs[1]? = some (.ref T) ∧ s.heap.get? T = some oT ∧ oT.data = .fields ts ∧ 3 < ts.size ∧ H T = none ∧ T ≠ X.env.locals ∧ (T ∈ X.ex ∨ X.s₀.heap.objs.size ≤ T) ∧ (∀ x c, X.env.cells.lookup x = some c → c ≠ T) ∧ ∀ p ∈ X.pn ++ pins, p.1 ≠ T
section
variable {X : Cx} {x n : Str} {d : Addr} {i : Nat} {b₀ : Stmt} {suite : List Stmt} {rest : List ExceptHandler} {th : Addr → TS} {tr : THd} {p pos : Pos}
theorem Caught.type {pins : List (Addr × Obj)} {σ : St} {H : Hp} {s : Shared} {a C : Addr} {dx : Option Addr} (c : Caught X pins σ H s a C dx) : PySem.W.Looks (model X.prog X.w) s.heap (typeOf (.ref a)) (.ref C) := by
  obtain ⟨⟨oe, vs, ge, gc, gd, gf⟩, _, _⟩ : ObjOk X.prog X.w H s.heap a (excT a C dx) := c.I.hok a _ c.ha
  exact gc ▸ (PySem.W.Looks.ld ge).andThen .now
end
def rIsT (K : PySem.W.Frag) : List V → Hp → VK → Prop := fun xs H Q => ∃ x d t b, xs = [x, d] ∧ TyOf K H x t ∧ clsIs K t d = some b ∧ Q (.bl b) H
theorem call_isT {X : Cx} : CallR X (.builtin "isinstance") (rIsT X.K) := call_isinstance
theorem vals_by : ∀ {xs : List V} {us : List Value}, xs.length = us.length → (∀ (j : Nat) (x : V) (u : Value), xs[j]? = some x → us[j]? = some u → RelV x u) → Vals xs us
  | [], [], _, _ => .nil
  | [], _ :: _, h, _ => nomatch h
  | _ :: _, [], h, _ => nomatch h
  | x :: xs, u :: us, h, f => .cons (f 0 x u rfl rfl) (vals_by (Nat.succ.inj h) fun j y z e1 e2 => f (j + 1) y z (by simpa using e1) (by simpa using e2))
section
variable {X : Cx} {pins : List (Addr × Obj)} {σ : St} {H : Hp} {s : Shared} {h' : Heap} {t' : Nat} {ch : List Addr}
theorem Inv.turnedN (I : Inv X pins σ H s) (hf : ∀ b ∈ ch, FpOk X pins H b) (k : ∀ b o, b ∉ ch → s.heap.get? b = some o → h'.get? b = some o) : Inv X pins σ H { s with heap := h', toks := t' } := by
  have off : ∀ b u, H b = some u → b ∉ ch := fun b u e z => by
    rw [(hf b z).1] at e
    cases e
  refine I.step (g' := s.gens) (d' := s.drawn) (ch := ch) (fun b hb => ?_) (fun b o _ _ hc e _ => k b o hc e) (fun b o _ _ hc e _ => ⟨o.slots, k b o hc e⟩) (fun _ _ _ _ n => n)
    (fun b o hc e => ⟨o, k b o hc e⟩) (fun _ _ e => e) (fun _ _ _ e => e) (fun b ps e => ⟨#[], by rw [e]; simp⟩) (fun m hm => ?_) (fun b u e => ?_) I.bare
  · obtain ⟨_, f1, _, f3, f4, f5⟩ := hf b hb
    exact ⟨f3, f1, f4, f5⟩
  · obtain ⟨o, es, ep, ho, r⟩ := hm
    exact ⟨o, es, ep, k _ o (fun z => (hf _ z).2.1 rfl) ho, r⟩
  · refine (I.hok b u e).stay (fun c v hc q => k c v ?_ q) (fun _ q => q) fun _ _ q => q
    rcases hc with z | z
    · rw [z]; exact off b u e
    · exact off c _ z
theorem Inv.turnedLaid {a : Addr} {o : HO} (I : Inv X pins σ H s) (hf : ∀ b ∈ ch, FpOk X pins H b) (k : ∀ b o, b ∉ ch → s.heap.get? b = some o → h'.get? b = some o) (ha : s.heap.objs.size ≤ a)
    (new : ObjOk X.prog X.w (upd H a o) h' a o) : Inv X pins σ (upd H a o) { s with heap := h', toks := t' } := by
  have I1 : Inv X pins σ H { s with heap := h', toks := t' } := I.turnedN hf k
  have hn : H a = none := I.hok.fresh ha
  refine I.step (g' := s.gens) (d' := s.drawn) (ch := ch) (fun b hb => ?_) (fun b u _ _ hc e _ => k b u hc e) (fun b u _ _ hc e _ => ⟨u.slots, k b u hc e⟩)
    (fun b u _ e n => by rw [upd_ne (Nat.ne_of_lt (Nat.lt_of_lt_of_le (Heap.lt_size e) ha))]; exact n)
    (fun b u hc e => ⟨u, k b u hc e⟩) (fun b xs e => by rw [upd_ne (ne_of_none e hn)]; exact e) (fun b u x e => by rw [upd_ne (ne_of_none e hn)]; exact e)
    (fun b ps e => ⟨#[], by rw [upd_ne (ne_of_none e hn), e]; simp⟩) (fun m hm => ?_) (fun b u e => ?_) I.bare
  · obtain ⟨_, f1, _, f3, f4, f5⟩ := hf b hb
    exact ⟨f3, f1, f4, f5⟩
  · obtain ⟨u, es, ep, ho, r⟩ := hm
    exact ⟨u, es, ep, k _ u (fun z => (hf _ z).2.1 rfl) ho, r⟩
  · by_cases hb : b = a
    · subst hb
      rw [upd_same] at e
      cases e
      exact new
    · rw [upd_ne hb] at e
      exact (I1.hok b u e).stay (fun _ _ _ q => q) (fun c q => by rw [upd_ne (ne_of_none q hn)]; exact q) fun c xs q => by rw [upd_ne (ne_of_none q hn)]; exact q
end
def Ite (K : PySem.W.Frag) (a : Addr) (xs : List V) : It :=
  ⟨fun i H => SqL K H a xs ∧ i < xs.length, fun i H x H' => ∃ T v, x = .ref T ∧ xs[i]? = some v ∧ New H H' T (.tup [.int i, v]), fun i H => SqL K H a xs ∧ xs.length ≤ i⟩
theorem turn_enum {P : Program} {w : World} {K : PySem.W.Frag} {elts : List Expr} {x1} {pos : Pos} (a e it : Addr) (xs : List V) (hei : e ≠ it) :
    Turn P w K (.Tuple elts x1 pos) (Ite K a xs) [e, it] e (fun i h => (∃ old, IsEnum h e it i old) ∧ h.IsListIter it a i) where
  mem := by simp
  obj := fun i h st b hb => by
    obtain ⟨⟨old, he⟩, o, hi, hc, hd⟩ := st
    rcases List.mem_cons.mp hb with rfl | hb
    · exact ⟨_, he, fun v z => by
        have z' : Data.fields _ = Data.cell v := z
        cases z'⟩
    · rw [List.mem_singleton.mp hb]
      exact ⟨o, hi, fun v z => by rw [hd] at z; cases z⟩
  keep := fun i h h' st k => by
    obtain ⟨⟨old, he⟩, hi⟩ := st
    exact ⟨⟨old, k e (by simp) _ he⟩, hi.at fun o q => k it (by simp) o q⟩
  item := by
    intro X hP hw hK hc i pins s σ H E I hf st hg
    subst hP hw hK
    obtain ⟨⟨old, he⟩, hi⟩ := st
    obtain ⟨hq, hlt⟩ := hg
    obtain ⟨its, rv, p, hz⟩ := I.list hq
    have hx : xs[i]? = some xs[i] := by simp [hlt]
    generalize xs[i] = x at hx
    obtain ⟨u, hu, ru⟩ := rv.get hx
    refine wpAny_pyNext_enum_item he hi p.isList (x := u) (by simpa using hu) hei fun h1 ho hi1 hT hsz hk => ?_
    refine ⟨_, rfl, wpAny_letOwnedTupleGo_enum ho fun h2 he2 hs2 => ?_⟩
    have neT : s.heap.objs.size ≠ e := Nat.ne_of_gt (Heap.lt_size he)
    have hT2 := (hs2.2 _ neT).trans hT
    have k2 : ∀ b o, b ∉ [e, it] → s.heap.get? b = some o → h2.get? b = some o := fun b o hb q => by
      simp only [List.mem_cons, List.not_mem_nil, or_false, not_or] at hb
      exact (hs2.2 b hb.1).trans (hk b o hb.1 hb.2 q)
    have new : ObjOk X.prog X.w (upd H s.heap.objs.size (.tup [.int i, x])) h2 s.heap.objs.size (.tup [.int i, x]) :=
      ⟨by show 2 ≤ sizeLine; decide, [.int i s.toks, u], .cons ⟨_, rfl⟩ (.cons ru .nil), ⟨_, hT2, rfl, _, rfl⟩⟩
    refine ⟨.ref s.heap.objs.size, _, I.turnedLaid (t' := s.toks + 1) hf k2 (Nat.le_refl _) new, rfl, ⟨_, x, rfl, hx, .mk' (I.hok.fresh (Nat.le_refl _))⟩, ⟨⟨u, by simpa using he2⟩, hi1.at fun o q => (hs2.2 it hei.symm).trans q⟩, fun b hb => ?_⟩
    have hbn := (hf b hb).1
    have hb' : b < s.heap.objs.size := by
      rcases List.mem_cons.mp hb with rfl | hb
      · exact Heap.lt_size he
      · rw [List.mem_singleton.mp hb]
        obtain ⟨o, q, _⟩ := hi
        exact Heap.lt_size q
    rw [upd_ne (Nat.ne_of_lt hb')]
    exact hbn
  done := by
    intro X hP hw hK hc i pins s σ H E I hf st hg
    subst hP hw hK
    obtain ⟨⟨old, he⟩, hi⟩ := st
    obtain ⟨hq, hle⟩ := hg
    obtain ⟨its, rv, p, hz⟩ := I.list hq
    have hl := rv.length
    refine wpAny_pyNext_enum_end (I.ok.hd hc) he hi p.isList (by simp; omega) fun h' eb => ⟨rfl, I.turnedN (t' := s.toks) (ch := [e, it]) hf fun b o hb q => eb b o (fun z => hb (by simp [z])) q⟩
  self := fun _ _ _ _ _ st h => by
    obtain ⟨⟨old, he⟩, _⟩ := st
    exact wpAny_pyIter_enum he h
theorem boot_enum : bootBuiltins "enumerate" = some (.type "enumerate") := by decide +kernel
def iEnum (K : PySem.W.Frag) (ta : TA) : TI := fun σ H R => ta σ H fun vs H1 => ∃ a xs, vs = [.ref a] ∧ SqL K H1 a xs ∧ R (Ite K a xs) H1
theorem pi_enum {X : Cx} {elts : List Expr} {x1} {tpos : Pos} {a : Expr} {ta : TA} {p pos : Pos} (hg : Gl X "enumerate") (hm : X.mg "enumerate" = none) (ha : PA X [a] ta) (hs : starEach [a] X.env = [(false, eval a X.env)] := by rfl) :
    PI X (.Tuple elts x1 tpos) (.Call (.Name "enumerate" p) [a] [] pos) (iEnum X.K ta) := by
  intro pins s σ H R I h
  refine Call_ (ld_blt I hg hm boot_enum (PyProof.Rows.callWith_type1 (thn (ha pos pins s σ H _ I h) fun us s1 ⟨vs, H1, I1, r1, q1⟩ => ?_) hs rfl))
  obtain ⟨l, xs, e, hq, q⟩ := q1
  subst e
  obtain ⟨u, rfl, r⟩ := vals1 r1
  cases r
  obtain ⟨its, rv, pl, hz⟩ := I1.list hq
  refine call_enumerate_list pl.isList fun h' he hi hsz hk => ?_
  have I2 : Inv X pins σ H1 { s1 with heap := h' } := I1.kept (t' := s1.toks) hk
  refine wpAny_pyIter_enum he ?_
  refine ⟨s1.heap.objs.size + 1, [s1.heap.objs.size + 1, s1.heap.objs.size], _, Ite X.K l xs, H1, rfl, I2, turn_enum l _ _ xs (Nat.succ_ne_self _), ⟨⟨.none, he⟩, hi⟩, fun b hb => ?_, q⟩
  have hb' : s1.heap.objs.size ≤ b := by
    rcases List.mem_cons.mp hb with rfl | hb
    · exact Nat.le_succ _
    · rw [List.mem_singleton.mp hb]
      exact Nat.le_refl _
  exact I1.fpOk hb' (I1.hok.fresh hb')
theorem for_enum {K : PySem.W.Frag} {a : Addr} {xs : List V} {g : TG} {tb : TS} {D : Ends} {σ : St} {H : Hp} (Pv : Nat → St → Hp → Prop) (h0 : Pv 0 σ H) (hl : ∀ i σ H, i ≤ xs.length → Pv i σ H → SqL K H a xs)
    (hs : ∀ i x T σ H H', xs[i]? = some x → Pv i σ H → New H H' T (.tup [.int i, x]) → g (.ref T) σ H' fun σ2 H2 => tb { D with nx := Pv (i + 1), ct := Pv (i + 1), bk := D.nx } σ2 H2) (hd : ∀ σ H, Pv xs.length σ H → D.nx σ H) :
    ∃ W : Nat → Nat → St → Hp → Prop, (∃ m, W 0 m σ H) ∧ ∀ i m σ H, W i m σ H →
      ((Ite K a xs).stop i H ∧ D.nx σ H) ∨ ((Ite K a xs).go i H ∧ ∃ N : St → Hp → Prop, (∀ σ' H', N σ' H' → ∃ m', m' < m ∧ W (i + 1) m' σ' H') ∧ ∀ x H', (Ite K a xs).yld i H x H' → g x σ H' fun σ2 H2 => tb { D with nx := N, ct := N, bk := D.nx } σ2 H2) := by
  refine ⟨fun i m σ H => m = xs.length - i ∧ i ≤ xs.length ∧ Pv i σ H, ⟨xs.length, by simp, Nat.zero_le _, h0⟩, ?_⟩
  rintro i m σ H ⟨rfl, hi, p⟩
  have q := hl i σ H hi p
  by_cases hlt : i < xs.length
  · refine .inr ⟨⟨q, hlt⟩, Pv (i + 1), fun σ' H' p' => ⟨xs.length - (i + 1), by omega, rfl, hlt, p'⟩, fun x H' y => ?_⟩
    obtain ⟨T, v, rfl, hv, n⟩ := y
    exact hs i v T σ H H' hv p n
  · have e : i = xs.length := by omega
    subst e
    exact .inl ⟨⟨q, Nat.le_refl _⟩, hd σ H p⟩
theorem boot_reversed : bootBuiltins "reversed" = some (.type "reversed") := by decide +kernel
theorem lri_no_len : typeLookup (.type "list_reverseiterator") (Str.ofString "__len__") = pure none := by rw [typeLookup_type, builtinLookup_eq_fast]; kernel_rfl
theorem lri_hint : typeLookup (.type "list_reverseiterator") (Str.ofString "__length_hint__") = pure (some (.builtin "list_reverseiterator.__length_hint__")) := by rw [typeLookup_type, builtinLookup_eq_fast]; kernel_rfl
theorem hint_rev {prog : Program} {w : World} {A : Around} {E : Value → Shared → Prop} {s : Shared} {r : Addr} {Q : Bool → Shared → Prop} (hT : s.TypeIs (.ref r) "list_reverseiterator") (h : Q false s) :
    wpAny (model prog w) A (Builtin.List.listLengthHint (.ref r)) Q E s := by
  unfold Builtin.List.listLengthHint
  refine wpAny_bind (wpAny_specialOf hT lri_no_len ?_)
  show wpAny _ _ (specialOf (Value.ref r) (Str.ofString "__length_hint__") >>= _) _ _ _
  refine wpAny_bind (wpAny_specialOf hT lri_hint ?_)
  generalize hid : ("list_reverseiterator.__length_hint__" : String) = id0
  wp_delta
  rw [show splitId id0 = some ("list_reverseiterator", "__length_hint__") from by subst hid; decide +kernel]
  subst hid
  refine wpAny_bind (wpAny_isInstance (T := "list_reverseiterator") (b := true) hT (by rw [isSubtype_type]; kernel_rfl) ?_)
  refine wpAny_ite_split (fun hab => absurd hab (by decide)) (fun _ => ?_)
  refine wpAny_ite_split (fun _ => ?_) (fun hab => absurd (by decide +kernel) hab)
  refine wpAny_ite_split (fun hab => absurd hab (by decide +kernel)) (fun _ => ?_)
  exact wpAny_pure h
section
variable {prog : Program} {w : World} {A : Around} {E : Value → Shared → Prop} {s : Shared} {I l S : Addr} {items : Array Value}
theorem extend_rev {R : Result → Shared → Prop} {c₀ : Nat} {res : Value} (hh : A.handled = none) (hI : s.heap.IsRevIter I l ((items.size : Int) - 1)) (hl : s.heap.IsList l items) (hne : l ≠ I) (hSI : S ≠ I) (hSl : S ≠ l)
    (hS : s.heap.get? S = some { cls := .type "list", data := .seq #[] c₀ }) (hn : items.size ≤ sizeLine)
    (hR : ∀ h' tk acc' c', (∀ b o, b ≠ S → b ≠ I → s.heap.get? b = some o → h'.get? b = some o) → h'.get? S = some { cls := .type "list", dict := none, data := .seq acc' c', slots := #[] } → PySem.ItemsOf (fun i v => items[items.size - 1 - i]? = some v) acc' items.size →
      R (.ok (.ret res)) { s with heap := h', toks := tk }) :
    wpAny (model prog w) A.in1 (Builtin.List.listExtendWith (.ref S) (.ref I) res)
      (fun fin s' => match fin with | .done f => R (.ok f) s' | .again c' => c'.quiet = true ∧ codeAny (model prog w) A c' R s') (fun e s' => R (.error e) s') s := by
  have W := Walks.listRev (prog := prog) (w := w) (A := A.in1) hh I l hne items
  have hSf : S ∉ [I, l] := by simp [hSI, hSl]
  have st : (0 : Nat) ≤ items.size ∧ s.heap.IsRevIter I l ((items.size : Int) - 1 - ((0 : Nat) : Int)) ∧ s.heap.IsList l items := ⟨Nat.zero_le _, by simpa using hI, hl⟩
  have fin : codeAny (model prog w) A (.builtin "list.extend.loop" ⟨[.ref S, .ref I, res], []⟩) R s := by
    refine codeAny_extend_loopS W.toS hn S hSf res items.size 0 _ #[] c₀ rfl (Nat.zero_le _) st hS (PySem.ItemsOf.nil _) fun s' acc' c' hm hS' hacc => ?_
    rw [Moved.eq_with hm]
    exact hR s'.heap s'.toks acc' c' (fun b o h1 h2 q => hm.heap b o (by simp [h1, h2]) q) hS' hacc
  unfold Builtin.List.listExtendWith
  refine wpAny_bind (wpAny_typeOf (T := "list_reverseiterator") hI.typeIs ?_)
  have h1 : Builtin.List.listSameRef (.ref S) (.ref I) = false := by simp [Builtin.List.listSameRef, hSI]
  have h2 : (Value.type "list_reverseiterator" == Value.type "list") = false := by decide
  have h3 : (Value.type "list_reverseiterator" == Value.type "tuple") = false := by decide
  simp only [h1, h2, h3, Bool.or_false, Bool.false_eq_true, if_false]
  refine wpAny_bind (wpAny_pyIter_revIter hI ?_)
  refine wpAny_bind (wpAny_holding (hint_rev hI.typeIs ?_))
  refine wpAny_ite_split (fun hab => absurd hab (by first | decide | decide +kernel)) (fun _ => ?_)
  exact wpAny_pure ⟨plainId_quiet PySem.F.plain_extend_loop _, fin⟩
theorem init_rev {R : Result → Shared → Prop} (hh : A.handled = none) (hI : s.heap.IsRevIter I l ((items.size : Int) - 1)) (hl : s.heap.IsList l items) (hne : l ≠ I) (hSI : S ≠ I) (hSl : S ≠ l)
    (hS : s.heap.get? S = some { cls := .type "list", data := .seq #[] }) (hn : items.size ≤ sizeLine)
    (hR : ∀ h' tk acc' c', (∀ b o, b ≠ S → b ≠ I → s.heap.get? b = some o → h'.get? b = some o) → h'.get? S = some { cls := .type "list", dict := none, data := .seq acc' c', slots := #[] } → PySem.ItemsOf (fun i v => items[items.size - 1 - i]? = some v) acc' items.size →
      R (.ok (.ret .none)) { s with heap := h', toks := tk }) :
    wpAny (model prog w) A.in1 (Builtin.«list.__init__» ⟨[.ref S, .ref I], []⟩)
      (fun fin s' => match fin with | .done f => R (.ok f) s' | .again c' => c'.quiet = true ∧ codeAny (model prog w) A c' R s') (fun e s' => R (.error e) s') s := by
  show wpAny _ _ (Builtin.List.listItems (.ref S) >>= fun old => Builtin.List.listUpdate (.ref S) (fun _ => #[]) >>= fun _ => letGo old.toList.reverse >>= fun _ => Builtin.List.listExtendWith (.ref S) (.ref I) .none) _ _ s
  refine wpAny_bind ?_
  unfold Builtin.List.listItems
  refine wpAny_bind (wpAny_seqItems hS rfl (wpAny_pure (wpAny_bind ?_)))
  show wpAny _ _ (updateSeq S (fun _ => #[])) _ _ _
  refine wpAny_updateSeq hS rfl (wpAny_bind (wpAny_letGo ?_))
  have hS2 := Heap.get?_update_self (Obj.mapSeq (fun _ => (#[] : Array Value))) hS rfl
  have oth : ∀ b o, b ≠ S → s.heap.get? b = some o → (s.heap.update S (Obj.mapSeq (fun _ => (#[] : Array Value)))).get? b = some o := fun b o hb q => by
    rw [Heap.get?_update_other _ _ (Ne.symm hb)]
    exact q
  exact extend_rev (c₀ := _) hh (hI.at fun o q => oth I o (Ne.symm hSI) q) (hl.at fun o q => oth l o (Ne.symm hSl) q) hne hSI hSl hS2 hn fun h' tk acc' c' hk hS' hacc => hR h' tk acc' c' (fun b o h1 h2 q => hk b o h1 h2 (oth b o h1 q)) hS' hacc
theorem list_rev {Q : Value → Shared → Prop} (hh : A.handled = none) (hI : s.heap.IsRevIter I l ((items.size : Int) - 1)) (hl : s.heap.IsList l items) (hne : l ≠ I) (hn : items.size ≤ sizeLine)
    (hQ : ∀ h' tk acc' c', (∀ b o, b ≠ I → s.heap.get? b = some o → h'.get? b = some o) → h'.get? s.heap.objs.size = some { cls := .type "list", dict := none, data := .seq acc' c', slots := #[] } →
      PySem.ItemsOf (fun i v => items[items.size - 1 - i]? = some v) acc' items.size → Q (.ref s.heap.objs.size) { s with heap := h', toks := tk }) :
    wpAny (model prog w) A (call (.type "list") [.ref I]) Q E s := by
  have hS : (s.heap.push { cls := .type "list", data := .seq #[] }).get? s.heap.objs.size = some { cls := .type "list", data := .seq #[] } := Heap.get?_push_size _ rfl
  have up : ∀ b o, s.heap.get? b = some o → (s.heap.push { cls := .type "list", data := .seq #[] }).get? b = some o := fun b o q => Heap.get?_push_of_some _ q
  have hIlt : I < s.heap.objs.size := by
    obtain ⟨o, q, _⟩ := hI
    exact Heap.lt_size q
  have hllt : l < s.heap.objs.size := by
    obtain ⟨o, q, _⟩ := hl
    exact Heap.lt_size q
  refine callType_codes PySem.F.called_list (PySem.F.typeCall_list_1 _) PySem.F.entry_list_init
    (Q₁ := fun v z => v = .ref s.heap.objs.size ∧ z = { s with heap := s.heap.push { cls := .type "list", data := .seq #[] } }) (code_list_new _ ⟨rfl, rfl⟩) ?_
  rintro _ _ ⟨rfl, rfl⟩
  refine ⟨⟨_, hS, rfl⟩, PySem.F.args_list_init_2 _ _, ?_⟩
  refine init_rev (A := A.in1) (s := { s with heap := s.heap.push { cls := .type "list", data := .seq #[] } }) hh (hI.at fun o q => up I o q) (hl.at fun o q => up l o q) hne (Nat.ne_of_gt hIlt) (Nat.ne_of_gt hllt) hS hn fun h' tk acc' c' hk hS' hacc => ?_
  exact ⟨rfl, hQ h' tk acc' c' (fun b o hb q => hk b o (Nat.ne_of_lt (Heap.lt_size q)) hb (up b o q)) hS' hacc⟩
end
def tLRev (K : PySem.W.Frag) (ta : TA) : TE := fun σ H Q => ta σ H fun vs H1 => ∃ a xs, vs = [.ref a] ∧ SqL K H1 a xs ∧ ∀ l H', New H1 H' l (.lst xs.reverse) → Q (.ref l) H'
theorem pe_listRev {X : Cx} {e : Expr} {ta : TA} {p1 p2 pos1 pos2 : Pos} (hc : X.calm = true) (gl : Gl X "list") (ml : X.mg "list" = none) (gr : Gl X "reversed") (mr : X.mg "reversed" = none) (ha : PA X [e] ta)
    (h1 : starEach [.Call (.Name "reversed" p2) [e] [] pos2] X.env = [(false, eval (.Call (.Name "reversed" p2) [e] [] pos2) X.env)] := by rfl) (h2 : starEach [e] X.env = [(false, eval e X.env)] := by rfl) :
    PE X (.Call (.Name "list" p1) [.Call (.Name "reversed" p2) [e] [] pos2] [] pos1) (tLRev X.K ta) := by
  intro pins s σ H Q I h
  refine wpAny_Call_Name_kw (ld_blt I gl ml boot_list (PyProof.Rows.callWith_type1 ?_ h1 rfl))
  rw [h1]
  refine Calls.spliced_cons ?_
  refine Call_ (ld_blt I gr mr boot_reversed (PyProof.Rows.callWith_type1 (thn (ha pos2 pins s σ H _ I h) fun us s1 ⟨vs, H1, I1, r1, q1⟩ => ?_) h2 rfl))
  obtain ⟨a, xs, rfl, hq, q⟩ := q1
  obtain ⟨u, rfl, rx⟩ := vals1 r1
  cases rx
  obtain ⟨its, rv, pl, hz⟩ := I1.list hq
  have hlen := rv.length
  refine call_reversed_list pl.isList (Calls.spliced_nil ?_)
  have hlt : a < s1.heap.objs.size := by
    obtain ⟨o, q, _⟩ := pl.isList
    exact Heap.lt_size q
  have hrev : (s1.heap.push (revObj a ((its.toArray.size : Int) - 1))).IsRevIter s1.heap.objs.size a ((its.toArray.size : Int) - 1) := ⟨_, Heap.get?_push_size _ rfl, rfl, rfl⟩
  refine list_rev (s := { s1 with heap := s1.heap.push (revObj a ((its.toArray.size : Int) - 1)) }) (I1.ok.hd hc) hrev (pl.isList.at fun o z => Heap.get?_push_of_some _ z) (Nat.ne_of_lt hlt) (by rw [List.size_toArray, ← hlen]; exact hz) fun h' tk acc c hk hD hI => ?_
  have hk' : ∀ b o, s1.heap.get? b = some o → h'.get? b = some o := fun b o z => hk b o (Nat.ne_of_lt (Heap.lt_size z)) (Heap.get?_push_of_some _ z)
  have hsz : (s1.heap.push (revObj a ((its.toArray.size : Int) - 1))).objs.size = s1.heap.objs.size + 1 := Heap.size_push ..
  have hge : s1.heap.objs.size ≤ (s1.heap.push (revObj a ((its.toArray.size : Int) - 1))).objs.size := by rw [hsz]; exact Nat.le_succ _
  refine ⟨.ref (s1.heap.push (revObj a ((its.toArray.size : Int) - 1))).objs.size, _, I1.laid (t' := tk) (o := .lst xs.reverse) hk' hge ?_, rfl, q _ _ (.mk' (I1.hok.fresh hge))⟩
  refine ⟨by rw [List.length_reverse]; exact hz, acc.toList, c, vals_by (by
    have e := hI.1
    have e2 : acc.toList.length = acc.size := Array.length_toList
    have e3 : its.toArray.size = its.length := List.size_toArray ..
    have e4 : xs.reverse.length = xs.length := List.length_reverse
    omega) fun j x u e1 e2 => ?_, by simpa using hD⟩
  have e3 := hI.2 j u (by rw [← Array.getElem?_toList]; exact e2)
  have hj : j < xs.length := by
    have := (List.getElem?_eq_some_iff.mp e1).1
    rwa [List.length_reverse] at this
  rw [List.getElem?_reverse hj] at e1
  obtain ⟨u', e4, r4⟩ := rv.get e1
  have e5 : its[xs.length - 1 - j]? = some u := by
    rw [List.size_toArray, ← hlen] at e3
    simpa using e3
  rw [e5] at e4
  cases e4
  exact r4
section
variable {X : Cx}
def rSetA : V → V → V → Hp → (Hp → Prop) → Prop := fun o i v H Q => ∃ p xs k j, o = .ref p ∧ i = .int k ∧ H p = some (.lst xs) ∧ ixN xs.length k = some j ∧ ∀ H', Off p H H' → H' p = some (.lst (xs.set j v)) → Q H'
theorem set_listA : PSet X rSetA := by
  intro pins s σ H o i v ov iv u Q I ro ri rv h
  obtain ⟨p, xs, k, j, e1, e2, hp, hj, q⟩ := h
  exact set_list pins s σ H o i v ov iv u Q I ro ri rv ⟨p, xs, k, j, e1, e2, hp, hj, q _ Off.upd upd_same⟩
def rSlA (K : PySem.W.Frag) : V → Option Int → Option Int → Hp → VK → Prop := fun x lo hi H Q => ∃ a xs, x = .ref a ∧ SqL K H a xs ∧ ∀ p H', New H H' p (.lst (cutV xs lo hi)) → Q (.ref p) H'
theorem sl_listA : SlR X (rSlA X.K) := by
  intro pins s σ H x v vl vu lo hi sl Q I rx hs pl pu h
  obtain ⟨a, xs, e, hx, q⟩ := h
  exact sl_list pins s σ H x v vl vu lo hi sl Q I rx hs pl pu ⟨a, xs, e, hx, fun p hp => q p _ (.mk' hp)⟩
def rLOfA (K : PySem.W.Frag) : List V → Hp → VK → Prop := fun xs H Q => ∃ p ys, xs = [.ref p] ∧ (SqL K H p ys ∨ SqT K H p ys) ∧ ∀ l H', New H H' l (.lst ys) → Q (.ref l) H'
theorem call_list_ofA : CallR X (.type "list") (rLOfA X.K) := by
  intro pins s σ H xs us Q I r h
  obtain ⟨p, ys, e, hq, q⟩ := h
  exact call_list_of pins s σ H xs us Q I r ⟨p, ys, e, hq, fun l hl => q l _ (.mk' hl)⟩
end
section
variable {σ : St} {H : Hp} {Q : VK} {v x y : V} {i j : Int} {K : PySem.W.Frag} {t ta tb tc : TE} {tr : TA} {s u : TS} {D : Ends} {c d : TT}
theorem wv0 {r : St} (h : Q v H) : tVar 0 (some v :: r) H Q := ⟨v, rfl, h⟩
theorem wn0 {o : Option V} {r : St} {R : St → Hp → Prop} (h : R (some v :: r) H) : gName 0 v (o :: r) H R := h
theorem wv1 {o0 : Option V} {r : St} (h : Q v H) : tVar 1 (o0 :: some v :: r) H Q := ⟨v, rfl, h⟩
theorem wn1 {o0 : Option V} {o : Option V} {r : St} {R : St → Hp → Prop} (h : R (o0 :: some v :: r) H) : gName 1 v (o0 :: o :: r) H R := h
theorem wv2 {o0 o1 : Option V} {r : St} (h : Q v H) : tVar 2 (o0 :: o1 :: some v :: r) H Q := ⟨v, rfl, h⟩
theorem wn2 {o0 o1 : Option V} {o : Option V} {r : St} {R : St → Hp → Prop} (h : R (o0 :: o1 :: some v :: r) H) : gName 2 v (o0 :: o1 :: o :: r) H R := h
theorem wv3 {o0 o1 o2 : Option V} {r : St} (h : Q v H) : tVar 3 (o0 :: o1 :: o2 :: some v :: r) H Q := ⟨v, rfl, h⟩
theorem wn3 {o0 o1 o2 : Option V} {o : Option V} {r : St} {R : St → Hp → Prop} (h : R (o0 :: o1 :: o2 :: some v :: r) H) : gName 3 v (o0 :: o1 :: o2 :: o :: r) H R := h
theorem wv4 {o0 o1 o2 o3 : Option V} {r : St} (h : Q v H) : tVar 4 (o0 :: o1 :: o2 :: o3 :: some v :: r) H Q := ⟨v, rfl, h⟩
theorem wn4 {o0 o1 o2 o3 : Option V} {o : Option V} {r : St} {R : St → Hp → Prop} (h : R (o0 :: o1 :: o2 :: o3 :: some v :: r) H) : gName 4 v (o0 :: o1 :: o2 :: o3 :: o :: r) H R := h
theorem wv5 {o0 o1 o2 o3 o4 : Option V} {r : St} (h : Q v H) : tVar 5 (o0 :: o1 :: o2 :: o3 :: o4 :: some v :: r) H Q := ⟨v, rfl, h⟩
theorem wn5 {o0 o1 o2 o3 o4 : Option V} {o : Option V} {r : St} {R : St → Hp → Prop} (h : R (o0 :: o1 :: o2 :: o3 :: o4 :: some v :: r) H) : gName 5 v (o0 :: o1 :: o2 :: o3 :: o4 :: o :: r) H R := h
theorem wv6 {o0 o1 o2 o3 o4 o5 : Option V} {r : St} (h : Q v H) : tVar 6 (o0 :: o1 :: o2 :: o3 :: o4 :: o5 :: some v :: r) H Q := ⟨v, rfl, h⟩
theorem wn6 {o0 o1 o2 o3 o4 o5 : Option V} {o : Option V} {r : St} {R : St → Hp → Prop} (h : R (o0 :: o1 :: o2 :: o3 :: o4 :: o5 :: some v :: r) H) : gName 6 v (o0 :: o1 :: o2 :: o3 :: o4 :: o5 :: o :: r) H R := h
theorem wv7 {o0 o1 o2 o3 o4 o5 o6 : Option V} {r : St} (h : Q v H) : tVar 7 (o0 :: o1 :: o2 :: o3 :: o4 :: o5 :: o6 :: some v :: r) H Q := ⟨v, rfl, h⟩
theorem wn7 {o0 o1 o2 o3 o4 o5 o6 : Option V} {o : Option V} {r : St} {R : St → Hp → Prop} (h : R (o0 :: o1 :: o2 :: o3 :: o4 :: o5 :: o6 :: some v :: r) H) : gName 7 v (o0 :: o1 :: o2 :: o3 :: o4 :: o5 :: o6 :: o :: r) H R := h
theorem wv8 {o0 o1 o2 o3 o4 o5 o6 o7 : Option V} {r : St} (h : Q v H) : tVar 8 (o0 :: o1 :: o2 :: o3 :: o4 :: o5 :: o6 :: o7 :: some v :: r) H Q := ⟨v, rfl, h⟩
theorem wn8 {o0 o1 o2 o3 o4 o5 o6 o7 : Option V} {o : Option V} {r : St} {R : St → Hp → Prop} (h : R (o0 :: o1 :: o2 :: o3 :: o4 :: o5 :: o6 :: o7 :: some v :: r) H) : gName 8 v (o0 :: o1 :: o2 :: o3 :: o4 :: o5 :: o6 :: o7 :: o :: r) H R := h
theorem wv9 {o0 o1 o2 o3 o4 o5 o6 o7 o8 : Option V} {r : St} (h : Q v H) : tVar 9 (o0 :: o1 :: o2 :: o3 :: o4 :: o5 :: o6 :: o7 :: o8 :: some v :: r) H Q := ⟨v, rfl, h⟩
theorem wn9 {o0 o1 o2 o3 o4 o5 o6 o7 o8 : Option V} {o : Option V} {r : St} {R : St → Hp → Prop} (h : R (o0 :: o1 :: o2 :: o3 :: o4 :: o5 :: o6 :: o7 :: o8 :: some v :: r) H) : gName 9 v (o0 :: o1 :: o2 :: o3 :: o4 :: o5 :: o6 :: o7 :: o8 :: o :: r) H R := h
theorem wv10 {o0 o1 o2 o3 o4 o5 o6 o7 o8 o9 : Option V} {r : St} (h : Q v H) : tVar 10 (o0 :: o1 :: o2 :: o3 :: o4 :: o5 :: o6 :: o7 :: o8 :: o9 :: some v :: r) H Q := ⟨v, rfl, h⟩
theorem wn10 {o0 o1 o2 o3 o4 o5 o6 o7 o8 o9 : Option V} {o : Option V} {r : St} {R : St → Hp → Prop} (h : R (o0 :: o1 :: o2 :: o3 :: o4 :: o5 :: o6 :: o7 :: o8 :: o9 :: some v :: r) H) : gName 10 v (o0 :: o1 :: o2 :: o3 :: o4 :: o5 :: o6 :: o7 :: o8 :: o9 :: o :: r) H R := h
theorem wv11 {o0 o1 o2 o3 o4 o5 o6 o7 o8 o9 o10 : Option V} {r : St} (h : Q v H) : tVar 11 (o0 :: o1 :: o2 :: o3 :: o4 :: o5 :: o6 :: o7 :: o8 :: o9 :: o10 :: some v :: r) H Q := ⟨v, rfl, h⟩
theorem wn11 {o0 o1 o2 o3 o4 o5 o6 o7 o8 o9 o10 : Option V} {o : Option V} {r : St} {R : St → Hp → Prop} (h : R (o0 :: o1 :: o2 :: o3 :: o4 :: o5 :: o6 :: o7 :: o8 :: o9 :: o10 :: some v :: r) H) : gName 11 v (o0 :: o1 :: o2 :: o3 :: o4 :: o5 :: o6 :: o7 :: o8 :: o9 :: o10 :: o :: r) H R := h
theorem wv12 {o0 o1 o2 o3 o4 o5 o6 o7 o8 o9 o10 o11 : Option V} {r : St} (h : Q v H) : tVar 12 (o0 :: o1 :: o2 :: o3 :: o4 :: o5 :: o6 :: o7 :: o8 :: o9 :: o10 :: o11 :: some v :: r) H Q := ⟨v, rfl, h⟩
theorem wn12 {o0 o1 o2 o3 o4 o5 o6 o7 o8 o9 o10 o11 : Option V} {o : Option V} {r : St} {R : St → Hp → Prop} (h : R (o0 :: o1 :: o2 :: o3 :: o4 :: o5 :: o6 :: o7 :: o8 :: o9 :: o10 :: o11 :: some v :: r) H) : gName 12 v (o0 :: o1 :: o2 :: o3 :: o4 :: o5 :: o6 :: o7 :: o8 :: o9 :: o10 :: o11 :: o :: r) H R := h
theorem wn13 {o0 o1 o2 o3 o4 o5 o6 o7 o8 o9 o10 o11 o12 : Option V} {o : Option V} {r : St} {R : St → Hp → Prop} (h : R (o0 :: o1 :: o2 :: o3 :: o4 :: o5 :: o6 :: o7 :: o8 :: o9 :: o10 :: o11 :: o12 :: some v :: r) H) : gName 13 v (o0 :: o1 :: o2 :: o3 :: o4 :: o5 :: o6 :: o7 :: o8 :: o9 :: o10 :: o11 :: o12 :: o :: r) H R := h
theorem w_c (h : Q v H) : tC v σ H Q := h
theorem w_i0 {f : Int → Int → V} (h : Q (f i j) H) : rI0 f (.int i) (.int j) H Q := ⟨i, j, rfl, rfl, h⟩
theorem w_mod {f : Int → Int → V} (hj : 0 < j) (h : Q (f i j) H) : rI (fun _ j => 0 < j) f (.int i) (.int j) H Q := ⟨i, j, rfl, rfl, hj, h⟩
theorem w_div {f : Int → Int → V} (h0 : 0 < j) (h1 : j < 1073741824) (h : Q (f i j) H) : rI CDiv f (.int i) (.int j) H Q := ⟨i, j, rfl, rfl, ⟨h0, h1⟩, h⟩
theorem w_pow {f : Int → Int → V} (h0 : 0 ≤ j) (h1 : j ≤ 1000000) (h2 : i.natAbs < 2 ^ 64) (h : Q (f i j) H) : rI CPow f (.int i) (.int j) H Q := ⟨i, j, rfl, rfl, ⟨h0, h1, h2⟩, h⟩
theorem w_mulL {f : Int → Int → V} (h0 : -(2 ^ 64) < i) (h1 : i < 2 ^ 64) (h : Q (f i j) H) : rI CMul f (.int i) (.int j) H Q := ⟨i, j, rfl, rfl, .inl ⟨h0, h1⟩, h⟩
theorem w_mulR {f : Int → Int → V} (h0 : -(2 ^ 64) < j) (h1 : j < 2 ^ 64) (h : Q (f i j) H) : rI CMul f (.int i) (.int j) H Q := ⟨i, j, rfl, rfl, .inr ⟨h0, h1⟩, h⟩
theorem w_eqi (h : Q (.bl (decide (i = j))) H) : rEq (.int i) (.int j) H Q := ⟨rfl, by rw [show decide (V.int i = V.int j) = decide (i = j) from decide_eq_decide.mpr ⟨fun e => by cases e; rfl, fun e => by rw [e]⟩]; exact h⟩
theorem w_nei (h : Q (.bl (!decide (i = j))) H) : rNe (.int i) (.int j) H Q := ⟨rfl, by rw [show decide (V.int i = V.int j) = decide (i = j) from decide_eq_decide.mpr ⟨fun e => by cases e; rfl, fun e => by rw [e]⟩]; exact h⟩
theorem w_eqs {a b : Str} (h : Q (.bl (decide (a = b))) H) : rEq (.str a) (.str b) H Q := ⟨rfl, by rw [show decide (V.str a = V.str b) = decide (a = b) from decide_eq_decide.mpr ⟨fun e => by cases e; rfl, fun e => by rw [e]⟩]; exact h⟩
theorem w_bl {k : Bool} {R : Bool → Prop} (h : R k) : ∃ c, V.bl k = .bl c ∧ R c := ⟨k, rfl, h⟩
theorem w_not {R : Bool → Hp → Prop} (h : c σ H fun b H1 => R (!b) H1) : tNot c σ H R := h
theorem w_and {R : Bool → Hp → Prop} (h : c σ H fun b H1 => if b = true then d σ H1 R else R false H1) : tAnd c d σ H R := h
theorem w_or {R : Bool → Hp → Prop} (h : c σ H fun b H1 => if b = true then R true H1 else d σ H1 R) : tOr c d σ H R := h
theorem w_notV (h : ta σ H fun x H1 => ∃ c, x = .bl c ∧ Q (.bl (!c)) H1) : tNotV ta σ H Q := h
theorem w_andV (h : ta σ H fun x H1 => ∃ c, x = .bl c ∧ if c = true then tb σ H1 Q else Q (.bl false) H1) : tAndV ta tb σ H Q := h
theorem w_ifE (h : c σ H fun b H1 => if b = true then ta σ H1 Q else tb σ H1 Q) : tIf c ta tb σ H Q := h
theorem w_chain {r r' : R2} (h : ta σ H fun x H1 => tb σ H1 fun y H2 => r x y H2 fun z H3 => ∃ k, z = .bl k ∧ if k = true then tc σ H3 fun w H4 => r' y w H4 Q else Q (.bl false) H3) : tChain r r' ta tb tc σ H Q := h
theorem w_rt {nx bk ct : St → Hp → Prop} {rt : VK} (h : rt v H) : (Ends.mk nx rt bk ct).rt v H := h
theorem w_call {sp : Sp} {E : XK} (h : tr σ H fun vs H1 => sp vs H1 Q E) : tCall sp [] E tr σ H Q := by
  have e : (fun vs H1 => sp (vs ++ []) H1 Q E) = fun vs H1 => sp vs H1 Q E := by
    funext vs H1
    rw [List.append_nil]
  show tr σ H fun vs H1 => sp (vs ++ []) H1 Q E
  rw [e]
  exact h
theorem w_bm {T : String} {r : V → List V → Hp → VK → Prop} {to : TE} (h : to σ H fun x H1 => tyV K T x H1 ∧ tr σ H1 fun xs H2 => r x xs H2 Q) : tBM K T r to tr σ H Q := h
theorem w_sub {to ti : TE} {ts : TSet} {R : St → Hp → Prop} (h : to σ H fun o H1 => ti σ H1 fun i H2 => ts o i v H2 fun H3 => R σ H3) : gSub to ti ts v σ H R := h
theorem w_slice {r : V → Option Int → Option Int → Hp → VK → Prop} {tl th : TO} (h : t σ H fun x H1 => tl σ H1 fun l H2 => th σ H2 fun u H3 => r x l u H3 Q) : tSl r t tl th σ H Q := h
theorem w_noPart {R : Option Int → Hp → Prop} (h : R none H) : tNoPart σ H R := h
theorem w_part {R : Option Int → Hp → Prop} (h : t σ H fun x H1 => ∃ i, x = .int i ∧ R (some i) H1) : tPart t σ H R := h
theorem w_int {R : Int → Prop} (h : R i) : ∃ k, V.int i = .int k ∧ R k := ⟨i, rfl, h⟩
theorem w_ixL {p : Addr} {xs : List V} (h : SqL K H p xs) (e : atI xs i = some v) (k : Q v H) : rIxL K (.ref p) (.int i) H Q := ⟨p, xs, i, v, rfl, rfl, h, e, k⟩
theorem w_ixT {p : Addr} {xs : List V} (h : SqT K H p xs) (e : atI xs i = some v) (k : Q v H) : rIxT K (.ref p) (.int i) H Q := ⟨p, xs, i, v, rfl, rfl, h, e, k⟩
def rLen (K : PySem.W.Frag) : List V → Hp → VK → Prop := fun xs H Q => ∃ x n, xs = [x] ∧ LenV K x H n ∧ Q (.int n) H
theorem w_lenL {p : Addr} {xs : List V} (h : SqL K H p xs) (k : Q (.int xs.length) H) : rLen K [.ref p] H Q := ⟨_, xs.length, rfl, .inl ⟨xs, h, rfl⟩, k⟩
theorem w_lenT {p : Addr} {xs : List V} (h : SqT K H p xs) (k : Q (.int xs.length) H) : rLen K [.ref p] H Q := ⟨_, xs.length, rfl, .inr ⟨xs, h, rfl⟩, k⟩
theorem w_lenS {z : Str} (h : z.length ≤ sizeLine) (k : Q (.int z.length) H) : rLen K [.str z] H Q := ⟨_, z.length, rfl, ⟨h, rfl⟩, k⟩
def rMax2 : List V → Hp → VK → Prop := fun xs H Q => ∃ i j, xs = [.int i, .int j] ∧ Q (.int (if j > i then j else i)) H
def rMin2 : List V → Hp → VK → Prop := fun xs H Q => ∃ i j, xs = [.int i, .int j] ∧ Q (.int (if j < i then j else i)) H
theorem w_max (h : Q (.int (max i j)) H) : rMax2 [.int i, .int j] H Q := ⟨i, j, rfl, by
  rw [show (if j > i then j else i) = max i j by rw [Int.max_def]; split <;> split <;> omega]
  exact h⟩
theorem w_min (h : Q (.int (min i j)) H) : rMin2 [.int i, .int j] H Q := ⟨i, j, rfl, by
  rw [show (if j < i then j else i) = min i j by rw [Int.min_def]; split <;> split <;> omega]
  exact h⟩
theorem w_is {x d : V} {tv : Value} {b : Bool} (ty : TyOf K H x tv) (e : clsIs K tv d = some b) (h : Q (.bl b) H) : rIsT K [x, d] H Q := ⟨x, d, tv, b, rfl, ty, e, h⟩
def rIsN : R2 := fun x y H Q => y = .non ∧ Q (.bl (decide (x = .non))) H
end
section
variable {X : Cx}
theorem call_lenN : CallR X (.builtin "len") (rLen X.K) := call_len
theorem call_maxN (hc : X.calm = true) : CallR X (.builtin "max") rMax2 := call_max2 hc
theorem call_minN (hc : X.calm = true) : CallR X (.builtin "min") rMin2 := call_min2 hc
theorem op_isNN : OpR X (compareOp .Is) rIsN := op_isN
end
section
variable {A B p : Prop} [Decidable p] {b : Bool}
theorem i_dec (h1 : p → A) (h2 : ¬ p → B) : if decide p = true then A else B := by
  by_cases h : p
  · rw [if_pos (decide_eq_true h)]; exact h1 h
  · rw [if_neg (by simpa using h)]; exact h2 h
theorem i_b (h1 : b = true → A) (h2 : b = false → B) : if b = true then A else B := by
  cases b with
  | true => exact iteT (h1 rfl)
  | false => exact iteF (h2 rfl)
theorem i_T (h : b = true) (k : A) : if b = true then A else B := by rw [if_pos h]; exact k
theorem i_F (h : b = false) (k : B) : if b = true then A else B := by rw [if_neg (by rw [h]; exact Bool.false_ne_true)]; exact k
theorem i_pos (h : p) (k : A) : if decide p = true then A else B := by rw [if_pos (decide_eq_true h)]; exact k
theorem i_neg (h : ¬ p) (k : B) : if decide p = true then A else B := by rw [if_neg (by simpa using h)]; exact k
theorem i_npos (h : p) (k : B) : if (!decide p) = true then A else B := by rw [if_neg (by simpa using h)]; exact k
theorem i_nneg (h : ¬ p) (k : A) : if (!decide p) = true then A else B := by rw [if_pos (by simpa using h)]; exact k
end
section
variable {H H0 H1 H2 H' : Hp} {p q a : Addr} {o u : HO} {xs ys : List V}
theorem New.trans (n1 : New H H1 p o) (n2 : New H1 H2 q u) : New H H2 q u := ⟨n1.s.trans n2.s, n2.e, fun a v e => n2.n a v (n1.s a v e)⟩
def TupsAt (H : Hp) (ys : List V) (rows : List (List V)) : Prop := ys.length = rows.length ∧ ∀ (j : Nat) (r : List V), rows[j]? = some r → ∃ q, ys[j]? = some (.ref q) ∧ H q = some (.tup r)
theorem TupsAt.same {rows : List (List V)} (s : Same H H') (h : TupsAt H ys rows) : TupsAt H' ys rows := ⟨h.1, fun j r e => let ⟨q, a, b⟩ := h.2 j r e; ⟨q, a, s _ _ b⟩⟩
theorem TupsAt.nil : TupsAt H [] [] := ⟨rfl, fun j r e => by simp at e⟩
end
section
variable {σ : St} {H : Hp} {Q : VK} {K : PySem.W.Frag} {tr : TA} {D : Ends} {i j : Int} {g : TG} {tb : TS} {a b : V} {p : Addr}
theorem w_tup2 {i0 i1 : Nat} {R : St → Hp → Prop} (hp : SqT K H p [a, b]) (h : gName i0 a σ H fun σ1 H1 => gName i1 b σ1 H1 R) : gTup K 2 (gCons (gName i0) (gCons (gName i1) gNil)) (.ref p) σ H R :=
  ⟨p, _, rfl, hp, rfl, _, _, rfl, _, _, rfl, rfl, h⟩
end
def rEqD (K : PySem.W.Frag) : R2 := fun x y H Q => ∃ d d', Rep K H d x ∧ Rep K H d' y ∧ depD d ≤ 100 ∧ Q (.bl (eqDt d d')) H
def rNeD (K : PySem.W.Frag) : R2 := fun x y H Q => ∃ d d', Rep K H d x ∧ Rep K H d' y ∧ depD d ≤ 100 ∧ Q (.bl (!eqDt d d')) H
theorem op_eq_dN {X : Cx} {k : Nat} (hr : Room k X.A) : OpR X (compareOp .Eq) (rEqD X.K) := op_eq_d hr
theorem op_ne_dN {X : Cx} {k : Nat} (hr : Room k X.A) : OpR X (compareOp .NotEq) (rNeD X.K) := op_ne_d hr
end L2
namespace L2
open PySem PySem.Spec PyProof.Rows PySem.SeqAt
section
variable {X : Cx} {a : Expr} {ta : TE} {pos : Pos}
def idV : V → Bool
  | .non => true
  | .bl _ => true
  | .int _ => true
  | .str _ => true
  | .ref _ => true
  | _ => false
theorem same_eqAt {A : Around} {s : Shared} {x : V} {u v : Value} (f : idV x = true) (ru : RelV x u) (rv : RelV x v) : EqAt A s u v true := by
  cases x with
  | non => cases ru; cases rv; exact EqAt.same _
  | bl b => cases ru; cases rv; exact EqAt.same _
  | ref b => cases ru; cases rv; exact EqAt.same _
  | int i =>
    obtain ⟨t, rfl⟩ := ru
    obtain ⟨t', rfl⟩ := rv
    have := EqAt.int_int (A := A) (s := s) i t i t'
    rwa [beq_self_eq_true] at this
  | str z =>
    obtain ⟨t, rfl⟩ := ru
    obtain ⟨t', rfl⟩ := rv
    have := EqAt.str_str (A := A) (s := s) z t z t'
    rwa [beq_self_eq_true] at this
  | _ => exact absurd (show false = true from f) Bool.false_ne_true
end
def Kp (b : Addr) (H H' : Hp) : Prop := ∀ x u, x ≠ b → H x = some u → H' x = some u
section
variable {b p : Addr} {H H1 H2 : Hp} {o : HO}
theorem Kp.trans (a : Kp b H H1) (c : Kp b H1 H2) : Kp b H H2 := fun x u n h => c x u n (a x u n h)
theorem Same.kp (s : Same H H1) : Kp b H H1 := fun x u _ h => s x u h
theorem Off.kp (f : Off b H H1) : Kp b H H1 := fun x u n h => by rw [f x n]; exact h
theorem Kp.same {H0 : Hp} (s : Same H0 H) (k : Kp b H H1) (n : ∀ x u, H0 x = some u → x ≠ b) : Same H0 H1 := fun x u e => k x u (n x u e) (s x u e)
end
def rTOfA (K : PySem.W.Frag) : List V → Hp → VK → Prop := fun xs H Q => ∃ p ys, xs = [.ref p] ∧ ((SqL K H p ys ∧ ∀ l H', New H H' l (.tup ys) → Q (.ref l) H') ∨ (SqT K H p ys ∧ Q (.ref p) H))
theorem call_tuple_ofA {X : Cx} : CallR X (.type "tuple") (rTOfA X.K) := by
  intro pins s σ H xs us Q I r h
  obtain ⟨p, ys, e, h⟩ := h
  refine call_tuple_of pins s σ H xs us Q I r ⟨p, ys, e, ?_⟩
  rcases h with ⟨hq, q⟩ | h
  · exact .inl ⟨hq, fun l hl => q l _ (.mk' hl)⟩
  · exact .inr h
section
variable {X : Cx} {K : PySem.W.Frag}
theorem ix_tupK (h : X.K = K) : IxR X (rIxT K) := h ▸ ix_tup
end
def ForL (K : PySem.W.Frag) (a : Addr) (g : TG) (tb : TS) (D : Ends) (σ : St) (H : Hp) : Prop := ∃ W : Nat → Nat → St → Hp → Prop, (∃ m, W 0 m σ H) ∧ ∀ i m σ H, W i m σ H →
  ((Itl K a).stop i H ∧ D.nx σ H) ∨ ((Itl K a).go i H ∧ ∃ N : St → Hp → Prop, (∀ σ' H', N σ' H' → ∃ m', m' < m ∧ W (i + 1) m' σ' H') ∧ ∀ x H', (Itl K a).yld i H x H' → g x σ H' fun σ2 H2 => tb { D with nx := N, ct := N, bk := D.nx } σ2 H2)
theorem w_forL {K : PySem.W.Frag} {te : TE} {g : TG} {tb : TS} {D : Ends} {σ : St} {H : Hp} (h : te σ H fun x H1 => ∃ a, x = .ref a ∧ (∃ xs, SqL K H1 a xs) ∧ ForL K a g tb D σ H1) : tFor (iList K te) g tb D σ H := h
theorem forL_by {K : PySem.W.Frag} {a : Addr} {xs : List V} {g : TG} {tb : TS} {D : Ends} {σ : St} {H : Hp} (Pv : Nat → St → Hp → Prop) (h0 : Pv 0 σ H) (hl : ∀ i σ H, i ≤ xs.length → Pv i σ H → SqL K H a xs)
    (hs : ∀ i x σ H, xs[i]? = some x → Pv i σ H → g x σ H fun σ2 H2 => tb { D with nx := Pv (i + 1), ct := Pv (i + 1), bk := D.nx } σ2 H2) (hd : ∀ σ H, Pv xs.length σ H → D.nx σ H) : ForL K a g tb D σ H := for_list Pv h0 hl hs hd
def CompAll (J : It) (nt : Nat) (fr : List Nat) (g : TG) (c : TT) (te : TE) (σ : St) (H1 : Hp) (Q : VK) : Prop := ∀ acc, H1 acc = none → CompGoal J nt fr g c te σ H1 Q acc
theorem w_compL {K : PySem.W.Frag} {t0 te : TE} {nt : Nat} {fr : List Nat} {g : TG} {c : TT} {σ : St} {H : Hp} {Q : VK} (h : t0 σ H fun x H1 => ∃ a, x = .ref a ∧ (∃ xs, SqL K H1 a xs) ∧ CompAll (Itl K a) nt fr g c te σ H1 Q) : tComp (iList K t0) nt fr g c te σ H Q := h
theorem comp_map {J : It} {xs : List V} {Lk : Hp → Prop} {te : TE} {σ : St} {H : Hp} {Q : VK} {fr : List Nat} {fvs : St} {P : Nat → V → Prop} (it : L2.ItemsOf J xs Lk) (hz : xs.length ≤ 1000000) (hf : (fr.map fun i => (σ[i]?).getD none) = fvs) (hL : ∀ H', Same H H' → Lk H')
    (turn : ∀ (i : Nat) (v : V) (H' : Hp) (R : VK), xs[i]? = some v → Same H H' → (∀ y H2, Same H' H2 → P i y → R y H2) → te (some v :: fvs) H' R)
    (k : ∀ l H' ys, New H H' l (.lst ys) → ys.length = xs.length → (∀ (i : Nat) (y : V), ys[i]? = some y → P i y) → Q (.ref l) H') : CompAll J 1 fr (gName 0) tTrue te σ H Q := by
  intro acc hacc
  subst hf
  have nacc : ∀ b u, H b = some u → b ≠ acc := fun b u e => ne_of_none e hacc
  refine comp_by it (fun i ys H' => H' acc = some (.lst ys) ∧ Same H H' ∧ ys.length = i ∧ ∀ (j : Nat) (y : V), ys[j]? = some y → P j y) ⟨upd_same, Same.new hacc, rfl, fun j y e => by simp at e⟩ (fun i ys H' _ h => ⟨hL H' h.2.1, h.1⟩) ?_ ?_
  · rintro i x tv ys H' hx hi ⟨ha, hs, hl, hp⟩ htv
    obtain ⟨tv0, rfl⟩ : ∃ a, tv = [a] := List.length_eq_one_iff.mp htv
    unfold gName tTrue
    dsimp only
    rw [if_pos rfl]
    refine turn i x H' _ hx hs fun y H2 s2 py => ⟨?_, s2 _ _ ha, CompW.next (tv := [some x]) hi ⟨upd_same, fun b u e => ?_, by rw [List.length_append, hl]; rfl, fun j z e => ?_⟩ rfl⟩
    · rw [hl]
      exact Nat.lt_of_lt_of_le hi (small_line hz)
    · rw [upd_ne (nacc b u e)]
      exact s2 _ _ (hs _ _ e)
    · by_cases hj : j < ys.length
      · rw [List.getElem?_append_left hj] at e
        exact hp j z e
      · rw [List.getElem?_append_right (by omega)] at e
        have hj2 : j - ys.length = 0 := by
          by_cases h0 : j - ys.length = 0
          · exact h0
          · rw [List.getElem?_eq_none (by simp; omega)] at e
            cases e
        rw [hj2] at e
        cases e
        have : j = i := by omega
        rw [this]
        exact py
  · rintro ys H' ⟨ha, hs, hl, hp⟩
    exact k acc H' ys ⟨hs, ha, nacc⟩ hl hp
section
variable {X : Cx} {pins : List (Addr × Obj)} {EX : St → XK} {k m : Nat} {x : Str} {ps : List Str} {sp : Sp} {p pos apos : Pos} {e o : Expr} {es : List Expr} {t : TA} {ta : TE} {f C : Addr} {fd : FuncData} {nm : Str}
structure CMeth (K : PySem.W.Frag) (C : Addr) (m : Str) (f : Addr) : Prop where
  ga : PySem.W.specialIn K (.ref C) "__getattribute__" = some (some (.builtin "type.__getattribute__"))
  rd : PySem.W.readsIn K C (.type "type") = true
  at_ : PySem.W.findCls K (.ref C) (.type "type") m = some (.val (.ref f))
  hi : PySem.W.handedIn (.ref f) = true
  kp : PySem.W.keepIn K (.ref f) = true
end
section
variable {P : Program} {w : World} {K : PySem.W.Frag} {mg : Str → Option Value} {base : Heap} {CX : CXT} {k : Nat} {x nm qual : Str} {ps : List Str} {sp : Sp} {C : Addr}
structure Met (P : Program) (w : World) (K : PySem.W.Frag) (mg : Str → Option Value) (base : Heap) (CX : CXT) (k : Nat) (C : Addr) (nm : Str) (ps : List Str) (sp : Sp) : Prop where
  ex : ∃ (f : Addr) (fd : FuncData), FnOk P w K mg base CX k f fd ps sp ∧ Meth K C nm f ∧ Binds K fd ps []
structure Mak (P : Program) (w : World) (K : PySem.W.Frag) (mg : Str → Option Value) (base : Heap) (CX : CXT) (k : Nat) (x : Str) (C : Addr) (ps : List Str) (sp : Sp) : Prop where
  ex : ∃ (f : Addr) (fd : FuncData), FnOk P w K mg base CX k f fd ps sp ∧ Mk K C f ∧ mg x = some (.ref C) ∧ Binds K fd ps []
def FnAt (K : PySem.W.Frag) (nm qual : Str) (st : Stmt) (f : Addr) : Prop := ∃ fd : FuncData, Fun K nm qual st f fd
structure FnTells (P : Program) (w : World) (K : PySem.W.Frag) (mg : Str → Option Value) (base : Heap) (CX : CXT) (k : Nat) (f : Addr) (ps : List Str) (sp : Sp) : Prop where
  ex : ∃ fd : FuncData, FnOk P w K mg base CX k f fd ps sp ∧ Binds K fd ps []
theorem FnTells.met {f : Addr} (t : FnTells P w K mg base CX k f ps sp) (m : Meth K C nm f) : Met P w K mg base CX k C nm ps sp := let ⟨fd, F, b⟩ := t.ex; ⟨f, fd, F, m, b⟩
theorem FnTells.mak {f : Addr} (t : FnTells P w K mg base CX k f ps sp) (m : Mk K C f) (g : mg x = some (.ref C)) : Mak P w K mg base CX k x C ps sp := let ⟨fd, F, b⟩ := t.ex; ⟨f, fd, F, m, g, b⟩
variable {st : Stmt} {N : List Str} {f : Addr}
theorem fn_tells (h : FnAt K nm qual st f) (S : FnScope N ps (defScope st)) (len : ∀ vs H Q E, sp vs H Q E → vs.length = ps.length)
    (hb : ∀ (kV doc pm : Value) (an : Option Addr) (cdv ct : Value) (us : List Value), us.length = ps.length → bindArgs (PySem.W.fnOf nm qual (defArgs st) (defBody st) (defScope st) .none kV doc pm an cdv ct) ⟨us, []⟩ = pure (ps.zip us))
    (hbody : ∀ (f : Addr) (cdv : Value) (A : Around) (outer : List Env) (s : Shared) (H : Hp) (vs : List V) (Q : VK) (E : XK), Room k (A.deeper (envOfC qual (defScope st) s.heap.objs.size f cdv)) → sp vs H Q E →
      ∃ t, PSs (cxOf CX P w K mg base N qual (defScope st) f cdv A outer s H E).nox (defBody st) t ∧ t { nx := fun _ H' => Q .non H', rt := Q } (start N vs) H) : FnTells P w K mg base CX (k + 1) f ps sp := by
  obtain ⟨fd, F⟩ := h
  refine ⟨fd, ?_, F.binds hb⟩
  obtain ⟨oc, od, kV, doc, pm, an, cdv, ct, osl, rfl, lk, hcd⟩ := F.ex
  refine fn_of lk hcd S len fun A outer s H vs Q E hr hsp => ?_
  obtain ⟨t, h, q⟩ := hbody f cdv A outer s H vs Q E hr hsp
  exact ⟨t, h.nox, q⟩
end
section
variable {X : Cx} {CX : CXT} {k m : Nat} {x nm : Str} {ps : List Str} {sp : Sp} {E : XK} {p pos apos : Pos} {e o : Expr} {es : List Expr} {t : TA} {ta : TE} {C : Addr} {pins : List (Addr × Obj)} {EX : St → XK}
theorem pe_met0 {pl : Sem Bool} (he : PE X o ta) (c : Cls X.K C) (D : Met X.prog X.w X.K X.mg X.base CX k C nm ps sp) (hr : Room m X.A) (hk : k ≤ m := by decide) (hx : Passes CX X E := by exact pass0)
    (ht : eval (.Call (.Attribute o nm apos) [] [] pos) X.env = (do
      let ov ← eval o X.env
      standAt apos.atName
      let (f, first) ← holding [ov] (getMethod ov nm pl)
      callWith pos f first (backTo pos (starEach [] X.env)) (backToKw pos (keywordEach [] X.env))) := by rfl) :
    PE X (.Call (.Attribute o nm apos) [] [] pos) (tMeth C nm sp [] E ta tNil) := by
  obtain ⟨f, fd, F, mt, b⟩ := D.ex
  exact pe_meth0 (pl := pl) he c mt F (hr.mono hk) b .nil hx ht
end
end L2
namespace L2
open PySem PySem.Spec PyProof.Rows
def Bd (k : Nat) (x : Int) : Prop := 0 ≤ x ∧ x < 2 ^ k
theorem p2_pos (k : Nat) : (0 : Int) < 2 ^ k := by
  have : (0 : Nat) < 2 ^ k := Nat.pow_pos (by decide)
  exact_mod_cast this
theorem Bd.mul {a b : Nat} {x y : Int} (hx : Bd a x) (hy : Bd b y) : Bd (a + b) (x * y) := by
  refine ⟨Int.mul_nonneg hx.1 hy.1, ?_⟩
  rw [Int.pow_add]
  exact Int.lt_of_le_of_lt (Int.mul_le_mul_of_nonneg_left (Int.le_of_lt hy.2) hx.1) (Int.mul_lt_mul_of_pos_right hx.2 (p2_pos b))
theorem go_compR {σ : St} {H : Hp} {te : TE} {tr : TA} {Q : VK} {fr : List Nat} {fvs : St} {n : Nat} (Iv : Addr → Nat → List V → Hp → Prop) (hr : TelA tr σ H [.int (n : Int)]) (hz : n ≤ 1000000) (hf : (fr.map fun i => (σ[i]?).getD none) = fvs)
    (h0 : ∀ acc H', New H H' acc (.lst []) → Iv acc 0 [] H') (ha : ∀ acc i ys H', Iv acc i ys H' → H' acc = some (.lst ys) ∧ ys.length = i)
    (turn : ∀ acc i ys H' (R : VK), i < n → Iv acc i ys H' → (∀ y H2, H2 acc = some (.lst ys) → (∀ H3, Off acc H2 H3 → H3 acc = some (.lst (ys ++ [y])) → Iv acc (i + 1) (ys ++ [y]) H3) → R y H2) → te (some (.int i) :: fvs) H' R)
    (k : ∀ acc ys H', Iv acc n ys H' → Q (.ref acc) H') : tComp (iRng1 tr) 1 fr (gName 0) tTrue te σ H Q := by
  refine hr _ ⟨n, rfl, by omega, by omega, fun acc hacc => ?_⟩
  subst hf
  rw [Int.toNat_natCast]
  refine comp_by items_range (fun i ys H' => Iv acc i ys H') (h0 acc _ (.mk' hacc)) (fun i ys H' _ h => ⟨trivial, (ha acc i ys H' h).1⟩) ?_ ?_
  · rintro i x tv ys H' hx hi h htv
    obtain ⟨tv0, rfl⟩ : ∃ a, tv = [a] := List.length_eq_one_iff.mp htv
    have hi' : i < n := by simpa [rangeV] using hi
    obtain rfl := rangeV_get hx hi'
    unfold gName tTrue
    dsimp only
    rw [if_pos rfl]
    refine turn acc i ys H' _ hi' h fun y H2 h1 h2 => ⟨?_, h1, CompW.next (tv := [some (V.int i)]) hi (h2 _ Off.upd upd_same) rfl⟩
    rw [(ha acc i ys H' h).2]
    exact Nat.lt_of_lt_of_le hi' (small_line hz)
  · rintro ys H' h
    rw [show (rangeV 0 n).length = n by simp [rangeV]] at h
    exact k acc ys H' h
def rAddS : R2 := fun x y H Q => ∃ i j, x = .str i ∧ y = .str j ∧ i.length + j.length ≤ sizeLine ∧ Q (.str (i ++ j)) H
def rJoin (K : PySem.W.Frag) : V → List V → Hp → VK → Prop := fun x xs H Q => ∃ sep p ts, x = .str sep ∧ xs = [.ref p] ∧ SqL K H p (ts.map V.str) ∧ sep.length ≤ 16 ∧ (ts.map (fun t => t.length)).sum + ts.length ≤ 1048576 ∧ Q (.str (sep.join ts)) H
theorem strsAre_of : ∀ {ts : List Str} {us : List Value}, Vals (ts.map V.str) us → StrsAre us ts
  | [], _, .nil => .nil
  | t :: ts, _, .cons r h => by
    obtain ⟨k, rfl⟩ := r
    exact .cons t k (strsAre_of h)
section
variable {X : Cx} {pos : Pos}
theorem op_addS : OpR X (binaryOp .Add) rAddS := op_add_str
theorem mt_join : MtR X "str.join" (rJoin X.K) := by
  intro pins s σ H x xs v us Q I rx rs h
  obtain ⟨sep, p, ts, rfl, rfl, hq, h1, h2, q⟩ := h
  obtain ⟨t, rfl⟩ := rx
  obtain ⟨u, rfl, r1⟩ := vals1 rs
  cases r1
  obtain ⟨its, r, pl, hz⟩ := I.list hq
  refine join_listW (items := its.toArray) (ys := ts) pl.isList (strsAre_of r) h1 h2 fun t' k => ⟨.str (sep.join ts), H, I.tok _, ⟨t', ?_⟩, q⟩
  show Value.str (Builtin.Str.glued sep ts) t' = _
  rw [StrLaws.glued_eq_join]
theorem pe_join {o e : Expr} {to te : TE} {apos cpos : Pos} (ho : PE X o to) (he : PE X e te) (hbase : attributeBase o "join" X.env (eval o X.env) = eval o X.env := by rfl)
    (hfew : ((backTo cpos (starEach [e] X.env)).all (fun x => !x.1) && (backToKw cpos (keywordEach [] X.env)).all (fun x => x.1.isSome)
      && decide (([e] : List Expr).length + ([] : List Keyword).length + (if ([] : List Keyword).isEmpty then 0 else 1) < 30)) = true := by rfl)
    (hline : (apos.endLine == cpos.line) = true := by rfl) (hs : starEach [e] X.env = (false, eval e X.env) :: starEach [] X.env := by rfl) :
    PE X (.Call (.Attribute o "join" apos) [e] [] cpos) (tBM X.K "str" (rJoin X.K) to (tCons te tNil)) :=
  pe_bm PySem.F.plainAttrs_str PySem.F.slot_str_join PySem.F.type_str_join mt_join ho (pa_cons he pa_nil hs) hbase hfew hline hs (by rfl)
end
theorem pg_tupK {X : Cx} {K : PySem.W.Frag} {pos : Pos} {es : List Expr} {k : Nat} {t : TGs} {n : Nat} (hK : X.K = K) (hc : X.calm = true) (h : PGs X es t)
    (hn : (assignEach es X.env).length = n := by rfl) (hst : (assignEach es X.env).findIdx? (·.1) = none := by rfl) : PG X (.Tuple es k pos) (gTup K n t) := by
  subst hK
  exact pg_tup hc h hn hst
def flatDt : V → Dt
  | .int i => .int i
  | .str x => .str x
  | .bl b => .bl b
  | _ => .non
def isFlat : V → Bool
  | .int _ => true
  | .str _ => true
  | .bl _ => true
  | .non => true
  | _ => false
section
variable {K : PySem.W.Frag} {H : Hp}
theorem rep_flat {v : V} (h : isFlat v = true) : Rep K H (flatDt v) v := by
  cases v <;> simp_all [isFlat, flatDt, Rep]
theorem reps_flat : ∀ {vs : List V}, (∀ v ∈ vs, isFlat v = true) → Reps K H (vs.map flatDt) vs
  | [], _ => by simp [Reps]
  | v :: vs, h => by
    simp only [List.map_cons, Reps]
    exact ⟨_, _, rfl, rep_flat (h v (List.mem_cons_self ..)), reps_flat fun x hx => h x (List.mem_cons_of_mem _ hx)⟩
theorem dep_flat : ∀ vs : List V, depDs (vs.map flatDt) = 0
  | [] => rfl
  | v :: vs => by
    have : depD (flatDt v) = 0 := by cases v <;> rfl
    simp [depDs, this, dep_flat vs]
abbrev rowDt (r : List V) : Dt := .tup (r.map flatDt)
theorem reps_rows : ∀ {rows : List (List V)} {ys : List V}, TupsAt H ys rows → (∀ r ∈ rows, ∀ v ∈ r, isFlat v = true) → Reps K H (rows.map rowDt) ys
  | [], ys, h, _ => by
    have : ys = [] := List.eq_nil_of_length_eq_zero h.1
    subst this
    simp [Reps]
  | r :: rows, [], h, _ => by simp [TupsAt] at h
  | r :: rows, y :: ys, h, hf => by
    obtain ⟨q, e, hq⟩ := h.2 0 r rfl
    cases e
    simp only [List.map_cons, Reps]
    refine ⟨_, _, rfl, ?_, reps_rows (rows := rows) (ys := ys) ⟨by simpa using h.1, fun j r' e => h.2 (j + 1) r' e⟩ fun x hx => hf x (List.mem_cons_of_mem _ hx)⟩
    simp only [Rep]
    exact ⟨q, r, rfl, SqT.of hq, reps_flat (hf r (List.mem_cons_self ..))⟩
theorem dep_rows : ∀ rows : List (List V), depDs (rows.map rowDt) ≤ 1
  | [] => by decide
  | r :: rows => by
    have h1 : depD (rowDt r) = 1 := by simp only [depD, dep_flat]
    have h2 := dep_rows rows
    simp only [List.map_cons, depDs, h1]
    omega
theorem rep_rows {p : Addr} {rows : List (List V)} {ys : List V} (hp : SqL K H p ys) (h : TupsAt H ys rows) (hf : ∀ r ∈ rows, ∀ v ∈ r, isFlat v = true) : Rep K H (.lst (rows.map rowDt)) (.ref p) := by
  simp only [Rep]
  exact ⟨p, ys, rfl, hp, reps_rows h hf⟩
theorem dep_rowsL (rows : List (List V)) : depD (.lst (rows.map rowDt)) ≤ 2 := by
  have := dep_rows rows
  simp only [depD]
  omega
theorem w_neSame {d : Dt} {x y : V} {Q : VK} (hx : Rep K H d x) (hy : Rep K H d y) (hd : depD d ≤ 100) (k : Q (.bl false) H) : rNeD K x y H Q :=
  ⟨d, d, hx, hy, hd, by rw [eqDt_refl]; exact k⟩
theorem w_eqSame {d : Dt} {x y : V} {Q : VK} (hx : Rep K H d x) (hy : Rep K H d y) (hd : depD d ≤ 100) (k : Q (.bl true) H) : rEqD K x y H Q :=
  ⟨d, d, hx, hy, hd, by rw [eqDt_refl]; exact k⟩
theorem rep_nil {p : Addr} (h : SqL K H p []) : Rep K H (.lst []) (.ref p) := by
  simp only [Rep]
  exact ⟨p, _, rfl, h, by simp [Reps]⟩
end
section
variable {K : PySem.W.Frag} {σ : St} {H : Hp} {Q : VK} {ta tv : TE} {t : TA} {f m : Str} {C : Addr} {sp : Sp} {dvs : List V} {E : XK} {D : Ends}
theorem go_fld (h : ta σ H fun x H1 => ∃ a C dx fs v, x = .ref a ∧ H1 a = some (.ins C dx fs) ∧ Cls K C ∧ NoAttr K C f ∧ fs.lookup f = some v ∧ Q v H1) : tFld K ta f σ H Q := h
theorem w_fld {a dx : Addr} {fs : List (Str × V)} {v : V} {R : V → Prop} (ho : H a = some (.ins C dx fs)) (c : Cls K C) (n : NoAttr K C f) (l : fs.lookup f = some v) (k : R v) :
    ∃ a' C' dx' fs' v', V.ref a = .ref a' ∧ H a' = some (.ins C' dx' fs') ∧ Cls K C' ∧ NoAttr K C' f ∧ fs'.lookup f = some v' ∧ R v' := ⟨a, C, dx, fs, v, rfl, ho, c, n, l, k⟩
end
theorem made_same {H : Hp} {x dx C : Addr} (hx : H x = none) (hd : H dx = none) : Same H (upd (upd H dx (.own x)) x (.ins C dx [])) := fun b u e => by
  rw [upd_ne (ne_of_none e hx), upd_ne (ne_of_none e hd)]
  exact e
def rExtA : V → List V → Hp → VK → Prop := fun x vs H Q => ∃ l b xs zs, x = .ref l ∧ vs = [.ref b] ∧ H l = some (.lst xs) ∧ H b = some (.lst zs) ∧ xs.length + zs.length ≤ sizeLine ∧ ∀ H', Off l H H' → H' l = some (.lst (xs ++ zs)) → Q .non H'
section
variable {X : Cx}
theorem mt_extA : MtM X "list.extend" rExtA := by
  intro pins s σ H x vs v us Q I rx rv h
  obtain ⟨l, b, xs, zs, e1, e2, hH, hB, hz, q⟩ := h
  exact mt_extend pins s σ H x vs v us Q I rx rv ⟨l, b, xs, zs, e1, e2, hH, hB, hz, q _ Off.upd upd_same⟩
theorem pe_extA {o e : Expr} {to te : TE} {apos cpos : Pos} (ho : PE X o to) (he : PE X e te) (hbase : attributeBase o "extend" X.env (eval o X.env) = eval o X.env := by rfl)
    (hfew : ((backTo cpos (starEach [e] X.env)).all (fun x => !x.1) && (backToKw cpos (keywordEach [] X.env)).all (fun x => x.1.isSome)
      && decide (([e] : List Expr).length + ([] : List Keyword).length + (if ([] : List Keyword).isEmpty then 0 else 1) < 30)) = true := by rfl)
    (hline : (apos.endLine == cpos.line) = true := by rfl) (hs : starEach [e] X.env = (false, eval e X.env) :: starEach [] X.env := by rfl) :
    PE X (.Call (.Attribute o "extend" apos) [e] [] cpos) (tBM X.K "list" rExtA to (tCons te tNil)) :=
  pe_bm PySem.F.plainAttrs_list PySem.F.slot_list_extend PySem.F.type_list_extend mt_extA ho (pa_cons he pa_nil hs) hbase hfew hline hs (by rfl)
end
end L2
namespace L2
open PySem PySem.Spec PyProof.Rows PySem.SeqAt
section
variable {H H' : Hp} {p a l : Addr} {o u : HO}
theorem New.at (n : New H H' p o) (h : H a = some u) : H' a = some u := n.s a u h
theorem Same.at (s : Same H H') (h : H a = some u) : H' a = some u := s a u h
theorem Off.at (f : Off l H H') (ne : a ≠ l) (h : H a = some u) : H' a = some u := by rw [f a ne]; exact h
theorem Kp.at (k : Kp l H H') (ne : a ≠ l) (h : H a = some u) : H' a = some u := k a u ne h
def RowsAt (H : Hp) (p : Addr) (rows : List (List V)) : Prop := ∃ ys, H p = some (.lst ys) ∧ TupsAt H ys rows
theorem RowsAt.same {rows : List (List V)} (s : Same H H') (h : RowsAt H p rows) : RowsAt H' p rows := let ⟨ys, a, b⟩ := h; ⟨ys, s _ _ a, b.same s⟩
end
section
variable {X : Cx} {id : String} {x nm : Str} {e v : Expr} {es : List Expr} {t : TA} {tv : TE} {p kp pos : Pos}
def CallK (X : Cx) (id : String) (nm : Str) (r : List V → V → Hp → VK → Prop) : Prop := ∀ (pins : List (Addr × Obj)) (s : Shared) (σ : St) (H : Hp) (xs : List V) (us : List Value) (y : V) (u : Value) (Q : VK), Inv X pins σ H s → Vals xs us → RelV y u → r xs y H Q →
  wpAny (model X.prog X.w) X.A (call (.builtin id) us [(nm, u)]) (EP X pins σ Q) X.xe s
def tCK (r : List V → V → Hp → VK → Prop) (t : TA) (tv : TE) : TE := fun σ H Q => t σ H fun xs H1 => tv σ H1 fun y H2 => r xs y H2 Q
theorem go_ck {r : List V → V → Hp → VK → Prop} {σ : St} {H : Hp} {Q : VK} (h : t σ H fun xs H1 => tv σ H1 fun y H2 => r xs y H2 Q) : tCK r t tv σ H Q := h
theorem pe_ckw {r : List V → V → Hp → VK → Prop} (hc : CallK X id nm r) (hg : Gl X x) (hm : X.mg x = none) (hv : bootBuiltins x = some (.builtin id)) (ha : PA X (e :: es) t) (hw : PE X v tv) (hn : x ≠ "__name__" := by decide) (hdb : (x == ("__debug__" : Str)) = false := by decide)
    (he : backTo pos (starEach (e :: es) X.env) = (false, eval e X.env) :: backTo pos (starEach es X.env) := by rfl) (hpl : (backTo pos (starEach (e :: es) X.env)).any (·.1) = false := by rfl) : PE X (.Call (.Name x p) (e :: es) [⟨some nm, v, kp⟩] pos) (tCK r t tv) := by
  intro pins s σ H Q I h
  refine wpAny_Call_Name_kw (ld_blt I hg hm hv ?_ hn hdb)
  refine callWith_kw (thn (ha pos pins s σ H _ I h) fun us s1 ⟨vs, H1, I1, r1, q1⟩ => ?_) he hpl
  refine kws_cons (thn (hw pins s1 σ H1 _ I1 q1) fun z s2 ⟨y, H2, I2, r2, q2⟩ => kws_nil ?_)
  have hv2 : Vals vs us := r1
  exact hc pins s2 σ H2 vs us y z Q I2 hv2 r2 q2
end
theorem valsInts : ∀ {ns : List Int} {us : List Value}, Vals (ns.map V.int) us → IntsAre us ns
  | [], _, .nil => .nil
  | n :: ns, _, .cons r t => by
    obtain ⟨k, rfl⟩ := r
    exact .cons n k (valsInts t)
theorem intsAre_get : ∀ {us : List Value} {ns : List Int} {i : Nat} {v : Value}, IntsAre us ns → us[i]? = some v → ∃ t, v = .int (ns.getD i 0) t
  | _, _, _, _, .nil, e => by simp at e
  | _, _, 0, _, .cons n t h, e => by
    simp at e
    exact ⟨t, e.symm⟩
  | _, _, i + 1, _, .cons n t h, e => by
    obtain ⟨t', e'⟩ := intsAre_get (i := i) h (by simpa using e)
    exact ⟨t', by rw [e']; simp⟩
theorem preSum_take (ns : List Int) : ∀ n, n ≤ ns.length → preSum (fun i => ns.getD i 0) n = (ns.take n).sum
  | 0, _ => by simp [preSum]
  | n + 1, h => by
    rw [preSum, preSum_take ns n (by omega), List.take_succ, List.sum_append]
    have : ns[n]? = some ns[n] := by simp
    rw [List.getD_eq_getElem?_getD, this]
    simp
theorem sum_bounds {ns : List Int} (h : ∀ n ∈ ns, 0 ≤ n ∧ n ≤ 1000000) : 0 ≤ ns.sum ∧ ns.sum ≤ 1000000 * (ns.length : Int) := by
  induction ns with
  | nil => simp
  | cons a t ih =>
    have h1 := h a List.mem_cons_self
    have h2 := ih fun n hn => h n (List.mem_cons_of_mem _ hn)
    rw [List.sum_cons, List.length_cons]
    omega
section
variable {X : Cx}
def rSumL (K : PySem.W.Frag) : List V → Hp → VK → Prop := fun xs H Q => ∃ (p : Addr) (ns : List Int), xs = [.ref p] ∧ SqL K H p (ns.map V.int) ∧ (∀ n ∈ ns, 0 ≤ n ∧ n ≤ 1000000) ∧ ns.length ≤ 1000000 ∧ Q (.int ns.sum) H
theorem call_sumL (hc : X.calm = true) : CallR X (.builtin "sum") (rSumL X.K) := by
  intro pins s σ H xs us Q I r h
  obtain ⟨p, ns, rfl, hq, hb, hz, q⟩ := h
  obtain ⟨u, rfl, rx⟩ := vals1 r
  cases rx
  obtain ⟨its, rv, pl, _⟩ := I.list hq
  have hi := valsInts rv
  have hn : its.length = ns.length := by have := rv.length; simpa using this.symm
  have hl := pl.isList
  have hlt : p < s.heap.objs.size := let ⟨_, e, _⟩ := hl; Heap.lt_size e
  have part : ∀ j, j ≤ ns.length → 0 ≤ (ns.take j).sum ∧ (ns.take j).sum ≤ 1000000 * 1000000 := fun j hj => by
    have b := sum_bounds (ns := ns.take j) fun n hn => hb n (List.mem_of_mem_take hn)
    have : (ns.take j).length ≤ 1000000 := by rw [List.length_take]; omega
    omega
  refine call_sum_walk (wpAny_pyIter_list hl ?_)
  refine ⟨s.heap.objs.size, [s.heap.objs.size, p], [s.heap.objs.size], its.toArray.size, _, _, fun i => ns.getD i 0, rfl, Walks.list (A := X.A.in1) (I.ok.hd hc) _ p (Nat.ne_of_lt hlt) its.toArray,
    ⟨⟨_, Heap.get?_push_size _ rfl, rfl, rfl⟩, hl.push _⟩, fun b hb' => ?_, fun i v hP => intsAre_get hi (by simpa using hP), fun j hj => ?_, fun h' tk t' hk => ?_⟩
  · rcases List.mem_cons.mp hb' with rfl | hb'
    · show _ < (s.heap.push _).objs.size
      rw [size_push']
      exact Nat.lt_succ_self _
    · rw [List.mem_singleton.mp hb']
      show _ < (s.heap.push _).objs.size
      rw [size_push']
      exact Nat.lt_succ_of_lt hlt
  · have hj' : j < ns.length := by rw [← hn]; simpa using hj
    rw [preSum_take ns (j + 1) hj']
    have b1 := part (j + 1) hj'
    have b2 := hb (ns.getD j 0) (by rw [List.getD_eq_getElem?_getD, List.getElem?_eq_getElem hj']; exact List.getElem_mem hj')
    exact ⟨⟨by show _ ≤ ns.getD j 0; omega, by show ns.getD j 0 < _; omega⟩, by omega, by omega⟩
  · rw [List.size_toArray, hn, preSum_take ns _ (Nat.le_refl _), List.take_length]
    exact ⟨.int _, H, I.kept (LSm.kept_iter hk), ⟨_, rfl⟩, q⟩
section
variable {P : Program} {w : World} {A : Around} {R : Result → Shared → Prop} {it : Addr} {fp wr : List Addr} {ns : List Int} {V0 : Nat → Value → Prop} {St0 : Nat → Heap → Prop} {kw : List (Str × Value)}
abbrev bestObj (vs : Array Value) (c : Nat) : Obj := { cls := .type "list", dict := none, data := .seq vs c, slots := #[] }
end
theorem call_kw_tree {P : Program} {w : World} {A : Around} {E : Value → Shared → Prop} {s : Shared} {id : String} {b : Builtin} {args : List Value} {kw : List (Str × Value)} {Q : Value → Shared → Prop} (hk : builtinKind id = none) (hp : plainId id = true)
    (hb : entryFor table id = some b) (ha : argsOk id ⟨args, kw⟩)
    (hc : wpAny (model P w) A.in1 (b ⟨args, kw⟩) (fun fin s1 => match fin with
      | .done f => (match (Except.ok f : Result) with | .ok (.ret v) => Q v s1 | .ok _ => False | .error e => E e s1)
      | .again c => c.quiet = true ∧ codeAny (model P w) A c (fun r s2 => match r with | .ok (.ret v) => Q v s2 | .ok _ => False | .error e => E e s2) s1) E s) : wpAny (model P w) A (call (.builtin id) args kw) Q E s := by
  refine wpAny_call (codeAny_call_builtin hp hb ?_)
  simp only [checkBuiltinCall, hk]
  unfold argsOk at ha
  cases hg : Manifest.signature? id with
  | none => exact wpAny_pure hc
  | some sg =>
    rw [hg] at ha
    have ha2 : Bind.checkArgs id sg ⟨args, kw⟩ = pure () := ha
    simp only [ha2]
    exact wpAny_pure hc
end
theorem cx_K {CX : CXT} {P : Program} {w : World} {K : PySem.W.Frag} {mg : Str → Option Value} {base : Heap} {N : List Str} {q : Str} {sc : Scope} {f : Addr} {cdv : Value} {A : Around} {outer : List Env} {s : Shared} {H : Hp} {E : XK} : (cxOf CX P w K mg base N q sc f cdv A outer s H E).nox.K = K := rfl
theorem cx_K2 {CX : CXT} {P : Program} {w : World} {K : PySem.W.Frag} {mg : Str → Option Value} {base : Heap} {N : List Str} {q : Str} {sc : Scope} {f : Addr} {cdv : Value} {A : Around} {outer : List Env} {s : Shared} {H : Hp} {E : XK} : (cxOf CX P w K mg base N q sc f cdv A outer s H E).K = K := rfl
def Hs (H : Hp) (a : Addr) : Prop := ∃ u, H a = some u
section
variable {H H' : Hp} {a p l : Addr} {o u : HO}
theorem Hs.of (h : H a = some u) : Hs H a := ⟨u, h⟩
theorem New.hs (n : New H H' p o) : Hs H' p := ⟨o, n.e⟩
end
section
variable {H : Hp} {Q : VK} {K : PySem.W.Frag} {l b : Addr} {xs ys : List V} {y : V} {σ : St} {D : Ends}
theorem made_ok {o : HO} {n : Nat} {Z : Addr → Hp → Prop} (z : n ≤ sizeLine) (k : ∀ p H', New H H' p o → Z p H') : n ≤ sizeLine ∧ ∀ p H', New H H' p o → Z p H' := ⟨z, k⟩
theorem w_tyL {R : Prop} (h : SqL K H l xs) (k : R) : tyV K "list" (.ref l) H ∧ R := ⟨.inl ⟨rfl, _, h⟩, k⟩
theorem w_app (h : H l = some (.lst xs)) (z : xs.length < sizeLine) (k : ∀ H', Off l H H' → H' l = some (.lst (xs ++ [y])) → Q .non H') : rAppA (.ref l) [y] H Q := ⟨l, xs, y, rfl, rfl, h, z, k⟩
theorem w_ext (h : H l = some (.lst xs)) (e : H b = some (.lst ys)) (z : xs.length + ys.length ≤ sizeLine) (k : ∀ H', Off l H H' → H' l = some (.lst (xs ++ ys)) → Q .non H') : rExtA (.ref l) [.ref b] H Q := ⟨l, b, xs, ys, rfl, rfl, h, e, z, k⟩
theorem w_setA {i : Int} {j : Nat} {v : V} {R : Hp → Prop} (h : H l = some (.lst xs)) (e : ixN xs.length i = some j) (k : ∀ H', Off l H H' → H' l = some (.lst (xs.set j v)) → R H') : rSetA (.ref l) (.int i) v H R := ⟨l, xs, i, j, rfl, rfl, h, e, k⟩
theorem w_slA {lo hi : Option Int} (h : SqL K H l xs) (k : ∀ p H', New H H' p (.lst (cutV xs lo hi)) → Q (.ref p) H') : rSlA K (.ref l) lo hi H Q := ⟨l, xs, rfl, h, k⟩
theorem w_catA (h : H l = some (.lst xs)) (e : H b = some (.lst ys)) (z : xs.length + ys.length ≤ sizeLine) (k : ∀ p H', New H H' p (.lst (xs ++ ys)) → Q (.ref p) H') : rCatA (.ref l) (.ref b) H Q := ⟨l, b, xs, ys, rfl, rfl, h, e, z, k⟩
theorem w_lofL (h : SqL K H l xs) (k : ∀ p H', New H H' p (.lst xs) → Q (.ref p) H') : rLOfA K [.ref l] H Q := ⟨l, xs, rfl, .inl h, k⟩
theorem w_sumL {ns : List Int} (h : SqL K H l (ns.map V.int)) (hb : ∀ n ∈ ns, 0 ≤ n ∧ n ≤ 1000000) (hz : ns.length ≤ 1000000) (k : Q (.int ns.sum) H) : rSumL K [.ref l] H Q := ⟨l, ns, rfl, h, hb, hz, k⟩
theorem w_meth {C dx : Addr} {fs : List (Str × V)} {m : Str} {R : Prop} (h : H l = some (.ins C dx fs)) (e : fs.lookup m = none) (k : R) : ∃ a' dx' fs', V.ref l = .ref a' ∧ H a' = some (.ins C dx' fs') ∧ fs'.lookup m = none ∧ R := ⟨l, dx, fs, rfl, h, e, k⟩
theorem i_idx {n : Nat} {i : Int} (h0 : 0 ≤ i) (h1 : i < n) : ixN n i = some i.toNat := by unfold ixN; rw [if_pos h0, if_pos h1]
theorem atL1 {x y : V} {r : List V} : atI (x :: y :: r) 1 = some y := atI_nat (j := 1) rfl
theorem atL2 {x y z : V} {r : List V} : atI (x :: y :: z :: r) 2 = some z := atI_nat (j := 2) rfl
theorem atL3 {x y z w : V} {r : List V} : atI (x :: y :: z :: w :: r) 3 = some w := atI_nat (j := 3) rfl
theorem i_tt {A B : Prop} (k : A) : if (true : Bool) = true then A else B := by rw [if_pos rfl]; exact k
theorem i_ff {A B : Prop} (k : B) : if (false : Bool) = true then A else B := by rw [if_neg (by decide)]; exact k
theorem i_ntt {A B : Prop} (k : B) : if (!true : Bool) = true then A else B := by rw [if_neg (by decide)]; exact k
theorem w_isTT (h : H l = some (.tup xs)) (k : Q (.bl true) H) : rIsT K [.ref l, .ty "tuple"] H Q := w_is (.tup h) (bt_tuple (.tup h)) k
theorem w_isLL (h : H l = some (.lst xs)) (k : Q (.bl true) H) : rIsT K [.ref l, .ty "list"] H Q := w_is (.lst h) (bt_list (.lst h)) k
theorem small_lt {n : Nat} (h : n < 1000000) : n < sizeLine := Nat.lt_of_lt_of_le h (small_line (Nat.le_refl _))
theorem w_tupB {n i0 i1 : Nat} {a b : V} {R : St → Hp → Prop} (hn : n = 2) (hp : SqT K H l [a, b]) (h : gName i0 a σ H fun σ1 H1 => gName i1 b σ1 H1 R) : gTup K n (gCons (gName i0) (gCons (gName i1) gNil)) (.ref l) σ H R := by
  subst hn
  exact w_tup2 hp h
theorem w_ixM {i : Int} (h : SqL K H l xs) (h0 : 0 ≤ i) (h1 : i < xs.length) (k : ∀ v ∈ xs, Q v H) : rIxL K (.ref l) (.int i) H Q := let ⟨v, e, m⟩ := atI_lt h0 h1; w_ixL h e (k v m)
theorem tups_at {rows : List (List V)} {i : Nat} {v : V} (h : TupsAt H xs rows) (e : xs[i]? = some v) : ∃ r q, rows[i]? = some r ∧ v = .ref q ∧ H q = some (.tup r) := by
  have hi : i < rows.length := by rw [← h.1]; exact (List.getElem?_eq_some_iff.mp e).1
  obtain ⟨q, e1, e2⟩ := h.2 i rows[i] (by simp)
  rw [e] at e1
  exact ⟨rows[i], q, by simp, Option.some.inj e1, e2⟩
theorem comp_rows {te : TE} {fr : List Nat} {fvs : St} {rows : List (List V)} {F : List V → V} (hq : H l = some (.lst xs)) (tp : TupsAt H xs rows) (hz : xs.length ≤ 1000000) (hf : (fr.map fun i => (σ[i]?).getD none) = fvs)
    (turn : ∀ (q : Addr) (r : List V) (H' : Hp) (R : VK), r ∈ rows → Same H H' → H' q = some (.tup r) → (∀ H2, Same H' H2 → R (F r) H2) → te (some (.ref q) :: fvs) H' R)
    (k : ∀ p H', New H H' p (.lst (rows.map F)) → Q (.ref p) H') : CompAll (Itl K l) 1 fr (gName 0) tTrue te σ H Q := by
  refine comp_map (P := fun i y => ∃ r, rows[i]? = some r ∧ y = F r) (items_list (xs := xs)) hz hf (fun H' s => s.seq (SqL.of hq)) (fun i v H' R hv s kk => ?_) fun p H' ys n hl hP => k p H' ?_
  · obtain ⟨r, q, e1, rfl, e2⟩ := tups_at tp hv
    exact turn q r H' R (List.mem_of_getElem? e1) s (s _ _ e2) fun H2 s2 => kk _ _ s2 ⟨r, e1, rfl⟩
  · have e : ys = rows.map F := by
      apply List.ext_getElem?
      intro i
      rw [List.getElem?_map]
      by_cases hi : i < ys.length
      · obtain ⟨r, e1, e2⟩ := hP i ys[i] (by simp)
        rw [e1, List.getElem?_eq_getElem hi, e2]
        rfl
      · have : ¬ i < rows.length := by rw [← tp.1]; omega
        rw [List.getElem?_eq_none (by omega), List.getElem?_eq_none (by omega)]
        rfl
    rw [e] at n
    exact n
end
section
variable {K : PySem.W.Frag} {g : TG} {tb : TS} {D : Ends} {σ : St} {H : Hp} {tr : TA}
def ForR (lo : Int) (n : Nat) (g : TG) (tb : TS) (D : Ends) (σ : St) (H : Hp) : Prop := ∃ W : Nat → Nat → St → Hp → Prop, (∃ m, W 0 m σ H) ∧ ∀ i m σ H, W i m σ H →
  ((Itr lo n).stop i H ∧ D.nx σ H) ∨ ((Itr lo n).go i H ∧ ∃ N : St → Hp → Prop, (∀ σ' H', N σ' H' → ∃ m', m' < m ∧ W (i + 1) m' σ' H') ∧ ∀ x H', (Itr lo n).yld i H x H' → g x σ H' fun σ2 H2 => tb { D with nx := N, ct := N, bk := D.nx } σ2 H2)
theorem forR_by {lo : Int} {n : Nat} (Pv : Nat → St → Hp → Prop) (h0 : Pv 0 σ H) (hs : ∀ i σ H, i < n → Pv i σ H → g (.int (lo + i)) σ H fun σ2 H2 => tb { D with nx := Pv (i + 1), ct := Pv (i + 1), bk := D.nx } σ2 H2) (hd : ∀ σ H, Pv n σ H → D.nx σ H) : ForR lo n g tb D σ H := for_range Pv h0 hs hd
theorem w_forR1 (h : tr σ H fun vs H1 => ∃ j : Int, vs = [.int j] ∧ -(2 ^ 62) ≤ j ∧ j < 2 ^ 62 ∧ ForR 0 j.toNat g tb D σ H1) : tFor (iRng1 tr) g tb D σ H := h
theorem w_forR2 (h : tr σ H fun vs H1 => ∃ i j : Int, vs = [.int i, .int j] ∧ (-(2 ^ 62) ≤ i ∧ i < 2 ^ 62 ∧ -(2 ^ 62) ≤ j ∧ j < 2 ^ 62) ∧ ForR i (j - i).toNat g tb D σ H1) : tFor (iRng2 tr) g tb D σ H := h
def ForE (K : PySem.W.Frag) (a : Addr) (xs : List V) (g : TG) (tb : TS) (D : Ends) (σ : St) (H : Hp) : Prop := ∃ W : Nat → Nat → St → Hp → Prop, (∃ m, W 0 m σ H) ∧ ∀ i m σ H, W i m σ H →
      ((Ite K a xs).stop i H ∧ D.nx σ H) ∨ ((Ite K a xs).go i H ∧ ∃ N : St → Hp → Prop, (∀ σ' H', N σ' H' → ∃ m', m' < m ∧ W (i + 1) m' σ' H') ∧ ∀ x H', (Ite K a xs).yld i H x H' → g x σ H' fun σ2 H2 => tb { D with nx := N, ct := N, bk := D.nx } σ2 H2)
theorem w_forE (h : tr σ H fun vs H1 => ∃ a xs, vs = [.ref a] ∧ SqL K H1 a xs ∧ ForE K a xs g tb D σ H1) : tFor (iEnum K tr) g tb D σ H := h
theorem e_by {a : Addr} {xs : List V} (h : SqL K H a xs) (k : ForE K a xs g tb D σ H) : ∃ a' xs', [V.ref a] = [.ref a'] ∧ SqL K H a' xs' ∧ ForE K a' xs' g tb D σ H := ⟨a, xs, rfl, h, k⟩
theorem forE_by {a : Addr} {xs : List V} (Pv : Nat → St → Hp → Prop) (h0 : Pv 0 σ H) (hl : ∀ i σ H, i ≤ xs.length → Pv i σ H → SqL K H a xs)
    (hs : ∀ i x T σ H H', xs[i]? = some x → Pv i σ H → New H H' T (.tup [.int i, x]) → g (.ref T) σ H' fun σ2 H2 => tb { D with nx := Pv (i + 1), ct := Pv (i + 1), bk := D.nx } σ2 H2) (hd : ∀ σ H, Pv xs.length σ H → D.nx σ H) : ForE K a xs g tb D σ H := for_enum Pv h0 hl hs hd
theorem l_by {a : Addr} {xs : List V} (h : SqL K H a xs) (k : ForL K a g tb D σ H) : ∃ a', V.ref a = .ref a' ∧ (∃ xs, SqL K H a' xs) ∧ ForL K a' g tb D σ H := ⟨a, rfl, ⟨xs, h⟩, k⟩
theorem c_by {a : Addr} {xs : List V} {nt : Nat} {fr : List Nat} {c : TT} {te : TE} {Q : VK} (h : SqL K H a xs) (k : CompAll (Itl K a) nt fr g c te σ H Q) : ∃ a', V.ref a = .ref a' ∧ (∃ xs, SqL K H a' xs) ∧ CompAll (Itl K a') nt fr g c te σ H Q := ⟨a, rfl, ⟨xs, h⟩, k⟩
end
section
variable {K : PySem.W.Frag} {σ : St} {H : Hp} {Q : VK} {ta tv : TE} {t : TA} {f m : Str} {C : Addr} {sp : Sp} {E : XK} {D : Ends}
def SetF (K : PySem.W.Frag) (f : Str) (y x : V) (H : Hp) (R : Hp → Prop) : Prop := ∃ a C dx fs, x = .ref a ∧ H a = some (.ins C dx fs) ∧ Cls K C ∧ NoAttr K C f ∧ fs.length < 1000 ∧ R (upd H a (.ins C dx (putF f y fs)))
theorem go_sfldB (h : tv σ H fun y H1 => ta σ H1 fun x H2 => SetF K f y x H2 fun H3 => D.nx σ H3) : sFld K ta tv f D σ H := h
theorem w_setF {l dx : Addr} {fs : List (Str × V)} {y : V} {R : Hp → Prop} (ho : H l = some (.ins C dx fs)) (c : Cls K C) (n : NoAttr K C f) (z : fs.length < 1000) (k : ∀ H', Off l H H' → H' l = some (.ins C dx (putF f y fs)) → R H') : SetF K f y (.ref l) H R :=
  ⟨l, C, dx, fs, rfl, ho, c, n, z, k _ Off.upd upd_same⟩
def tMakeB (C : Addr) (sp : Sp) (E : XK) (t : TA) : TE := fun σ H Q => t σ H fun vs H1 => ∀ x dx H2, New H1 H2 x (.ins C dx []) → sp (.ref x :: vs) H2 (fun v H3 => v = .non ∧ Q (.ref x) H3) E
theorem go_makeB (h : t σ H fun vs H1 => ∀ x dx H2, New H1 H2 x (.ins C dx []) → sp (.ref x :: vs) H2 (fun v H3 => v = .non ∧ Q (.ref x) H3) E) : tMakeB C sp E t σ H Q := h
theorem go_methB (h : ta σ H fun x H1 => ∃ a dx fs, x = .ref a ∧ H1 a = some (.ins C dx fs) ∧ fs.lookup m = none ∧ t σ H1 fun vs H2 => sp (x :: vs) H2 Q E) : tMeth C m sp [] E ta t σ H Q := by
  have e : (fun (x : V) (H1 : Hp) => ∃ a dx fs, x = .ref a ∧ H1 a = some (.ins C dx fs) ∧ fs.lookup m = none ∧ t σ H1 fun vs H2 => sp (x :: (vs ++ [])) H2 Q E) = fun x H1 => ∃ a dx fs, x = .ref a ∧ H1 a = some (.ins C dx fs) ∧ fs.lookup m = none ∧ t σ H1 fun vs H2 => sp (x :: vs) H2 Q E := by
    simp only [List.append_nil]
  show ta σ H fun x H1 => ∃ a dx fs, x = .ref a ∧ H1 a = some (.ins C dx fs) ∧ fs.lookup m = none ∧ t σ H1 fun vs H2 => sp (x :: (vs ++ [])) H2 Q E
  rw [e]
  exact h
end
section
variable {X : Cx} {CX : CXT} {k m : Nat} {x : Str} {ps : List Str} {sp : Sp} {E : XK} {p pos : Pos} {e : Expr} {es : List Expr} {t : TA} {C : Addr}
theorem pe_makB (D : Mak X.prog X.w X.K X.mg X.base CX k x C ps sp) (hr : Room m X.A) (ha : PA X (e :: es) t) (hk : k + 1 ≤ m := by decide) (hx : Passes CX X E := by exact pass0) (hg : Gl X x := by rfl)
    (hdb : (x == ("__debug__" : Str)) = false := by decide) (he : starEach (e :: es) X.env = (false, eval e X.env) :: starEach es X.env := by rfl) (hpl : (backTo pos (starEach es X.env)).any (·.1) = false := by rfl) :
    PE X (.Call (.Name x p) (e :: es) [] pos) (tMakeB C sp E t) := by
  obtain ⟨f, fd, F, M, g, b⟩ := D.ex
  intro pins s σ H Q I h
  refine wpAny_Call_Name_kw (ld_glob I hg g ?_ hdb)
  refine PySem.W.callWith_K (h₀ := X.base) I.ok.mod.kin M.kp (thn (ha pos pins s σ H _ I h) fun us s1 ⟨vs, H1, I1, r, q⟩ => ⟨I1.kIn, ?_⟩) he hpl
  refine run_make M F (hr.mono hk) b .nil hx I1 r fun y dy h1 h2 h3 => ?_
  rw [List.append_nil]
  exact q y dy _ ⟨made_same h1 h2, upd_same, fun a u z => ne_of_none z h1⟩
end
def isFr : V → Int → Bool
  | .int i, lo => decide (lo ≤ i)
  | _, _ => false
def inB : V → Int → Int → Bool
  | .int i, lo, hi => decide (lo ≤ i) && decide (i ≤ hi)
  | _, _, _ => false
section
variable {K : PySem.W.Frag} {H : Hp} {Q : VK} {E : XK} {x : V} {n : String} {p q : Addr} {a b c lo hi : Int}
def sp_whole (K : PySem.W.Frag) : Sp := fun vs H Q _ => ∃ x n, vs = [x] ∧ TyOf K H x (.type n) ∧ Q (.bl (isW x)) H
theorem u_whole (ty : TyOf K H x (.type n)) (k : Q (.bl (isW x)) H) : sp_whole K [x] H Q E := ⟨x, n, rfl, ty, k⟩
def sp_is_from (K : PySem.W.Frag) : Sp := fun vs H Q _ => ∃ x n lo, vs = [x, .int lo] ∧ TyOf K H x (.type n) ∧ Q (.bl (isFr x lo)) H
theorem u_fromI (k : Q (.bl (decide (lo ≤ a))) H) : sp_is_from K [.int a, .int lo] H Q E := ⟨_, _, lo, rfl, .int _, k⟩
def sp_is_within (K : PySem.W.Frag) : Sp := fun vs H Q _ => ∃ x n lo hi, vs = [x, .int lo, .int hi] ∧ TyOf K H x (.type n) ∧ Q (.bl (inB x lo hi)) H
theorem u_within (ty : TyOf K H x (.type n)) (k : Q (.bl (inB x lo hi)) H) : sp_is_within K [x, .int lo, .int hi] H Q E := ⟨x, n, lo, hi, rfl, ty, k⟩
def sp_is_many (K : PySem.W.Frag) : Sp := fun vs H Q _ => ∃ x n, vs = [x] ∧ TyOf K H x (.type n) ∧ Q (.bl (inB x 16 240)) H
def sp_end_of : Sp := fun vs H Q _ => ∃ (q : Addr) (a b : Int), vs = [.ref q] ∧ H q = some (.tup [.int a, .int b]) ∧ Q (.int (a + b)) H
theorem u_end (h : H q = some (.tup [.int a, .int b])) (k : Q (.int (a + b)) H) : sp_end_of [.ref q] H Q E := ⟨q, a, b, rfl, h, k⟩
def rowsN (ws : List (Nat × Nat)) : List (List V) := ws.map fun w => [V.int (w.1 : Nat), V.int (w.2 : Nat)]
theorem rowsN_len (ws : List (Nat × Nat)) : (rowsN ws).length = ws.length := List.length_map ..
def sp_cellA (K : PySem.W.Frag) : Sp := fun vs H Q _ => ∃ (a : Addr) (ns : List Int) (k : Int), vs = [.ref a, .int k] ∧ SqL K H a (ns.map V.int) ∧ 0 ≤ k ∧ ∀ c : Int, Q (.int c) H
theorem u_cellA {ns : List Int} {m : Int} (h : SqL K H p (ns.map V.int)) (h0 : 0 ≤ m) (k : ∀ c : Int, Q (.int c) H) : sp_cellA K [.ref p, .int m] H Q E := ⟨p, ns, m, rfl, h, h0, k⟩
def sp_boxA : Sp := fun vs H Q _ => ∃ c : Int, vs = [.int c] ∧ ∀ (p : Addr) (a b : Int) (H' : Hp), New H H' p (.lst [.int a, .int b, .int 0]) → Q (.ref p) H'
theorem u_boxA (k : ∀ (p : Addr) (x y : Int) (H' : Hp), New H H' p (.lst [.int x, .int y, .int 0]) → Q (.ref p) H') : sp_boxA [.int a] H Q E := ⟨a, rfl, k⟩
def sp_takeA : Sp := fun vs H Q _ => ∃ (p : Addr) (a b c m : Int), vs = [.ref p, .int m] ∧ H p = some (.lst [.int a, .int b, .int c]) ∧ 0 < m ∧ m < 1073741824 ∧ ∀ (r a' b' c' : Int) (H' : Hp), 0 ≤ r → r < m → Off p H H' → H' p = some (.lst [.int a', .int b', .int c']) → Q (.int r) H'
theorem u_takeA {m : Int} (h : H p = some (.lst [.int a, .int b, .int c])) (m0 : 0 < m) (m1 : m < 1073741824) (k : ∀ (r a' b' c' : Int) (H' : Hp), 0 ≤ r → r < m → Off p H H' → H' p = some (.lst [.int a', .int b', .int c']) → Q (.int r) H') : sp_takeA [.ref p, .int m] H Q E :=
  ⟨p, a, b, c, m, rfl, h, m0, m1, k⟩
end
section
variable {K : PySem.W.Frag} {g : TG} {tb : TS} {D : Ends} {σ : St} {H H' : Hp} {Q : VK} {l p q : Addr} {xs ys : List V} {rows : List (List V)}
theorem forR0_by {n : Nat} (Pv : Nat → St → Hp → Prop) (h0 : Pv 0 σ H) (hs : ∀ i σ H, i < n → Pv i σ H → g (.int i) σ H fun σ2 H2 => tb { D with nx := Pv (i + 1), ct := Pv (i + 1), bk := D.nx } σ2 H2) (hd : ∀ σ H, Pv n σ H → D.nx σ H) : ForR 0 n g tb D σ H :=
  for_range Pv h0 (fun i σ H hi h => by rw [Int.zero_add]; exact hs i σ H hi h) hd
theorem TupsAt.snoc {r : List V} (h : TupsAt H ys rows) (hq : H q = some (.tup r)) : TupsAt H (ys ++ [.ref q]) (rows ++ [r]) := by
  refine ⟨by rw [List.length_append, List.length_append, h.1]; rfl, fun j s z => ?_⟩
  by_cases hj : j < rows.length
  · rw [List.getElem?_append_left hj] at z
    obtain ⟨x, e1, e2⟩ := h.2 j s z
    exact ⟨x, by rw [List.getElem?_append_left (by rw [h.1]; exact hj)]; exact e1, e2⟩
  · have hj2 : j = rows.length := by
      have := (List.getElem?_eq_some_iff.mp z).1
      rw [List.length_append, List.length_singleton] at this
      omega
    subst hj2
    rw [List.getElem?_append_right (Nat.le_refl _), Nat.sub_self] at z
    cases z
    exact ⟨q, by rw [← h.1, List.getElem?_append_right (Nat.le_refl _), Nat.sub_self]; rfl, hq⟩
theorem w_neRNil {zs : List V} (hp : H p = some (.lst ys)) (tp : TupsAt H ys rows) (hf : ∀ r ∈ rows, ∀ v ∈ r, isFlat v = true) (hq : H q = some (.lst [])) (k : Q (.bl (!decide (rows = []))) H) : rNeD K (.ref p) (.ref q) H Q :=
  ⟨_, _, rep_rows (SqL.of hp) tp hf, rep_nil (SqL.of hq), Nat.le_trans (dep_rowsL _) (by decide), by
    cases rows with
    | nil => simpa [eqDt, eqDts] using k
    | cons a t => simpa [eqDt, eqDts] using k⟩
def IsPair (H : Hp) (v : V) : Option (Nat × Nat) → Prop
  | none => v = .non
  | some w => ∃ q, v = .ref q ∧ H q = some (.tup [.int (w.1 : Nat), .int (w.2 : Nat)])
theorem IsPair.same {v : V} {o : Option (Nat × Nat)} (s : Same H H') (h : IsPair H v o) : IsPair H' v o := by
  cases o with
  | none => exact h
  | some w => obtain ⟨q, e1, e2⟩ := h; exact ⟨q, e1, s _ _ e2⟩
end
def isTup : HO → Bool
  | .tup _ => true
  | .frz _ _ => true
  | _ => false
def Tst (H H' : Hp) : Prop := ∀ q u, isTup u = true → H q = some u → H' q = some u
inductive Im where
  | tup (q : Addr) (r : List V)
  | tps (ys : List V) (rs : List (List V))
  | fct (φ : Hp → Prop) (st : ∀ H H', Tst H H' → φ H → φ H')
def Im.holds (H : Hp) : Im → Prop
  | .tup q r => H q = some (.tup r)
  | .tps ys rs => TupsAt H ys rs
  | .fct φ _ => φ H
theorem Im.stay {H H' : Hp} (t : Tst H H') : ∀ {f : Im}, f.holds H → f.holds H'
  | .tup q r, h => t q _ rfl h
  | .tps ys rs, h => ⟨h.1, fun j r e => let ⟨q, a, b⟩ := h.2 j r e; ⟨q, a, t q _ rfl b⟩⟩
  | .fct φ st, h => st H H' t h
class SH (H0 : outParam Hp) (M : outParam (List Addr)) (H : Hp) (L : outParam (List (Addr × HO))) (I : outParam (List Im)) : Prop where
  fr : ∀ b u, b ∉ M → H0 b = some u → H b = some u
  im : ∀ f ∈ I, f.holds H
  at' : ∀ c ∈ L, H c.1 = some c.2
  nd : (L.map (·.1)).Nodup
  mu : ∀ c ∈ L, isTup c.2 = false
  ch : ∀ c ∈ L, c.1 ∈ M ∨ ∀ b u, H0 b = some u → b ≠ c.1
inductive Up (l : Addr) (o' : HO) : List (Addr × HO) → List (Addr × HO) → Prop
  | head {o : HO} {L : List (Addr × HO)} : Up l o' ((l, o) :: L) ((l, o') :: L)
  | tail {c : Addr × HO} {L L' : List (Addr × HO)} (h : Up l o' L L') : Up l o' (c :: L) (c :: L')
theorem Up.keys {l : Addr} {o' : HO} {L L' : List (Addr × HO)} (h : Up l o' L L') : L'.map (·.1) = L.map (·.1) := by
  induction h with
  | head => rfl
  | tail h ih => rw [List.map_cons, List.map_cons, ih]
theorem Up.mem {l : Addr} {o' : HO} {L L' : List (Addr × HO)} (h : Up l o' L L') : l ∈ L.map (·.1) := by
  induction h with
  | head => exact List.mem_cons_self
  | tail h ih => exact List.mem_cons_of_mem _ ih
theorem Up.each {l : Addr} {o' : HO} {L L' : List (Addr × HO)} (h : Up l o' L L') (nd : (L.map (·.1)).Nodup) : ∀ c ∈ L', c = (l, o') ∨ (c ∈ L ∧ c.1 ≠ l) := by
  induction h with
  | @head o L =>
    intro c hc
    rcases List.mem_cons.mp hc with rfl | hc
    · exact .inl rfl
    · refine .inr ⟨List.mem_cons_of_mem _ hc, fun z => ?_⟩
      rw [List.map_cons] at nd
      exact (List.nodup_cons.mp nd).1 (by show l ∈ _; rw [← z]; exact List.mem_map_of_mem (f := (·.1)) hc)
  | @tail d L L' h ih =>
    intro c hc
    rw [List.map_cons] at nd
    have nd' := List.nodup_cons.mp nd
    rcases List.mem_cons.mp hc with rfl | hc
    · exact .inr ⟨List.mem_cons_self, fun z => nd'.1 (z ▸ h.mem)⟩
    · rcases ih nd'.2 c hc with e | ⟨e1, e2⟩
      · exact .inl e
      · exact .inr ⟨List.mem_cons_of_mem _ e1, e2⟩
theorem Up.src {l : Addr} {o' : HO} {L L' : List (Addr × HO)} (h : Up l o' L L') : ∃ o, (l, o) ∈ L := by
  induction h with
  | head => exact ⟨_, List.mem_cons_self⟩
  | tail h ih => obtain ⟨o, ho⟩ := ih; exact ⟨o, List.mem_cons_of_mem _ ho⟩
inductive Pk (c : Addr × HO) : List (Addr × HO) → List (Addr × HO) → Prop
  | head {L : List (Addr × HO)} : Pk c (c :: L) L
  | tail {d : Addr × HO} {L R : List (Addr × HO)} (h : Pk c L R) : Pk c (d :: L) (d :: R)
inductive Sb : List (Addr × HO) → List (Addr × HO) → Prop
  | nil {L : List (Addr × HO)} : Sb [] L
  | cons {c : Addr × HO} {L' L R : List (Addr × HO)} (h : Pk c L R) (t : Sb L' R) : Sb (c :: L') L
theorem Pk.mem {c : Addr × HO} {L R : List (Addr × HO)} (h : Pk c L R) : c ∈ L ∧ ∀ d ∈ R, d ∈ L := by
  induction h with
  | head => exact ⟨List.mem_cons_self, fun d hd => List.mem_cons_of_mem _ hd⟩
  | tail h ih =>
    refine ⟨List.mem_cons_of_mem _ ih.1, fun d hd => ?_⟩
    rcases List.mem_cons.mp hd with rfl | hd
    · exact List.mem_cons_self
    · exact List.mem_cons_of_mem _ (ih.2 d hd)
theorem Pk.nd {c : Addr × HO} {L R : List (Addr × HO)} (h : Pk c L R) (nd : (L.map (·.1)).Nodup) : (R.map (·.1)).Nodup ∧ ∀ d ∈ R, d.1 ≠ c.1 := by
  induction h with
  | head =>
    rw [List.map_cons] at nd
    have := List.nodup_cons.mp nd
    exact ⟨this.2, fun d hd z => this.1 (z ▸ List.mem_map_of_mem hd)⟩
  | @tail d L R h ih =>
    rw [List.map_cons] at nd
    have nd' := List.nodup_cons.mp nd
    obtain ⟨i1, i2⟩ := ih nd'.2
    refine ⟨by
      rw [List.map_cons, List.nodup_cons]
      refine ⟨fun z => ?_, i1⟩
      obtain ⟨x, hx, ex⟩ := List.mem_map.mp z
      exact nd'.1 (ex ▸ List.mem_map_of_mem (h.mem.2 x hx)), fun x hx => ?_⟩
    rcases List.mem_cons.mp hx with rfl | hx
    · exact fun z => nd'.1 (z ▸ List.mem_map_of_mem h.mem.1)
    · exact i2 x hx
theorem Sb.mem {L' L : List (Addr × HO)} (h : Sb L' L) : ∀ c ∈ L', c ∈ L := by
  induction h with
  | nil => intro c hc; cases hc
  | cons h t ih =>
    intro c hc
    rcases List.mem_cons.mp hc with rfl | hc
    · exact h.mem.1
    · exact h.mem.2 c (ih c hc)
theorem Sb.nd {L' L : List (Addr × HO)} (h : Sb L' L) : (L.map (·.1)).Nodup → (L'.map (·.1)).Nodup := by
  induction h with
  | nil => intro _; exact List.nodup_nil
  | cons h t ih =>
    intro nd
    obtain ⟨n1, n2⟩ := h.nd nd
    rw [List.map_cons, List.nodup_cons]
    refine ⟨fun z => ?_, ih n1⟩
    obtain ⟨x, hx, ex⟩ := List.mem_map.mp z
    exact n2 x (t.mem x hx) ex
section
variable {H0 H H' : Hp} {M : List Addr} {L L' : List (Addr × HO)} {I I' : List Im} {p q l a : Addr} {o o' u : HO} {xs ys r : List V} {rs : List (List V)} {K : PySem.W.Frag}
theorem SH.nil : SH H M H [] [] := ⟨fun _ _ _ h => h, (fun _ h => by cases h), (fun _ h => by cases h), List.nodup_nil, (fun _ h => by cases h), (fun _ h => by cases h)⟩
theorem SH.addM (F : SH H0 M H0 L I) (hm : p ∈ M) (h : H0 p = some o) (ht : isTup o = false) (ne : ∀ c ∈ L, c.1 ≠ p) : SH H0 M H0 ((p, o) :: L) I := by
  refine ⟨F.fr, F.im, ?_, ?_, ?_, ?_⟩
  · intro c hc
    rcases List.mem_cons.mp hc with rfl | hc
    · exact h
    · exact F.at' c hc
  · rw [List.map_cons, List.nodup_cons]
    refine ⟨fun z => ?_, F.nd⟩
    obtain ⟨x, hx, ex⟩ := List.mem_map.mp z
    exact ne x hx ex
  · intro c hc
    rcases List.mem_cons.mp hc with rfl | hc
    · exact ht
    · exact F.mu c hc
  · intro c hc
    rcases List.mem_cons.mp hc with rfl | hc
    · exact .inl hm
    · exact F.ch c hc
theorem SH.addT (F : SH H0 M H L I) (h : H q = some (.tup r)) : SH H0 M H L (.tup q r :: I) := ⟨F.fr, fun f hf => by
  rcases List.mem_cons.mp hf with rfl | hf
  · exact h
  · exact F.im f hf, F.at', F.nd, F.mu, F.ch⟩
theorem SH.addP (F : SH H0 M H L I) (h : TupsAt H ys rs) : SH H0 M H L (.tps ys rs :: I) := ⟨F.fr, fun f hf => by
  rcases List.mem_cons.mp hf with rfl | hf
  · exact h
  · exact F.im f hf, F.at', F.nd, F.mu, F.ch⟩
theorem SH.addF {φ : Hp → Prop} {st : ∀ H H', Tst H H' → φ H → φ H'} (F : SH H0 M H L I) (h : φ H) : SH H0 M H L (.fct φ st :: I) := ⟨F.fr, fun f hf => by
  rcases List.mem_cons.mp hf with rfl | hf
  · exact h
  · exact F.im f hf, F.at', F.nd, F.mu, F.ch⟩
theorem SH.same (F : SH H0 M H L I) (s : Same H H') : SH H0 M H' L I := ⟨fun b u n e => s b u (F.fr b u n e), fun f hf => Im.stay (fun q u _ e => s q u e) (F.im f hf), fun c hc => s _ _ (F.at' c hc), F.nd, F.mu, F.ch⟩
theorem SH.newT (F : SH H0 M H L I) (n : New H H' q (.tup r)) : SH H0 M H' L (.tup q r :: I) := (F.same n.s).addT n.e
theorem SH.newO (F : SH H0 M H L I) (n : New H H' p o) (ht : isTup o = false) : SH H0 M H' ((p, o) :: L) I := by
  have F' := F.same n.s
  refine ⟨F'.fr, F'.im, ?_, ?_, ?_, ?_⟩
  · intro c hc
    rcases List.mem_cons.mp hc with rfl | hc
    · exact n.e
    · exact F'.at' c hc
  · rw [List.map_cons, List.nodup_cons]
    refine ⟨fun z => ?_, F.nd⟩
    obtain ⟨x, hx, ex⟩ := List.mem_map.mp z
    exact n.n _ _ (F.at' x hx) ex
  · intro c hc
    rcases List.mem_cons.mp hc with rfl | hc
    · exact ht
    · exact F.mu c hc
  · intro c hc
    rcases List.mem_cons.mp hc with rfl | hc
    · by_cases hm : p ∈ M
      · exact .inl hm
      · exact .inr fun b u e z => by
          by_cases hb : b ∈ M
          · exact hm (by have z' : b = p := z; rw [← z']; exact hb)
          · exact n.n b u (F.fr b u hb e) z
    · exact F.ch c hc
theorem SH.newL (F : SH H0 M H L I) (n : New H H' p (.lst xs)) : SH H0 M H' ((p, .lst xs) :: L) I := F.newO n rfl
theorem SH.newI {C dx : Addr} {fs : List (Str × V)} (F : SH H0 M H L I) (n : New H H' p (.ins C dx fs)) : SH H0 M H' ((p, .ins C dx fs) :: L) I := F.newO n rfl
theorem SH.newR (F : SH H0 M H L I) (n : New H H' p (.lst ys)) (t : TupsAt H' ys rs) : SH H0 M H' ((p, .lst ys) :: L) (.tps ys rs :: I) := (F.newL n).addP t
theorem SH.kp (F : SH H0 M H L I) (k : Kp l H H') (e : H' l = some o') (u : Up l o' L L') (ht : isTup o' = false := by rfl) : SH H0 M H' L' I := by
  obtain ⟨o, ho⟩ := u.src
  have hl := F.at' _ ho
  have hu := F.mu _ ho
  refine ⟨fun b w nb e0 => k b w (fun z => ?_) (F.fr b w nb e0), fun f hf => Im.stay (fun q v hv e1 => k q _ (fun z => ?_) e1) (F.im f hf), fun c hc => ?_, by rw [u.keys]; exact F.nd, fun c hc => ?_, fun c hc => ?_⟩
  · rcases F.ch _ ho with h | h
    · exact nb (by rw [z]; exact h)
    · exact h b w e0 z
  · rw [z, hl] at e1
    cases e1
    rw [hu] at hv
    cases hv
  · rcases u.each F.nd c hc with rfl | ⟨h1, h2⟩
    · exact e
    · exact k _ _ h2 (F.at' c h1)
  · rcases u.each F.nd c hc with rfl | ⟨h1, h2⟩
    · exact ht
    · exact F.mu c h1
  · rcases u.each F.nd c hc with rfl | ⟨h1, h2⟩
    · exact F.ch (l, o) ho
    · exact F.ch c h1
theorem SH.offL (F : SH H0 M H L I) (f : Off l H H') (e : H' l = some (.lst xs)) (u : Up l (.lst xs) L L') : SH H0 M H' L' I := F.kp f.kp e u rfl
theorem SH.kpL (F : SH H0 M H L I) (f : Kp l H H') (e : H' l = some (.lst xs)) (u : Up l (.lst xs) L L') : SH H0 M H' L' I := F.kp f e u rfl
theorem SH.offI {C dx : Addr} {fs : List (Str × V)} (F : SH H0 M H L I) (f : Off l H H') (e : H' l = some (.ins C dx fs)) (u : Up l (.ins C dx fs) L L') : SH H0 M H' L' I := F.kp f.kp e u rfl
theorem SH.raw (F : SH H0 M H L I) (m : (a, o) ∈ L) : H a = some o := F.at' _ m
theorem SH.tup (F : SH H0 M H L I) (m : .tup q r ∈ I) : H q = some (.tup r) := F.im _ m
theorem SH.tps (F : SH H0 M H L I) (m : .tps ys rs ∈ I) : TupsAt H ys rs := F.im _ m
theorem SH.old (F : SH H0 M H L I) (h : H0 a = some u) (n : a ∉ M) : H a = some u := F.fr a u n h
theorem SH.sq (F : SH H0 M H L I) (h : SqL K H0 a xs) (n : a ∉ M) : SqL K H a xs := by
  rcases h with (h | ⟨o, h⟩) | h
  · exact .inl (.inl (F.fr a _ n h))
  · exact .inl (.inr ⟨o, F.fr a _ n h⟩)
  · exact .inr h
theorem SH.sub (F : SH H0 M H L I) (s : Sb L' L) (t : ∀ f ∈ I', f ∈ I) : SH H0 M H L' I' := ⟨F.fr, fun f hf => F.im f (t f hf), fun c hc => F.at' c (s.mem c hc), s.nd F.nd, fun c hc => F.mu c (s.mem c hc), fun c hc => F.ch c (s.mem c hc)⟩
theorem SH.sm (F : SH H0 [] H L I) : Same H0 H := fun b u e => F.fr b u List.not_mem_nil e
theorem SH.kpo (F : SH H0 [p] H L I) : Kp p H0 H := fun b u n e => F.fr b u (fun z => n (List.mem_singleton.mp z)) e
theorem SH.nw (F : SH H0 [] H L I) (m : (q, o) ∈ L) : New H0 H q o := ⟨F.sm, F.at' _ m, fun b u e => by
  rcases F.ch _ m with h | h
  · exact absurd h List.not_mem_nil
  · exact h b u e⟩
theorem SH.fresh (F : SH H0 M H L I) (m : (q, o) ∈ L) (n : q ∉ M) : ∀ b u, H0 b = some u → b ≠ q := fun b u e => by
  rcases F.ch _ m with h | h
  · exact absurd h n
  · exact h b u e
theorem nm0 : a ∉ ([] : List Addr) := List.not_mem_nil
theorem nm1 (h : a ≠ p) : a ∉ [p] := fun z => h (List.mem_singleton.mp z)
theorem SH.app (F : SH H0 M H L I) (m : .tps ys rs ∈ I) (m' : .tup q r ∈ I) : SH H0 M H L (.tps (ys ++ [.ref q]) (rs ++ [r]) :: I) := F.addP ((F.tps m).snoc (F.tup m'))
end
class Go (G : Prop) (G' : outParam Prop) : Prop where
  go : G' → G
theorem go1 {G G' : Prop} [h : Go G G'] (k : G') : G := h.go k
class LkL (L : List (Addr × HO)) (a : Addr) (o : outParam HO) : Prop where
  m : (a, o) ∈ L
class LkI (I : List Im) (a : Addr) (r : outParam (List V)) : Prop where
  m : .tup a r ∈ I
class LkP (I : List Im) (ys : List V) (rs : outParam (List (List V))) : Prop where
  m : .tps ys rs ∈ I
class LkU (L : List (Addr × HO)) (l : Addr) (o : HO) (L' : outParam (List (Addr × HO))) : Prop where
  u : Up l o L L'
class Old (H0 : Hp) (M : List Addr) (a : Addr) (o : outParam HO) : Prop where
  e : H0 a = some o
  n : a ∉ M
class OldQ (K : PySem.W.Frag) (H0 : Hp) (M : List Addr) (a : Addr) (xs : outParam (List V)) : Prop where
  e : SqL K H0 a xs
  n : a ∉ M
class OldP (H0 : Hp) (ys : List V) (rs : outParam (List (List V))) : Prop where
  e : TupsAt H0 ys rs
class Hat (H : Hp) (a : Addr) (o : outParam HO) : Prop where
  e : H a = some o
class SqA (K : PySem.W.Frag) (H : Hp) (a : Addr) (xs : outParam (List V)) : Prop where
  e : SqL K H a xs
class SqB (K : PySem.W.Frag) (H : Hp) (a : Addr) (xs : outParam (List V)) : Prop where
  e : SqT K H a xs
class TpA (H : Hp) (ys : List V) (rs : outParam (List (List V))) : Prop where
  e : TupsAt H ys rs
class AtI (xs : List V) (i : Int) (v : outParam V) : Prop where
  e : atI xs i = some v
section
variable {H0 H H' : Hp} {M : List Addr} {L L' : List (Addr × HO)} {I : List Im} {a p l : Addr} {o o' : HO} {c : Addr × HO} {f : Im} {r xs ys : List V} {rs : List (List V)} {K : PySem.W.Frag} {v v0 v1 v2 v3 : V}
instance lkL1 [h : LkL L a o] : LkL (c :: L) a o := ⟨List.mem_cons_of_mem _ h.m⟩
instance lkL0 : LkL ((a, o) :: L) a o := ⟨List.mem_cons_self⟩
instance lkI1 [h : LkI I a r] : LkI (f :: I) a r := ⟨List.mem_cons_of_mem _ h.m⟩
instance lkI0 : LkI (.tup a r :: I) a r := ⟨List.mem_cons_self⟩
instance lkP1 [h : LkP I ys rs] : LkP (f :: I) ys rs := ⟨List.mem_cons_of_mem _ h.m⟩
instance lkP0 : LkP (.tps ys rs :: I) ys rs := ⟨List.mem_cons_self⟩
instance lkU1 [h : LkU L l o L'] : LkU (c :: L) l o (c :: L') := ⟨.tail h.u⟩
instance lkU0 : LkU ((l, o') :: L) l o ((l, o) :: L) := ⟨.head⟩
instance hat_old [F : SH H0 M H L I] [h : Old H0 M a o] : Hat H a o := ⟨F.fr a o h.n h.e⟩
instance hat_tup [F : SH H0 M H L I] [h : LkI I a r] : Hat H a (.tup r) := ⟨F.tup h.m⟩
instance hat_lst [F : SH H0 M H L I] [h : LkL L a o] : Hat H a o := ⟨F.raw h.m⟩
instance sqA_old [F : SH H0 M H L I] [h : OldQ K H0 M a xs] : SqA K H a xs := ⟨F.sq h.e h.n⟩
instance sqA_hat [h : Hat H a (.lst xs)] : SqA K H a xs := ⟨.of h.e⟩
instance sqB_hat [h : Hat H a (.tup xs)] : SqB K H a xs := ⟨.of h.e⟩
instance tpA_old {H0 : Hp} {L : List (Addr × HO)} {I : List Im} [F : SH H0 [] H L I] [h : OldP H0 ys rs] : TpA H ys rs := ⟨h.e.same F.sm⟩
instance tpA_tps [F : SH H0 M H L I] [h : LkP I ys rs] : TpA H ys rs := ⟨F.tps h.m⟩
instance at0 : AtI (v :: r) 0 v := ⟨atI_0⟩
instance at1 : AtI (v0 :: v :: r) 1 v := ⟨atL1⟩
instance at2 : AtI (v0 :: v1 :: v :: r) 2 v := ⟨atL2⟩
instance at3 : AtI (v0 :: v1 :: v2 :: v :: r) 3 v := ⟨atL3⟩
variable {Z : Addr → Hp → Prop} {R : Hp → Prop} {C dx : Addr} {fs : List (Str × V)}
instance nx_tup [F : SH H0 M H L I] : Go (∀ p H', New H H' p (.tup xs) → Z p H') (∀ H' p, SH H0 M H' L (.tup p xs :: I) → Z p H') := ⟨fun k p H' n => k H' p (F.newT n)⟩
instance nx_lst [F : SH H0 M H L I] : Go (∀ p H', New H H' p (.lst xs) → Z p H') (∀ H' p, SH H0 M H' ((p, .lst xs) :: L) I → Z p H') := ⟨fun k p H' n => k H' p (F.newL n)⟩
instance nx_off [F : SH H0 M H L I] [u : LkU L l (.lst xs) L'] : Go (∀ H', Off l H H' → H' l = some (.lst xs) → R H') (∀ H', SH H0 M H' L' I → R H') := ⟨fun k H' f e => k H' (F.offL f e u.u)⟩
instance nx_offI [F : SH H0 M H L I] [u : LkU L l (.ins C dx fs) L'] : Go (∀ H', Off l H H' → H' l = some (.ins C dx fs) → R H') (∀ H', SH H0 M H' L' I → R H') := ⟨fun k H' f e => k H' (F.offI f e u.u)⟩
instance nx_kp [F : SH H0 M H L I] [u : LkU L l (.lst xs) L'] : Go (∀ H', Kp l H H' → H' l = some (.lst xs) → R H') (∀ H', SH H0 M H' L' I → R H') := ⟨fun k H' f e => k H' (F.kpL f e u.u)⟩
instance nx_same [F : SH H0 M H L I] : Go (∀ H', Same H H' → R H') (∀ H', SH H0 M H' L I → R H') := ⟨fun k H' s => k H' (F.same s)⟩
def Sd (A B : Prop) : Prop := A ∧ B
theorem sd {A B : Prop} (a : A) (b : B) : Sd A B := ⟨a, b⟩
class FldOk (K : PySem.W.Frag) (C : Addr) (f : Str) : Prop where
  c : Cls K C
  n : NoAttr K C f
class FLk (fs : List (Str × V)) (f : Str) (v : outParam V) : Prop where
  e : fs.lookup f = some v
class FNo (fs : List (Str × V)) (f : Str) : Prop where
  e : fs.lookup f = none
theorem SH.nwC {H0 : Hp} {L : List (Addr × HO)} {I : List Im} [F : SH H0 [] H L I] [h : LkL L p o] : New H0 H p o := F.nw h.m
theorem hatC [h : Hat H a o] : H a = some o := h.e
variable {Q : VK} {E : XK} {R' : Prop} {σ : St} {i j : Int} {f m : Str} {y : V} {b : Addr} {lo hi : Option Int}
instance nx_ins [F : SH H0 M H L I] {Z : Addr → Addr → Hp → Prop} : Go (∀ x dx H', New H H' x (.ins C dx []) → Z x dx H') (∀ H' x dx, SH H0 M H' ((x, .ins C dx []) :: L) I → Z x dx H') := ⟨fun k p dx H' n => k H' p dx (F.newI n)⟩
instance go_made {n : Nat} : Go (n ≤ sizeLine ∧ ∀ p H', New H H' p o → Z p H') (Sd (n ≤ sizeLine) (∀ p H', New H H' p o → Z p H')) := ⟨id⟩
instance go_isTT [h : Hat H l (.tup xs)] : Go (rIsT K [.ref l, .ty "tuple"] H Q) (Q (.bl true) H) := ⟨w_isTT h.e⟩
instance go_isLL [h : Hat H l (.lst xs)] : Go (rIsT K [.ref l, .ty "list"] H Q) (Q (.bl true) H) := ⟨w_isLL h.e⟩
instance go_lenT [h : SqB K H l xs] : Go (rLen K [.ref l] H Q) (Q (.int xs.length) H) := ⟨w_lenT h.e⟩
instance go_lenL [h : SqA K H l xs] : Go (rLen K [.ref l] H Q) (Q (.int xs.length) H) := ⟨w_lenL h.e⟩
instance go_ixL [h : SqA K H l xs] [e : AtI xs i v] : Go (rIxL K (.ref l) (.int i) H Q) (Q v H) := ⟨w_ixL h.e e.e⟩
instance go_ixT [h : SqB K H l xs] [e : AtI xs i v] : Go (rIxT K (.ref l) (.int i) H Q) (Q v H) := ⟨w_ixT h.e e.e⟩
instance go_tyL [h : SqA K H l xs] : Go (tyV K "list" (.ref l) H ∧ R') R' := ⟨w_tyL h.e⟩
instance go_app [h : Hat H l (.lst xs)] : Go (rAppA (.ref l) [y] H Q) (Sd (xs.length < sizeLine) (∀ H', Off l H H' → H' l = some (.lst (xs ++ [y])) → Q .non H')) := ⟨fun s => w_app h.e s.1 s.2⟩
instance go_ext [h : Hat H l (.lst xs)] [h2 : Hat H b (.lst ys)] : Go (rExtA (.ref l) [.ref b] H Q) (Sd (xs.length + ys.length ≤ sizeLine) (∀ H', Off l H H' → H' l = some (.lst (xs ++ ys)) → Q .non H')) := ⟨fun s => w_ext h.e h2.e s.1 s.2⟩
instance go_slA [h : SqA K H l xs] : Go (rSlA K (.ref l) lo hi H Q) (∀ p H', New H H' p (.lst (cutV xs lo hi)) → Q (.ref p) H') := ⟨w_slA h.e⟩
instance go_catA [h : Hat H l (.lst xs)] [h2 : Hat H b (.lst ys)] : Go (rCatA (.ref l) (.ref b) H Q) (Sd (xs.length + ys.length ≤ sizeLine) (∀ p H', New H H' p (.lst (xs ++ ys)) → Q (.ref p) H')) := ⟨fun s => w_catA h.e h2.e s.1 s.2⟩
instance go_lofL [h : SqA K H l xs] : Go (rLOfA K [.ref l] H Q) (∀ p H', New H H' p (.lst xs) → Q (.ref p) H') := ⟨w_lofL h.e⟩
instance go_tup2 {n i0 i1 : Nat} {a b : V} {R : St → Hp → Prop} [h : SqB K H l [a, b]] : Go (gTup K n (gCons (gName i0) (gCons (gName i1) gNil)) (.ref l) σ H R) (Sd (n = 2) (gName i0 a σ H fun σ1 H1 => gName i1 b σ1 H1 R)) := ⟨fun s => w_tupB s.1 h.e s.2⟩
instance go_mod {f : Int → Int → V} : Go (rI (fun _ j => 0 < j) f (.int i) (.int j) H Q) (Sd (0 < j) (Q (f i j) H)) := ⟨fun s => w_mod s.1 s.2⟩
instance go_div {f : Int → Int → V} : Go (rI CDiv f (.int i) (.int j) H Q) (Sd (0 < j ∧ j < 1073741824) (Q (f i j) H)) := ⟨fun s => w_div s.1.1 s.1.2 s.2⟩
instance go_mul {f : Int → Int → V} : Go (rI CMul f (.int i) (.int j) H Q) (Sd ((-(2 ^ 64) < i ∧ i < 2 ^ 64) ∨ (-(2 ^ 64) < j ∧ j < 2 ^ 64)) (Q (f i j) H)) := ⟨fun s => s.1.elim (fun h => w_mulL h.1 h.2 s.2) (fun h => w_mulR h.1 h.2 s.2)⟩
instance go_w_fld [h : Hat H a (.ins C dx fs)] [k : FldOk K C f] [e : FLk fs f v] {R : V → Prop} : Go (∃ a' C' dx' fs' v', V.ref a = .ref a' ∧ H a' = some (.ins C' dx' fs') ∧ Cls K C' ∧ NoAttr K C' f ∧ fs'.lookup f = some v' ∧ R v') (R v) := ⟨w_fld h.e k.c k.n e.e⟩
instance go_w_meth [h : Hat H l (.ins C dx fs)] [e : FNo fs m] : Go (∃ a' dx' fs', V.ref l = .ref a' ∧ H a' = some (.ins C dx' fs') ∧ fs'.lookup m = none ∧ R') R' := ⟨w_meth h.e e.e⟩
instance go_setF [h : Hat H l (.ins C dx fs)] [k : FldOk K C f] : Go (SetF K f y (.ref l) H R) (Sd (fs.length < 1000) (∀ H', Off l H H' → H' l = some (.ins C dx (putF f y fs)) → R H')) := ⟨fun s => w_setF h.e k.c k.n s.1 s.2⟩
end
instance go_go_seq {σ : L2.St} {H : Hp} {D : Ends} {s u : TS} : Go (tSeq s u D σ H) (s (Ends.mk (u D) (Ends.rt D) (Ends.bk D) (Ends.ct D)) σ H) := ⟨go_seq⟩
instance go_go_asg {σ : L2.St} {H : Hp} {t : TE} {D : Ends} {tg : TG} : Go (tAsg t tg D σ H) ((t σ H fun (x : V) (H1 : Hp) ↦ tg x σ H1 (Ends.nx D))) := ⟨go_asg⟩
instance go_go_ret {σ : L2.St} {H : Hp} {t : TE} {D : Ends} : Go (tRet t D σ H) (t σ H (Ends.rt D)) := ⟨go_ret⟩
instance go_go_if {σ : L2.St} {H : Hp} {D : Ends} {s u : TS} {c : TT} : Go (tIfS c s u D σ H) ((c σ H fun (b : Bool) (H1 : Hp) ↦ if b = true then s D σ H1 else u D σ H1)) := ⟨go_if⟩
instance go_go_drop {σ : L2.St} {H : Hp} {t : TE} {D : Ends} : Go (tDrop t D σ H) ((t σ H fun (x : V) (H1 : Hp) ↦ Ends.nx D σ H1)) := ⟨go_drop⟩
instance go_go_next {σ : L2.St} {H : Hp} {D : Ends} : Go (tNext D σ H) (Ends.nx D σ H) := ⟨go_next⟩
instance go_go_nx {σ : L2.St} {H : Hp} {nx bk ct : L2.St → Hp → Prop} {rt : VK} : Go (Ends.nx (Ends.mk nx rt bk ct) σ H) (nx σ H) := ⟨go_nx⟩
instance go_w_rt {H : Hp} {v : V} {nx bk ct : L2.St → Hp → Prop} {rt : VK} : Go (Ends.rt (Ends.mk nx rt bk ct) v H) (rt v H) := ⟨w_rt⟩
instance go_go_test {σ : L2.St} {H : Hp} {t : TE} {Q : Bool → Hp → Prop} : Go (tTest t σ H Q) ((t σ H fun (x : V) (H' : Hp) ↦ ∃ (k : Bool), x = V.bl k ∧ Q k H')) := ⟨go_test⟩
instance go_go_b {σ : L2.St} {H : Hp} {t : TE} {Q : Bool → Hp → Prop} : Go (tB t σ H Q) ((t σ H fun (x : V) (H' : Hp) ↦ ∃ (k : Bool), x = V.bl k ∧ Q k H')) := ⟨go_b⟩
instance go_go_op {σ : L2.St} {H : Hp} {ta tb : TE} {Q : VK} {r : R2} : Go (tOp r ta tb σ H Q) ((ta σ H fun (x : V) (H1 : Hp) ↦ tb σ H1 fun (y : V) (H2 : Hp) ↦ r x y H2 Q)) := ⟨go_op⟩
instance go_go_cb {σ : L2.St} {H : Hp} {tr : TA} {Q : VK} {r : List V → Hp → VK → Prop} : Go (tCB r tr σ H Q) ((tr σ H fun (vs : List V) (H1 : Hp) ↦ r vs H1 Q)) := ⟨go_cb⟩
instance go_go_cons {σ : L2.St} {H : Hp} {t : TE} {tr : TA} {Q : List V → Hp → Prop} : Go (tCons t tr σ H Q) ((t σ H fun (x : V) (H1 : Hp) ↦ tr σ H1 fun (xs : List V) (H2 : Hp) ↦ Q (x :: xs) H2)) := ⟨go_cons⟩
instance go_go_nil {σ : L2.St} {H : Hp} {Q : List V → Hp → Prop} : Go (tNil σ H Q) (Q [] H) := ⟨go_nil⟩
instance go_w_call {σ : L2.St} {H : Hp} {Q : VK} {tr : TA} {sp : Sp} {E : XK} : Go (tCall sp [] E tr σ H Q) ((tr σ H fun (vs : List V) (H1 : Hp) ↦ sp vs H1 Q E)) := ⟨w_call⟩
instance go_w_c {σ : L2.St} {H : Hp} {Q : VK} {v : V} : Go (tC v σ H Q) (Q v H) := ⟨w_c⟩
instance go_wv0 {H : Hp} {Q : VK} {v : V} {r : L2.St} : Go (tVar 0 (some v :: r) H Q) (Q v H) := ⟨wv0⟩
instance go_wv1 {H : Hp} {Q : VK} {v : V} {o0 : Option V} {r : L2.St} : Go (tVar 1 (o0 :: some v :: r) H Q) (Q v H) := ⟨wv1⟩
instance go_wv2 {H : Hp} {Q : VK} {v : V} {o0 o1 : Option V} {r : L2.St} : Go (tVar 2 (o0 :: o1 :: some v :: r) H Q) (Q v H) := ⟨wv2⟩
instance go_wv3 {H : Hp} {Q : VK} {v : V} {o0 o1 o2 : Option V} {r : L2.St} : Go (tVar 3 (o0 :: o1 :: o2 :: some v :: r) H Q) (Q v H) := ⟨wv3⟩
instance go_wv4 {H : Hp} {Q : VK} {v : V} {o0 o1 o2 o3 : Option V} {r : L2.St} : Go (tVar 4 (o0 :: o1 :: o2 :: o3 :: some v :: r) H Q) (Q v H) := ⟨wv4⟩
instance go_wv5 {H : Hp} {Q : VK} {v : V} {o0 o1 o2 o3 o4 : Option V} {r : L2.St} : Go (tVar 5 (o0 :: o1 :: o2 :: o3 :: o4 :: some v :: r) H Q) (Q v H) := ⟨wv5⟩
instance go_wv6 {H : Hp} {Q : VK} {v : V} {o0 o1 o2 o3 o4 o5 : Option V} {r : L2.St} : Go (tVar 6 (o0 :: o1 :: o2 :: o3 :: o4 :: o5 :: some v :: r) H Q) (Q v H) := ⟨wv6⟩
instance go_wv7 {H : Hp} {Q : VK} {v : V} {o0 o1 o2 o3 o4 o5 o6 : Option V} {r : L2.St} : Go (tVar 7 (o0 :: o1 :: o2 :: o3 :: o4 :: o5 :: o6 :: some v :: r) H Q) (Q v H) := ⟨wv7⟩
instance go_wv8 {H : Hp} {Q : VK} {v : V} {o0 o1 o2 o3 o4 o5 o6 o7 : Option V} {r : L2.St} : Go (tVar 8 (o0 :: o1 :: o2 :: o3 :: o4 :: o5 :: o6 :: o7 :: some v :: r) H Q) (Q v H) := ⟨wv8⟩
instance go_wv9 {H : Hp} {Q : VK} {v : V} {o0 o1 o2 o3 o4 o5 o6 o7 o8 : Option V} {r : L2.St} : Go (tVar 9 (o0 :: o1 :: o2 :: o3 :: o4 :: o5 :: o6 :: o7 :: o8 :: some v :: r) H Q) (Q v H) := ⟨wv9⟩
instance go_wv10 {H : Hp} {Q : VK} {v : V} {o0 o1 o2 o3 o4 o5 o6 o7 o8 o9 : Option V} {r : L2.St} : Go (tVar 10 (o0 :: o1 :: o2 :: o3 :: o4 :: o5 :: o6 :: o7 :: o8 :: o9 :: some v :: r) H Q) (Q v H) := ⟨wv10⟩
instance go_wv11 {H : Hp} {Q : VK} {v : V} {o0 o1 o2 o3 o4 o5 o6 o7 o8 o9 o10 : Option V} {r : L2.St} : Go (tVar 11 (o0 :: o1 :: o2 :: o3 :: o4 :: o5 :: o6 :: o7 :: o8 :: o9 :: o10 :: some v :: r) H Q) (Q v H) := ⟨wv11⟩
instance go_wv12 {H : Hp} {Q : VK} {v : V} {o0 o1 o2 o3 o4 o5 o6 o7 o8 o9 o10 o11 : Option V} {r : L2.St} : Go (tVar 12 (o0 :: o1 :: o2 :: o3 :: o4 :: o5 :: o6 :: o7 :: o8 :: o9 :: o10 :: o11 :: some v :: r) H Q) (Q v H) := ⟨wv12⟩
instance go_wn1 {H : Hp} {v : V} {o0 o : Option V} {r : L2.St} {R : L2.St → Hp → Prop} : Go (gName 1 v (o0 :: o :: r) H R) (R (o0 :: some v :: r) H) := ⟨wn1⟩
instance go_wn2 {H : Hp} {v : V} {o0 o1 o : Option V} {r : L2.St} {R : L2.St → Hp → Prop} : Go (gName 2 v (o0 :: o1 :: o :: r) H R) (R (o0 :: o1 :: some v :: r) H) := ⟨wn2⟩
instance go_wn3 {H : Hp} {v : V} {o0 o1 o2 o : Option V} {r : L2.St} {R : L2.St → Hp → Prop} : Go (gName 3 v (o0 :: o1 :: o2 :: o :: r) H R) (R (o0 :: o1 :: o2 :: some v :: r) H) := ⟨wn3⟩
instance go_wn4 {H : Hp} {v : V} {o0 o1 o2 o3 o : Option V} {r : L2.St} {R : L2.St → Hp → Prop} : Go (gName 4 v (o0 :: o1 :: o2 :: o3 :: o :: r) H R) (R (o0 :: o1 :: o2 :: o3 :: some v :: r) H) := ⟨wn4⟩
instance go_wn5 {H : Hp} {v : V} {o0 o1 o2 o3 o4 o : Option V} {r : L2.St} {R : L2.St → Hp → Prop} : Go (gName 5 v (o0 :: o1 :: o2 :: o3 :: o4 :: o :: r) H R) (R (o0 :: o1 :: o2 :: o3 :: o4 :: some v :: r) H) := ⟨wn5⟩
instance go_wn6 {H : Hp} {v : V} {o0 o1 o2 o3 o4 o5 o : Option V} {r : L2.St} {R : L2.St → Hp → Prop} : Go (gName 6 v (o0 :: o1 :: o2 :: o3 :: o4 :: o5 :: o :: r) H R) (R (o0 :: o1 :: o2 :: o3 :: o4 :: o5 :: some v :: r) H) := ⟨wn6⟩
instance go_wn7 {H : Hp} {v : V} {o0 o1 o2 o3 o4 o5 o6 o : Option V} {r : L2.St} {R : L2.St → Hp → Prop} : Go (gName 7 v (o0 :: o1 :: o2 :: o3 :: o4 :: o5 :: o6 :: o :: r) H R) (R (o0 :: o1 :: o2 :: o3 :: o4 :: o5 :: o6 :: some v :: r) H) := ⟨wn7⟩
instance go_wn8 {H : Hp} {v : V} {o0 o1 o2 o3 o4 o5 o6 o7 o : Option V} {r : L2.St} {R : L2.St → Hp → Prop} : Go (gName 8 v (o0 :: o1 :: o2 :: o3 :: o4 :: o5 :: o6 :: o7 :: o :: r) H R) (R (o0 :: o1 :: o2 :: o3 :: o4 :: o5 :: o6 :: o7 :: some v :: r) H) := ⟨wn8⟩
instance go_wn9 {H : Hp} {v : V} {o0 o1 o2 o3 o4 o5 o6 o7 o8 o : Option V} {r : L2.St} {R : L2.St → Hp → Prop} : Go (gName 9 v (o0 :: o1 :: o2 :: o3 :: o4 :: o5 :: o6 :: o7 :: o8 :: o :: r) H R) (R (o0 :: o1 :: o2 :: o3 :: o4 :: o5 :: o6 :: o7 :: o8 :: some v :: r) H) := ⟨wn9⟩
instance go_wn10 {H : Hp} {v : V} {o0 o1 o2 o3 o4 o5 o6 o7 o8 o9 o : Option V} {r : L2.St} {R : L2.St → Hp → Prop} : Go (gName 10 v (o0 :: o1 :: o2 :: o3 :: o4 :: o5 :: o6 :: o7 :: o8 :: o9 :: o :: r) H R) (R (o0 :: o1 :: o2 :: o3 :: o4 :: o5 :: o6 :: o7 :: o8 :: o9 :: some v :: r) H) := ⟨wn10⟩
instance go_wn11 {H : Hp} {v : V} {o0 o1 o2 o3 o4 o5 o6 o7 o8 o9 o10 o : Option V} {r : L2.St} {R : L2.St → Hp → Prop} : Go (gName 11 v (o0 :: o1 :: o2 :: o3 :: o4 :: o5 :: o6 :: o7 :: o8 :: o9 :: o10 :: o :: r) H R) (R (o0 :: o1 :: o2 :: o3 :: o4 :: o5 :: o6 :: o7 :: o8 :: o9 :: o10 :: some v :: r) H) := ⟨wn11⟩
instance go_wn12 {H : Hp} {v : V} {o0 o1 o2 o3 o4 o5 o6 o7 o8 o9 o10 o11 o : Option V} {r : L2.St} {R : L2.St → Hp → Prop} : Go (gName 12 v (o0 :: o1 :: o2 :: o3 :: o4 :: o5 :: o6 :: o7 :: o8 :: o9 :: o10 :: o11 :: o :: r) H R) (R (o0 :: o1 :: o2 :: o3 :: o4 :: o5 :: o6 :: o7 :: o8 :: o9 :: o10 :: o11 :: some v :: r) H) := ⟨wn12⟩
instance go_wn13 {H : Hp} {v : V} {o0 o1 o2 o3 o4 o5 o6 o7 o8 o9 o10 o11 o12 o : Option V} {r : L2.St} {R : L2.St → Hp → Prop} : Go (gName 13 v (o0 :: o1 :: o2 :: o3 :: o4 :: o5 :: o6 :: o7 :: o8 :: o9 :: o10 :: o11 :: o12 :: o :: r) H R) (R (o0 :: o1 :: o2 :: o3 :: o4 :: o5 :: o6 :: o7 :: o8 :: o9 :: o10 :: o11 :: o12 :: some v :: r) H) := ⟨wn13⟩
instance go_w_i0 {H : Hp} {Q : VK} {i j : Int} {f : Int → Int → V} : Go (rI0 f (V.int i) (V.int j) H Q) (Q (f i j) H) := ⟨w_i0⟩
instance go_w_eqi {H : Hp} {Q : VK} {i j : Int} : Go (rEq (V.int i) (V.int j) H Q) (Q (V.bl (decide (i = j))) H) := ⟨w_eqi⟩
instance go_w_nei {H : Hp} {Q : VK} {i j : Int} : Go (rNe (V.int i) (V.int j) H Q) (Q (V.bl !decide (i = j)) H) := ⟨w_nei⟩
instance go_w_eqs {H : Hp} {Q : VK} {a b : Str} : Go (rEq (V.str a) (V.str b) H Q) (Q (V.bl (decide (a = b))) H) := ⟨w_eqs⟩
instance go_w_bl {k : Bool} {R : Bool → Prop} : Go (∃ (c : Bool), V.bl k = V.bl c ∧ R c) (R k) := ⟨w_bl⟩
instance go_w_not {σ : L2.St} {H : Hp} {c : TT} {R : Bool → Hp → Prop} : Go (tNot c σ H R) ((c σ H fun (b : Bool) (H1 : Hp) ↦ R (!b) H1)) := ⟨w_not⟩
instance go_w_and {σ : L2.St} {H : Hp} {c d : TT} {R : Bool → Hp → Prop} : Go (tAnd c d σ H R) ((c σ H fun (b : Bool) (H1 : Hp) ↦ if b = true then d σ H1 R else R false H1)) := ⟨w_and⟩
instance go_w_or {σ : L2.St} {H : Hp} {c d : TT} {R : Bool → Hp → Prop} : Go (tOr c d σ H R) ((c σ H fun (b : Bool) (H1 : Hp) ↦ if b = true then R true H1 else d σ H1 R)) := ⟨w_or⟩
instance go_w_notV {σ : L2.St} {H : Hp} {Q : VK} {ta : TE} : Go (tNotV ta σ H Q) ((ta σ H fun (x : V) (H1 : Hp) ↦ ∃ (c : Bool), x = V.bl c ∧ Q (V.bl !c) H1)) := ⟨w_notV⟩
instance go_w_andV {σ : L2.St} {H : Hp} {Q : VK} {ta tb : TE} : Go (tAndV ta tb σ H Q) ((ta σ H fun (x : V) (H1 : Hp) ↦ ∃ (c : Bool), x = V.bl c ∧ if c = true then tb σ H1 Q else Q (V.bl false) H1)) := ⟨w_andV⟩
instance go_w_ifE {σ : L2.St} {H : Hp} {Q : VK} {ta tb : TE} {c : TT} : Go (tIf c ta tb σ H Q) ((c σ H fun (b : Bool) (H1 : Hp) ↦ if b = true then ta σ H1 Q else tb σ H1 Q)) := ⟨w_ifE⟩
instance go_w_chain {σ : L2.St} {H : Hp} {Q : VK} {ta tb tc : TE} {r r' : R2} : Go (tChain r r' ta tb tc σ H Q) ((ta σ H fun (x : V) (H1 : Hp) ↦ tb σ H1 fun (y : V) (H2 : Hp) ↦ r x y H2 fun (z : V) (H3 : Hp) ↦ ∃ (k : Bool), z = V.bl k ∧ if k = true then tc σ H3 fun (w : V) (H4 : Hp) ↦ r' y w H4 Q else Q (V.bl false) H3)) := ⟨w_chain⟩
instance go_w_bm {σ : L2.St} {H : Hp} {Q : VK} {K : W.Frag} {tr : TA} {T : String} {r : V → List V → Hp → VK → Prop} {to : TE} : Go (tBM K T r to tr σ H Q) ((to σ H fun (x : V) (H1 : Hp) ↦ tyV K T x H1 ∧ tr σ H1 fun (xs : List V) (H2 : Hp) ↦ r x xs H2 Q)) := ⟨w_bm⟩
instance go_w_sub {σ : L2.St} {H : Hp} {v : V} {to ti : TE} {ts : TSet} {R : L2.St → Hp → Prop} : Go (gSub to ti ts v σ H R) ((to σ H fun (o : V) (H1 : Hp) ↦ ti σ H1 fun (i : V) (H2 : Hp) ↦ ts o i v H2 fun (H3 : Hp) ↦ R σ H3)) := ⟨w_sub⟩
instance go_w_slice {σ : L2.St} {H : Hp} {Q : VK} {t : TE} {r : V → Option Int → Option Int → Hp → VK → Prop} {tl th : TO} : Go (tSl r t tl th σ H Q) ((t σ H fun (x : V) (H1 : Hp) ↦ tl σ H1 fun (l : Option Int) (H2 : Hp) ↦ th σ H2 fun (u : Option Int) (H3 : Hp) ↦ r x l u H3 Q)) := ⟨w_slice⟩
instance go_w_noPart {σ : L2.St} {H : Hp} {R : Option Int → Hp → Prop} : Go (tNoPart σ H R) (R none H) := ⟨w_noPart⟩
instance go_w_part {σ : L2.St} {H : Hp} {t : TE} {R : Option Int → Hp → Prop} : Go (tPart t σ H R) ((t σ H fun (x : V) (H1 : Hp) ↦ ∃ (i : Int), x = V.int i ∧ R (some i) H1)) := ⟨w_part⟩
instance go_w_int {i : Int} {R : Int → Prop} : Go (∃ (k : Int), V.int i = V.int k ∧ R k) (R i) := ⟨w_int⟩
instance go_w_max {H : Hp} {Q : VK} {i j : Int} : Go (rMax2 [V.int i, V.int j] H Q) (Q (V.int (max i j)) H) := ⟨w_max⟩
instance go_w_min {H : Hp} {Q : VK} {i j : Int} : Go (rMin2 [V.int i, V.int j] H Q) (Q (V.int (min i j)) H) := ⟨w_min⟩
instance go_go_tupA {σ : L2.St} {H : Hp} {tr : TA} {Q : VK} : Go (tTupA tr σ H Q) ((tr σ H fun (xs : List V) (H1 : Hp) ↦ List.length xs ≤ sizeLine ∧ ∀ (p : Addr) (H' : Hp), New H1 H' p (HO.tup xs) → Q (V.ref p) H')) := ⟨go_tupA⟩
instance go_go_lstA {σ : L2.St} {H : Hp} {tr : TA} {Q : VK} : Go (tLstA tr σ H Q) ((tr σ H fun (xs : List V) (H1 : Hp) ↦ List.length xs ≤ sizeLine ∧ ∀ (p : Addr) (H' : Hp), New H1 H' p (HO.lst xs) → Q (V.ref p) H')) := ⟨go_lstA⟩
instance go_go_fld {K : W.Frag} {σ : L2.St} {H : Hp} {Q : VK} {ta : TE} {f : Str} : Go (tFld K ta f σ H Q) ((ta σ H fun (x : V) (H1 : Hp) ↦ ∃ (a : Addr), ∃ (C : Addr), ∃ (dx : Addr), ∃ (fs : List (Str × V)), ∃ (v : V), x = V.ref a ∧ H1 a = some (HO.ins C dx fs) ∧ Cls K C ∧ NoAttr K C f ∧ List.lookup f fs = some v ∧ Q v H1)) := ⟨go_fld⟩
instance go_go_methB {σ : L2.St} {H : Hp} {Q : VK} {ta : TE} {t : TA} {m : Str} {C : Addr} {sp : Sp} {E : XK} : Go (tMeth C m sp [] E ta t σ H Q) ((ta σ H fun (x : V) (H1 : Hp) ↦ ∃ (a : Addr), ∃ (dx : Addr), ∃ (fs : List (Str × V)), x = V.ref a ∧ H1 a = some (HO.ins C dx fs) ∧ List.lookup m fs = none ∧ t σ H1 fun (vs : List V) (H2 : Hp) ↦ sp (x :: vs) H2 Q E)) := ⟨go_methB⟩
instance go_go_makeB {σ : L2.St} {H : Hp} {Q : VK} {t : TA} {C : Addr} {sp : Sp} {E : XK} : Go (tMakeB C sp E t σ H Q) ((t σ H fun (vs : List V) (H1 : Hp) ↦ ∀ (x dx : Addr) (H2 : Hp), New H1 H2 x (HO.ins C dx []) → sp (V.ref x :: vs) H2 (fun (v : V) (H3 : Hp) ↦ v = V.non ∧ Q (V.ref x) H3) E)) := ⟨go_makeB⟩
instance go_go_sfldB {K : W.Frag} {σ : L2.St} {H : Hp} {ta tv : TE} {f : Str} {D : Ends} : Go (sFld K ta tv f D σ H) ((tv σ H fun (y : V) (H1 : Hp) ↦ ta σ H1 fun (x : V) (H2 : Hp) ↦ SetF K f y x H2 fun (H3 : Hp) ↦ Ends.nx D σ H3)) := ⟨go_sfldB⟩
instance go_i_tt {A B : Prop} : Go (if true = true then A else B) (A) := ⟨i_tt⟩
instance go_i_ff {A B : Prop} : Go (if false = true then A else B) (B) := ⟨i_ff⟩
instance go_i_ntt {A B : Prop} : Go (if (!true) = true then A else B) (B) := ⟨i_ntt⟩
instance go_go_ck {t : TA} {tv : TE} {r : List V → V → Hp → VK → Prop} {σ : L2.St} {H : Hp} {Q : VK} : Go (tCK r t tv σ H Q) ((t σ H fun (xs : List V) (H1 : Hp) ↦ tv σ H1 fun (y : V) (H2 : Hp) ↦ r xs y H2 Q)) := ⟨go_ck⟩
instance go_w_forE {K : W.Frag} {g : TG} {tb : TS} {D : Ends} {σ : L2.St} {H : Hp} {tr : TA} : Go (tFor (iEnum K tr) g tb D σ H) ((tr σ H fun (vs : List V) (H1 : Hp) ↦ ∃ (a : Addr), ∃ (xs : List V), vs = [V.ref a] ∧ SqL K H1 a xs ∧ ForE K a xs g tb D σ H1)) := ⟨w_forE⟩
instance go_w_forR1 {g : TG} {tb : TS} {D : Ends} {σ : L2.St} {H : Hp} {tr : TA} : Go (tFor (iRng1 tr) g tb D σ H) ((tr σ H fun (vs : List V) (H1 : Hp) ↦ ∃ (j : Int), vs = [V.int j] ∧ -2 ^ 62 ≤ j ∧ j < 2 ^ 62 ∧ ForR 0 (Int.toNat j) g tb D σ H1)) := ⟨w_forR1⟩
instance go_w_forR2 {g : TG} {tb : TS} {D : Ends} {σ : L2.St} {H : Hp} {tr : TA} : Go (tFor (iRng2 tr) g tb D σ H) ((tr σ H fun (vs : List V) (H1 : Hp) ↦ ∃ (i : Int), ∃ (j : Int), vs = [V.int i, V.int j] ∧ (-2 ^ 62 ≤ i ∧ i < 2 ^ 62 ∧ -2 ^ 62 ≤ j ∧ j < 2 ^ 62) ∧ ForR i (Int.toNat (j - i)) g tb D σ H1)) := ⟨w_forR2⟩
instance go_w_forL {K : W.Frag} {te : TE} {g : TG} {tb : TS} {D : Ends} {σ : L2.St} {H : Hp} : Go (tFor (iList K te) g tb D σ H) ((te σ H fun (x : V) (H1 : Hp) ↦ ∃ (a : Addr), x = V.ref a ∧ (∃ (xs : List V), SqL K H1 a xs) ∧ ForL K a g tb D σ H1)) := ⟨w_forL⟩
instance go_w_compL {K : W.Frag} {t0 te : TE} {nt : Nat} {fr : List Nat} {g : TG} {c : TT} {σ : L2.St} {H : Hp} {Q : VK} : Go (tComp (iList K t0) nt fr g c te σ H Q) ((t0 σ H fun (x : V) (H1 : Hp) ↦ ∃ (a : Addr), x = V.ref a ∧ (∃ (xs : List V), SqL K H1 a xs) ∧ CompAll (Itl K a) nt fr g c te σ H1 Q)) := ⟨w_compL⟩
section
variable {K : PySem.W.Frag} {H : Hp} {Q : VK} {E : XK} {x : V} {n : String} {p q : Addr} {a b c lo hi : Int} {ns : List Int} {m : Int}
instance go_fromI : Go (sp_is_from K [.int a, .int lo] H Q E) (Q (.bl (decide (lo ≤ a))) H) := ⟨u_fromI⟩
instance go_manyI : Go (sp_is_many K [.int a] H Q E) (Q (.bl (decide (16 ≤ a) && decide (a ≤ 240))) H) := ⟨fun k => ⟨_, _, rfl, .int _, k⟩⟩
instance go_endof [h : Hat H q (.tup [.int a, .int b])] : Go (sp_end_of [.ref q] H Q E) (Q (.int (a + b)) H) := ⟨u_end h.e⟩
instance go_cellA [h : SqA K H p (ns.map V.int)] : Go (sp_cellA K [.ref p, .int m] H Q E) (Sd (0 ≤ m) (∀ c : Int, Q (.int c) H)) := ⟨fun s => u_cellA h.e s.1 s.2⟩
instance go_boxA : Go (sp_boxA [.int a] H Q E) (∀ x y : Int, ∀ (p : Addr) (H' : Hp), New H H' p (.lst [.int x, .int y, .int 0]) → Q (.ref p) H') := ⟨fun k => u_boxA fun p x y H' n => k x y p H' n⟩
instance go_takeA [h : Hat H p (.lst [.int a, .int b, .int c])] : Go (sp_takeA [.ref p, .int m] H Q E) (Sd (0 < m ∧ m < 1073741824) (∀ r a' b' c' : Int, 0 ≤ r → r < m → ∀ H', Off p H H' → H' p = some (.lst [.int a', .int b', .int c']) → Q (.int r) H')) := ⟨fun s => u_takeA h.e s.1.1 s.1.2 fun r a' b' c' H' h0 h1 f e => s.2 r a' b' c' h0 h1 H' f e⟩
end
end L2
namespace L2
open PySem PySem.Spec PyProof.Rows
section
variable {tr : TA} {g : TG} {tb : TS} {D : Ends} {σ : St} {H : Hp}
variable {K : PySem.W.Frag} {a : Addr} {xs : List V} {nt : Nat} {fr : List Nat} {c : TT} {te : TE} {Q : VK} {n m : Int}
instance go_cby [h : SqA K H a xs] : Go (∃ a', V.ref a = .ref a' ∧ (∃ xs, SqL K H a' xs) ∧ CompAll (Itl K a') nt fr g c te σ H Q) (CompAll (Itl K a) nt fr g c te σ H Q) := ⟨c_by h.e⟩
instance go_lby [h : SqA K H a xs] : Go (∃ a', V.ref a = .ref a' ∧ (∃ xs, SqL K H a' xs) ∧ ForL K a' g tb D σ H) (ForL K a g tb D σ H) := ⟨l_by h.e⟩
instance go_eby [h : SqA K H a xs] : Go (∃ a' xs', [V.ref a] = [.ref a'] ∧ SqL K H a' xs' ∧ ForE K a' xs' g tb D σ H) (ForE K a xs g tb D σ H) := ⟨e_by h.e⟩
end
class LkNe (L : List (Addr × HO)) (a b : Addr) : Prop where
  ne : (L.map (·.1)).Nodup → a ≠ b
section
variable {L R L' : List (Addr × HO)} {a b : Addr} {o : HO} {c : Addr × HO} {H0 H : Hp} {M : List Addr} {I : List Im}
instance lkNe2 [h : LkNe L a b] : LkNe (c :: L) a b := ⟨fun nd => h.ne (by rw [List.map_cons] at nd; exact (List.nodup_cons.mp nd).2)⟩
instance lkNe1 {o' : HO} [h : LkL L a o] : LkNe ((b, o') :: L) a b := ⟨fun nd z => by
  rw [List.map_cons] at nd
  exact (List.nodup_cons.mp nd).1 (by show b ∈ _; rw [← z]; exact List.mem_map_of_mem (f := (·.1)) h.m)⟩
instance lkNe0 {o' : HO} [h : LkL L b o] : LkNe ((a, o') :: L) a b := ⟨fun nd z => by
  rw [List.map_cons] at nd
  exact (List.nodup_cons.mp nd).1 (by show a ∈ _; rw [z]; exact List.mem_map_of_mem (f := (·.1)) h.m)⟩
theorem SH.neC [F : SH H0 M H L I] [h : LkNe L a b] : a ≠ b := h.ne F.nd
class PkC (c : Addr × HO) (L : List (Addr × HO)) (R : outParam (List (Addr × HO))) : Prop where
  p : Pk c L R
class SbC (L' L : List (Addr × HO)) : Prop where
  s : Sb L' L
instance pkC1 {d : Addr × HO} [h : PkC c L R] : PkC c (d :: L) (d :: R) := ⟨.tail h.p⟩
instance pkC0 : PkC c (c :: L) L := ⟨.head⟩
instance sbC0 : SbC [] L := ⟨.nil⟩
instance sbC1 [h : PkC c L R] [t : SbC L' R] : SbC (c :: L') L := ⟨.cons h.p t.s⟩
theorem SH.subC (F : SH H0 M H L I) [h : SbC L' L] : SH H0 M H L' [] := F.sub h.s (fun _ h => by cases h)
end
end L2
namespace L2
open PySem PySem.Spec PyProof.Rows PySem.SeqAt
section
variable {K : PySem.W.Frag} {H0 H : Hp} {M : List Addr} {L L' : List (Addr × HO)} {I : List Im} {l b a p : Addr} {xs ys r : List V} {v v0 v1 y : V} {Q : VK} {R : Hp → Prop} {R' : Prop} {te : TE} {fvs σ : St} {fr : List Nat} {i j : Int} {Z : Addr → Hp → Prop}
instance go_nonAnd : Go (V.non = V.non ∧ R') R' := ⟨fun k => ⟨rfl, k⟩⟩
instance go_setA [h : Hat H l (.lst xs)] : Go (rSetA (.ref l) (.int i) v H R) (Sd (0 ≤ i ∧ i < xs.length) (∀ H', Off l H H' → H' l = some (.lst (xs.set i.toNat v)) → R H')) := ⟨fun s => w_setA h.e (i_idx s.1.1 s.1.2) s.2⟩
instance go_forR1 {g : TG} {tb : TS} {D : Ends} : Go (∃ j : Int, [V.int i] = [.int j] ∧ -(2 ^ 62) ≤ j ∧ j < 2 ^ 62 ∧ ForR 0 j.toNat g tb D σ H) (Sd (-(2 ^ 62) ≤ i ∧ i < 2 ^ 62) (ForR 0 i.toNat g tb D σ H)) := ⟨fun s => ⟨i, rfl, s.1.1, s.1.2, s.2⟩⟩
instance go_forR2 {g : TG} {tb : TS} {D : Ends} : Go (∃ i' j' : Int, [V.int i, V.int j] = [.int i', .int j'] ∧ (-(2 ^ 62) ≤ i' ∧ i' < 2 ^ 62 ∧ -(2 ^ 62) ≤ j' ∧ j' < 2 ^ 62) ∧ ForR i' (j' - i').toNat g tb D σ H) (Sd (-(2 ^ 62) ≤ i ∧ i < 2 ^ 62 ∧ -(2 ^ 62) ≤ j ∧ j < 2 ^ 62) (ForR i (j - i).toNat g tb D σ H)) := ⟨fun s => ⟨i, j, rfl, s.1, s.2⟩⟩
end
end L2
namespace L2
open PySem PySem.Spec PyProof.Rows
abbrev ixBody (x : Str) (p1 p2 p3 : Pos) (j : Nat) : Expr := .Subscript (.Name x p1) (.Constant (.int 1) j p2) p3
structure LamScope (x : Str) (scope : Scope) : Prop where
  kind : scope.kind = .function
  co : scope.isCoroutine = false
  gen : scope.isGenerator = false
  loc : scope.names.lookup x = some .local
  nocell : ∀ y ∈ scope.names, y.2 ≠ .cell
  nodeb : (x == ("__debug__" : Str)) = false
theorem lam_ix {prog : Program} {w : World} {A : Around} {s : Shared} {f q c' : Addr} {x qual : Str} {params : Arguments} {scope : Scope} {pm ctv u : Value} {p1 p2 p3 : Pos} {j : Nat} {its : List Value} {Q : Value → Shared → Prop} {E : Value → Shared → Prop}
    (hroom : A.depth < recursionLimit) (ho : s.heap.get? f = some (PySem.W.kla_obj "<lambda>" qual params (ixBody x p1 p2 p3 j) scope [] pm c' ctv)) (hcd : s.heap.CodeRec (.ref c') qual) (hlim : s.heap.NoLimit) (S : LamScope x scope)
    (hbind : bindArgs (PySem.W.kla_fn "<lambda>" qual params (ixBody x p1 p2 p3 j) scope [] pm (.ref c') ctv) ⟨[.ref q], []⟩ = pure [(x, .ref q)])
    (ht : IsTup s.heap q its.toArray) (hi : its[1]? = some u) (h : ∀ h' tk, (∀ b o, s.heap.get? b = some o → h'.get? b = some o) → Q u { s with heap := h', toks := tk }) : wpAny (model prog w) A (call (.ref f) [.ref q]) Q E s := by
  refine wpAny_call ?_
  refine PySem.W.kla_callFunE hroom ho rfl S.co S.gen rfl hcd ?_
  rw [hbind]
  refine wpAny_pure ?_
  refine wpAny_newFunctionEnv S.nocell (fun y hy => ?_) (fun h1 hns hsb => ?_) S.kind
  · rw [List.mem_singleton.mp hy]
    exact S.loc
  · have hk1 : ∀ b o, s.heap.get? b = some o → h1.get? b = some o := fun b o e => hsb.extBut b o (Nat.ne_of_lt (Heap.lt_size e)) (Heap.get?_push_of_some _ e)
    refine ⟨hlim.keeps hk1, PySem.W.kla_codeExpr ?_⟩
    refine Subscript_ (wpAny_Name (wpAny_loadName_local S.kind S.loc hns (v := .ref q) (by simp) ?_) S.nodeb)
    refine wpAny_Constant_int ?_
    have ht1 : IsTup h1 q its.toArray := by
      obtain ⟨o, e, r⟩ := ht
      exact ⟨o, hk1 _ _ e, r⟩
    have hlen : 1 < its.length := (List.getElem?_eq_some_iff.mp hi).1
    refine subscriptTail_builtinR (x := u) (IsTup.typeIs ht1) slot_tuple_getitem.lookup (getItem_tuple (j := 1) ht1 (by decide) (by decide) ?_ (by simpa using hi) ⟨rfl, ?_⟩) ?_
    · rw [List.size_toArray]
      unfold seqIndex?
      simp
      omega
    · exact h h1 _ hk1
    · rfl
theorem ObjOk.is {P : Program} {w : World} {H : Hp} {h : Heap} {a : Addr} {o : HO} (x : ObjOk P w H h a o) : ∃ ob, h.get? a = some ob := by
  cases o with
  | lst xs => obtain ⟨_, _, _, _, e⟩ := x; exact ⟨_, e⟩
  | tup xs => obtain ⟨_, _, _, ob, e, _⟩ := x; exact ⟨_, e⟩
  | dK kvs => obtain ⟨_, _, _, _, ob, _, _, e, _⟩ := x; exact ⟨_, e⟩
  | dT kvs => obtain ⟨_, _, _, _, ob, _, _, e, _⟩ := x; exact ⟨_, e⟩
  | set S n => obtain ⟨ob, _, _, _, e, _⟩ := x; exact ⟨_, e⟩
  | ins C dx fs => obtain ⟨_, _, _, e, _⟩ := x; exact ⟨_, e⟩
  | own y => exact x
  | xd fs => obtain ⟨_, ⟨ob, _, _, e, _⟩, _⟩ := x; exact ⟨_, e⟩
  | rng lo hi => obtain ⟨_, _, _, e⟩ := x; exact ⟨_, e⟩
  | frz ob u => exact ⟨_, x.1⟩
  | tbl ps => exact ⟨_, x⟩
  | met f y => exact ⟨_, x⟩
  | ext φ => exact x.2.1
def allBut (h : Heap) (L : Addr) : List (Addr × Obj) := (List.range h.objs.size).filterMap fun b => if b = L then none else (h.get? b).map fun o => (b, o)
theorem allBut_mem {h : Heap} {L b : Addr} {o : Obj} (e : h.get? b = some o) (n : b ≠ L) : (b, o) ∈ allBut h L := by
  unfold allBut
  refine List.mem_filterMap.mpr ⟨b, List.mem_range.mpr (Heap.lt_size e), ?_⟩
  rw [if_neg n, e]
  rfl
theorem of_allBut {h : Heap} {L : Addr} {p : Addr × Obj} (m : p ∈ allBut h L) : h.get? p.1 = some p.2 ∧ p.1 ≠ L := by
  unfold allBut at m
  obtain ⟨b, _, e⟩ := List.mem_filterMap.mp m
  split at e
  · cases e
  · rename_i n
    cases q : h.get? b with
    | none => rw [q] at e; cases e
    | some o =>
      rw [q] at e
      cases e
      exact ⟨q, n⟩
theorem ns_one {h : Heap} {a : Addr} {m m' : Str → Option Value} (x : h.Ns a m) (y : h.Ns a m') : m = m' := by
  obtain ⟨o, es, ep, e, d, _, f⟩ := x
  obtain ⟨o', es', ep', e', d', _, f'⟩ := y
  rw [e] at e'
  cases e'
  rw [d] at d'
  cases d'
  funext k
  rw [← f k, ← f' k]
theorem Inv.newIn {X : Cx} {pins : List (Addr × Obj)} {σ : St} {H : Hp} {s : Shared} {h' : Heap} {t' : Nat} {D : Addr} {o : HO} {m : Str → Option Value} (I : Inv X pins σ H s) (k : ∀ b u, b ≠ X.env.locals → s.heap.get? b = some u → h'.get? b = some u)
    (hm : s.heap.Ns X.env.locals m) (hm' : h'.Ns X.env.locals m) (hn : s.heap.get? D = none) (new : ObjOk X.prog X.w (upd H D o) h' D o) : Inv X pins σ (upd H D o) { s with heap := h', toks := t' } := by
  have hD : H D = none := by
    cases q : H D with
    | none => rfl
    | some u =>
      obtain ⟨ob, e⟩ := (I.hok D u q).is
      rw [hn] at e
      cases e
  have nL : ∀ b u, H b = some u → b ≠ X.env.locals := fun b u e z => by rw [z, I.free] at e; cases e
  have nD : ∀ {b : Addr} {u : HO}, H b = some u → upd H D o b = some u := fun {b u} e => by rw [upd_ne (fun z => by rw [z, hD] at e; cases e)]; exact e
  refine I.step (g' := s.gens) (d' := s.drawn) (ch := []) (fun _ z => nomatch z) (fun b u n _ _ e _ => k b u n e) (fun b u n _ _ e _ => ⟨u.slots, k b u n e⟩) (fun b u _ e q => ?_) (fun b u _ e => ?_) (fun b xs e => nD e) (fun b u v e => nD e) (fun b ps e => ⟨#[], by rw [nD e]; simp⟩) (fun m2 hm2 => ?_) (fun b u e => ?_) I.bare
  · rw [upd_ne (fun z => by rw [z, hn] at e; cases e)]
    exact q
  · by_cases n : b = X.env.locals
    · obtain ⟨ob, _, _, e2, _⟩ := hm'
      exact ⟨ob, by rw [n]; exact e2⟩
    · exact ⟨u, k b u n e⟩
  · rw [ns_one hm2 hm]
    exact hm'
  · by_cases hb : b = D
    · rw [hb, upd_same] at e
      cases e
      rw [hb]
      exact new
    · rw [upd_ne hb] at e
      refine (I.hok b u e).stay (fun c v hc q => k c v ?_ q) (fun c q => nD q) fun c xs q => nD q
      rcases hc with z | z
      · rw [z]
        exact nL b u e
      · exact nL c _ z
def IsLam (H : Hp) (f : Addr) : Prop := ∃ (qual x : Str) (params : Arguments) (p1 p2 p3 : Pos) (j : Nat) (scope : Scope) (pm ctv : Value) (c' : Addr) (oc : Obj) (vs : Array Value) (t : Tok),
  H f = some (.frz (PySem.W.kla_obj "<lambda>" qual params (ixBody x p1 p2 p3 j) scope [] pm c' ctv) (.own f)) ∧ H c' = some (.frz oc (.own c')) ∧ oc.data = .fields vs ∧ vs[1]? = some (.str qual t) ∧ LamScope x scope ∧
  ∀ q : Addr, bindArgs (PySem.W.kla_fn "<lambda>" qual params (ixBody x p1 p2 p3 j) scope [] pm (.ref c') ctv) ⟨[.ref q], []⟩ = pure [(x, .ref q)]
def SortedBy (ks : List Int) (xs ys : List V) : Prop := ∃ ps : List (Int × V), ps.Perm (ks.zip xs) ∧ ys = ps.map Prod.snd ∧ ps.Pairwise fun a b => a.1 ≤ b.1
def rSortK (K : PySem.W.Frag) : List V → V → Hp → VK → Prop := fun vs y H Q => ∃ (l f : Addr) (xs : List V) (ks : List Int), vs = [.ref l] ∧ y = .ref f ∧ IsLam H f ∧ SqL K H l xs ∧ ks.length = xs.length ∧ xs.length < 64 ∧
  (∀ (i : Nat) v k, xs[i]? = some v → ks[i]? = some k → ∃ q r, v = .ref q ∧ H q = some (.tup r) ∧ r[1]? = some (.int k)) ∧ ∀ D ys H', New H H' D (.lst ys) → SortedBy ks xs ys → Q (.ref D) H'
def backV : Value → V
  | .ref a => .ref a
  | _ => .non
theorem vals_refs : ∀ {xs : List V} {us : List Value}, Vals xs us → (∀ v ∈ xs, ∃ q, v = .ref q) → xs = us.map backV ∧ ∀ u ∈ us, ∃ q, u = .ref q
  | _, _, .nil, _ => ⟨rfl, fun _ h => by cases h⟩
  | _, _, .cons r t, h => by
    obtain ⟨e1, e2⟩ := vals_refs t fun v hv => h v (List.mem_cons_of_mem _ hv)
    obtain ⟨q, rfl⟩ := h _ List.mem_cons_self
    cases r
    refine ⟨by rw [List.map_cons, ← e1]; rfl, fun u hu => ?_⟩
    rcases List.mem_cons.mp hu with rfl | hu
    · exact ⟨q, rfl⟩
    · exact e2 u hu
theorem vals_back : ∀ {us : List Value}, (∀ u ∈ us, ∃ q, u = .ref q) → Vals (us.map backV) us
  | [], _ => .nil
  | u :: us, h => by
    obtain ⟨q, rfl⟩ := h u List.mem_cons_self
    exact .cons rfl (vals_back fun v hv => h v (List.mem_cons_of_mem _ hv))
theorem call_sortK {X : Cx} {K : PySem.W.Frag} {k : Nat} (hK : X.K = K) (hr : Room k X.A) : CallK X "sorted" "key" (rSortK K) := by
  intro pins s σ H vs us y u Q I rv ry h
  subst hK
  obtain ⟨l, f, xs, ks, rfl, rfl, lam, hq, hl, h64, hk, q⟩ := h
  cases ry
  rcases rv with _ | ⟨r, _ | _⟩
  cases r
  obtain ⟨its, rv, p, hz⟩ := I.list hq
  obtain ⟨m, hm, _⟩ := id I.loc
  obtain ⟨qual, x, params, p1, p2, p3, j, scope, pm, ctv, c', oc, cv, t, ef, ec, ed, e1, S, hb⟩ := lam
  have hlen : its.length = xs.length := rv.length.symm
  have nL : ∀ {b : Addr} {u : HO}, H b = some u → b ≠ X.env.locals := fun {b u} e z => by rw [z, I.free] at e; cases e
  have refs : ∀ v ∈ xs, ∃ q, v = V.ref q := fun v hv => by
    obtain ⟨i, hi, e⟩ := List.getElem_of_mem hv
    obtain ⟨q, r, e2, _⟩ := hk i v (ks[i]'(by omega)) (by rw [← e]; simp) (by simp)
    exact ⟨q, e2⟩
  obtain ⟨xb, ub⟩ := vals_refs rv refs
  have keep : ∀ {h : Heap} {own : List (Addr × Obj)}, News { objs := #[] } X.env.locals h (allBut s.heap X.env.locals ++ own) → ∀ b o, b ≠ X.env.locals → s.heap.get? b = some o → h.get? b = some o := fun N b o n e => (N (b, o) (List.mem_append_left _ (allBut_mem e n))).1
  refine ksk_sorted (h₀ := { objs := #[] }) (L := X.env.locals) (m := m) (news := allBut s.heap X.env.locals) (b := false) (vs := its) (kz := ks) (f := .ref f) ⟨hm, fun b o e => ?_, Nat.zero_le _⟩ (fun p hp => ⟨(of_allBut hp).1, (of_allBut hp).2, rfl⟩) p.isList (by omega) (by omega) (ksk_s1 _ _) (fun x => ksk_l1 _ _) (fun x => ksk_t1 f x) ?_ ?_
  · have e : Heap.get? { objs := #[] } b = some o := e
    simp [Heap.get?] at e
  · intro i v k hv hki h tk own F N
    have kp := keep N
    have hx : xs[i]? = some (backV v) := by rw [xb, List.getElem?_map, hv]; rfl
    obtain ⟨q, r, e2, e3, e4⟩ := hk i _ k hx hki
    obtain ⟨q', rfl⟩ := ub v (List.mem_of_getElem? hv)
    cases e2
    obtain ⟨_, its2, rv2, ob, et, ec2⟩ := I.hok q _ e3
    obtain ⟨u2, eu, ru⟩ := rv2.get e4
    obtain ⟨t2, rfl⟩ := ru
    have lim : h.NoLimit := I.ok.mod.nolimit.keeps fun b o e => kp b o (Nat.ne_of_lt (Nat.lt_of_lt_of_le (Heap.lt_size e) (Nat.le_trans I.ok.bsz I.ok.above))) (I.bk b o e)
    refine lam_ix (A := X.A.in1.in1) (s := { s with heap := h, toks := tk }) (show X.A.depth < _ from hr.depth) (kp _ _ (nL ef) (I.hok f _ ef).1) ⟨c', oc, cv, t, rfl, kp _ _ (nL ec) (I.hok c' _ ec).1, ed, e1⟩ lim S (hb q) (its := its2) ⟨ob, kp _ _ (nL e3) et, ec2⟩ eu fun h' tk' k2 => ?_
    exact KskEnd.intro (s₁ := { s with heap := h, toks := tk }) (news' := allBut s.heap X.env.locals ++ own) ⟨F.ns.keeps k2, fun b o e => k2 b o (F.keep b o e), F.above⟩ (fun p hp => ⟨k2 _ _ (N p hp).1, (N p hp).2⟩) fun p hp => hp
  · intro D h' tk out c F N hD out'
    obtain ⟨ps, pp, eo, pw⟩ := out'
    have hn : s.heap.get? D = none := by
      cases e : s.heap.get? D with
      | none => rfl
      | some o =>
        have := hD (D, o) (allBut_mem e (N (D, seqObj "list" out c) List.mem_cons_self).2.1)
        exact absurd this (Nat.lt_irrefl _)
    have hin : ∀ u ∈ out.toList, ∃ q, u = Value.ref q := fun u hu => by
      rw [eo] at hu
      obtain ⟨pr, h1, rfl⟩ := List.mem_map.mp hu
      have := pp.mem_iff.mp h1
      exact ub _ (List.of_mem_zip (show (pr.1, pr.2) ∈ ks.zip its from this)).2
    have lo : out.toList.length = xs.length := by
      rw [eo, List.length_map, pp.length_eq, List.length_zip]
      omega
    refine ⟨.ref D, upd H D (.lst (out.toList.map backV)), I.newIn (t' := tk) (fun b u n e => (N (b, u) (List.mem_cons_of_mem _ (allBut_mem e n))).1) hm F.ns hn ?_, rfl, q D _ _ (New.mk' ?_) ⟨ps.map fun pr => (pr.1, backV pr.2), ?_, ?_, ?_⟩⟩
    · refine ⟨by rw [List.length_map, lo]; exact hz, out.toList, c, vals_back hin, ?_⟩
      exact (N (D, seqObj "list" out c) List.mem_cons_self).1
    · cases e : H D with
      | none => rfl
      | some u =>
        obtain ⟨ob, e2⟩ := (I.hok D u e).is
        rw [hn] at e2
        cases e2
    · have := pp.map fun pr : Int × Value => (pr.1, backV pr.2)
      rw [xb]
      have e3 : (ks.zip its).map (fun pr : Int × Value => (pr.1, backV pr.2)) = ks.zip (its.map backV) := by
        rw [List.zip_map_right]
        rfl
      rw [← e3]
      exact this
    · rw [eo, List.map_map, List.map_map]
      rfl
    · exact List.pairwise_map.mpr (pw.imp fun h => by simpa using h)
theorem Inv.grow {X : Cx} {pins : List (Addr × Obj)} {σ : St} {H H' : Hp} {s : Shared} {h' : Heap} {t' : Nat} (I : Inv X pins σ H s) (k : ∀ b u, H b = none → s.heap.get? b = some u → h'.get? b = some u ∧ H' b = none)
    (kt : ∀ b u, H b = some u → (H' b = some u ∧ ∀ o, s.heap.get? b = some o → h'.get? b = some o) ∨ ∃ ps more, u = .tbl ps ∧ H' b = some (.tbl (ps ++ more)) ∧ h'.get? b = some { cls := .none, data := .fields (ps ++ more) })
    (new : ∀ b u, H b = none → H' b = some u → ObjOk X.prog X.w H' h' b u) : Inv X pins σ H' { s with heap := h', toks := t' } := by
  have same : ∀ {b : Addr} {u : HO}, H b = some u → (∀ ps, u ≠ .tbl ps) → H' b = some u ∧ ∀ o, s.heap.get? b = some o → h'.get? b = some o := fun {b u} e n => by
    rcases kt b u e with z | ⟨ps, _, z, _⟩
    · exact z
    · exact absurd z (n ps)
  obtain ⟨m0, ⟨oL, esL, epL, eL, rL⟩, _⟩ := id I.loc
  have kL := (k _ _ I.free eL).1
  refine I.step (g' := s.gens) (d' := s.drawn) (ch := []) (fun _ z => nomatch z) (fun b u n _ _ e q => (k b u q e).1) (fun b u n _ _ e q => ⟨u.slots, (k b u q e).1⟩) (fun b u _ e q => (k b u q e).2) (fun b u _ e => ?_) (fun b xs e => (same e (by intro _ z; cases z)).1) (fun b u v e => (same e (by intro _ z; cases z)).1) (fun b ps e => ?_) (fun m2 hm2 => ?_) (fun b u e => ?_) I.bare
  · cases q : H b with
    | none => exact ⟨u, (k b u q e).1⟩
    | some v =>
      rcases kt b v q with z | ⟨ps, more, _, _, z⟩
      · exact ⟨u, z.2 u e⟩
      · exact ⟨_, z⟩
  · rcases kt b _ e with z | ⟨ps', more, z, z2, _⟩
    · exact ⟨#[], by rw [z.1]; simp⟩
    · cases z
      exact ⟨more, z2⟩
  · obtain ⟨o, es, ep, e, r⟩ := hm2
    rw [eL] at e
    cases e
    exact ⟨_, es, ep, kL, r⟩
  · cases q : H b with
    | none => exact new b u q e
    | some v =>
      rcases kt b v q with z | ⟨ps, more, rfl, z2, z3⟩
      · rw [z.1] at e
        cases e
        refine (I.hok b _ q).stay (fun c o hc e2 => ?_) (fun c e2 => (same e2 (by intro _ z; cases z)).1) fun c xs e2 => (same e2 (by intro _ z; cases z)).1
        rcases hc with rfl | hc
        · exact z.2 o e2
        · exact (same hc (by intro _ z; cases z)).2 o e2
      · rw [z2] at e
        cases e
        exact z3
def TabOk (pos : Pos) (qual : Str) (ps : Array Value) (H : Hp) : Prop := ps = #[] ∨ ∃ (c' : Addr) (oc : Obj) (vs : Array Value) (t : Tok), ps = #[rawInt pos.line, rawInt pos.col, .ref c'] ∧ H c' = some (.frz oc (.own c')) ∧ oc.data = .fields vs ∧ vs[1]? = some (.str qual t)
def Bm (mg : Str → Option Value) (base : Heap) : Prop := ∃ bm ob, mg "__builtins__" = some (.ref bm) ∧ bm ≠ builtinsNs ∧ base.get? bm = some ob ∧ ob.cls = .type "module" ∧ ob.dict = some builtinsNs ∧ ob.data = .plain
def tLam (P : Addr) (pos : Pos) (qual : Str) : TE := fun _ H Q => ∃ ps, H P = some (.tbl ps) ∧ TabOk pos qual ps H ∧ ∀ f ps' H', Kp P H H' → H' P = some (.tbl ps') → TabOk pos qual ps' H' → IsLam H' f → Q (.ref f) H'
theorem pe_lam {X : Cx} {c P : Addr} {qual x : Str} {params : Arguments} {scope : Scope} {p1 p2 p3 pos : Pos} {j : Nat} (B : Bm X.mg X.base) (hc : X.env.code = .ref c) (hK : PySem.W.codeHdIn X.K c P = true) (hq : X.env.qual ++ ("<lambda>" : Str) = qual) (S : LamScope x scope)
    (hdef : defaultsOf params X.env = ([], []) := by rfl) (hcl : closureFor scope X.env = pure [] := by rfl)
    (hb : ∀ (pm ctv : Value) (c' q : Addr), bindArgs (PySem.W.kla_fn "<lambda>" qual params (ixBody x p1 p2 p3 j) scope [] pm (.ref c') ctv) ⟨[.ref q], []⟩ = pure [(x, .ref q)] := by intros; rfl) :
    PE X (.Lambda params (ixBody x p1 p2 p3 j) scope pos) (tLam P pos qual) := by
  intro pins s σ H Q I h
  obtain ⟨ps, eP, tk, q⟩ := h
  have hP : s.heap.get? P = some (PySem.W.tabObj ps) := I.hok P _ eP
  obtain ⟨bm, ob, b1, b2, b3, b4, b5, b6⟩ := B
  have hg : s.heap.Ns mainGlobals X.mg := I.ok.mod.glob.keeps I.bk
  have nob : ∀ {b : Addr} {o : Obj}, X.base.get? b = some o → b ≠ P := fun {b o} e z => by
    have := (I.bs b o e).2
    rw [z, eP] at this
    cases this
  have nG : mainGlobals ≠ P := by
    obtain ⟨o, _, _, e, _⟩ := I.ok.mod.glob
    exact nob e
  have nbG : bm ≠ mainGlobals := fun z => by
    obtain ⟨o, es, ep, e, hd, _⟩ := I.ok.mod.glob
    rw [z, e] at b3
    cases b3
    rw [hd] at b6
    cases b6
  have BA : s.heap.BuiltinsAt X.mg P := ⟨bm, ob, b1, b2, nbG, nob b3, I.bk _ _ b3, b4, b5, b6⟩
  have CH := PySem.W.codeHd_of_K I.kIn hK
  refine PySem.W.kla_eval hdef ?_
  rw [hq]
  have nP : ∀ {b : Addr}, H b = none → b ≠ P := fun {b} e z => by rw [z, eP] at e; cases e
  rcases tk with rfl | ⟨c', oc, vs, t, rfl, e1, e2, e3⟩
  · refine PySem.W.kla_makeFunction hcl I.ok.glob hg hc CH hP trivial rfl nG BA fun c' ctv h' tk' hx hge hlt hrec hP' => ?_
    obtain ⟨c2, oc, vs, t, z, hoc, hd, hv⟩ := hrec
    cases z
    have fc : H c' = none := I.hok.fresh hge
    have hsz : s.heap.objs.size ≤ h'.objs.size := Nat.le_trans hge (Nat.le_of_lt hlt)
    have ff : H h'.objs.size = none := I.hok.fresh hsz
    have ncf : c' ≠ h'.objs.size := Nat.ne_of_lt hlt
    have ncP : c' ≠ P := nP fc
    have nfP : h'.objs.size ≠ P := nP ff
    generalize hf : h'.objs.size = f at *
    generalize hob : PySem.W.kla_obj "<lambda>" qual params (ixBody x p1 p2 p3 j) scope [] ((X.mg "__name__").getD .none) c' ctv = fo
    let H' : Hp := upd (upd (upd H P (.tbl (#[] ++ #[rawInt pos.line, rawInt pos.col, .ref c']))) c' (.frz oc (.own c'))) f (.frz fo (.own f))
    have hP2 : H' P = some (.tbl #[rawInt pos.line, rawInt pos.col, .ref c']) := by
      show upd _ _ _ _ = _
      rw [upd_ne (Ne.symm nfP), upd_ne (Ne.symm ncP), upd_same]
      simp
    have hc2 : H' c' = some (.frz oc (.own c')) := by
      show upd _ _ _ _ = _
      rw [upd_ne ncf, upd_same]
    have hf2 : H' f = some (.frz fo (.own f)) := upd_same
    have old : ∀ {b : Addr}, b ≠ P → b ≠ c' → b ≠ f → H' b = H b := fun {b} n1 n2 n3 => by
      show upd _ _ _ _ = _
      rw [upd_ne n3, upd_ne n2, upd_ne n1]
    have push : ∀ {b : Addr} {o : Obj}, h'.get? b = some o → (h'.push fo).get? b = some o := fun e => Heap.get?_push_of_some _ e
    have I' : Inv X pins σ H' { s with heap := h'.push fo, toks := tk' } := by
      refine I.grow (fun b u n e => ?_) (fun b u e => ?_) fun b u n e => ?_
      · have lt := Heap.lt_size e
        have n2 : b ≠ c' := Nat.ne_of_lt (Nat.lt_of_lt_of_le lt hge)
        have n3 : b ≠ f := Nat.ne_of_lt (Nat.lt_of_lt_of_le lt hsz)
        exact ⟨push (hx b u (nP n) e), by rw [old (nP n) n2 n3]; exact n⟩
      · by_cases hbP : b = P
        · right
          rw [hbP, eP] at e
          cases e
          exact ⟨#[], #[rawInt pos.line, rawInt pos.col, .ref c'], rfl, by rw [hbP, hP2]; simp, by rw [hbP]; exact push hP'⟩
        · left
          have n2 : b ≠ c' := fun z => by rw [z, fc] at e; cases e
          have n3 : b ≠ f := fun z => by rw [z, ff] at e; cases e
          exact ⟨by rw [old hbP n2 n3]; exact e, fun o e4 => push (hx b o hbP e4)⟩
      · by_cases hbf : b = f
        · rw [hbf, hf2] at e
          cases e
          have e5 : (h'.push fo).get? f = some fo := by
            rw [← hf]
            exact Heap.get?_push_size _ (by rw [← hob]; rfl)
          rw [hbf]
          exact ⟨e5, _, e5⟩
        · by_cases hbc : b = c'
          · rw [hbc, hc2] at e
            cases e
            rw [hbc]
            exact ⟨push hoc, _, push hoc⟩
          · have hbP : b ≠ P := nP n
            rw [old hbP hbc hbf, n] at e
            cases e
    refine ⟨.ref f, H', I', rfl, q f _ H' (fun b u n e => ?_) hP2 (.inr ⟨c', oc, vs, t, rfl, hc2, hd, hv⟩) ⟨qual, x, params, p1, p2, p3, j, scope, _, ctv, c', oc, vs, t, by rw [hf2, ← hob], hc2, hd, hv, S, hb _ _ _⟩⟩
    have n2 : b ≠ c' := fun z => by rw [z, fc] at e; cases e
    have n3 : b ≠ f := fun z => by rw [z, ff] at e; cases e
    rw [old n n2 n3]
    exact e
  · have hcode : codeAmong pos (#[rawInt pos.line, rawInt pos.col, Value.ref c']).toList = some (.ref c') := by
      show (if ((pos.line : Int) == (pos.line : Int) && (pos.col : Int) == (pos.col : Int)) = true then some (Value.ref c') else _) = _
      simp
    refine PySem.W.kla_makeFunctionHit hcl I.ok.glob hg hc CH hP trivial hcode BA fun ctv h' tk' hx hsz => ?_
    have ff : H h'.objs.size = none := I.hok.fresh hsz
    generalize hob : ({ cls := Value.type "function", data := Data.func (PySem.W.kla_fn "<lambda>" qual params (ixBody x p1 p2 p3 j) scope [] ((X.mg "__name__").getD .none) (.ref c') ctv) } : Obj) = fo
    have e5 : (h'.push fo).get? h'.objs.size = some fo := Heap.get?_push_size _ (by rw [← hob]; rfl)
    have k2 : ∀ {b : Addr} {u : HO}, H b = some u → upd H h'.objs.size (.frz fo (.own h'.objs.size)) b = some u := fun {b u} e => by
      rw [upd_ne (fun z => by rw [z, ff] at e; cases e)]
      exact e
    refine ⟨.ref h'.objs.size, upd H h'.objs.size (.frz fo (.own h'.objs.size)), I.laid (t' := tk') (fun b u e => Heap.get?_push_of_some _ (hx b u e)) hsz ⟨e5, _, e5⟩, rfl, q _ _ _ (fun b u n e => k2 e) (k2 eP) (.inr ⟨c', oc, vs, t, rfl, k2 e1, e2, e3⟩) ⟨qual, x, params, p1, p2, p3, j, scope, _, ctv, c', oc, vs, t, by rw [upd_same, ← hob], k2 e1, e2, e3, S, hb _ _ _⟩⟩
section
variable {P : Program} {w : World} {K : PySem.W.Frag} {mg : Str → Option Value} {base : Heap} {CX : CXT} {k : Nat} {nm qual : Str} {st : Stmt} {f c : Addr} {N ps : List Str} {sp : Sp}
theorem fn_tellsC (h : ∃ fd, Fun K nm qual st f fd ∧ fd.code = .ref c) (S : FnScope N ps (defScope st)) (len : ∀ vs H Q E, sp vs H Q E → vs.length = ps.length)
    (hb : ∀ (kV doc pm : Value) (an : Option Addr) (cdv ct : Value) (us : List Value), us.length = ps.length → bindArgs (PySem.W.fnOf nm qual (defArgs st) (defBody st) (defScope st) .none kV doc pm an cdv ct) ⟨us, []⟩ = pure (ps.zip us))
    (hbody : ∀ (f : Addr) (A : Around) (outer : List Env) (s : Shared) (H : Hp) (vs : List V) (Q : VK) (E : XK), Room k (A.deeper (envOfC qual (defScope st) s.heap.objs.size f (.ref c))) → sp vs H Q E →
      ∃ t, PSs (cxOf CX P w K mg base N qual (defScope st) f (.ref c) A outer s H E).nox (defBody st) t ∧ t { nx := fun _ H' => Q .non H', rt := Q } (start N vs) H) : FnTells P w K mg base CX (k + 1) f ps sp := by
  obtain ⟨fd, F, hc⟩ := h
  refine ⟨fd, ?_, F.binds hb⟩
  obtain ⟨oc, od, kV, doc, pm, an, cdv, ct, osl, rfl, lk, hcd⟩ := F.ex
  obtain rfl : cdv = .ref c := hc
  refine fn_of lk hcd S len fun A outer s H vs Q E hr hsp => ?_
  obtain ⟨t, h, q⟩ := hbody f A outer s H vs Q E hr hsp
  exact ⟨t, h.nox, q⟩
end
def OnlyT (ts : List Addr) (H : Hp) : Prop := (∀ p ∈ ts, H p = some (.tbl #[])) ∧ ∀ b, b ∉ ts → H b = none ∨ ∃ o xs, H b = some (.frz o (.lst xs))
theorem law_callT {P : Program} {w : World} {K : PySem.W.Frag} {mg mb : Str → Option Value} {CX : CXT} {k : Nat} {fa a : Addr} {fd : FuncData} {x : Str} {sp : Sp} {s₁ : Shared} {vs : List Value} {ns : List Int} {ts : List Addr}
    (KX : K.In s₁.heap) (hns : s₁.heap.Ns mainGlobals mg) (hb : s₁.heap.Ns builtinsNs mb) (hbb : ∀ x : Str, x ≠ "__name__" → mb x = bootBuiltins x) (hlim : s₁.heap.NoLimit) (hg : s₁.gens = #[]) (hB : Bm mg s₁.heap)
    (hts : ∀ p ∈ ts, s₁.heap.get? p = some (PySem.W.tabObj #[])) (hct : ∀ p ∈ ts, isCodeTable s₁.heap p) (hKt : ∀ p ∈ ts, K.lookup p = none)
    (ha : s₁.heap.get? a = some { cls := .type "list", data := .seq vs.toArray }) (hi : IntsAre vs ns) (hl : ns.length ≤ sizeLine) (hr : Room k callerA)
    (F : ∀ base : Heap, K.In base → base.Ns mainGlobals mg → Bm mg base → FnOk P w K mg base CX k fa fd [x] sp) (hbind : ∀ (s : Shared) (u : Value), BindsTo s fd ⟨[u], []⟩ [(x, u)])
    (hsp : ∀ H : Hp, OnlyT ts H → a ∉ ts → SqL K H a (ns.map V.int) → sp [.ref a] H (fun v _ => v = .bl true) fun _ _ _ => False)
    (hCX : ∀ H e s', CX [] H s₁ (fun _ _ _ => False) e s' → False) :
    codeAny (model P w) callerA (.call (.ref fa) ⟨[.ref a], []⟩) (fun r s' => r = .ok (.ret (.bool true)) ∧ OldK s₁.heap s'.heap ∧ s'.os = s₁.os ∧ AllBare s'.gens) s₁ := by
  have rv := vals_ints hi
  have lenV := hi.length
  have nat : a ∉ ts := fun z => by
    have := hts a z
    rw [ha] at this
    cases this
  have core : ∀ H : Hp, OnlyT ts H → SqL K H a (ns.map V.int) → HOk P w H s₁.heap → (∀ b, b ∉ ts → H b ≠ none → b = a) → (H a ≠ none → K.lookup a = none) →
      codeAny (model P w) callerA (.call (.ref fa) ⟨[.ref a], []⟩) (fun r s' => r = .ok (.ret (.bool true)) ∧ OldK s₁.heap s'.heap ∧ s'.os = s₁.os ∧ AllBare s'.gens) s₁ := by
    intro H hO hS hok hA hK
    have kindOf : ∀ {b : Addr} {o : Obj}, s₁.heap.get? b = some o → H b ≠ none → o = PySem.W.tabObj #[] ∨ o = { cls := .type "list", data := .seq vs.toArray } := fun {b o} e n => by
      by_cases hb : b ∈ ts
      · left
        have := hts b hb
        rw [e] at this
        exact Option.some.inj this
      · right
        have := hA b hb n
        rw [this, ha] at e
        exact (Option.some.inj e).symm
    have keep : ∀ {b : Addr} {o : Obj}, s₁.heap.get? b = some o → o ≠ PySem.W.tabObj #[] → o ≠ { cls := .type "list", data := .seq vs.toArray } → (hidT s₁.heap H).get? b = some o := fun {b o} e n1 n2 => hidT_get e (by
      cases q : H b with
      | none => rfl
      | some u =>
        rcases kindOf e (by rw [q]; simp) with z | z
        · exact absurd z n1
        · exact absurd z n2)
    have nsK : ∀ {b : Addr} {m : Str → Option Value}, s₁.heap.Ns b m → (hidT s₁.heap H).Ns b m := fun {b m} ⟨o, es, ep, e, d, r⟩ => ⟨o, es, ep, keep e (fun z => by rw [z] at d; cases d) (fun z => by rw [z] at d; cases d), d, r⟩
    have hKb : K.In (hidT s₁.heap H) := fun b o e => hidT_get (KX b o e) (by
      cases q : H b with
      | none => rfl
      | some u =>
        by_cases hb : b ∈ ts
        · rw [hKt b hb] at e
          cases e
        · have z := hA b hb (by rw [q]; simp)
          rw [z] at e q
          rw [hK (by rw [q]; simp)] at e
          cases e)
    have hBb : Bm mg (hidT s₁.heap H) := by
      obtain ⟨bm, ob, b1, b2, b3, b4, b5, b6⟩ := hB
      exact ⟨bm, ob, b1, b2, keep b3 (fun z => by rw [z] at b4; cases b4) (fun z => by rw [z] at b6; cases b6), b4, b5, b6⟩
    have hM : Mod K mg (hidT s₁.heap H) := ⟨hKb, nsK hns, ⟨mb, nsK hb, hbb⟩, let ⟨mc, h1, h2⟩ := hlim; ⟨mc, nsK h1, h2⟩⟩
    have e0 : Env0 P w K mg (hidT s₁.heap H) callerA [] s₁ H := ⟨rfl, hM, fun b o e => of_hidT e, Nat.le_of_eq (hidT_size _ _), trivial, fun b hb => absurd (show b ∈ ([] : List Addr) from hb) (by simp), hok, .of_eq hg⟩
    refine codeAny_mono ((F _ hKb (nsK hns) hBb).run callerA [] s₁ H ⟨[.ref a], []⟩ [.ref a] [.ref a] _ _ hr e0 (hbind s₁ (.ref a)) (.cons rfl .nil) (hsp H hO nat hS)) fun r s' h => ?_
    rcases r with e | fl
    · exact (hCX H e s' h).elim
    · rcases fl with _ | _ | _ | u
      · exact False.elim h
      · exact False.elim h
      · exact False.elim h
      · obtain ⟨v, H', os, bare, un, hok', r', q⟩ := h
        obtain rfl : v = .bl true := q
        obtain rfl : u = Value.bool true := r'
        refine ⟨rfl, ?_, os, bare⟩
        have each : ∀ b o, s₁.heap.get? b = some o → s'.heap.get? b = some o ∨ (b ∈ ts ∧ o = PySem.W.tabObj #[] ∧ ∃ more, s'.heap.get? b = some (PySem.W.tabObj (#[] ++ more))) := fun b o e => by
          cases q : H b with
          | none => exact .inl (un.keep b o e q (fun z => absurd (show b ∈ ([] : List Addr) from z) (by simp)) (by simp))
          | some u =>
            by_cases hb : b ∈ ts
            · right
              have e1 := hts b hb
              rw [e] at e1
              obtain ⟨more, e2⟩ := un.tbls b #[] (hO.1 b hb)
              exact ⟨hb, Option.some.inj e1, more, hok' b _ e2⟩
            · left
              rcases hO.2 b hb with z | ⟨ob, xs, z⟩
              · rw [q] at z
                cases z
              · have e1 := (hok b _ z).1
                rw [e] at e1
                cases e1
                exact (hok' b _ (un.frzs b _ _ z)).1
        refine ⟨fun b o e => ?_, fun b o e => ?_⟩
        · rcases each b o e with z | ⟨hb, rfl, more, z⟩
          · exact .inl z
          · exact .inr (.inl ⟨hct b hb, rfl, #[], more, rfl, z⟩)
        · rcases each b o e with z | ⟨_, _, more, z⟩
          · exact ⟨_, z⟩
          · exact ⟨_, z⟩
  cases hk : K.lookup a with
  | some o =>
    have e := KX a o hk
    rw [ha] at e
    cases e
    refine core (fun b => if b ∈ ts then some (.tbl #[]) else none) ⟨fun p hp => if_pos hp, fun b hb => .inl (if_neg hb)⟩ (.inr ⟨_, vs.toArray, _, hk, rfl, rfl, rfl, by rw [List.size_toArray, lenV]; exact hl, by simpa using rv⟩) (fun b u z => ?_) (fun b hb z => absurd (if_neg hb) z) fun z => absurd (if_neg nat) z
    by_cases hb : b ∈ ts
    · have z' := (if_pos hb).symm.trans z
      cases z'
      exact hts b hb
    · have z' := (if_neg hb).symm.trans z
      cases z'
  | none =>
    refine core (fun b => if b ∈ ts then some (.tbl #[]) else if b = a then some (.frz { cls := .type "list", data := .seq vs.toArray } (.lst (ns.map V.int))) else none) ⟨fun p hp => if_pos hp, fun b hb => ?_⟩ (.inl (.inr ⟨{ cls := .type "list", data := .seq vs.toArray }, ?_⟩)) (fun b u z => ?_) (fun b hb z => ?_) fun _ => hk
    · by_cases h : b = a
      · exact .inr ⟨_, _, (if_neg hb).trans (if_pos h)⟩
      · exact .inl ((if_neg hb).trans (if_neg h))
    · exact (if_neg nat).trans (if_pos rfl)
    · by_cases hb : b ∈ ts
      · have z' := (if_pos hb).symm.trans z
        cases z'
        exact hts b hb
      · by_cases h : b = a
        · have z' := ((if_neg hb).trans (if_pos h)).symm.trans z
          cases z'
          rw [h]
          exact ⟨ha, by rw [List.length_map]; exact hl, vs, _, rv, ha⟩
        · have z' := ((if_neg hb).trans (if_neg h)).symm.trans z
          cases z'
    · by_cases h : b = a
      · exact h
      · exact absurd ((if_neg hb).trans (if_neg h)) z
theorem walk_ofT {l : PySem.W.OpenLaw} {n k : Nat} {q : Program} {loose : List Str} {XP : (Str → Option Value) → Heap → Prop} {YP : World → Heap → Prop} {d : DefRec} {K : Params → PySem.W.Frag} {CX : World → CXT} {sp : World → Sp} {x : Str} {ts : List Addr}
    (hn : l.most = some n) (hn2 : n ≤ sizeLine) (hdf : d.params.defaults = []) (hr : Room k callerA)
    (hY : ∀ (w : World) (h : Heap), YP w h → (K w.params).In h ∧ ∀ p ∈ ts, h.get? p = some (PySem.W.tabObj #[]))
    (F : ∀ (w : World) (mg : Str → Option Value) (fa : Addr) (h : Heap), (K w.params).In h → h.Ns mainGlobals mg → mg d.name = some (.ref fa) → (∀ p ∈ ts, (K w.params).lookup p = none ∧ ∃ c, PySem.W.codeHdIn (K w.params) c p = true) ∧
      ∃ fd : FuncData, (∀ (s : Shared) (u : Value), BindsTo s fd ⟨[u], []⟩ [(x, u)]) ∧
        ∀ base : Heap, (K w.params).In base → base.Ns mainGlobals mg → Bm mg base → FnOk l.prog w (K w.params) mg base (CX w) k fa fd [x] (sp w))
    (hsp : ∀ (w : World) (H : Hp) (a : Addr) (ns : List Int), ns.length ≤ n → OnlyT ts H → a ∉ ts → SqL (K w.params) H a (ns.map V.int) → sp w [.ref a] H (fun v _ => v = .bl true) fun _ _ _ => False)
    (hCX : ∀ (w : World) (H : Hp) (s : Shared) (e : Value) (s' : Shared), CX w [] H s (fun _ _ _ => False) e s' → False) :
    PySem.W.WalkO q loose XP YP l.row.toRowW d [] (fun f vs => PySem.call f vs) := by
  refine Att.attach_call hn hdf fun w s₀ s₁ mg mb fa o pm cd doc a vs ns G Y ho hd hcd hmg hobj hints hlen hg => ?_
  obtain ⟨KX, hts⟩ := hY w _ Y
  obtain ⟨hT, fd, hb, hF⟩ := F w mg fa _ KX G.T.g hmg
  refine law_callT KX G.T.g G.T.b G.T.builtins G.T.nolimit hg G.T.bmain hts (fun p hp => ?_) (fun p hp => (hT p hp).1) hobj hints (Nat.le_trans hlen hn2) hr hF hb (fun H hO hn hS => hsp w H a ns hlen hO hn hS) fun H e s' => hCX w H s₁ e s'
  obtain ⟨c, hc⟩ := (hT p hp).2
  obtain ⟨o, vs, _, _, _, _, _, _, _, e1, e2, e3, e4, _⟩ := PySem.W.codeHd_of_K KX hc
  exact ⟨c, o, vs, e1, e2, e3, e4⟩
end L2
namespace L2
open PySem PySem.Spec PyProof.Rows PySem.SeqAt
def tx (cs : List Nat) : Str := ⟨cs.toArray⟩
theorem tx_len (cs : List Nat) : (tx cs).length = cs.length := by simp [tx, Str.length]
theorem tx_cps (cs : List Nat) : (tx cs).cps.toList = cs := by simp [tx]
theorem tx_inj {a b : List Nat} (h : tx a = tx b) : a = b := by
  have := congrArg (fun z : Str => z.cps.toList) h
  simpa [tx] using this
def rSlS : R2 := fun x y H Q => ∃ z j, x = .str z ∧ y = .int j ∧ z.length ≤ sizeLine ∧ Q (.str (Txt.slice z none (some j))) H
def tSlS (te th : TE) : TE := fun σ H Q => te σ H fun x H1 => th σ H1 fun y H2 => rSlS x y H2 Q
section
variable {X : Cx} {e hi : Expr} {te th : TE} {p2 pos : Pos}
theorem pe_slS (he : PE X e te) (hu : PE X hi th) : PE X (.Subscript e (.Slice none (some hi) none p2) pos) (tSlS te th) := by
  intro pins s σ H Q I h
  refine Subscript_ (thn (he pins s σ H _ I h) fun v s1 ⟨x, H1, I1, r1, q1⟩ => ?_)
  refine wpAny_Slice (wpAny_evalPart_none (wpAny_evalPart_some (thn (hu pins s1 σ H1 _ I1 q1) fun vu s3 ⟨y, H3, I3, pu, z, j, e1, e2, hz, q3⟩ => wpAny_evalPart_none ?_)))
  subst e1
  subst e2
  obtain ⟨t, rfl⟩ := r1
  obtain ⟨t2, rfl⟩ := pu
  obtain ⟨Tn, id, h1, h2, h3⟩ := SBH.sliceItem_ns (prog := X.prog) (w := X.w) (A := X.A) (E := X.xe) (s := s3) (P := fun h => ∀ b o, s3.heap.get? b = some o → h.get? b = some o) (Q := EP X pins σ Q) (x := z) (t := t) (j := j) (uj := t2) (fun h ob k b o e4 => Heap.get?_push_of_some _ (k b o e4)) (fun _ _ e4 => e4) (fun h' t' k kp => ⟨.str _, H3, I3.kept kp, ⟨t', rfl⟩, q3⟩) hz
  exact tail_any (ops := [.ref s3.heap.objs.size, .str z t]) h2 h1 h3 (by with_unfolding_all rfl)
def rMulS : R2 := fun x y H Q => ∃ z n, x = .str z ∧ y = .int n ∧ MulOk z n ∧ Q (.str (Txt.mul z n)) H
theorem op_mulS : OpR X (binaryOp .Mult) rMulS := op_mul_str
def rPopA : V → List V → Hp → VK → Prop := fun x vs H Q => ∃ l xs i y, x = .ref l ∧ vs = [.int i] ∧ H l = some (.lst xs) ∧ 0 ≤ i ∧ i < xs.length ∧ xs.length ≤ 1000000 ∧ xs[i.toNat]? = some y ∧ ∀ H', Off l H H' → H' l = some (.lst (xs.eraseIdx i.toNat)) → Q y H'
theorem mt_popA : MtM X "list.pop" rPopA := by
  intro pins s σ H x vs v us Q I rx rv h
  obtain ⟨l, xs, i, y, e1, e2, hH, h0, h1, hz, hy, q⟩ := h
  refine mt_popAt pins s σ H x vs v us Q I rx rv ⟨l, xs, i, i.toNat, y, e1, e2, hH, by omega, by omega, ?_, hy, q _ Off.upd upd_same⟩
  unfold seqIndex?
  simp only [show ¬ i < 0 from by omega, if_false, h0, h1, decide_true, Bool.and_self, if_true]
theorem pe_popA {o e : Expr} {to te : TE} {apos cpos : Pos} (ho : PE X o to) (he : PE X e te) (hbase : attributeBase o "pop" X.env (eval o X.env) = eval o X.env := by rfl)
    (hfew : ((backTo cpos (starEach [e] X.env)).all (fun x => !x.1) && (backToKw cpos (keywordEach [] X.env)).all (fun x => x.1.isSome)
      && decide (([e] : List Expr).length + ([] : List Keyword).length + (if ([] : List Keyword).isEmpty then 0 else 1) < 30)) = true := by rfl)
    (hline : (apos.endLine == cpos.line) = true := by rfl) (hs : starEach [e] X.env = (false, eval e X.env) :: starEach [] X.env := by rfl) :
    PE X (.Call (.Attribute o "pop" apos) [e] [] cpos) (tBM X.K "list" rPopA to (tCons te tNil)) :=
  pe_bm PySem.F.plainAttrs_list PySem.F.slot_list_pop PySem.F.type_list_pop mt_popA ho (pa_cons he pa_nil hs) hbase hfew hline hs (by rfl)
end
theorem slice_tx (cs : List Nat) (j : Nat) : Txt.slice (tx cs) none (some (j : Int)) = tx (cs.take j) := by
  have hn : ¬ ((j : Int) < 0) := by omega
  have hix : Builtin.Str.strSliceIndices none (some (j : Int)) 1 (tx cs).length = List.range (min j cs.length) := by
    unfold Builtin.Str.strSliceIndices sliceRange
    dsimp only
    rw [tx_len]
    simp only [show (1 : Int) > 0 from by decide, if_true, hn, if_false]
    have e1 : max (0 : Int) (min (j : Int) (cs.length : Int)) = ((min j cs.length : Nat) : Int) := by omega
    rw [e1]
    by_cases h : (0 : Int) < ((min j cs.length : Nat) : Int)
    · rw [if_pos h]
      have e2 : ((((min j cs.length : Nat) : Int) - 0 + 1 - 1) / 1).toNat = min j cs.length := by
        rw [Int.ediv_one]
        omega
      rw [e2]
      have e3 : (fun k : Nat => ((0 : Int) + 1 * (k : Int)).toNat) = id := by
        funext k
        show ((0 : Int) + 1 * (k : Int)).toNat = k
        omega
      rw [e3, List.map_id]
    · rw [if_neg h]
      have : min j cs.length = 0 := by omega
      rw [this]
      rfl
  unfold Txt.slice
  rw [hix, List.length_range, tx_len]
  by_cases h : min j cs.length = cs.length
  · rw [if_pos (by rw [h]; simp)]
    rw [List.take_of_length_le (by omega)]
  · rw [if_neg (by simp [h])]
    unfold tx
    congr 2
    have hfm : ∀ (n : Nat), n ≤ cs.length → (List.range n).filterMap (fun i => cs.toArray[i]?) = cs.take n := by
      intro n
      induction n with
      | zero => intro _; rfl
      | succ n ih =>
        intro hn
        rw [List.range_succ, List.filterMap_append, ih (by omega), List.take_succ, List.filterMap_cons, List.filterMap_nil]
        have : cs.toArray[n]? = cs[n]? := by simp
        rw [this]
        cases cs[n]? <;> rfl
    have := hfm (min j cs.length) (by omega)
    rw [this]
    by_cases hj : j ≤ cs.length
    · rw [show min j cs.length = j by omega]
    · exact absurd (by omega) h
theorem mul_tx (c : Nat) (n : Int) : Txt.mul (tx [c]) n = tx (List.replicate n.toNat c) := by
  have h := mul_one_list c n
  have e : (tx [c]) = ⟨#[c]⟩ := rfl
  rw [e]
  have : ∀ z : Str, z = tx z.cps.toList := fun z => by cases z; simp [tx]
  rw [this (Txt.mul ⟨#[c]⟩ n), h]
theorem append_tx (a b : List Nat) : tx a ++ tx b = tx (a ++ b) := by
  show Str.append _ _ = _
  unfold Str.append tx
  simp
section
variable {K : PySem.W.Frag} {H0 H : Hp} {M : List Addr} {L L' : List (Addr × HO)} {I : List Im} {l P f : Addr} {xs ys : List V} {v y : V} {Q : VK} {R : Hp → Prop} {te th : TE} {σ : St} {i : Int} {cs ds : List Nat} {j c : Nat} {pos : Pos} {qual : Str} {ps : Array Value}
instance go_slS : Go (tSlS te th σ H Q) (te σ H fun x H1 => th σ H1 fun y H2 => rSlS x y H2 Q) := ⟨id⟩
instance go_rslS : Go (rSlS (.str (tx cs)) (.int i) H Q) (Sd (0 ≤ i ∧ cs.length ≤ 1000) (Q (.str (tx (cs.take i.toNat))) H)) := ⟨fun s => ⟨_, i, rfl, rfl, by rw [tx_len]; exact small_line (by have := s.1.2; omega), by
  have := slice_tx cs i.toNat
  rw [show ((i.toNat : Nat) : Int) = i by have := s.1.1; omega] at this
  rw [this]
  exact s.2⟩⟩
instance go_rixS : Go (rIxS (.str (tx cs)) (.int i) H Q) (Sd (0 ≤ i ∧ i < cs.length ∧ cs.length ≤ 1000) (∀ c : Nat, cs[i.toNat]? = some c → Q (.str (tx [c])) H)) := ⟨fun s => by
  obtain ⟨⟨h0, h1, h2⟩, k⟩ := s
  have hl : i.toNat < cs.length := by omega
  refine ⟨tx cs, i, cs[i.toNat], rfl, rfl, by rw [tx_len]; exact small_line (by omega), ?_, k _ (by simp)⟩
  rw [tx_cps]
  obtain ⟨n, rfl⟩ : ∃ n : Nat, i = (n : Int) := ⟨i.toNat, by omega⟩
  exact atI_nat (by simp)⟩
instance go_raddS : Go (rAddS (.str (tx cs)) (.str (tx ds)) H Q) (Sd (cs.length + ds.length ≤ 1000) (Q (.str (tx (cs ++ ds))) H)) := ⟨fun s => ⟨_, _, rfl, rfl, by rw [tx_len, tx_len]; exact small_line (by have := s.1; omega), by rw [append_tx]; exact s.2⟩⟩
instance go_rmulS : Go (rMulS (.str (tx [c])) (.int i) H Q) (Sd (0 ≤ i ∧ i ≤ 1000) (Q (.str (tx (List.replicate i.toNat c))) H)) := ⟨fun s => by
  obtain ⟨⟨h0, h1⟩, k⟩ := s
  refine ⟨_, i, rfl, rfl, ⟨?_, fun a b => ?_, fun a b => ?_⟩, by rw [mul_tx]; exact k⟩
  · rw [decide_eq_false (by omega), decide_eq_false (by omega)]
    rfl
  · rw [tx_len]
    have : (1 : Int) ≤ (2 ^ 63 - 1) / i := by
      rw [Int.le_ediv_iff_mul_le (by omega)]
      omega
    simp only [List.length_cons, List.length_nil]
    omega
  · unfold Builtin.Str.tooLong
    rw [tx_len]
    refine decide_eq_false ?_
    have := small_line (n := 1 * i.toNat) (by omega)
    simp only [List.length_cons, List.length_nil]
    omega⟩
instance go_pop [h : Hat H l (.lst xs)] : Go (rPopA (.ref l) [.int i] H Q) (Sd (0 ≤ i ∧ i < xs.length ∧ xs.length ≤ 1000000) (∀ y : V, xs[i.toNat]? = some y → ∀ H', Off l H H' → H' l = some (.lst (xs.eraseIdx i.toNat)) → Q y H')) := ⟨fun s => by
  obtain ⟨⟨h0, h1, h2⟩, k⟩ := s
  have hl : i.toNat < xs.length := by omega
  exact ⟨l, xs, i, xs[i.toNat], rfl, rfl, h.e, h0, h1, h2, by simp, k _ (by simp)⟩⟩
theorem w_tupD {n i0 i1 i2 i3 : Nat} {a b c d : V} {R : St → Hp → Prop} (hn : n = 4) (hp : SqT K H l [a, b, c, d]) (h : gName i0 a σ H fun σ1 H1 => gName i1 b σ1 H1 fun σ2 H2 => gName i2 c σ2 H2 fun σ3 H3 => gName i3 d σ3 H3 R) : gTup K n (gCons (gName i0) (gCons (gName i1) (gCons (gName i2) (gCons (gName i3) gNil)))) (.ref l) σ H R := by
  subst hn
  exact ⟨l, _, rfl, hp, rfl, _, _, rfl, _, _, rfl, _, _, rfl, _, _, rfl, rfl, h⟩
instance go_tup4 {n i0 i1 i2 i3 : Nat} {a b c d : V} {R : St → Hp → Prop} [h : SqB K H l [a, b, c, d]] : Go (gTup K n (gCons (gName i0) (gCons (gName i1) (gCons (gName i2) (gCons (gName i3) gNil)))) (.ref l) σ H R) (Sd (n = 4) (gName i0 a σ H fun σ1 H1 => gName i1 b σ1 H1 fun σ2 H2 => gName i2 c σ2 H2 fun σ3 H3 => gName i3 d σ3 H3 R)) := ⟨fun s => w_tupD s.1 h.e s.2⟩
theorem TabOk.st : ∀ H H', Tst H H' → TabOk pos qual ps H → TabOk pos qual ps H' := fun H H' t h => by
  rcases h with h | ⟨c', oc, vs, t', e, e1, e2⟩
  · exact .inl h
  · exact .inr ⟨c', oc, vs, t', e, t _ _ rfl e1, e2⟩
theorem IsLam.st : ∀ H H', Tst H H' → IsLam H f → IsLam H' f := fun H H' t h => by
  obtain ⟨a1, a2, a3, a4, a5, a6, a7, a8, a9, a10, a11, a12, a13, a14, e1, e2, r⟩ := h
  exact ⟨a1, a2, a3, a4, a5, a6, a7, a8, a9, a10, a11, a12, a13, a14, t _ _ rfl e1, t _ _ rfl e2, r⟩
abbrev TabI (pos : Pos) (qual : Str) (ps : Array Value) : Im := .fct (TabOk pos qual ps) TabOk.st
abbrev LamI (f : Addr) : Im := .fct (fun H => IsLam H f) IsLam.st
class TabA (I : List Im) (pos : Pos) (qual : Str) (ps : Array Value) : Prop where
  m : TabI pos qual ps ∈ I
class LamA (I : List Im) (f : Addr) : Prop where
  m : LamI f ∈ I
instance tabA1 {g : Im} [h : TabA I pos qual ps] : TabA (g :: I) pos qual ps := ⟨List.mem_cons_of_mem _ h.m⟩
instance tabA0 : TabA (TabI pos qual ps :: I) pos qual ps := ⟨List.mem_cons_self⟩
instance lamA0 : LamA (LamI f :: I) f := ⟨List.mem_cons_self⟩
theorem SH.tab [F : SH H0 M H L I] [h : TabA I pos qual ps] : TabOk pos qual ps H := F.im _ h.m
instance go_lam [F : SH H0 M H L I] [e : LkL L P (.tbl ps)] [t : TabA I pos qual ps] : Go (tLam P pos qual σ H Q) (∀ (f : Addr) (ps' : Array Value) (H' : Hp), Kp P H H' → H' P = some (.tbl ps') → TabOk pos qual ps' H' → IsLam H' f → Q (.ref f) H') := ⟨fun k => ⟨ps, F.raw e.m, F.im _ t.m, k⟩⟩
instance nx_tab [F : SH H0 M H L I] [u : LkU L P (.tbl ps) L'] : Go (∀ H', Kp P H H' → H' P = some (.tbl ps) → TabOk pos qual ps H' → R H') (∀ H', SH H0 M H' L' (TabI pos qual ps :: I) → R H') := ⟨fun k H' f e t => k H' ((F.kp f e u.u rfl).addF t)⟩
instance nx_lam [F : SH H0 M H L I] [u : LkU L P (.tbl ps) L'] : Go (∀ H', Kp P H H' → H' P = some (.tbl ps) → TabOk pos qual ps H' → IsLam H' f → R H') (∀ H', SH H0 M H' L' (LamI f :: TabI pos qual ps :: I) → R H') := ⟨fun k H' f e t g => k H' (((F.kp f e u.u rfl).addF t).addF g)⟩
end
def isLow (c : Nat) : Bool := decide (97 ≤ c) && decide (c ≤ 122)
def isFig (c : Nat) : Bool := decide (48 ≤ c) && decide (c ≤ 57)
def LET : Str := "abcdefghijklmnopqrstuvwxyz"
def SGN : Str := "abcdefghijklmnopqrstuvwxyz0123456789"
theorem let_low (c : Nat) : decide (c ∈ LET.cps.toList) = isLow c := by
  rw [show LET.cps.toList = List.range' 97 26 by decide +kernel]
  unfold isLow
  rw [Bool.eq_iff_iff]
  simp only [decide_eq_true_eq, List.mem_range'_1, Bool.and_eq_true]
  omega
theorem sgn_low (c : Nat) : decide (c ∈ SGN.cps.toList) = (isLow c || isFig c) := by
  rw [show SGN.cps.toList = List.range' 97 26 ++ List.range' 48 10 by decide +kernel]
  unfold isLow isFig
  rw [Bool.eq_iff_iff]
  simp only [decide_eq_true_eq, List.mem_append, List.mem_range'_1, Bool.and_eq_true, Bool.or_eq_true]
  omega
structure NameOk (cs : List Nat) : Prop where
  lo : 1 ≤ cs.length
  hi : cs.length ≤ 8
  hd : ∀ c, cs[0]? = some c → isLow c = true
  all : ∀ c ∈ cs, (isLow c || isFig c) = true
structure Rw where
  nm : List Nat
  st : Nat
  sz : Nat
  pn : Nat
abbrev rowV (r : Rw) : List V := [.str (tx r.nm), .int (r.st : Nat), .int (r.sz : Nat), .int (r.pn : Nat)]
def rowsV (rs : List Rw) : List (List V) := rs.map rowV
theorem rowsV_len (rs : List Rw) : (rowsV rs).length = rs.length := List.length_map ..
structure GoodR (n : Nat) (r : Rw) : Prop where
  nm : NameOk r.nm
  sz : 1 ≤ r.sz
  le : r.st + r.sz ≤ n
def Apart (r s : Rw) : Prop := r.nm ≠ s.nm ∧ (r.st + r.sz ≤ s.st ∨ s.st + s.sz ≤ r.st)
theorem Apart.symm {r s : Rw} (h : Apart r s) : Apart s r := ⟨fun z => h.1 z.symm, h.2.elim .inr .inl⟩
structure Lay (n : Nat) (rs : List Rw) : Prop where
  good : ∀ r ∈ rs, GoodR n r
  ap : rs.Pairwise Apart
  few : rs.length ≤ 40
def Asc (rs : List Rw) : Prop := rs.Pairwise fun r s => r.st + r.sz ≤ s.st
theorem Lay.perm {n : Nat} {rs qs : List Rw} (h : Lay n rs) (p : rs.Perm qs) : Lay n qs := ⟨fun r hr => h.good r (p.mem_iff.mpr hr), (p.pairwise_iff (fun {a b} => Apart.symm)).mp h.ap, by rw [← p.length_eq]; exact h.few⟩
theorem rowsV_at {H : Hp} {rs : List Rw} {ys : List V} {i : Nat} {v : V} (h : TupsAt H ys (rowsV rs)) (e : ys[i]? = some v) : ∃ r q, rs[i]? = some r ∧ v = .ref q ∧ H q = some (.tup (rowV r)) := by
  obtain ⟨r, q, e1, e2, e3⟩ := tups_at h e
  unfold rowsV at e1
  rw [List.getElem?_map] at e1
  cases e4 : rs[i]? with
  | none => rw [e4] at e1; cases e1
  | some w => rw [e4] at e1; cases e1; exact ⟨w, q, rfl, e2, e3⟩
theorem perm_of_map {α β : Type} {f : α → β} {l : List β} {m : List α} (p : l.Perm (m.map f)) : ∃ k : List α, k.Perm m ∧ l = k.map f := by
  generalize hm : m.map f = m' at p
  induction p generalizing m with
  | nil => exact ⟨[], by rw [List.map_eq_nil_iff.mp hm], rfl⟩
  | cons x p ih =>
    cases m with
    | nil => cases hm
    | cons a t =>
      rw [List.map_cons] at hm
      injection hm with h1 h2
      obtain ⟨k, pk, ek⟩ := ih h2
      exact ⟨a :: k, pk.cons a, by rw [List.map_cons, h1, ek]⟩
  | swap x y l =>
    cases m with
    | nil => cases hm
    | cons a t =>
      cases t with
      | nil => rw [List.map_cons] at hm; injection hm with h1 h2; cases h2
      | cons b u =>
        rw [List.map_cons, List.map_cons] at hm
        injection hm with h1 h2
        injection h2 with h2 h3
        exact ⟨b :: a :: u, List.Perm.swap a b u, by rw [List.map_cons, List.map_cons, h1, h2, h3]⟩
  | trans p1 p2 ih1 ih2 =>
    obtain ⟨k, pk, ek⟩ := ih2 hm
    obtain ⟨k2, pk2, ek2⟩ := ih1 ek.symm
    exact ⟨k2, pk2.trans pk, ek2⟩
theorem rise_one : ∀ {as bs : List Rw}, as.Perm bs → as.Pairwise (fun r s => r.st ≤ s.st) → bs.Pairwise (fun r s => r.st < s.st) → as = bs := by
  intro as
  induction as with
  | nil => intro bs p _ _; exact (List.nil_perm.mp p).symm
  | cons a t ih =>
    intro bs p ha hb
    cases bs with
    | nil => exact absurd p.length_eq (by simp)
    | cons b u =>
      have e : a = b := by
        rcases List.mem_cons.mp (p.mem_iff.mp List.mem_cons_self) with h | h
        · exact h
        · have h1 := (List.pairwise_cons.mp hb).1 a h
          rcases List.mem_cons.mp (p.mem_iff.mpr (List.mem_cons_self (a := b) (l := u))) with h2 | h2
          · exact h2.symm
          · have h3 := (List.pairwise_cons.mp ha).1 b h2
            omega
      subst e
      rw [ih (List.perm_cons a |>.mp p) (List.pairwise_cons.mp ha).2 (List.pairwise_cons.mp hb).2]
theorem zip_map1 {rs : List Rw} {ys : List V} : (rs.map fun r => ((r.st : Nat) : Int)).zip ys = (rs.zip ys).map fun p => (((p.1.st : Nat) : Int), p.2) := by
  rw [List.zip_map_left]
  rfl
theorem sort_rows {H : Hp} {rs as : List Rw} {ys zs : List V} (t : TupsAt H ys (rowsV rs)) (p : rs.Perm as) (ha : as.Pairwise fun r s => r.st < s.st) (s : SortedBy (rs.map fun r => ((r.st : Nat) : Int)) ys zs) : TupsAt H zs (rowsV as) := by
  obtain ⟨ps, pp, rfl, pw⟩ := s
  rw [zip_map1] at pp
  obtain ⟨qs, pq, rfl⟩ := perm_of_map pp
  have hl : ys.length = rs.length := by rw [t.1, rowsV_len]
  have e1 : (rs.zip ys).map Prod.fst = rs := List.map_fst_zip (by omega)
  have pf : (qs.map Prod.fst).Perm rs := by
    have := pq.map Prod.fst
    rw [e1] at this
    exact this
  have hq : qs.map Prod.fst = as := by
    refine rise_one (pf.trans p) ?_ ha
    rw [List.pairwise_map] at pw ⊢
    exact pw.imp fun h => by omega
  have each : ∀ x ∈ qs, ∃ q, x.2 = .ref q ∧ H q = some (.tup (rowV x.1)) := fun x hx => by
    have hx := pq.mem_iff.mp hx
    obtain ⟨i, hi, e⟩ := List.getElem_of_mem hx
    rw [List.length_zip] at hi
    rw [List.getElem_zip] at e
    obtain ⟨r, q, e2, e3, e4⟩ := rowsV_at t (v := ys[i]'(by omega)) (i := i) (by simp)
    rw [List.getElem?_eq_getElem (by omega)] at e2
    refine ⟨q, by rw [← e]; exact e3, ?_⟩
    rw [← e]
    show H q = some (.tup (rowV rs[i]))
    rw [Option.some.inj e2]
    exact e4
  refine ⟨by rw [rowsV_len, ← hq, List.length_map, List.length_map, List.length_map], fun j r e => ?_⟩
  unfold rowsV at e
  rw [← hq, List.map_map, List.getElem?_map] at e
  cases e5 : qs[j]? with
  | none => rw [e5] at e; cases e
  | some x =>
    rw [e5] at e
    cases e
    obtain ⟨q, e6, e7⟩ := each x (List.mem_of_getElem? e5)
    exact ⟨q, by rw [List.map_map, List.getElem?_map, e5]; show some x.2 = _; rw [e6], e7⟩
theorem Asc.lt {n : Nat} {rs : List Rw} (h : Asc rs) (g : ∀ r ∈ rs, GoodR n r) : rs.Pairwise fun r s => r.st < s.st := by
  refine List.Pairwise.imp_of_mem ?_ h
  intro a b ha hb hab
  have := (g a ha).sz
  omega
def rInS : R2 := fun x y H Q => ∃ c j, x = .str ⟨#[c]⟩ ∧ y = .str j ∧ Q (.bl (decide (c ∈ j.cps.toList))) H
section
variable {X : Cx} {K : PySem.W.Frag} {H : Hp} {Q : VK} {z : Str} {cs : List Nat} {c : Nat} {t0 te : TE} {nt : Nat} {fr : List Nat} {g : TG} {cc : TT} {σ fvs : St} {p f l : Addr} {bs : List Bool} {ys : List V} {rs : List Rw}
theorem op_inS : OpR X (compareOp .In) rInS := op_in_str1
instance go_inS : Go (rInS (.str (tx [c])) (.str z) H Q) (Q (.bl (decide (c ∈ z.cps.toList))) H) := ⟨fun k => ⟨c, z, rfl, rfl, k⟩⟩
instance go_isSS : Go (rIsT K [.str z, .ty "str"] H Q) (Q (.bl true) H) := ⟨fun k => w_is (TyOf.str (K := K) (H := H) z) (bt_str (TyOf.str (K := K) (H := H) z)) k⟩
instance go_lenS : Go (rLen K [.str (tx cs)] H Q) (Sd (cs.length ≤ 1000) (Q (.int cs.length) H)) := ⟨fun s => w_lenS (by rw [tx_len]; exact small_line (by have := s.1; omega)) (by rw [tx_len]; exact s.2)⟩
instance go_compS : Go (tComp (iStr t0) nt fr g cc te σ H Q) (t0 σ H fun x H1 => ∃ z, x = .str z ∧ CompAll (Its z) nt fr g cc te σ H1 Q) := ⟨id⟩
instance go_compS1 : Go (∃ z', V.str z = .str z' ∧ CompAll (Its z') nt fr g cc te σ H Q) (CompAll (Its z) nt fr g cc te σ H Q) := ⟨fun k => ⟨z, rfl, k⟩⟩
theorem comp_S {F : Nat → V} (hz : cs.length ≤ 1000) (hf : (fr.map fun i => (σ[i]?).getD none) = fvs) (turn : ∀ (c : Nat) (H' : Hp) (R : VK), c ∈ cs → Same H H' → (∀ H2, Same H' H2 → R (F c) H2) → te (some (.str (tx [c])) :: fvs) H' R)
    (k : ∀ p H', New H H' p (.lst (cs.map F)) → Q (.ref p) H') : CompAll (Its (tx cs)) 1 fr (gName 0) tTrue te σ H Q := by
  have e0 : signsV (tx cs) = cs.map fun c => V.str (tx [c]) := by
    unfold signsV
    rw [tx_cps]
    rfl
  refine comp_map (P := fun i y => ∃ c, cs[i]? = some c ∧ y = F c) (items_str (z := tx cs)) (by rw [e0, List.length_map]; omega) hf (fun _ _ => trivial) (fun i v H' R hv s kk => ?_) fun p H' ys n hl hP => k p H' ?_
  · rw [e0, List.getElem?_map] at hv
    cases e : cs[i]? with
    | none => rw [e] at hv; cases hv
    | some c =>
      rw [e] at hv
      cases hv
      exact turn c H' R (List.mem_of_getElem? e) s fun H2 s2 => kk _ _ s2 ⟨c, e, rfl⟩
  · have e : ys = cs.map F := by
      rw [e0, List.length_map] at hl
      apply List.ext_getElem?
      intro i
      rw [List.getElem?_map]
      by_cases hi : i < ys.length
      · obtain ⟨c, e1, e2⟩ := hP i ys[i] (by simp)
        rw [e1, List.getElem?_eq_getElem hi, e2]
        rfl
      · rw [List.getElem?_eq_none (by omega), List.getElem?_eq_none (by omega)]
        rfl
    rw [e] at n
    exact n
instance go_all [h : SqA K H p (bs.map V.bl)] : Go (∃ (p' : Addr) (bs' : List Bool), [V.ref p] = [.ref p'] ∧ SqL K H p' (bs'.map V.bl) ∧ Q (.bl (bs'.all id)) H) (Q (.bl (bs.all id)) H) := ⟨fun k => ⟨p, bs, rfl, h.e, k⟩⟩
instance go_sortK {H0 : Hp} {M : List Addr} {L : List (Addr × HO)} {I : List Im} [F : SH H0 M H L I] [h : SqA K H l ys] [t : TpA H ys (rowsV rs)] [m : LamA I f] : Go (rSortK K [.ref l] (.ref f) H Q) (Sd (rs.length < 64) (∀ D zs H', New H H' D (.lst zs) → SortedBy (rs.map fun r => ((r.st : Nat) : Int)) ys zs → Q (.ref D) H')) := ⟨fun s => by
  have hl : ys.length = rs.length := by rw [t.e.1, rowsV_len]
  refine ⟨l, f, ys, rs.map fun r => ((r.st : Nat) : Int), rfl, rfl, F.im _ m.m, h.e, by rw [List.length_map, hl], by rw [hl]; exact s.1, fun i v k hv hk => ?_, s.2⟩
  obtain ⟨r, q, e1, e2, e3⟩ := rowsV_at t.e hv
  rw [List.getElem?_map, e1] at hk
  cases hk
  exact ⟨q, _, e2, e3, rfl⟩⟩
instance nx_rowsV {H0 : Hp} {M : List Addr} {L : List (Addr × HO)} {I : List Im} {Z : Addr → Hp → Prop} [F : SH H0 M H L I] : Go (∀ p ys H', New H H' p (.lst ys) → TupsAt H' ys (rowsV rs) → Z p H') (∀ H' p ys, ys.length = rs.length → SH H0 M H' ((p, .lst ys) :: L) (.tps ys (rowsV rs) :: I) → Z p H') := ⟨fun k p ys H' n t => k H' p ys (by rw [t.1, rowsV_len]) (F.newR n t)⟩
end
end L2
namespace L2
open PySem PySem.Spec PyProof.Rows
def Itv (K : PySem.W.Frag) (a : Addr) (xs : List V) : It :=
  ⟨fun i H => SqL K H a xs ∧ i < xs.length, fun i H x H' => H' = H ∧ xs[xs.length - 1 - i]? = some x, fun i H => SqL K H a xs ∧ xs.length ≤ i⟩
theorem turn_rev {P : Program} {w : World} {K : PySem.W.Frag} {tg : Expr} (a it : Addr) (xs : List V) : Turn P w K tg (Itv K a xs) [it] it (fun i h => i ≤ xs.length ∧ h.IsRevIter it a ((xs.length : Int) - 1 - (i : Nat))) where
  mem := by simp
  obj := fun i h st b hb => by
    have e : b = it := by simpa using hb
    subst e
    obtain ⟨_, o, e, c, d⟩ := st
    exact ⟨o, e, fun v z => by rw [d] at z; cases z⟩
  keep := fun i h h' st k => ⟨st.1, st.2.at fun o e => k it (by simp) o e⟩
  item := by
    intro X hP hw hK hc i pins s σ H E I hf st hg
    subst hP hw hK
    obtain ⟨hq, hlt⟩ := hg
    obtain ⟨its, rv, p, hz⟩ := I.list hq
    have hx : xs[xs.length - 1 - i]? = some (xs[xs.length - 1 - i]'(by omega)) := by simp
    generalize xs[xs.length - 1 - i]'(by omega) = x at hx
    obtain ⟨u, hu, ru⟩ := rv.get hx
    obtain ⟨f0, f1, f2, f3, f4, f5⟩ := hf it (by simp)
    have hit := st.2
    rw [show (xs.length : Int) - 1 - (i : Nat) = ((xs.length - 1 - i : Nat) : Int) by omega] at hit
    refine wpAny_pyNext_rev_item hit p.isList (x := u) (by simpa using hu) fun h' st' sb => ?_
    rw [show ((xs.length - 1 - i : Nat) : Int) - 1 = (xs.length : Int) - 1 - ((i + 1 : Nat) : Int) by omega] at st'
    have I1 : Inv X pins σ H { s with heap := h' } := I.turned (t' := s.toks) (fun b o hb e => (sb.2 b hb).trans e) f0 f1 f3 f4 f5
    obtain ⟨o, e, c, d⟩ := id st'
    exact ⟨u, rfl, go_of (s := { s with heap := h' }) e c d (by decide) ⟨x, H, I1, ru, ⟨rfl, hx⟩, ⟨hlt, st'⟩, fun b hb => (hf b hb).1⟩⟩
  done := by
    intro X hP hw hK hc i pins s σ H E I hf st hg
    subst hP hw hK
    obtain ⟨f0, f1, f2, f3, f4, f5⟩ := hf it (by simp)
    have hit := st.2
    have hle : xs.length ≤ i := hg.2
    rw [show (xs.length : Int) - 1 - (i : Nat) = -1 by have := st.1; omega] at hit
    exact wpAny_pyNext_rev_end (I.ok.hd hc) hit fun h' eb => ⟨rfl, I.turned (t' := s.toks) (fun b o hb e => eb b o hb e) f0 f1 f3 f4 f5⟩
  self := fun _ _ _ _ _ st h => wpAny_pyIter_revIter st.2 h
def iRev (K : PySem.W.Frag) (ta : TA) : TI := fun σ H R => ta σ H fun vs H1 => ∃ a xs, vs = [.ref a] ∧ SqL K H1 a xs ∧ R (Itv K a xs) H1
theorem pi_rev {X : Cx} {tg a : Expr} {ta : TA} {p pos : Pos} (hg : Gl X "reversed") (hm : X.mg "reversed" = none) (ha : PA X [a] ta) (hs : starEach [a] X.env = [(false, eval a X.env)] := by rfl) :
    PI X tg (.Call (.Name "reversed" p) [a] [] pos) (iRev X.K ta) := by
  intro pins s σ H R I h
  refine Call_ (ld_blt I hg hm boot_reversed (PyProof.Rows.callWith_type1 (thn (ha pos pins s σ H _ I h) fun us s1 ⟨vs, H1, I1, r1, q1⟩ => ?_) hs rfl))
  obtain ⟨l, xs, e, hq, q⟩ := q1
  subst e
  obtain ⟨u, rfl, r⟩ := vals1 r1
  cases r
  obtain ⟨its, rv, pl, hz⟩ := I1.list hq
  have hlen : its.toArray.size = xs.length := by rw [List.size_toArray]; exact rv.length.symm
  refine call_reversed_list pl.isList ?_
  have hit : (s1.heap.push (revObj l ((its.toArray.size : Int) - 1))).IsRevIter s1.heap.objs.size l ((xs.length : Int) - 1 - ((0 : Nat) : Int)) := ⟨_, Heap.get?_push_size _ rfl, rfl, by rw [hlen, show (xs.length : Int) - 1 - ((0 : Nat) : Int) = (xs.length : Int) - 1 by omega]; rfl⟩
  refine wpAny_pyIter_revIter hit ?_
  refine ⟨s1.heap.objs.size, [s1.heap.objs.size], _, Itv X.K l xs, H1, rfl, I1.kept (t' := s1.toks) fun b o e => Heap.get?_push_of_some _ e, turn_rev l _ xs, ⟨Nat.zero_le _, hit⟩, fun b hb => ?_, q⟩
  have e : b = s1.heap.objs.size := by simpa using hb
  subst e
  exact I1.fpOk (Nat.le_refl _) (I1.hok.fresh (Nat.le_refl _))
section
variable {K : PySem.W.Frag} {g : TG} {tb : TS} {D : Ends} {σ : St} {H : Hp} {tr : TA} {a : Addr} {xs : List V}
def ForV (K : PySem.W.Frag) (a : Addr) (xs : List V) (g : TG) (tb : TS) (D : Ends) (σ : St) (H : Hp) : Prop := ∃ W : Nat → Nat → St → Hp → Prop, (∃ m, W 0 m σ H) ∧ ∀ i m σ H, W i m σ H →
      ((Itv K a xs).stop i H ∧ D.nx σ H) ∨ ((Itv K a xs).go i H ∧ ∃ N : St → Hp → Prop, (∀ σ' H', N σ' H' → ∃ m', m' < m ∧ W (i + 1) m' σ' H') ∧ ∀ x H', (Itv K a xs).yld i H x H' → g x σ H' fun σ2 H2 => tb { D with nx := N, ct := N, bk := D.nx } σ2 H2)
theorem forV_by (Pv : Nat → St → Hp → Prop) (h0 : Pv 0 σ H) (hl : ∀ i σ H, i ≤ xs.length → Pv i σ H → SqL K H a xs)
    (hs : ∀ i x σ H, i < xs.length → xs[xs.length - 1 - i]? = some x → Pv i σ H → g x σ H fun σ2 H2 => tb { D with nx := Pv (i + 1), ct := Pv (i + 1), bk := D.nx } σ2 H2) (hd : ∀ σ H, Pv xs.length σ H → D.nx σ H) : ForV K a xs g tb D σ H := by
  refine ⟨fun i m σ H => m = xs.length - i ∧ i ≤ xs.length ∧ Pv i σ H, ⟨xs.length, by simp, Nat.zero_le _, h0⟩, ?_⟩
  rintro i m σ H ⟨rfl, hi, p⟩
  have q := hl i σ H hi p
  by_cases hlt : i < xs.length
  · refine .inr ⟨⟨q, hlt⟩, Pv (i + 1), fun σ' H' p' => ⟨xs.length - (i + 1), by omega, rfl, hlt, p'⟩, fun x H' y => ?_⟩
    obtain ⟨rfl, hv⟩ := y
    exact hs i x σ H' hlt hv p
  · have e : i = xs.length := by omega
    subst e
    exact .inl ⟨⟨q, Nat.le_refl _⟩, hd σ H p⟩
instance go_forV : Go (tFor (iRev K tr) g tb D σ H) (tr σ H fun vs H1 => ∃ a xs, vs = [.ref a] ∧ SqL K H1 a xs ∧ ForV K a xs g tb D σ H1) := ⟨id⟩
instance go_vby [h : SqA K H a xs] : Go (∃ a' xs', [V.ref a] = [.ref a'] ∧ SqL K H a' xs' ∧ ForV K a' xs' g tb D σ H) (ForV K a xs g tb D σ H) := ⟨fun k => ⟨a, xs, rfl, h.e, k⟩⟩
end
end L2
namespace L2
open PySem PySem.W PySem.Spec PyProof.Rows
section
variable {n : Nat} {rk : Nat → Int} {α β : Type}
def Pp (n : Nat) (p : Array Nat) : Prop := p.Perm (List.range n).toArray
theorem Pp.size {p : Array Nat} (h : Pp n p) : p.size = n := by
  have := h.size_eq
  simpa using this
theorem Pp.ne {p : Array Nat} (h : Pp n p) {a b : Nat} (ha : a < n) (hb : b < n) (hab : a ≠ b) : p.getD a 0 ≠ p.getD b 0 := by
  have hs := h.size
  have e : ∀ k (hk : k < n), p.getD k 0 = p.toList[k]'(by simpa [hs] using hk) := fun k hk => by
    rw [Array.getD_eq_getD_getElem?, Array.getElem?_eq_getElem (by omega)]
    rfl
  have nd : p.toList.Nodup := (Array.perm_iff_toList_perm.mp h).nodup_iff.mpr (by simpa using List.nodup_range)
  rw [e a ha, e b hb]
  intro z
  exact hab ((List.getElem_inj nd).mp z)
end
end L2
namespace L2
open PySem PySem.W PySem.Calls PySem.Spec PyProof.Rows
section
variable {prog : Program} {w : World} {A : Around} {E : Value → Shared → Prop} {s : Shared} {h₀ : Heap} {L : Addr} {m : Str → Option Value} {news : List (Addr × Obj)} {vs : List Value}
inductive F2 {α β : Type} (R : α → β → Prop) : List α → List β → Prop
  | nil : F2 R [] []
  | cons {a b l m} : R a b → F2 R l m → F2 R (a :: l) (b :: m)
theorem F2.length_eq {α β : Type} {R : α → β → Prop} : ∀ {l : List α} {m : List β}, F2 R l m → l.length = m.length
  | _, _, .nil => rfl
  | _, _, .cons _ h => congrArg (· + 1) h.length_eq
end
end L2
namespace L2
open PySem PySem.Spec PyProof.Rows PySem.SeqAt
section
variable {K : PySem.W.Frag} {H : Hp} {Q : VK} {l p q : Addr} {x : V} {r xs ys zs : List V} {rs : List Rw}
variable {σ : St} {nt : Nat} {fr : List Nat} {g : TG} {c : TT} {te t0 : TE}
variable {R : St → Hp → Prop}
theorem w_tupC {n i0 i1 i2 : Nat} {a b d : V} (hn : n = 3) (hp : SqT K H l [a, b, d]) (h : gName i0 a σ H fun σ1 H1 => gName i1 b σ1 H1 fun σ2 H2 => gName i2 d σ2 H2 R) : gTup K n (gCons (gName i0) (gCons (gName i1) (gCons (gName i2) gNil))) (.ref l) σ H R := by
  subst hn
  exact ⟨l, _, rfl, hp, rfl, _, _, rfl, _, _, rfl, _, _, rfl, rfl, h⟩
instance go_tup3 {n i0 i1 i2 : Nat} {a b d : V} [h : SqB K H l [a, b, d]] : Go (gTup K n (gCons (gName i0) (gCons (gName i1) (gCons (gName i2) gNil))) (.ref l) σ H R) (Sd (n = 3) (gName i0 a σ H fun σ1 H1 => gName i1 b σ1 H1 fun σ2 H2 => gName i2 d σ2 H2 R)) := ⟨fun s => w_tupC s.1 h.e s.2⟩
end
end L2
namespace L2
open PySem PySem.W PySem.Spec PyProof.Rows
section
variable {CX : CXT} {P : Program} {w : World} {K : PySem.W.Frag} {mg : Str → Option Value} {base : Heap} {k m : Nat} {x : Str} {ps : List Str} {sp : Sp} {ds : List Value} {dvs : List V}
structure DefD (P : Program) (w : World) (K : PySem.W.Frag) (mg : Str → Option Value) (base : Heap) (CX : CXT) (k : Nat) (x : Str) (ps : List Str) (sp : Sp) (ds : List Value) : Prop where
  ex : ∃ (f : Addr) (fd : FuncData), FnOk P w K mg base CX k f fd ps sp ∧ mg x = some (.ref f) ∧ PySem.W.keepIn K (.ref f) = true ∧ Binds K fd ps [] ∧ Binds K fd ps ds
theorem DefD.all (D : DefD P w K mg base CX k x ps sp ds) : Def P w K mg base CX k x ps sp :=
  let ⟨f, fd, F, a, b, c, _⟩ := D.ex
  ⟨f, fd, F, a, b, c⟩
end
def cval : Expr → Option V
  | .Constant (.str x) _ _ => some (.str x)
  | .Constant (.int i) _ _ => some (.int i)
  | .Constant (.bool b) _ _ => some (.bl b)
  | .Constant .none _ _ => some .non
  | _ => none
def cvals : List Expr → Option (List V)
  | [] => some []
  | e :: es => match cval e, cvals es with
    | some v, some vs => some (v :: vs)
    | _, _ => none
def tVals (vs : List V) : TA := fun _ H R => R vs H
section
variable {X : Cx}
theorem pe_strT {x : Str} {cs : List Nat} {j pos} (h : x = tx cs) : PE X (.Constant (.str x) j pos) (tC (.str (tx cs))) := by
  subst h
  exact pe_str
theorem pa_vals : ∀ {es : List Expr} {vs : List V}, cvals es = some vs → PA X es (tVals vs)
  | [], vs, h => by
    cases h
    exact pa_nil
  | e :: es, vs, h => by
    unfold cvals at h
    split at h
    · rename_i v vs' e1 e2
      cases h
      have ih := pa_vals e2
      unfold cval at e1
      split at e1
      · cases e1
        exact pa_cons (te := tC _) pe_str ih
      · cases e1
        exact pa_cons (te := tC _) pe_int ih
      · cases e1
        exact pa_cons (te := tC _) pe_bl ih
      · cases e1
        exact pa_cons (te := tC _) pe_non ih
      · cases e1
    · cases h
end
instance go_vals {σ : St} {H : Hp} {vs : List V} {R : List V → Hp → Prop} : Go (tVals vs σ H R) (R vs H) := ⟨fun h => h⟩
end L2
namespace L2
open PySem PySem.Spec PyProof.Rows PySem.SeqAt
class CutA (xs : List V) (lo hi : Option Int) (ys : outParam (List V)) : Prop where
  e : cutV xs lo hi = ys
section
variable {K : PySem.W.Frag} {H : Hp} {Q : VK} {σ : St} {t : TE} {ts : List TE} {a b cs : List Nat} {c n : Nat} {ps : List (List Nat)} {p l q : Addr} {xs ys r : List V} {lo hi : Option Int} {R : Str → Prop} {S : Int → Prop} {v v0 v1 v2 v3 v4 v5 : V} {i : Int} {z : Str} {bb : Bool}
instance go_slC [h : SqA K H l xs] [e : CutA xs lo hi ys] : Go (rSlA K (.ref l) lo hi H Q) (∀ p H', New H H' p (.lst ys) → Q (.ref p) H') := ⟨fun k => w_slA h.e (by rw [e.e]; exact k)⟩
instance go_isNr : Go (rIsN (.ref p) .non H Q) (Q (.bl false) H) := ⟨fun k => ⟨rfl, k⟩⟩
end
end L2
namespace L2
open PySem PySem.W PySem.Calls PySem.Spec PyProof.Rows
end L2
namespace L2
open PySem PySem.Spec PyProof.Rows PySem.SeqAt
end L2
namespace L2
open PySem PySem.W PySem.Spec PyProof.Rows
end L2
namespace L2
open PySem PySem.Spec PyProof.Rows
section
variable {X : Cx}
theorem lt_ints {P : Program} {w : World} {A : Around} {E : Value → Shared → Prop} {s : Shared} {i j : Int} {t u : Tok} {Q : Value → Shared → Prop} (h : Q (.bool (decide (i < j))) s) : wpAny (model P w) A (richCompare .Lt (.int i t) (.int j u)) Q E s := lt_int h
end
end L2
namespace L2
open PySem PySem.W PySem.Calls PySem.Spec PyProof.Rows
end L2
namespace L2
open PySem PySem.Spec PyProof.Rows PySem.SeqAt
theorem TyOf.kept {K : PySem.W.Frag} {H H' : Hp} {v : V} {t : Value} (h : TyOf K H v t) (k : ∀ a u, v = .ref a → H a = some u → H' a = some u) : TyOf K H' v t := by
  cases h with
  | non => exact .non
  | bl b => exact .bl b
  | int i => exact .int i
  | str x => exact .str x
  | flt x => exact .flt x
  | lst e => exact .lst (k _ _ rfl e)
  | frz e => exact .frz (k _ _ rfl e)
  | tup e => exact .tup (k _ _ rfl e)
  | dK e => exact .dK (k _ _ rfl e)
  | dT e => exact .dT (k _ _ rfl e)
  | ins e a b c d f => exact .ins (k _ _ rfl e) a b c d f
def EqVV (x y : V) (b : Bool) : Prop := (x = y ∧ idV x = true ∧ b = true) ∨ ∃ s t, x = .str s ∧ y = .str t ∧ b = (s == t)
theorem EqVV.at {A : Around} {s : Shared} {x y : V} {u v : Value} {b : Bool} (h : EqVV x y b) (ru : RelV x u) (rv : RelV y v) : EqAt A s u v b := by
  rcases h with ⟨rfl, hi, rfl⟩ | ⟨p, q, rfl, rfl, rfl⟩
  · exact same_eqAt hi ru rv
  · obtain ⟨t, rfl⟩ := ru
    obtain ⟨t', rfl⟩ := rv
    exact EqAt.str_str (A := A) (s := s) p t q t'
end L2
namespace L2
open PySem PySem.W PySem.Spec PyProof.Rows PySem.SeqAt
section
variable {K : PySem.W.Frag} {H : Hp} {Q : VK} {σ : St} {p q : Addr} {xs ys : List V} {te th : TE} {cs ds : List Nat} {j i : Int} {nms : List (List Nat)} {b : Bool} {a c : Nat}
theorem inV_str (a : List Nat) (nms : List (List Nat)) : inV (.str (tx a)) (nms.map fun cs => V.str (tx cs)) = decide (a ∈ nms) := by
  unfold inV
  induction nms with
  | nil => simp
  | cons b t ih =>
    rw [List.map_cons, List.any_cons, ih]
    have e : eqV (.str (tx b)) (.str (tx a)) = decide (a = b) := by
      by_cases h : a = b
      · subst h
        simp [eqV]
      · rw [decide_eq_false h]
        have : tx b ≠ tx a := fun z => h (tx_inj z).symm
        simp [eqV, this]
    rw [e]
    by_cases h : a = b <;> simp [h]
instance go_inStr [h : SqA K H p (nms.map fun cs => V.str (tx cs))] : Go (rIn K false (.str (tx cs)) (.ref p) H Q) (Q (.bl (decide (cs ∈ nms))) H) := ⟨fun k => ⟨_, _, rfl, .inl h.e, rfl, List.all_eq_true.mpr (fun z hz => by obtain ⟨b, _, rfl⟩ := List.mem_map.mp hz; rfl), by rw [if_neg (by decide), inV_str]; exact k⟩⟩
end
theorem Sb.refl : ∀ X : List (Addr × HO), Sb X X
  | [] => .nil
  | c :: X => .cons .head (Sb.refl X)
theorem Sb.skip {L' L : List (Addr × HO)} {c : Addr × HO} (h : Sb L' L) : Sb L' (c :: L) := by
  induction h with
  | nil => exact .nil
  | cons p t ih => exact .cons (.tail p) ih
instance (priority := low) sbX0 {X : List (Addr × HO)} : SbC X X := ⟨Sb.refl X⟩
instance (priority := low) sbX1 {X L : List (Addr × HO)} {c : Addr × HO} [h : SbC X L] : SbC X (c :: L) := ⟨h.s.skip⟩
theorem SH.perm {H0 H : Hp} {M : List Addr} {L L' : List (Addr × HO)} {I : List Im} (F : SH H0 M H L I) (p : L'.Perm L) : SH H0 M H L' I := ⟨F.fr, F.im, fun c hc => F.at' c (p.mem_iff.mp hc), (p.map _).nodup_iff.mpr F.nd, fun c hc => F.mu c (p.mem_iff.mp hc), fun c hc => F.ch c (p.mem_iff.mp hc)⟩
theorem SH.over {H0 H H' : Hp} {M M2 : List Addr} {A R L2 : List (Addr × HO)} {I I2 : List Im} (F : SH H0 M H (A ++ R) I) (G : SH H M2 H' L2 I2) (e : A.map (·.1) = M2) : SH H0 M H' (L2 ++ R) (I2 ++ I) := by
  have nd := F.nd
  rw [List.map_append, e] at nd
  obtain ⟨nd1, nd2, nd3⟩ := List.nodup_append.mp nd
  have inA : ∀ {b}, b ∈ M2 → ∃ c ∈ A, c.1 = b := fun h => by rw [← e] at h; exact List.mem_map.mp h
  have st : Tst H H' := fun q u tu hq => by
    refine G.fr q u (fun hm => ?_) hq
    obtain ⟨c, hc, rfl⟩ := inA hm
    have h1 := F.at' c (List.mem_append_left _ hc)
    have h2 := F.mu c (List.mem_append_left _ hc)
    rw [hq] at h1
    cases h1
    rw [h2] at tu
    cases tu
  have rn : ∀ {c}, c ∈ R → c.1 ∉ M2 := fun hc hm => nd3 _ hm _ (List.mem_map.mpr ⟨_, hc, rfl⟩) rfl
  refine ⟨fun b u nb e0 => ?_, fun f hf => ?_, fun c hc => ?_, ?_, fun c hc => ?_, fun c hc => ?_⟩
  · refine G.fr b u (fun hm => ?_) (F.fr b u nb e0)
    obtain ⟨c, hc, rfl⟩ := inA hm
    rcases F.ch c (List.mem_append_left _ hc) with h | h
    · exact nb h
    · exact h _ u e0 rfl
  · rcases List.mem_append.mp hf with hf | hf
    · exact G.im f hf
    · exact Im.stay st (F.im f hf)
  · rcases List.mem_append.mp hc with hc | hc
    · exact G.at' c hc
    · exact G.fr _ _ (rn hc) (F.at' c (List.mem_append_right _ hc))
  · rw [List.map_append]
    refine List.nodup_append.mpr ⟨G.nd, nd2, fun a ha b hb => ?_⟩
    obtain ⟨c, hc, rfl⟩ := List.mem_map.mp ha
    obtain ⟨d, hd, rfl⟩ := List.mem_map.mp hb
    rcases G.ch c hc with h | h
    · exact fun z => rn hd (z ▸ h)
    · exact fun z => h d.1 _ (F.at' d (List.mem_append_right _ hd)) z.symm
  · rcases List.mem_append.mp hc with hc | hc
    · exact G.mu c hc
    · exact F.mu c (List.mem_append_right _ hc)
  · rcases List.mem_append.mp hc with hc | hc
    · rcases G.ch c hc with h | h
      · obtain ⟨d, hd, ed⟩ := inA h
        rw [← ed]
        exact F.ch d (List.mem_append_left _ hd)
      · by_cases hm : c.1 ∈ M
        · exact .inl hm
        · exact .inr fun b u e0 z => h b u (F.fr b u (by rw [z]; exact hm) e0) z
    · exact F.ch c (List.mem_append_right _ hc)
theorem SH.cut {H0 H : Hp} {M M2 : List Addr} {A R : List (Addr × HO)} {I : List Im} (F : SH H0 M H (A ++ R) I) (e : A.map (·.1) = M2) : SH H M2 H A [] := by
  have nd := F.nd
  rw [List.map_append] at nd
  exact ⟨fun _ _ _ h => h, (fun f hf => by cases hf), fun c hc => F.at' c (List.mem_append_left _ hc), (List.nodup_append.mp nd).1, fun c hc => F.mu c (List.mem_append_left _ hc), fun c hc => .inl (by rw [← e]; exact List.mem_map.mpr ⟨c, hc, rfl⟩)⟩
inductive AnyK (H : Hp) : V → Prop
  | flt {v : V} (h : v = .non ∨ (∃ b, v = .bl b) ∨ (∃ i, v = .int i) ∨ ∃ z, v = .str z) : AnyK H v
  | lst {q : Addr} {xs : List V} (e : H q = some (.lst xs)) : AnyK H (.ref q)
  | tup {q : Addr} {xs : List V} (e : H q = some (.tup xs)) : AnyK H (.ref q)
theorem AnyK.kept {H H' : Hp} {v : V} (h : AnyK H v) (k : ∀ a u, v = .ref a → H a = some u → H' a = some u) : AnyK H' v := by
  cases h with
  | flt h => exact .flt h
  | lst e => exact .lst (k _ _ rfl e)
  | tup e => exact .tup (k _ _ rfl e)
theorem AnyK.same {H H' : Hp} {v : V} (h : AnyK H v) (s : Same H H') : AnyK H' v := h.kept fun a u _ e => s a u e
theorem AnyK.ty {H : Hp} {v : V} (h : AnyK H v) (K : PySem.W.Frag) : ∃ n, TyOf K H v (.type n) := by
  cases h with
  | flt h =>
    rcases h with rfl | ⟨b, rfl⟩ | ⟨i, rfl⟩ | ⟨z, rfl⟩
    · exact ⟨_, .non⟩
    · exact ⟨_, .bl b⟩
    · exact ⟨_, .int i⟩
    · exact ⟨_, .str z⟩
  | lst e => exact ⟨_, .lst e⟩
  | tup e => exact ⟨_, .tup e⟩
theorem AnyK.id {H : Hp} {v : V} (h : AnyK H v) : idV v = true := by
  cases h with
  | flt h => rcases h with rfl | ⟨b, rfl⟩ | ⟨i, rfl⟩ | ⟨z, rfl⟩ <;> rfl
  | lst e => rfl
  | tup e => rfl
end L2
namespace L2
open PySem PySem.W PySem.Calls PySem.Spec PyProof.Rows
abbrev swBody (x : Str) (p1 p2 p3 p4 p5 p6 p7 : Pos) (j j2 j3 : Nat) : Expr := .Tuple [.Subscript (.Name x p1) (.Constant (.int 1) j p2) p3, .Subscript (.Name x p4) (.Constant (.int 0) j2 p5) p6] j3 p7
def IsLam2 (H : Hp) (f : Addr) : Prop := ∃ (qual x : Str) (params : Arguments) (p1 p2 p3 p4 p5 p6 p7 : Pos) (j j2 j3 : Nat) (scope : Scope) (pm ctv : Value) (c' : Addr) (oc : Obj) (vs : Array Value) (t : Tok),
  H f = some (.frz (PySem.W.kla_obj "<lambda>" qual params (swBody x p1 p2 p3 p4 p5 p6 p7 j j2 j3) scope [] pm c' ctv) (.own f)) ∧ H c' = some (.frz oc (.own c')) ∧ oc.data = .fields vs ∧ vs[1]? = some (.str qual t) ∧ LamScope x scope ∧
  ∀ q : Addr, bindArgs (PySem.W.kla_fn "<lambda>" qual params (swBody x p1 p2 p3 p4 p5 p6 p7 j j2 j3) scope [] pm (.ref c') ctv) ⟨[.ref q], []⟩ = pure [(x, .ref q)]
section
variable {K : PySem.W.Frag} {H0 H : Hp} {M : List Addr} {L L' : List (Addr × HO)} {I : List Im} {Q : VK} {l f P : Addr} {ys : List V} {ws : List (Nat × Nat)} {pos : Pos} {qual : Str} {ps : Array Value} {σ : St} {R : Hp → Prop}
theorem IsLam2.st : ∀ H H', Tst H H' → IsLam2 H f → IsLam2 H' f := fun H H' t h => by
  obtain ⟨a1, a2, a3, a4, a5, a6, a7, a8, a9, a10, a11, a12, a13, a14, a15, a16, a17, a18, a19, a20, e1, e2, r⟩ := h
  exact ⟨a1, a2, a3, a4, a5, a6, a7, a8, a9, a10, a11, a12, a13, a14, a15, a16, a17, a18, a19, a20, t _ _ rfl e1, t _ _ rfl e2, r⟩
end
section
variable {P : Program} {w : World} {K : PySem.W.Frag} {mg : Str → Option Value} {base : Heap} {CX : CXT} {k : Nat} {x : Str} {st : Stmt} {c : Addr} {N ps : List Str} {sp : Sp}
def HasDefC (K : PySem.W.Frag) (mg : Str → Option Value) (x : Str) (st : Stmt) (c : Addr) : Prop := ∃ (f : Addr) (fd : FuncData), Fun K x x st f fd ∧ fd.code = .ref c ∧ mg x = some (.ref f)
theorem def_ofC (h : HasDefC K mg x st c) (S : FnScope N ps (defScope st)) (len : ∀ vs H Q E, sp vs H Q E → vs.length = ps.length)
    (hb : ∀ (kV doc pm : Value) (an : Option Addr) (cdv ct : Value) (us : List Value), us.length = ps.length → bindArgs (PySem.W.fnOf x x (defArgs st) (defBody st) (defScope st) .none kV doc pm an cdv ct) ⟨us, []⟩ = pure (ps.zip us))
    (hbody : ∀ (f : Addr) (A : Around) (outer : List Env) (s : Shared) (H : Hp) (vs : List V) (Q : VK) (E : XK), Room k (A.deeper (envOfC x (defScope st) s.heap.objs.size f (.ref c))) → sp vs H Q E →
      ∃ t, PSs (cxOf CX P w K mg base N x (defScope st) f (.ref c) A outer s H E).nox (defBody st) t ∧ t { nx := fun _ H' => Q .non H', rt := Q } (start N vs) H) : Def P w K mg base CX (k + 1) x ps sp := by
  obtain ⟨f, fd, F, hc, m⟩ := h
  refine ⟨f, fd, ?_, m, F.kp, F.binds hb⟩
  obtain ⟨oc, od, kV, doc, pm, an, cdv, ct, osl, rfl, lk, hcd⟩ := F.ex
  obtain rfl : cdv = .ref c := hc
  refine fn_of lk hcd S len fun A outer s H vs Q E hr hsp => ?_
  obtain ⟨t, h, q⟩ := hbody f A outer s H vs Q E hr hsp
  exact ⟨t, h.nox, q⟩
end
end L2
namespace L2
open PySem PySem.W PySem.Spec PyProof.Rows
end L2
namespace L2
open PySem PySem.Spec PyProof.Rows PySem.SeqAt
abbrev flD (v : V) : PyData := pyD (flatDt v)
inductive ThD (H : Hp) : V → PyData → Prop
  | flat {v : V} (h : isFlat v = true) (z : Shm 500 1 (flD v)) : ThD H v (flD v)
  | lst {p : Addr} {vs : List V} (e : H p = some (.lst vs)) (h : ∀ v ∈ vs, isFlat v = true) (z : Shm 500 1 (.list (vs.map flD))) : ThD H (.ref p) (.list (vs.map flD))
  | tup {p : Addr} {vs : List V} (e : H p = some (.tup vs)) (h : ∀ v ∈ vs, isFlat v = true) (z : Shm 500 1 (.tuple (vs.map flD))) : ThD H (.ref p) (.tuple (vs.map flD))
  | dct {p : Addr} (e : H p = some (.dK [])) : ThD H (.ref p) (.dict [])
section
variable {H H' : Hp} {v : V} {d : PyData} {K : PySem.W.Frag}
theorem ThD.kept (h : ThD H v d) (k : ∀ a u, v = .ref a → H a = some u → H' a = some u) : ThD H' v d := by
  cases h with
  | flat h z => exact .flat h z
  | lst e h z => exact .lst (k _ _ rfl e) h z
  | tup e h z => exact .tup (k _ _ rfl e) h z
  | dct e => exact .dct (k _ _ rfl e)
theorem ThD.ty (h : ThD H v d) : ∃ n, TyOf K H v (.type n) := by
  cases h with
  | flat h z =>
    cases v with
    | non => exact ⟨_, .non⟩
    | bl b => exact ⟨_, .bl b⟩
    | int i => exact ⟨_, .int i⟩
    | str x => exact ⟨_, .str x⟩
    | _ => simp [isFlat] at h
  | lst e h z => exact ⟨_, .lst e⟩
  | tup e h z => exact ⟨_, .tup e⟩
  | dct e => exact ⟨_, .dK e⟩
end
end L2
set_option maxHeartbeats 400000
namespace L2
open PySem PySem.Spec PyProof.Rows PySem.SeqAt
end L2
set_option maxHeartbeats 1000000
namespace L2
open PySem PySem.Spec PyProof.Rows PySem.SeqAt
mutual
def TrH (H : Hp) : Dt → V → Prop
  | .non, v => v = .non
  | .bl b, v => v = .bl b
  | .int i, v => v = .int i
  | .str x, v => v = .str x
  | .lst ds, v => ∃ p xs, v = .ref p ∧ H p = some (.lst xs) ∧ TrsH H ds xs
  | .tup ds, v => ∃ p xs, v = .ref p ∧ H p = some (.tup xs) ∧ TrsH H ds xs
def TrsH (H : Hp) : List Dt → List V → Prop
  | [], xs => xs = []
  | d :: ds, xs => ∃ x r, xs = x :: r ∧ TrH H d x ∧ TrsH H ds r
end
mutual
theorem TrH.same {H H' : Hp} (s : Same H H') : ∀ {d : Dt} {v : V}, TrH H d v → TrH H' d v
  | .non, v, h => h
  | .bl _, v, h => h
  | .int _, v, h => h
  | .str _, v, h => h
  | .lst ds, v, h => by
    simp only [TrH] at h ⊢
    obtain ⟨p, xs, e, hp, hs⟩ := h
    exact ⟨p, xs, e, s _ _ hp, TrsH.same s hs⟩
  | .tup ds, v, h => by
    simp only [TrH] at h ⊢
    obtain ⟨p, xs, e, hp, hs⟩ := h
    exact ⟨p, xs, e, s _ _ hp, TrsH.same s hs⟩
theorem TrsH.same {H H' : Hp} (s : Same H H') : ∀ {ds : List Dt} {xs : List V}, TrsH H ds xs → TrsH H' ds xs
  | [], xs, h => h
  | d :: ds, xs, h => by
    simp only [TrsH] at h ⊢
    obtain ⟨x, r, e, h1, h2⟩ := h
    exact ⟨x, r, e, TrH.same s h1, TrsH.same s h2⟩
end
theorem TrsH.len {H : Hp} : ∀ {ds : List Dt} {xs : List V}, TrsH H ds xs → xs.length = ds.length
  | [], xs, h => by simp only [TrsH] at h; rw [h]; rfl
  | d :: ds, xs, h => by
    simp only [TrsH] at h
    obtain ⟨x, r, rfl, h1, h2⟩ := h
    rw [List.length_cons, List.length_cons, h2.len]
theorem TrsH.at {H : Hp} : ∀ {ds : List Dt} {xs : List V}, TrsH H ds xs → ∀ {i : Nat} {v : V}, xs[i]? = some v → ∃ d, ds[i]? = some d ∧ TrH H d v
  | [], xs, h, i, v, e => by simp only [TrsH] at h; rw [h] at e; cases e
  | d :: ds, xs, h, i, v, e => by
    simp only [TrsH] at h
    obtain ⟨x, r, rfl, h1, h2⟩ := h
    cases i with
    | zero => cases e; exact ⟨d, rfl, h1⟩
    | succ i => exact h2.at (i := i) e
theorem TrsH.of {H : Hp} : ∀ {ds : List Dt} {xs : List V}, xs.length = ds.length → (∀ (i : Nat) (v : V), xs[i]? = some v → ∃ d, ds[i]? = some d ∧ TrH H d v) → TrsH H ds xs
  | [], xs, hl, _ => by simp only [TrsH]; exact List.eq_nil_of_length_eq_zero hl
  | d :: ds, [], hl, _ => by cases hl
  | d :: ds, x :: r, hl, h => by
    simp only [TrsH]
    refine ⟨x, r, rfl, ?_, TrsH.of (by simpa using hl) fun i v e => h (i + 1) v e⟩
    obtain ⟨d', e, t⟩ := h 0 x rfl
    cases e
    exact t
mutual
def widD : Dt → Prop
  | .lst ds => ds.length ≤ 1000 ∧ widDs ds
  | .tup ds => ds.length ≤ 1000 ∧ widDs ds
  | _ => True
def widDs : List Dt → Prop
  | [] => True
  | d :: ds => widD d ∧ widDs ds
end
def Al (H : Hp) (B : List Addr) : Prop := ∀ b ∈ B, ∃ xs, H b = some (.lst xs)
theorem Al.same {H H' : Hp} {B : List Addr} (h : Al H B) (s : Same H H') : Al H' B := fun b hb => (h b hb).imp fun u e => s _ _ e
section
variable {H : Hp} {ds es : List Dt} {xs ys : List V}
theorem TrsH.append : ∀ {ds : List Dt} {xs : List V}, TrsH H ds xs → TrsH H es ys → TrsH H (ds ++ es) (xs ++ ys)
  | [], xs, h, h2 => by simp only [TrsH] at h; rw [h]; exact h2
  | d :: ds, xs, h, h2 => by
    simp only [TrsH] at h
    obtain ⟨x, r, rfl, a, b⟩ := h
    simp only [List.cons_append, TrsH]
    exact ⟨x, r ++ ys, rfl, a, b.append h2⟩
theorem TrsH.one {d : Dt} {v : V} (h : TrH H d v) : TrsH H [d] [v] := by
  simp only [TrsH]
  exact ⟨v, [], rfl, h, rfl⟩
theorem TrH.flat {v : V} (h : isFlat v = true) : TrH H (flatDt v) v := by
  cases v <;> simp [isFlat] at h <;> simp [flatDt, TrH]
theorem TrH.lst {p : Addr} (h : H p = some (.lst xs)) (t : TrsH H ds xs) : TrH H (.lst ds) (.ref p) := by
  simp only [TrH]
  exact ⟨p, xs, rfl, h, t⟩
theorem TrH.tup {p : Addr} (h : H p = some (.tup xs)) (t : TrsH H ds xs) : TrH H (.tup ds) (.ref p) := by
  simp only [TrH]
  exact ⟨p, xs, rfl, h, t⟩
end
def Sm (n : Nat) (ds : List Dt) : Prop := ∀ d ∈ ds, depD d ≤ n ∧ widD d
theorem Sm.append {n : Nat} {ds es : List Dt} (h : Sm n ds) (h2 : Sm n es) : Sm n (ds ++ es) := fun d hd => (List.mem_append.mp hd).elim (h d) (h2 d)
theorem Sm.one {n : Nat} {d : Dt} (h : depD d ≤ n) (w : widD d) : Sm n [d] := fun e he => by rw [List.mem_singleton.mp he]; exact ⟨h, w⟩
end L2
set_option maxHeartbeats 4000000
namespace L2
open PySem PySem.Spec PyProof.Rows PySem.SeqAt
end L2
namespace L2
open PySem PySem.W PySem.Spec PyProof.Rows
def stepsV (lo st : Int) (n : Nat) : List V := (List.range n).map fun i => V.int (lo + (i : Nat) * st)
end L2
namespace L2
open PySem PySem.Spec PyProof.Rows PySem.SeqAt
section
variable {X : Cx} {K : PySem.W.Frag} {H : Hp} {Q : VK} {p l : Addr} {nms : List (List Nat)} {cs : List Nat}
theorem vals_at : ∀ {xs : List V} {us : List Value} (r : Vals xs us) {i : Nat} (hi : i < us.length) (hj : i < xs.length), RelV xs[i] us[i]
  | _, _, .nil, _, hi, _ => by simp at hi
  | _ :: _, _ :: _, .cons r _, 0, _, _ => r
  | _ :: _, _ :: _, .cons _ t, i + 1, hi, hj => by
    simp only [List.getElem_cons_succ]
    exact vals_at t (by simpa using hi) (by simpa using hj)
def rIdx : V → List V → Hp → VK → Prop := fun x vs H Q => ∃ (l : Addr) (xs : List V) (v : V) (j : Nat), x = .ref l ∧ vs = [v] ∧ H l = some (.lst xs) ∧ flatV v = true ∧ xs.all flatV = true ∧ (∃ y, xs[j]? = some y ∧ eqV y v = true) ∧ (∀ i y, i < j → xs[i]? = some y → eqV y v = false) ∧ Q (.int (j : Nat)) H
theorem mt_idx : MtM X "list.index" rIdx := by
  intro pins s σ H x vs v us Q I rx rv h
  obtain ⟨l, xs, y, j, rfl, rfl, hH, fy, fs, ⟨w, hw, ew⟩, hno, q⟩ := h
  cases rx
  obtain ⟨u, rfl, ry⟩ := vals1 rv
  obtain ⟨z, its, n, r, hl, e⟩ := I.lstM hH
  have hlen := r.length
  obtain ⟨hj, e2⟩ := List.getElem?_eq_some_iff.mp hw
  rw [sizeLine_eq] at z
  have one : ∀ i (hi : i < its.length) (hx : i < xs.length), eqU y its[i] = eqV xs[i] y := fun i hi hx => eqU_of (vals_at r hi hx) (List.all_eq_true.mp fs _ (List.getElem_mem hx))
  refine call_meets PySem.F.slot_list_index ⟨_, e, rfl⟩ PySem.F.entry_list_index (PySem.F.args_list_index_2 _ _) (list_indexAt l its.toArray n _ _ u (eqU y) j (by rw [List.size_toArray]; omega) (by omega) ?_ ?_) ⟨e, fun a ha => mem_eqAt ry fy r fs a (by simpa using ha), ?_⟩
  · show eqU y its[j] = true
    rw [one j (by omega) hj, e2]
    exact ew
  · intro m hm hlt
    show eqU y its[m] = false
    rw [List.size_toArray] at hm
    rw [one m hm (by omega)]
    exact hno m _ hlt (List.getElem?_eq_getElem (by omega))
  · exact ⟨.int (j : Nat), H, I.tok _, ⟨_, rfl⟩, q⟩
theorem pe_idx {o e1 : Expr} {to te1 : TE} {apos cpos : Pos} (ho : PE X o to) (h1 : PE X e1 te1) (hbase : attributeBase o "index" X.env (eval o X.env) = eval o X.env := by rfl)
    (hfew : ((backTo cpos (starEach [e1] X.env)).all (fun x => !x.1) && (backToKw cpos (keywordEach [] X.env)).all (fun x => x.1.isSome)
      && decide (([e1] : List Expr).length + ([] : List Keyword).length + (if ([] : List Keyword).isEmpty then 0 else 1) < 30)) = true := by rfl)
    (hline : (apos.endLine == cpos.line) = true := by rfl) (hs : starEach [e1] X.env = (false, eval e1 X.env) :: starEach [] X.env := by rfl) (hp : (backTo cpos (starEach [] X.env)).any (·.1) = false := by rfl) :
    PE X (.Call (.Attribute o "index" apos) [e1] [] cpos) (tBM X.K "list" rIdx to (tCons te1 tNil)) :=
  pe_bm PySem.F.plainAttrs_list PySem.F.slot_list_index PySem.F.type_list_index mt_idx ho (pa_cons h1 pa_nil hs) hbase hfew hline hs hp
instance go_ninStr [h : SqA K H p (nms.map fun cs => V.str (tx cs))] : Go (rIn K true (.str (tx cs)) (.ref p) H Q) (Q (.bl (!decide (cs ∈ nms))) H) := ⟨fun k => ⟨_, _, rfl, .inl h.e, rfl, List.all_eq_true.mpr (fun z hz => by obtain ⟨b, _, rfl⟩ := List.mem_map.mp hz; rfl), by rw [if_pos rfl, inV_str]; exact k⟩⟩
theorem eqV_tx {a b : List Nat} : eqV (.str (tx b)) (.str (tx a)) = decide (a = b) := by
  by_cases h : a = b
  · subst h
    simp [eqV]
  · rw [decide_eq_false h]
    have : tx b ≠ tx a := fun z => h (tx_inj z).symm
    simp [eqV, this]
class IdxA (nms : List (List Nat)) (cs : List Nat) (j : outParam Nat) : Prop where
  a : nms[j]? = some cs
  n : nms.Nodup
instance go_idxS {j : Nat} [h : Hat H l (.lst (nms.map fun cs => V.str (tx cs)))] [a : IdxA nms cs j] : Go (rIdx (.ref l) [.str (tx cs)] H Q) (Q (.int (j : Nat)) H) := ⟨fun k => ⟨l, _, _, j, rfl, rfl, h.e, rfl, List.all_eq_true.mpr (fun z hz => by obtain ⟨b, _, rfl⟩ := List.mem_map.mp hz; rfl), ⟨.str (tx cs), by rw [List.getElem?_map, a.a]; rfl, by simp [eqV]⟩, fun i y hi hy => by
  rw [List.getElem?_map] at hy
  cases e : nms[i]? with
  | none => rw [e] at hy; cases hy
  | some b =>
    rw [e] at hy
    cases hy
    show eqV (.str (tx b)) (.str (tx cs)) = false
    rw [eqV_tx, decide_eq_false]
    intro z
    subst z
    obtain ⟨h1, e1⟩ := List.getElem?_eq_some_iff.mp a.a
    obtain ⟨h2, e2⟩ := List.getElem?_eq_some_iff.mp e
    exact List.pairwise_iff_getElem.mp a.n i j h2 h1 hi (e2.trans e1.symm), k⟩⟩
theorem call_list_ofK {X : Cx} {K : PySem.W.Frag} (hK : X.K = K) : CallR X (.type "list") (rLOfA K) := by
  subst hK
  exact call_list_ofA
theorem call_tuple_ofK {X : Cx} {K : PySem.W.Frag} (hK : X.K = K) : CallR X (.type "tuple") (rTOfA K) := by
  subst hK
  exact call_tuple_ofA
instance go_listT {xs : List V} [h : Hat H p (.tup xs)] : Go (rLOfA K [.ref p] H Q) (∀ l H', New H H' l (.lst xs) → Q (.ref l) H') := ⟨fun k => ⟨p, xs, rfl, .inr (.of h.e), k⟩⟩
instance go_tupL {xs : List V} [h : Hat H p (.lst xs)] : Go (rTOfA K [.ref p] H Q) (∀ l H', New H H' l (.tup xs) → Q (.ref l) H') := ⟨fun k => ⟨p, xs, rfl, .inl ⟨.of h.e, k⟩⟩⟩
end
def hsR (qs : List Addr) (T : List (List V)) : List (Addr × HO) := (qs.zip T).map fun x => (x.1, HO.lst x.2)
theorem hsR_snoc {qs : List Addr} {T : List (List V)} (h : qs.length = T.length) (q : Addr) (r : List V) : hsR (qs ++ [q]) (T ++ [r]) = hsR qs T ++ [(q, .lst r)] := by
  unfold hsR
  rw [List.zip_append h, List.map_append]
  rfl
theorem hsR_at {qs : List Addr} {T : List (List V)} {i : Nat} {q : Addr} {r : List V} (h1 : qs[i]? = some q) (h2 : T[i]? = some r) : (q, HO.lst r) ∈ hsR qs T := by
  refine List.mem_map.mpr ⟨(q, r), ?_, rfl⟩
  refine List.mem_of_getElem? (i := i) ?_
  rw [List.getElem?_zip_eq_some]
  exact ⟨h1, h2⟩
theorem hsR_set {qs : List Addr} {T : List (List V)} {i : Nat} {q : Addr} {r : List V} (o : List V) (h1 : qs[i]? = some q) (h2 : T[i]? = some r) : ∀ {B : List (Addr × HO)}, Up q (.lst o) (hsR qs T ++ B) (hsR qs (T.set i o) ++ B) := by
  induction qs generalizing T i with
  | nil => simp at h1
  | cons a qs ih =>
    intro B
    cases T with
    | nil => simp at h2
    | cons b T =>
      cases i with
      | zero =>
        simp at h1 h2
        subst h1 h2
        exact .head
      | succ i => exact .tail (ih (by simpa using h1) (by simpa using h2))
theorem comp_lists {K : PySem.W.Frag} {H0 : Hp} {M : List Addr} {L : List (Addr × HO)} {I : List Im} {l : Addr} {xs : List V} {rows : List (List V)} {σ fvs : L2.St} {fr : List Nat} {te : TE} {H : Hp} {Q : VK} (F : SH H0 M H L I) (hq : H l = some (.lst xs)) (tp : TupsAt H xs rows) (hz : xs.length ≤ 1000000) (hf : (fr.map fun i => (σ[i]?).getD none) = fvs)
    (turn : ∀ (q : Addr) r (H' : Hp) (R : VK), r ∈ rows → H' q = some (.tup r) → (∀ z H2, New H' H2 z (.lst r) → R (.ref z) H2) → te (some (.ref q) :: fvs) H' R)
    (k : ∀ p qs H', qs.length = rows.length → SH H0 M H' ((p, .lst (qs.map V.ref)) :: (hsR qs rows ++ L)) I → Q (.ref p) H') : CompAll (Itl K l) 1 fr (gName 0) tTrue te σ H Q := by
  intro acc hacc
  subst hf
  have n0 : New H (upd H acc (.lst [])) acc (.lst []) := .mk' hacc
  have xl : xs.length = rows.length := tp.1
  refine comp_by (items_list (xs := xs)) (fun i ys H' => ∃ qs : List Addr, qs.length = i ∧ ys = qs.map V.ref ∧ Same H H' ∧ SH H0 M H' ((acc, .lst ys) :: (hsR qs (rows.take i) ++ L)) I) ⟨[], rfl, rfl, n0.s, F.newL n0⟩ (fun i ys H' _ ⟨qs, ql, e, s, G⟩ => ⟨s.seq (SqL.of hq), G.at' _ List.mem_cons_self⟩) ?_ ?_
  · rintro i x tv ys H' hx hi ⟨qs, ql, rfl, hs, G⟩ htv
    obtain ⟨t0, rfl⟩ : ∃ a, tv = [a] := List.length_eq_one_iff.mp htv
    obtain ⟨r, q, e1, rfl, e2⟩ := tups_at tp hx
    refine wn0 ?_
    unfold tTrue
    dsimp only
    rw [if_pos rfl]
    refine turn q r H' _ (List.mem_of_getElem? e1) (hs _ _ e2) fun z H2 nz => ⟨?_, ?_, CompW.next (tv := [some (.ref q)]) hi ⟨qs ++ [z], by simp [ql], by simp, fun b u e => ?_, ?_⟩ rfl⟩
    · rw [List.length_map, ql]
      exact Nat.lt_of_lt_of_le hi (small_line hz)
    · exact nz.s _ _ (G.at' _ List.mem_cons_self)
    · rw [upd_ne (fun z => by rw [z] at e; rw [hacc] at e; cases e)]
      exact nz.s _ _ (hs _ _ e)
    · have G1 := G.newL nz
      have G2 : SH H0 M H2 ((acc, .lst (qs.map V.ref)) :: (hsR (qs ++ [z]) (rows.take (i + 1)) ++ L)) I := by
        refine SH.perm G1 ?_
        have e3 : rows.take (i + 1) = rows.take i ++ [r] := by rw [List.take_succ, e1]; rfl
        rw [e3, hsR_snoc (by rw [List.length_take]; omega), List.append_assoc]
        refine (List.Perm.cons _ (List.perm_append_comm_assoc ..)).trans ?_
        exact List.Perm.swap ..
      exact G2.offL (l := acc) (xs := qs.map V.ref ++ [.ref z]) Off.upd upd_same .head
  · rintro ys H' ⟨qs, ql, rfl, hs, G⟩
    rw [List.take_of_length_le (by omega)] at G
    exact k acc qs H' (by omega) G
theorem comp_Wx {K : PySem.W.Frag} {l : Addr} {xs : List V} {σ fvs : L2.St} {fr : List Nat} {te : TE} {H : Hp} {Q : VK} (hq : H l = some (.lst xs)) (hz : xs.length ≤ 1000000) (hf : (fr.map fun i => (σ[i]?).getD none) = fvs)
    (G : Nat → List V → Hp → Prop) (st : ∀ i ys H1 H2, (∀ q u, H1 q = some (.tup u) → H2 q = some (.tup u)) → G i ys H1 → G i ys H2) (g0 : G 0 [] H)
    (turnE : ∀ (i : Nat) (x : V) ys (H' : Hp) (R : VK), xs[i]? = some x → Same H H' → G i ys H' → (∀ y H2, Same H' H2 → G (i + 1) (ys ++ [y]) H2 → R y H2) → te (some x :: fvs) H' R)
    (k : ∀ p ys H', New H H' p (.lst ys) → G xs.length ys H' → Q (.ref p) H') : CompAll (Itl K l) 1 fr (gName 0) tTrue te σ H Q := by
  intro acc hacc
  subst hf
  have nacc : ∀ b u, H b = some u → b ≠ acc := fun b u e => ne_of_none e hacc
  have n0 : New H (upd H acc (.lst [])) acc (.lst []) := .mk' hacc
  refine comp_by (items_list (xs := xs)) (fun i ys H' => H' acc = some (.lst ys) ∧ Same H H' ∧ ys.length ≤ i ∧ G i ys H') ⟨n0.e, n0.s, Nat.le_refl _, st _ _ _ _ (fun q u e => n0.s _ _ e) g0⟩ (fun i ys H' _ h => ⟨h.2.1.seq (SqL.of hq), h.1⟩) ?_ ?_
  · rintro i x tv ys H' hx hi ⟨ha, hs, hl, hg⟩ htv
    obtain ⟨t0, rfl⟩ : ∃ a, tv = [a] := List.length_eq_one_iff.mp htv
    unfold tTrue
    show te (some x :: _) H' _
    refine turnE i x ys H' _ hx hs hg fun y H3 s3 g3 => ?_
    refine ⟨Nat.lt_of_le_of_lt hl (Nat.lt_of_lt_of_le hi (small_line hz)), s3 _ _ ha, CompW.next (tv := [some x]) hi ⟨upd_same, fun b u e => ?_, by rw [List.length_append, List.length_singleton]; omega, st _ _ _ _ (fun q' u e => ?_) g3⟩ rfl⟩
    · rw [upd_ne (nacc b u e)]
      exact s3 _ _ (hs _ _ e)
    · have e3 : H3 acc = some (.lst ys) := s3 _ _ ha
      rw [upd_ne (fun z => by rw [z, e3] at e; cases e)]
      exact e
  · rintro ys H' ⟨ha, hs, _, hg⟩
    exact k acc ys H' ⟨hs, ha, nacc⟩ hg
end L2
namespace L2
open PySem PySem.Spec PyProof.Rows
section
variable {X : Cx} {pins : List (Addr × Obj)} {σ : St} {H : Hp} {s : Shared} {b : Addr}
theorem FpOk.to {H' : Hp} (f : FpOk X pins H b) (h : H' b = none) : FpOk X pins H' b := ⟨h, f.2⟩
theorem Inv.moved {h' : Heap} {t' : Nat} (I : Inv X pins σ H s) (f : FpOk X pins H b) (k : ∀ c o, c ≠ b → s.heap.get? c = some o → h'.get? c = some o) : Inv X pins σ H { s with heap := h', toks := t' } :=
  I.turned (it := b) k f.1 f.2.1 f.2.2.2.1 f.2.2.2.2.1 f.2.2.2.2.2
theorem run_in1 {k : Nat} {f : Addr} {fd : FuncData} {ps : List Str} {sp : Sp} {us : List Value} {vs : List V} {Q : VK} {E : Value → Shared → Prop} (F : FnOk X.prog X.w X.K X.mg X.base CX0 k f fd ps sp) (hr : Room (k + 1) X.A) (hb : Binds X.K fd ps []) (I : Inv X pins σ H s) (r : Vals vs us) (h : sp vs H Q E0) :
    wpAny (model X.prog X.w) X.A.in1 (call (.ref f) us) (EP X pins σ Q) E s := by
  have hl : us.length = ps.length := by rw [← r.length]; exact F.len _ _ _ _ h
  have bd := hb s us I.kIn (by simpa using hl)
  rw [List.append_nil] at bd
  refine wpAny_call (codeAny_mono (F.run X.A.in1 X.stack s H ⟨us, []⟩ us vs Q E0 hr.in1 I.env0.in1 bd r h) fun r s' hq => ?_)
  cases r with
  | error e => exact False.elim hq
  | ok fl =>
    cases fl with
    | ret u => exact I.after hq
    | next => exact False.elim hq
    | brk => exact False.elim hq
    | cont => exact False.elim hq
theorem minK_goes {f l it B : Addr} {xs : List V} {kf : Nat → Int} {Pv : Hp → Prop} {R : Result → Shared → Prop} (hh : X.A.handled = none) (nB : B ≠ it)
    (hP : ∀ H', Pv H' → SqL X.K H' l xs)
    (turn : ∀ (i : Nat) (v : V) (u : Value) (pins : List (Addr × Obj)) (s : Shared) (H' : Hp) (E : Value → Shared → Prop), xs[i]? = some v → RelV v u → Inv X pins σ H' s → Pv H' → wpAny (model X.prog X.w) X.A.in1 (call (.ref f) [u]) (EP X pins σ fun z H2 => z = .int (kf i) ∧ Pv H2) E s)
    (hR : ∀ (i : Nat) (v : V) (u : Value) (H' : Hp) (s' : Shared), xs[i]? = some v → RelV v u → (∀ j, j < xs.length → kf i ≤ kf j ∧ (j < i → kf i < kf j)) → Inv X pins σ H' s' → Pv H' → R (.ok (.ret u)) s') (left : Nat) :
    ∀ (j i : Nat) (s : Shared) (H : Hp) (vb : V) (ub : Value) (tb : Tok) (c : Nat), j + left = xs.length → Inv X pins σ H s → Pv H → FpOk X pins H it → FpOk X pins H B → s.heap.IsListIter it l j → s.heap.get? B = some (bestObj #[ub, .int (kf i) tb] c) → xs[i]? = some vb → RelV vb ub → i < j →
      (∀ j', j' < j → kf i ≤ kf j' ∧ (j' < i → kf i < kf j')) → codeAny (model X.prog X.w) X.A (.builtin "min.loop" ⟨[.ref it, .ref f, .ref B], []⟩) R s := by
  have hs : (toString "min" ++ toString ".loop" : String) = "min.loop" := by decide
  induction left with
  | zero =>
    intro j i s H vb ub tb c hj I p fi fb st hb hv rv hij best
    obtain ⟨its, rr, pl, _⟩ := I.list (hP H p)
    have hl := rr.length
    refine codeAny_builtin F.entry_min_loop ?_
    rw [Around.under_plainId F.plain_min_loop _]
    show wpAny _ _ (seqItems? (Value.ref B) >>= _) _ _ _
    refine wpAny_bind (wpAny_seqItems hb rfl ?_)
    show wpAny _ _ (tryCatch (pyNext (Value.ref it)) _ >>= _) _ _ _
    refine wpAny_bind (wpAny_tryCatch (wpAny_pyNext_list_end hh st pl.isList (by simp; omega) fun h1 eb => ?_))
    have I1 : Inv X pins σ H { s with heap := h1 } := I.moved (t' := s.toks) fi fun c o n e => eb c o n e
    have hb1 : h1.get? B = _ := eb B _ nB hb
    show wpAny _ _ (updateSeq B _ >>= _) _ _ _
    refine wpAny_bind (wpAny_updateSeq hb1 rfl (wpAny_bind (wpAny_letGo (wpAny_pure ?_))))
    exact hR i vb ub H _ hv rv (fun j' h => best j' (by omega)) (I1.moved (t' := s.toks) fb fun c o n e => (Heap.get?_update_other _ _ (fun z => n z.symm)).trans e) p
  | succ left ih =>
    intro j i s H vb ub tb c hj I p fi fb st hb hv rv hij best
    have hlt : j < xs.length := by omega
    obtain ⟨its, rr, pl, _⟩ := I.list (hP H p)
    have hx : xs[j]? = some xs[j] := List.getElem?_eq_getElem hlt
    obtain ⟨u, hu, ru⟩ := rr.get hx
    refine codeAny_builtin F.entry_min_loop ?_
    rw [Around.under_plainId F.plain_min_loop _]
    show wpAny _ _ (seqItems? (Value.ref B) >>= _) _ _ _
    refine wpAny_bind (wpAny_seqItems hb rfl ?_)
    show wpAny _ _ (tryCatch (pyNext (Value.ref it)) _ >>= _) _ _ _
    refine wpAny_bind (wpAny_tryCatch (wpAny_pyNext_list_item st pl.isList (x := u) (by simpa using hu) fun h1 st1 sb => ?_))
    have I1 : Inv X pins σ H { s with heap := h1 } := I.moved (t' := s.toks) fi fun c o n e => (sb.2 c n).trans e
    have hb1 : h1.get? B = some (bestObj #[ub, .int (kf i) tb] c) := (sb.2 B nB).trans hb
    obtain ⟨oI, e1, c1, d1⟩ := id st1
    have I2 : Inv X (pins ++ [(it, oI), (B, bestObj #[ub, .int (kf i) tb] c)]) σ H { s with heap := h1 } := I1.pins_of fun q hq => by
      rcases List.mem_append.mp hq with hq | hq
      · exact I1.pin q (List.mem_append_right _ hq)
      · rcases List.mem_cons.mp hq with rfl | hq
        · exact ⟨e1, fi.1, fi.2.1, fi.2.2.1, fun v z => by rw [d1] at z; cases z⟩
        · rw [List.mem_singleton.mp hq]
          exact ⟨hb1, fb.1, fb.2.1, fb.2.2.1, fun v z => by cases z⟩
    show wpAny _ _ (tryCatch (holding _ (call (Value.ref f) [u])) _ >>= _) _ _ _
    refine wpAny_bind (wpAny_tryCatch (wpAny_holding (wpAny_mono (turn j _ u _ _ H (fun _ _ => False) hx ru I2 p) (fun z s2 he => ?_) fun _ _ hF => hF.elim)))
    obtain ⟨zv, H2, I3, rz, rfl, p2⟩ := he
    obtain ⟨t2, rfl⟩ := rz
    have q1 := I3.pin (it, oI) (by simp)
    have q2 := I3.pin (B, bestObj #[ub, .int (kf i) tb] c) (by simp)
    have I4 : Inv X pins σ H2 s2 := I3.unpinned
    have fi2 := fi.to q1.2.1
    have fb2 := fb.to q2.2.1
    have st2 : s2.heap.IsListIter it l (j + 1) := ⟨oI, q1.1, c1, d1⟩
    have hb2 : s2.heap.get? B = some (bestObj #[ub, .int (kf i) tb] c) := q2.1
    show wpAny _ _ (tryCatch (holding _ (richCompare .Lt _ _ >>= _)) _ >>= _) _ _ _
    refine wpAny_bind (wpAny_tryCatch (wpAny_holding (wpAny_bind (lt_ints ?_))))
    refine wpAny_bind (wpAny_holding (wpAny_truthy_bool ?_))
    refine wpAny_bind (wpAny_letGo (wpAny_pure ?_))
    by_cases hg : kf j < kf i
    · rw [decide_eq_true hg]
      simp only [if_true]
      refine wpAny_bind (wpAny_updateSeq hb2 rfl (wpAny_bind (wpAny_letGo ?_)))
      rw [hs]
      have I5 : Inv X pins σ H2 { s2 with heap := s2.heap.update B (Obj.mapSeq fun _ => #[u, .int (kf j) t2]) } := I4.moved (t' := s2.toks) fb2 fun c o n e => (Heap.get?_update_other _ _ (fun z => n z.symm)).trans e
      refine wpAny_pure ⟨plainId_quiet F.plain_min_loop _, ih (j + 1) j _ H2 _ u t2 _ (by omega) I5 p2 fi2 fb2 ⟨oI, (Heap.get?_update_other _ _ nB).trans q1.1, c1, d1⟩ (Heap.get?_update_self _ hb2 rfl) hx ru (by omega) fun j' h' => ?_⟩
      by_cases e : j' = j
      · subst e
        exact ⟨Int.le_refl _, fun z => absurd z (Nat.lt_irrefl _)⟩
      · have := best j' (by omega)
        exact ⟨by omega, fun _ => by omega⟩
    · rw [decide_eq_false hg]
      simp only [Bool.false_eq_true, if_false]
      refine wpAny_bind (wpAny_letGo ?_)
      rw [hs]
      refine wpAny_pure ⟨plainId_quiet F.plain_min_loop _, ih (j + 1) i _ H2 vb ub tb c (by omega) I4 p2 fi2 fb2 st2 hb2 hv rv (by omega) fun j' h' => ?_⟩
      by_cases e : j' = j
      · subst e
        exact ⟨by omega, fun z => by omega⟩
      · exact best j' (by omega)
theorem args_minK (a v : Value) : argsOk "min" ⟨[a], [(("key" : Str), v)]⟩ := by unfold argsOk; kernel_rfl
def rMinK (K : PySem.W.Frag) (sp : Sp) : List V → Hp → VK → Prop := fun vs H Q => ∃ (l : Addr) (xs : List V) (kf : Nat → Int) (Pv : Hp → Prop), vs = [.ref l] ∧ 0 < xs.length ∧ Pv H ∧ (∀ H', Pv H' → SqL K H' l xs) ∧
  (∀ i v H', xs[i]? = some v → Pv H' → sp [v] H' (fun z H2 => z = .int (kf i) ∧ Pv H2) E0) ∧ ∀ i v H', xs[i]? = some v → (∀ j, j < xs.length → kf i ≤ kf j ∧ (j < i → kf i < kf j)) → Pv H' → Q v H'
def tMinK (K : PySem.W.Frag) (sp : Sp) (t : TA) : TE := fun σ H Q => t σ H fun xs H1 => rMinK K sp xs H1 Q
theorem run_minK {k : Nat} {f : Addr} {fd : FuncData} {ps : List Str} {sp : Sp} {us : List Value} {vs : List V} {Q : VK} (Fn : FnOk X.prog X.w X.K X.mg X.base CX0 k f fd ps sp) (hr : Room (k + 1) X.A) (hb : Binds X.K fd ps []) (hc : X.calm = true) (I : Inv X pins σ H s) (r : Vals vs us) (h : rMinK X.K sp vs H Q) :
    wpAny (model X.prog X.w) X.A (call (.builtin "min") us [(("key" : Str), .ref f)]) (EP X pins σ Q) X.xe s := by
  obtain ⟨l, xs, kf, Pv, rfl, h0, p0, hP, hsp, hQ⟩ := h
  obtain ⟨v, rfl, rx⟩ := vals1 r
  cases rx
  obtain ⟨its, rv, pl, _⟩ := I.list (hP H p0)
  have hl := pl.isList
  have hlt : l < s.heap.objs.size := let ⟨_, e, _⟩ := hl; Heap.lt_size e
  have hs : (toString "min" ++ toString ".loop" : String) = "min.loop" := by decide
  have turn : ∀ (i : Nat) (v : V) (u : Value) (pins : List (Addr × Obj)) (s : Shared) (H' : Hp) (E : Value → Shared → Prop), xs[i]? = some v → RelV v u → Inv X pins σ H' s → Pv H' → wpAny (model X.prog X.w) X.A.in1 (call (.ref f) [u]) (EP X pins σ fun z H2 => z = .int (kf i) ∧ Pv H2) E s :=
    fun i v u pins s H' E hv ru I p => run_in1 Fn hr hb I (.cons ru .nil) (hsp i v H' hv p)
  refine call_kw_tree F.kind_min F.plain_min F.entry_min (args_minK _ _) ?_
  show wpAny _ _ (Builtin.Builtins.bindParams "min" ["key", "default"] 0 ⟨[], [(("key" : Str), Value.ref f)]⟩ >>= _) _ _ s
  refine wpAny_bind (wpAny_of_eq (show Builtin.Builtins.bindParams "min" ["key", "default"] 0 ⟨[], [(("key" : Str), Value.ref f)]⟩ = pure [some (.ref f), none] from rfl) ?_)
  refine wpAny_bind (wpAny_pure ?_)
  refine wpAny_bind (wpAny_pyIter_list hl ?_)
  refine wpAny_bind (wpAny_newObj_type ?_)
  rw [hs]
  refine wpAny_pure ⟨plainId_quiet F.plain_min_loop _, ?_⟩
  have sz1 : (s.heap.push { cls := .type "list_iterator", data := .fields #[.ref l, .int 0 0] }).objs.size = s.heap.objs.size + 1 := size_push' ..
  generalize hB : (s.heap.push { cls := .type "list_iterator", data := .fields #[.ref l, .int 0 0] }).objs.size = B at sz1 ⊢
  have gB : ((s.heap.push { cls := .type "list_iterator", data := .fields #[.ref l, .int 0 0] }).push (bestObj #[] 0)).get? B = some (bestObj #[] 0) := by rw [← hB]; exact Heap.get?_push_size _ rfl
  have gI : ((s.heap.push { cls := .type "list_iterator", data := .fields #[.ref l, .int 0 0] }).push (bestObj #[] 0)).get? s.heap.objs.size = some { cls := .type "list_iterator", data := .fields #[.ref l, .int 0 0] } := Heap.get?_push_of_some _ (Heap.get?_push_size _ rfl)
  have nB : B ≠ s.heap.objs.size := by omega
  have fi : FpOk X pins H s.heap.objs.size := I.fpOk (Nat.le_refl _) I.fresh
  have fb : FpOk X pins H B := I.fpOk (by omega) (I.hok.fresh (by omega))
  have I0 : Inv X pins σ H { s with heap := (s.heap.push { cls := .type "list_iterator", data := .fields #[.ref l, .int 0 0] }).push (bestObj #[] 0) } := I.kept (t' := s.toks) fun b o e => Heap.get?_push_of_some _ (Heap.get?_push_of_some _ e)
  generalize (s.heap.push { cls := .type "list_iterator", data := .fields #[.ref l, .int 0 0] }).push (bestObj #[] 0) = h9 at gB gI I0 ⊢
  have st : h9.IsListIter s.heap.objs.size l 0 := ⟨_, gI, rfl, rfl⟩
  generalize s.heap.objs.size = it at nB fi st
  obtain ⟨its, rr, pl, _⟩ := I0.list (hP H p0)
  have hx : xs[0]? = some xs[0] := List.getElem?_eq_getElem h0
  obtain ⟨u, hu, ru⟩ := rr.get hx
  refine codeAny_builtin F.entry_min_loop ?_
  rw [Around.under_plainId F.plain_min_loop _]
  show wpAny _ _ (seqItems? (Value.ref B) >>= _) _ _ _
  refine wpAny_bind (wpAny_seqItems gB rfl ?_)
  show wpAny _ _ (tryCatch (pyNext (Value.ref it)) _ >>= _) _ _ _
  refine wpAny_bind (wpAny_tryCatch (wpAny_pyNext_list_item st pl.isList (x := u) (by simpa using hu) fun h1 st1 sb => ?_))
  have I1 : Inv X pins σ H { s with heap := h1 } := I0.moved (t' := s.toks) fi fun c o n e => (sb.2 c n).trans e
  have hb1 : h1.get? B = some (bestObj #[] 0) := (sb.2 B nB).trans gB
  obtain ⟨oI, e1, c1, d1⟩ := id st1
  have I2 : Inv X (pins ++ [(it, oI), (B, bestObj #[] 0)]) σ H { s with heap := h1 } := I1.pins_of fun q hq => by
    rcases List.mem_append.mp hq with hq | hq
    · exact I1.pin q (List.mem_append_right _ hq)
    · rcases List.mem_cons.mp hq with rfl | hq
      · exact ⟨e1, fi.1, fi.2.1, fi.2.2.1, fun v z => by rw [d1] at z; cases z⟩
      · rw [List.mem_singleton.mp hq]
        exact ⟨hb1, fb.1, fb.2.1, fb.2.2.1, fun v z => by cases z⟩
  show wpAny _ _ (tryCatch (holding _ (call (Value.ref f) [u])) _ >>= _) _ _ _
  refine wpAny_bind (wpAny_tryCatch (wpAny_holding (wpAny_mono (turn 0 _ u _ _ H (fun _ _ => False) hx ru I2 p0) (fun z s2 he => ?_) fun _ _ hF => hF.elim)))
  obtain ⟨zv, H2, I3, rz, rfl, p2⟩ := he
  obtain ⟨t2, rfl⟩ := rz
  have q1 := I3.pin (it, oI) (by simp)
  have q2 := I3.pin (B, bestObj #[] 0) (by simp)
  have fi2 := fi.to q1.2.1
  have fb2 := fb.to q2.2.1
  have hb2 : s2.heap.get? B = some (bestObj #[] 0) := q2.1
  have I5 : Inv X pins σ H2 { s2 with heap := s2.heap.update B (Obj.mapSeq fun _ => #[u, .int (kf 0) t2]) } := I3.unpinned.moved (t' := s2.toks) fb2 fun c o n e => (Heap.get?_update_other _ _ (fun z => n z.symm)).trans e
  show wpAny _ _ (updateSeq B _ >>= _) _ _ _
  refine wpAny_bind (wpAny_updateSeq hb2 rfl ?_)
  rw [hs]
  refine wpAny_pure ⟨plainId_quiet F.plain_min_loop _, minK_goes (pins := pins) (σ := σ) (I.ok.hd hc) nB hP turn (fun i v u H' s' hv rv best I p => ⟨v, H', I, rv, hQ i v H' hv best p⟩) (xs.length - 1) 1 0 _ H2 xs[0] u t2 _ (by omega) I5 p2 fi2 fb2 ⟨oI, (Heap.get?_update_other _ _ nB).trans q1.1, c1, d1⟩ (Heap.get?_update_self _ hb2 rfl) hx ru (by omega) fun j' h' => ?_⟩
  have e : j' = 0 := by omega
  subst e
  exact ⟨Int.le_refl _, fun z => absurd z (Nat.lt_irrefl _)⟩
theorem pe_minK {k m : Nat} {x : Str} {ps : List Str} {sp : Sp} {p p2 pos kp : Pos} {e : Expr} {t : TA} (D : Def X.prog X.w X.K X.mg X.base CX0 k x ps sp) (hr : Room m X.A) (hc : X.calm = true) (hm : X.mg "min" = none) (ha : PA X [e] t) (hk : k + 1 ≤ m := by decide) (hg : Gl X "min" := by rfl) (hx : Gl X x := by rfl)
    (hdb : (x == ("__debug__" : Str)) = false := by decide) (he : backTo pos (starEach [e] X.env) = (false, eval e X.env) :: backTo pos (starEach [] X.env) := by rfl) (hpl : (backTo pos (starEach [e] X.env)).any (·.1) = false := by rfl) :
    PE X (.Call (.Name "min" p) [e] [⟨some "key", .Name x p2, kp⟩] pos) (tMinK X.K sp t) := by
  obtain ⟨f, fd, Fn, hmx, kp, b⟩ := D.ex
  intro pins s σ H Q I h
  refine wpAny_Call_Name_kw (ld_blt I hg hm boot_min ?_ (by decide) (by decide))
  refine callWith_kw (thn (ha pos pins s σ H _ I h) fun us s1 ⟨vs, H1, I1, r1, q1⟩ => ?_) he hpl
  have nm : PE X (.Name x p2) (tC (.ref f)) := pe_gl ⟨_, hmx, rfl⟩ hx hdb
  refine kws_cons (thn (nm pins s1 σ H1 (fun y H2 => y = .ref f ∧ H2 = H1) I1 ⟨rfl, rfl⟩) fun z s2 ⟨y, H2, I2, r2, e1, e2⟩ => kws_nil ?_)
  subst e1 e2
  obtain rfl : z = Value.ref f := r2
  exact run_minK Fn (hr.mono hk) b hc I2 r1 q1
end
theorem items_rev {K : PySem.W.Frag} {a : Addr} {xs : List V} : ItemsOf (Itv K a xs) xs.reverse (fun H => SqL K H a xs) :=
  ⟨fun i H h hi => ⟨h, by simpa using hi⟩, fun i H x H' h hi y => ⟨y.1, by
    rw [List.getElem?_reverse (by simpa using hi)]
    exact y.2⟩, fun H h => ⟨h, by simp⟩⟩
section
variable {K : PySem.W.Frag} {σ : L2.St} {H : Hp} {Q : VK} {tr : TA} {nt : Nat} {fr : List Nat} {g : TG} {c : TT} {te : TE} {a : Addr} {xs : List V}
instance go_compV : Go (tComp (iRev K tr) nt fr g c te σ H Q) (tr σ H fun vs H1 => ∃ a xs, vs = [.ref a] ∧ SqL K H1 a xs ∧ CompAll (Itv K a xs) nt fr g c te σ H1 Q) := ⟨id⟩
instance go_vcby [h : SqA K H a xs] : Go (∃ a' xs', [V.ref a] = [.ref a'] ∧ SqL K H a' xs' ∧ CompAll (Itv K a' xs') nt fr g c te σ H Q) (CompAll (Itv K a xs) nt fr g c te σ H Q) := ⟨fun k => ⟨a, xs, rfl, h.e, k⟩⟩
end
theorem w_tup4 {K : PySem.W.Frag} {H : Hp} {σ : St} {p : Addr} {n i0 i1 i2 i3 : Nat} {a b c d : V} {R : St → Hp → Prop} (hn : n = 4) (hp : H p = some (.tup [a, b, c, d])) (h : gName i0 a σ H fun σ1 H1 => gName i1 b σ1 H1 fun σ2 H2 => gName i2 c σ2 H2 fun σ3 H3 => gName i3 d σ3 H3 R) :
    gTup K n (gCons (gName i0) (gCons (gName i1) (gCons (gName i2) (gCons (gName i3) gNil)))) (.ref p) σ H R := by
  have o : SqB K H p [a, b, c, d] := ⟨.of hp⟩
  exact go1 (sd hn h)
theorem comp_G4 {K : PySem.W.Frag} {J : It} {xs : List V} {Lk : Hp → Prop} {rows : List (List V)} {n : Nat} {σ fvs : L2.St} {fr : List Nat} {cc : TT} {te : TE} {H : Hp} {Q : VK} {P : List V → Bool} (it : L2.ItemsOf J xs Lk) (hL : ∀ H', Same H H' → Lk H') (tp : TupsAt H xs rows) (hn : n = 4) (h4 : ∀ r ∈ rows, ∃ a b c d, r = [a, b, c, d]) (hz : xs.length ≤ 1000000) (hf : (fr.map fun i => (σ[i]?).getD none) = fvs)
    (G : Nat → List V → Hp → Prop) (st : ∀ i ys H1 H2, (∀ q u, H1 q = some (.tup u) → H2 q = some (.tup u)) → G i ys H1 → G i ys H2) (g0 : G 0 [] H)
    (turnC : ∀ (i : Nat) a b c d (H' : Hp) (R : Bool → Hp → Prop), rows[i]? = some [a, b, c, d] → Same H H' → (∀ H2, Same H' H2 → R (P [a, b, c, d]) H2) → cc (some a :: some b :: some c :: some d :: fvs) H' R)
    (turnE : ∀ (i : Nat) a b c d ys (H' : Hp) (R : VK), rows[i]? = some [a, b, c, d] → P [a, b, c, d] = true → Same H H' → G i ys H' → (∀ y H2, Same H' H2 → G (i + 1) (ys ++ [y]) H2 → R y H2) → te (some a :: some b :: some c :: some d :: fvs) H' R)
    (skip : ∀ (i : Nat) r ys (H' : Hp), rows[i]? = some r → P r = false → G i ys H' → G (i + 1) ys H')
    (k : ∀ p ys H', New H H' p (.lst ys) → G xs.length ys H' → Q (.ref p) H') : CompAll J 4 fr (gTup K n (gCons (gName 0) (gCons (gName 1) (gCons (gName 2) (gCons (gName 3) gNil))))) cc te σ H Q := by
  intro acc hacc
  subst hf
  have nacc : ∀ b u, H b = some u → b ≠ acc := fun b u e => ne_of_none e hacc
  have n0 : New H (upd H acc (.lst [])) acc (.lst []) := .mk' hacc
  refine comp_by it (fun i ys H' => H' acc = some (.lst ys) ∧ Same H H' ∧ ys.length ≤ i ∧ G i ys H') ⟨n0.e, n0.s, Nat.le_refl _, st _ _ _ _ (fun q u e => n0.s _ _ e) g0⟩ (fun i ys H' _ h => ⟨hL _ h.2.1, h.1⟩) ?_ ?_
  · rintro i x tv ys H' hx hi ⟨ha, hs, hl, hg⟩ htv
    obtain ⟨r, q, e1, rfl, e2⟩ := tups_at tp hx
    obtain ⟨a, b, c, d, rfl⟩ := h4 r (List.mem_of_getElem? e1)
    obtain ⟨t0, t1, t2, t3, rfl⟩ : ∃ t0 t1 t2 t3, tv = [t0, t1, t2, t3] := by
      match tv, htv with
      | [t0, t1, t2, t3], _ => exact ⟨t0, t1, t2, t3, rfl⟩
    refine w_tup4 hn (hs _ _ e2) ?_
    show cc (some a :: some b :: some c :: some d :: _) H' _
    refine turnC i a b c d H' _ e1 hs fun H2 s2 => ?_
    have g2 := st _ _ _ _ (fun q u e => s2 _ _ e) hg
    have ha2 : H2 acc = some (.lst ys) := s2 _ _ ha
    by_cases hp : P [a, b, c, d] = true
    · rw [hp, if_pos rfl]
      refine turnE i a b c d ys H2 _ e1 hp (hs.trans s2) g2 fun y H3 s3 g3 => ⟨Nat.lt_of_le_of_lt hl (Nat.lt_of_lt_of_le hi (small_line hz)), s3 _ _ ha2, CompW.next (tv := [some a, some b, some c, some d]) hi ⟨upd_same, fun b u e => ?_, by rw [List.length_append, List.length_singleton]; omega, st _ _ _ _ (fun q' u e => ?_) g3⟩ rfl⟩
      · rw [upd_ne (nacc b u e)]
        exact s3 _ _ (s2 _ _ (hs _ _ e))
      · have e3 : H3 acc = some (.lst ys) := s3 _ _ ha2
        rw [upd_ne (fun z => by rw [z, e3] at e; cases e)]
        exact e
    · have hp : P [a, b, c, d] = false := by simpa using hp
      rw [hp, if_neg (by decide)]
      exact CompW.next (tv := [some a, some b, some c, some d]) hi ⟨ha2, hs.trans s2, by omega, skip i _ ys H2 e1 hp g2⟩ rfl
  · rintro ys H' ⟨ha, hs, _, hg⟩
    exact k acc ys H' ⟨hs, ha, nacc⟩ hg
theorem TupsAt.rev {H : Hp} {ys : List V} {rows : List (List V)} (h : TupsAt H ys rows) : TupsAt H ys.reverse rows.reverse := by
  refine ⟨by rw [List.length_reverse, List.length_reverse, h.1], fun j r e => ?_⟩
  have hj : j < rows.length := by have := (List.getElem?_eq_some_iff.mp e).1; rwa [List.length_reverse] at this
  rw [List.getElem?_reverse hj] at e
  obtain ⟨q, a, b⟩ := h.2 _ _ e
  exact ⟨q, by rw [List.getElem?_reverse (by rw [h.1]; exact hj), h.1]; exact a, b⟩
theorem TupsAt.app {H : Hp} {ys zs : List V} {r1 r2 : List (List V)} (h : TupsAt H ys r1) (g : TupsAt H zs r2) : TupsAt H (ys ++ zs) (r1 ++ r2) := by
  refine ⟨by rw [List.length_append, List.length_append, h.1, g.1], fun j r e => ?_⟩
  by_cases hj : j < r1.length
  · rw [List.getElem?_append_left hj] at e
    obtain ⟨q, a, b⟩ := h.2 _ _ e
    exact ⟨q, by rw [List.getElem?_append_left (by rw [h.1]; exact hj)]; exact a, b⟩
  · rw [List.getElem?_append_right (by omega)] at e
    obtain ⟨q, a, b⟩ := g.2 _ _ e
    exact ⟨q, by rw [List.getElem?_append_right (by rw [h.1]; omega), h.1]; exact a, b⟩
def RowsI (YS : List (List V)) (RS : List (List (List V))) : Im := .fct (fun H => YS.length = RS.length ∧ ∀ (j : Nat) ys rs, YS[j]? = some ys → RS[j]? = some rs → TupsAt H ys rs) fun H H' t h => ⟨h.1, fun j ys rs a b => let z := h.2 j ys rs a b; ⟨z.1, fun i r e => let ⟨q, c, d⟩ := z.2 i r e; ⟨q, c, t q _ rfl d⟩⟩⟩
end L2
namespace M22
end M22
namespace M82
open L2
structure OkA (e n : Nat) (rs : List Rw) : Prop where
  asc : rs.Pairwise fun r s => r.st + r.sz ≤ s.st
  bd : ∀ r ∈ rs, e ≤ r.st ∧ 1 ≤ r.sz ∧ r.st + r.sz ≤ n
theorem OkA.tail {e n : Nat} {r : Rw} {rs : List Rw} (h : OkA e n (r :: rs)) : OkA (r.st + r.sz) n rs :=
  ⟨(List.pairwise_cons.mp h.asc).2, fun s hs => ⟨(List.pairwise_cons.mp h.asc).1 s hs, (h.bd s (.tail _ hs)).2⟩⟩
theorem OkA.hd {e n : Nat} {r : Rw} {rs : List Rw} (h : OkA e n (r :: rs)) : e ≤ r.st ∧ 1 ≤ r.sz ∧ r.st + r.sz ≤ n := h.bd r (.head _)
theorem OkA.cons {e n : Nat} {r : Rw} {rs : List Rw} (h : e ≤ r.st ∧ 1 ≤ r.sz ∧ r.st + r.sz ≤ n) (t : OkA (r.st + r.sz) n rs) : OkA e n (r :: rs) :=
  ⟨List.pairwise_cons.mpr ⟨fun s hs => (t.bd s hs).1, t.asc⟩, fun s hs => by
    rcases List.mem_cons.mp hs with rfl | hs
    · exact h
    · have := t.bd s hs
      omega⟩
theorem OkA.nil {e n : Nat} : OkA e n [] := ⟨.nil, fun _ h => by cases h⟩
def putS (r : Rw) (s : Nat) : Rw := ⟨r.nm, s, r.sz, r.pn⟩
abbrev Mv := Nat × List Nat × Nat
def lowT (T : List Rw) : Nat → Nat
  | 0 => 0
  | j + 1 => match T[j]? with
    | some r => r.st + r.sz
    | none => 0
def highT (n : Nat) (T : List Rw) (k : Nat) : Nat := match T[k + 1]? with
  | some r => r.st
  | none => n
def mvT (T : List Rw) (k to : Nat) : List Rw := T.modify k fun r => putS r to
def WOk (n : Nat) : List Rw → List Mv → Prop
  | _, [] => True
  | T, m :: ms => (∃ r, T[m.1]? = some r ∧ r.nm = m.2.1 ∧ r.pn = 0 ∧ lowT T m.1 ≤ m.2.2 ∧ m.2.2 + r.sz ≤ highT n T m.1) ∧ WOk n (mvT T m.1 m.2.2) ms
def wEnd (T : List Rw) (ms : List Mv) : List Rw := ms.foldl (fun T m => mvT T m.1 m.2.2) T
def wPr (T : List Rw) (m : Mv) : Nat := match T[m.1]? with
  | some r => if m.2.2 = r.st then 0 else r.sz
  | none => 0
def wPrice : List Rw → List Mv → Nat
  | _, [] => 0
  | T, m :: ms => wPr T m + wPrice (mvT T m.1 m.2.2) ms
theorem mvT_mid (P : List Rw) (r : Rw) (Q : List Rw) (to : Nat) : mvT (P ++ r :: Q) P.length to = P ++ putS r to :: Q := by
  unfold mvT
  induction P with
  | nil => rfl
  | cons p P ih => simp only [List.cons_append, List.length_cons, List.modify_succ_cons, ih]
theorem mid_at (P : List Rw) (r : Rw) (Q : List Rw) : (P ++ r :: Q)[P.length]? = some r := by rw [List.getElem?_append_right (Nat.le_refl _), Nat.sub_self]; rfl
theorem mid_high (n : Nat) (P : List Rw) (r : Rw) (Q : List Rw) : highT n (P ++ r :: Q) P.length = match Q with | [] => n | s :: _ => s.st := by
  unfold highT
  rw [List.getElem?_append_right (by omega), show P.length + 1 - P.length = 1 by omega]
  cases Q <;> rfl
def endS : List Rw → Nat
  | [] => 0
  | r :: rs => match rs with
    | [] => r.st + r.sz
    | _ => endS rs
theorem endS_snoc (P : List Rw) (r : Rw) : endS (P ++ [r]) = r.st + r.sz := by
  induction P with
  | nil => rfl
  | cons p P ih =>
    cases P with
    | nil => rfl
    | cons q P => exact ih
theorem mid_low (P : List Rw) (r : Rw) (Q : List Rw) : lowT (P ++ r :: Q) P.length = endS P := by
  rcases List.eq_nil_or_concat P with rfl | ⟨P, p, rfl⟩
  · rfl
  · rw [List.concat_eq_append, endS_snoc]
    have : (P ++ [p] ++ r :: Q)[P.length]? = some p := by rw [List.append_assoc]; exact mid_at P p _
    rw [show (P ++ [p]).length = P.length + 1 by simp]
    simp only [lowT, this]
structure OkD (b : Nat) (rs : List Rw) : Prop where
  asc : rs.Pairwise fun r s => s.st + s.sz ≤ r.st
  bd : ∀ r ∈ rs, 1 ≤ r.sz ∧ r.st + r.sz ≤ b
theorem OkD.tail {b : Nat} {r : Rw} {rs : List Rw} (h : OkD b (r :: rs)) : OkD r.st rs :=
  ⟨(List.pairwise_cons.mp h.asc).2, fun s hs => ⟨(h.bd s (.tail _ hs)).1, (List.pairwise_cons.mp h.asc).1 s hs⟩⟩
def begS (n : Nat) : List Rw → Nat
  | [] => n
  | r :: _ => r.st
def strG (n : Nat) : Int → Int → List Rw → List (Int × Int × Int)
  | f, u, [] => [(f, (n : Int), (n : Int) - f - u)]
  | f, u, r :: rs => if 0 < r.pn then (f, (r.st : Int), (r.st : Int) - f - u) :: strG n ((r.st : Int) + (r.sz : Int)) 0 rs else strG n f (u + (r.sz : Int)) rs
end M82
namespace M87
open L2 M82
abbrev Sp2 := Rw × Int
def plc : Int → List Rw → List Sp2
  | _, [] => []
  | a, r :: rs => (r, a) :: plc (a + (r.sz : Int)) rs
def szs (A : List Rw) : Int := (A.map fun r => (r.sz : Int)).sum
def jn (f b : Int) (g : Nat) (A : List Rw) : List Sp2 := plc f (A.take g) ++ plc (b - szs (A.drop g)) (A.drop g)
def mv (ss : List Sp2) : List Sp2 := ss.filter fun s => decide (s.2 ≠ (s.1.st : Int))
def pri (ss : List Sp2) : Int := ((mv ss).map fun s => (s.1.sz : Int)).sum
def chc (f b : Int) (g : Nat) (A : List Rw) : List Sp2 := mv (plc f (A.take g)) ++ (mv (plc (b - szs (A.drop g)) (A.drop g))).reverse
theorem szs_nil : szs [] = 0 := rfl
theorem szs_cons (r : Rw) (A : List Rw) : szs (r :: A) = (r.sz : Int) + szs A := by unfold szs; rw [List.map_cons, List.sum_cons]
theorem szs_app (A B : List Rw) : szs (A ++ B) = szs A + szs B := by unfold szs; rw [List.map_append, List.sum_append]
theorem szs_take (A : List Rw) (g : Nat) : szs (A.take g) + szs (A.drop g) = szs A := by rw [← szs_app, List.take_append_drop]
theorem mv_app (a b : List Sp2) : mv (a ++ b) = mv a ++ mv b := List.filter_append ..
theorem chc_perm (f b : Int) (g : Nat) (A : List Rw) : (chc f b g A).Perm (mv (jn f b g A)) := by
  unfold chc jn
  rw [mv_app]
  exact (List.reverse_perm _).append_left _
theorem sum_perm {a b : List Int} (h : a.Perm b) : a.sum = b.sum := by
  induction h with
  | nil => rfl
  | cons x _ ih => simp only [List.sum_cons, ih]
  | swap x y l => simp only [List.sum_cons]; omega
  | trans _ _ a b => exact a.trans b
theorem psum {a b : List Sp2} (h : a.Perm b) : (a.map fun s => (s.1.sz : Int)).sum = (b.map fun s => (s.1.sz : Int)).sum := sum_perm (h.map _)
theorem chc_sum (f b : Int) (g : Nat) (A : List Rw) : ((chc f b g A).map fun s => (s.1.sz : Int)).sum = pri (jn f b g A) := psum (chc_perm f b g A)
theorem plc_fst (a : Int) (A : List Rw) : (plc a A).map (·.1) = A := by
  induction A generalizing a with
  | nil => rfl
  | cons r A ih => rw [plc, List.map_cons, ih]
theorem jn_fst (f b : Int) (g : Nat) (A : List Rw) : (jn f b g A).map (·.1) = A := by
  unfold jn
  rw [List.map_append, plc_fst, plc_fst, List.take_append_drop]
def fm (p : Nat → Int) : Nat → Nat
  | 0 => 0
  | m + 1 => if p (m + 1) < p (fm p m) then m + 1 else fm p m
structure IsFm (p : Nat → Int) (m g : Nat) : Prop where
  le : g ≤ m
  b : ∀ j, j ≤ m → p g ≤ p j ∧ (j < g → p g < p j)
theorem fm_is (p : Nat → Int) (m : Nat) : IsFm p m (fm p m) := by
  induction m with
  | zero => exact ⟨Nat.le_refl _, fun j h => by have : j = 0 := by omega
                                                subst this; exact ⟨Int.le_refl _, fun z => absurd z (Nat.lt_irrefl _)⟩⟩
  | succ m ih =>
    have := ih.le
    rw [fm]
    split
    · rename_i h
      refine ⟨Nat.le_refl _, fun j hj => ?_⟩
      by_cases e : j = m + 1
      · subst e; exact ⟨Int.le_refl _, fun z => absurd z (Nat.lt_irrefl _)⟩
      · have := ih.b j (by omega)
        exact ⟨by omega, fun _ => by omega⟩
    · rename_i h
      refine ⟨by omega, fun j hj => ?_⟩
      by_cases e : j = m + 1
      · subst e; exact ⟨by omega, fun z => by omega⟩
      · exact ih.b j (by omega)
theorem IsFm.one {p : Nat → Int} {m g h : Nat} (a : IsFm p m g) (b : IsFm p m h) : g = h := by
  rcases Nat.lt_trichotomy g h with q | q | q
  · have := (b.b g a.le).2 q
    have := (a.b h b.le).1
    omega
  · exact q
  · have := (a.b h b.le).2 q
    have := (b.b g a.le).1
    omega
def gp0 (f b : Int) (A : List Rw) : Nat := fm (fun g => pri (jn f b g A)) A.length
def best (f b : Int) (A : List Rw) : List Sp2 := jn f b (gp0 f b A) A
def allJ (n : Nat) : Int → List Rw → List Rw → List Sp2
  | f, A, [] => best f n A
  | f, A, r :: rs => if 0 < r.pn then best f r.st A ++ (r, (r.st : Int)) :: allJ n ((r.st : Int) + (r.sz : Int)) [] rs else allJ n f (A ++ [r]) rs
abbrev S3 := Int × Int × List Rw
def strB (n : Nat) : Int → List Rw → List Rw → List S3
  | f, A, [] => [(f, (n : Int), A)]
  | f, A, r :: rs => if 0 < r.pn then (f, (r.st : Int), A) :: strB n ((r.st : Int) + (r.sz : Int)) [] rs else strB n f (A ++ [r]) rs
def toW (w : S3) : Int × Int × Int := (w.1, w.2.1, w.2.1 - w.1 - szs w.2.2)
theorem strB_G (n : Nat) (rs : List Rw) : ∀ (f : Int) (A : List Rw), (strB n f A rs).map toW = strG n f (szs A) rs := by
  induction rs with
  | nil => intro f A; rfl
  | cons r rs ih =>
    intro f A
    rw [strB, strG]
    split
    · rw [List.map_cons, ih]; rfl
    · rw [ih, szs_app]
      rw [szs_cons, szs_nil, Int.add_zero]
theorem szs_fit {b : Int} : ∀ (A : List Rw) (f : Int), A.Pairwise (fun r s => r.st + r.sz ≤ s.st) → (∀ r ∈ A, f ≤ (r.st : Int) ∧ (r.st : Int) + (r.sz : Int) ≤ b) → f ≤ b → f + szs A ≤ b := by
  intro A
  induction A with
  | nil => intro f _ _ h; rw [szs_nil]; omega
  | cons r A ih =>
    intro f p h hf
    obtain ⟨p1, p2⟩ := List.pairwise_cons.mp p
    have h1 := h r (.head _)
    have := ih ((r.st : Int) + (r.sz : Int)) p2 (fun s hs => ⟨by have := p1 s hs; omega, (h s (.tail _ hs)).2⟩) h1.2
    rw [szs_cons]
    omega
def inI (f b : Int) (r : Rw) : Bool := decide (f ≤ (r.st : Int)) && decide ((r.st : Int) < b)
theorem inI_all {f b : Int} {B : List Rw} (h : ∀ r ∈ B, f ≤ (r.st : Int) ∧ (r.st : Int) < b) : B.filter (inI f b) = B := List.filter_eq_self.mpr fun r hr => by
  have := h r hr
  unfold inI
  rw [decide_eq_true this.1, decide_eq_true this.2]
  rfl
theorem inI_none {f b : Int} {B : List Rw} (h : ∀ r ∈ B, (r.st : Int) < f ∨ b ≤ (r.st : Int)) : B.filter (inI f b) = [] := List.filter_eq_nil_iff.mpr fun r hr => by
  unfold inI
  rcases h r hr with h | h
  · rw [decide_eq_false (by omega)]; simp
  · rw [decide_eq_false (p := (r.st : Int) < b) (by omega)]; simp
structure StrOk (r0 : List Rw) (n : Nat) (w : S3) : Prop where
  flt : r0.filter (inI w.1 w.2.1) = w.2.2
  un : ∀ r ∈ w.2.2, r.pn = 0
  fit : w.1 + szs w.2.2 ≤ w.2.1
  lo : 0 ≤ w.1
  hi : w.2.1 ≤ (n : Int)
theorem strB_in {n : Nat} {r0 : List Rw} (ok : OkA 0 n r0) : ∀ (rs Z A : List Rw) (f : Int), r0 = Z ++ A ++ rs → (∀ a ∈ Z, (a.st : Int) < f) → (∀ b ∈ A, f ≤ (b.st : Int)) → (∀ s ∈ rs, f ≤ (s.st : Int)) → (∀ b ∈ A, b.pn = 0) → 0 ≤ f → f ≤ (n : Int) →
    ∀ w ∈ strB n f A rs, StrOk r0 n w := by
  intro rs
  induction rs with
  | nil =>
    intro Z A f e hZ hA _ hu h0 hn w hw
    rw [strB] at hw
    rw [List.mem_singleton.mp hw]
    have aw := ok.asc
    rw [e, List.append_nil, List.pairwise_append] at aw
    refine ⟨?_, hu, szs_fit A f aw.2.1 (fun r hr => ⟨hA r hr, by have := ok.bd r (by rw [e]; simp [hr]); show (r.st : Int) + (r.sz : Int) ≤ (n : Int); omega⟩) hn, h0, Int.le_refl _⟩
    rw [e, List.append_nil, List.filter_append, inI_none fun r hr => .inl (hZ r hr), inI_all fun r hr => ⟨hA r hr, by have := ok.bd r (by rw [e]; simp [hr]); show (r.st : Int) < n; omega⟩]
    rfl
  | cons r rs ih =>
    intro Z A f e hZ hA hs hu h0 hn w hw
    have aw := ok.asc
    rw [e, List.pairwise_append] at aw
    have aw1 := List.pairwise_append.mp aw.1
    have aw2 := List.pairwise_cons.mp aw.2.1
    have br := ok.bd r (by rw [e]; simp)
    rw [strB] at hw
    by_cases hp : 0 < r.pn
    · rw [if_pos hp] at hw
      rcases List.mem_cons.mp hw with rfl | hw
      · have hx : ∀ a ∈ A, a.st + a.sz ≤ r.st := fun a ha => aw.2.2 a (by simp [ha]) r (by simp)
        refine ⟨?_, hu, szs_fit A f aw1.2.1 (fun a ha => ⟨hA a ha, by have := hx a ha; show (a.st : Int) + a.sz ≤ r.st; omega⟩) (hs r (.head _)), h0, by show (r.st : Int) ≤ n; omega⟩
        show r0.filter (inI f r.st) = A
        rw [e, List.filter_append, List.filter_append, inI_none fun r hr => .inl (hZ r hr), inI_all fun a ha => ⟨hA a ha, by have := hx a ha; have := ok.bd a (by rw [e]; simp [ha]); omega⟩, inI_none (B := r :: rs) fun s hs => .inr (by
          rcases List.mem_cons.mp hs with rfl | hs
          · omega
          · have := aw2.1 s hs; omega)]
        simp
      · exact ih (Z ++ A ++ [r]) [] ((r.st : Int) + (r.sz : Int)) (by rw [e]; simp) (fun a ha => by
          rcases List.mem_append.mp ha with ha | ha
          · have := aw.2.2 a ha r (by simp); have := ok.bd a (by rw [e]; exact List.mem_append_left _ ha); omega
          · rw [List.mem_singleton.mp ha]; omega) (fun b hb => by cases hb) (fun s hs => by have := aw2.1 s hs; omega) (fun b hb => by cases hb) (by omega) (by omega) w hw
    · rw [if_neg hp] at hw
      exact ih Z (A ++ [r]) f (by rw [e]; simp) hZ (fun b hb => by
        rcases List.mem_append.mp hb with hb | hb
        · exact hA b hb
        · rw [List.mem_singleton.mp hb]; exact hs r (.head _)) (fun s h => hs s (.tail _ h)) (fun b hb => by
        rcases List.mem_append.mp hb with hb | hb
        · exact hu b hb
        · rw [List.mem_singleton.mp hb]; omega) h0 hn w hw
theorem strB_ok {n : Nat} {rs : List Rw} (ok : OkA 0 n rs) : ∀ w ∈ strB n 0 [] rs, StrOk rs n w := strB_in ok rs [] [] 0 rfl (fun _ h => by cases h) (fun _ h => by cases h) (fun s _ => by omega) (fun _ h => by cases h) (Int.le_refl _) (by omega)
theorem allJ_B (n : Nat) (rs : List Rw) : ∀ (f : Int) (A : List Rw), mv (allJ n f A rs) = (strB n f A rs).flatMap fun w => mv (best w.1 w.2.1 w.2.2) := by
  induction rs with
  | nil => intro f A; simp [allJ, strB]
  | cons r rs ih =>
    intro f A
    rw [allJ, strB]
    split
    · rw [mv_app, List.flatMap_cons, ← ih]
      congr 1
      unfold mv
      rw [List.filter_cons_of_neg (by simp)]
    · exact ih f _
theorem best_fst (f b : Int) (A : List Rw) : (best f b A).map (·.1) = A := jn_fst ..
theorem allJ_fst (n : Nat) (rs : List Rw) : ∀ (f : Int) (A : List Rw), (allJ n f A rs).map (·.1) = A ++ rs := by
  induction rs with
  | nil => intro f A; rw [allJ, best_fst, List.append_nil]
  | cons r rs ih =>
    intro f A
    rw [allJ]
    split
    · rw [List.map_append, List.map_cons, ih, best_fst]; rfl
    · rw [ih, List.append_assoc]; rfl
def ChS (b : Int) : Int → List Sp2 → Prop
  | e, [] => e ≤ b
  | e, s :: ss => e ≤ s.2 ∧ ChS b (s.2 + (s.1.sz : Int)) ss
theorem ChS.mono {b : Int} : ∀ {ss : List Sp2} {e e' : Int}, ChS b e ss → e' ≤ e → ChS b e' ss
  | [], _, _, h, l => Int.le_trans l h
  | _ :: _, _, _, h, l => ⟨Int.le_trans l h.1, h.2⟩
theorem ChS.app {b c : Int} {ys : List Sp2} : ∀ {xs : List Sp2} {e : Int}, ChS c e xs → ChS b c ys → ChS b e (xs ++ ys)
  | [], _, h, g => g.mono h
  | _ :: _, _, h, g => ⟨h.1, ChS.app h.2 g⟩
theorem plc_ch {b : Int} : ∀ (A : List Rw) (a : Int), a + szs A ≤ b → ChS b a (plc a A) := by
  intro A
  induction A with
  | nil => intro a h; rw [szs_nil] at h; show a ≤ b; omega
  | cons r A ih =>
    intro a h
    rw [szs_cons] at h
    exact ⟨Int.le_refl _, ih _ (by show a + (r.sz : Int) + szs A ≤ b; omega)⟩
theorem jn_ch {f b : Int} {A : List Rw} (g : Nat) (h : f + szs A ≤ b) : ChS b f (jn f b g A) := by
  have := szs_take A g
  exact ChS.app (c := b - szs (A.drop g)) (plc_ch _ _ (by omega)) (plc_ch _ _ (by omega))
theorem allJ_ch {n : Nat} {r0 : List Rw} (ok : OkA 0 n r0) : ∀ (rs Z A : List Rw) (f : Int), r0 = Z ++ A ++ rs → (∀ b ∈ A, f ≤ (b.st : Int)) → (∀ s ∈ rs, f ≤ (s.st : Int)) → f ≤ (n : Int) → ChS n f (allJ n f A rs) := by
  intro rs
  induction rs with
  | nil =>
    intro Z A f e hA _ hn
    have aw := ok.asc
    rw [e, List.append_nil, List.pairwise_append] at aw
    exact jn_ch _ (szs_fit A f aw.2.1 (fun r hr => ⟨hA r hr, by have := ok.bd r (by rw [e]; simp [hr]); omega⟩) hn)
  | cons r rs ih =>
    intro Z A f e hA hs hn
    have aw := ok.asc
    rw [e, List.pairwise_append] at aw
    have aw1 := List.pairwise_append.mp aw.1
    have aw2 := List.pairwise_cons.mp aw.2.1
    have br := ok.bd r (by rw [e]; simp)
    rw [allJ]
    split
    · refine ChS.app (c := (r.st : Int)) (jn_ch _ (szs_fit A f aw1.2.1 (fun a ha => ⟨hA a ha, by have := aw.2.2 a (by simp [ha]) r (by simp); omega⟩) (hs r (.head _)))) ⟨Int.le_refl _, ?_⟩
      exact ih (Z ++ A ++ [r]) [] _ (by rw [e]; simp) (fun b hb => by cases hb) (fun s hs => by have := aw2.1 s hs; show (r.st : Int) + (r.sz : Int) ≤ s.st; omega) (by show (r.st : Int) + (r.sz : Int) ≤ n; omega)
    · exact ih Z (A ++ [r]) f (by rw [e]; simp) (fun b hb => by
        rcases List.mem_append.mp hb with hb | hb
        · exact hA b hb
        · rw [List.mem_singleton.mp hb]; exact hs r (.head _)) (fun s h => hs s (.tail _ h)) hn
theorem allJ_pin (n : Nat) (rs : List Rw) : ∀ (f : Int) (A : List Rw), (∀ b ∈ A, b.pn = 0) → ∀ s ∈ allJ n f A rs, 0 < s.1.pn → s.2 = (s.1.st : Int) := by
  have hb : ∀ (f b : Int) (A : List Rw), (∀ r ∈ A, r.pn = 0) → ∀ s ∈ best f b A, ¬ 0 < s.1.pn := fun f b A h s hs => by
    have : s.1 ∈ A := by rw [← best_fst f b A]; exact List.mem_map_of_mem hs
    rw [h _ this]; omega
  induction rs with
  | nil => intro f A h s hs hp; exact absurd hp (hb _ _ _ h s hs)
  | cons r rs ih =>
    intro f A h s hs hp
    rw [allJ] at hs
    by_cases q : 0 < r.pn
    · rw [if_pos q] at hs
      rcases List.mem_append.mp hs with hs | hs
      · exact absurd hp (hb _ _ _ h s hs)
      · rcases List.mem_cons.mp hs with rfl | hs
        · rfl
        · exact ih _ [] (fun b hb => by cases hb) s hs hp
    · rw [if_neg q] at hs
      exact ih f (A ++ [r]) (fun b hb => by
        rcases List.mem_append.mp hb with hb | hb
        · exact h b hb
        · rw [List.mem_singleton.mp hb]; omega) s hs hp
def mid (s : Sp2) : Rw := if s.2 < (s.1.st : Int) then putS s.1 s.2.toNat else s.1
def tgt (s : Sp2) : Rw := putS s.1 s.2.toNat
def lm : Nat → List Sp2 → List Mv
  | _, [] => []
  | k, s :: ss => if s.2 < (s.1.st : Int) then (k, s.1.nm, s.2.toNat) :: lm (k + 1) ss else lm (k + 1) ss
def rm : List Sp2 → List Mv
  | [] => []
  | s :: ss => if (s.1.st : Int) < s.2 then (ss.length, s.1.nm, s.2.toNat) :: rm ss else rm ss
theorem wok_app {n : Nat} : ∀ {a : List Mv} {b : List Mv} {T : List Rw}, WOk n T a → WOk n (wEnd T a) b → WOk n T (a ++ b)
  | [], _, _, _, g => g
  | _ :: _, _, _, h, g => ⟨h.1, wok_app h.2 g⟩
theorem wpr_app : ∀ (a b : List Mv) (T : List Rw), wPrice T (a ++ b) = wPrice T a + wPrice (wEnd T a) b
  | [], _, _ => by show _ = 0 + _; rw [Nat.zero_add]; rfl
  | m :: a, b, T => by
    show wPr T m + wPrice (mvT T m.1 m.2.2) (a ++ b) = wPr T m + wPrice (mvT T m.1 m.2.2) a + _
    rw [wpr_app a b, Nat.add_assoc]
    rfl
def ml (ss : List Sp2) : List Sp2 := ss.filter fun s => decide (s.2 < (s.1.st : Int))
def mr (ss : List Sp2) : List Sp2 := ss.filter fun s => decide ((s.1.st : Int) < s.2)
def szN (ss : List Sp2) : Nat := (ss.map fun s => s.1.sz).sum
theorem lm_walk {n : Nat} (L : List Sp2) : ∀ (P : List Rw) (e : Int), (endS P : Int) ≤ e → ChS n e L → OkA 0 n (L.map (·.1)) → (∀ s ∈ L, 0 < s.1.pn → s.2 = (s.1.st : Int)) →
    WOk n (P ++ L.map (·.1)) (lm P.length L) ∧ wEnd (P ++ L.map (·.1)) (lm P.length L) = P ++ L.map mid ∧ wPrice (P ++ L.map (·.1)) (lm P.length L) = szN (ml L) := by
  induction L with
  | nil => intro P e _ _ _ _; exact ⟨trivial, rfl, rfl⟩
  | cons s L ih =>
    intro P e he ch ok pin
    have h1 : 0 ≤ s.1.st ∧ 1 ≤ s.1.sz ∧ s.1.st + s.1.sz ≤ n := ok.hd
    have h2 : OkA (s.1.st + s.1.sz) n (L.map (·.1)) := ok.tail
    have hl : (P ++ [mid s]).length = P.length + 1 := by simp
    by_cases q : s.2 < (s.1.st : Int)
    · have hm : mid s = putS s.1 s.2.toNat := if_pos q
      have he2 : 0 ≤ e := by omega
      have h0 := ch.1
      have i := ih (P ++ [mid s]) (s.2 + (s.1.sz : Int)) (by rw [endS_snoc, hm]; show (((s.2.toNat + s.1.sz : Nat)) : Int) ≤ _; omega) ch.2 ⟨h2.asc, fun r hr => ⟨Nat.zero_le _, (h2.bd r hr).2⟩⟩ (fun s hs => pin s (.tail _ hs))
      rw [hl, List.append_assoc, List.append_assoc, List.singleton_append, List.singleton_append] at i
      rw [show lm P.length (s :: L) = (P.length, s.1.nm, s.2.toNat) :: lm (P.length + 1) L by rw [lm, if_pos q], List.map_cons, List.map_cons]
      have hmv : mvT (P ++ s.1 :: L.map (·.1)) P.length s.2.toNat = P ++ mid s :: L.map (·.1) := by rw [mvT_mid, hm]
      refine ⟨⟨⟨s.1, mid_at _ _ _, rfl, ?_, ?_, ?_⟩, ?_⟩, ?_, ?_⟩
      · have := pin s (.head _)
        omega
      · show lowT (P ++ s.1 :: L.map (·.1)) P.length ≤ s.2.toNat
        rw [mid_low]
        omega
      · show s.2.toNat + s.1.sz ≤ highT n (P ++ s.1 :: L.map (·.1)) P.length
        rw [mid_high]
        have hn := h1.2.2
        generalize hR : L.map (·.1) = R at h2
        cases R with
        | nil => show s.2.toNat + s.1.sz ≤ n; omega
        | cons t R => have := (h2.hd).1; show s.2.toNat + s.1.sz ≤ t.st; omega
      · show WOk n (mvT (P ++ s.1 :: L.map (·.1)) P.length s.2.toNat) _
        rw [hmv]; exact i.1
      · show wEnd (mvT (P ++ s.1 :: L.map (·.1)) P.length s.2.toNat) _ = _
        rw [hmv]; exact i.2.1
      · show wPr (P ++ s.1 :: L.map (·.1)) (P.length, s.1.nm, s.2.toNat) + wPrice (mvT (P ++ s.1 :: L.map (·.1)) P.length s.2.toNat) _ = _
        rw [hmv, i.2.2]
        have e1 : wPr (P ++ s.1 :: L.map (·.1)) (P.length, s.1.nm, s.2.toNat) = s.1.sz := by
          simp only [wPr, mid_at]
          rw [if_neg (by omega)]
        rw [e1]
        unfold ml szN
        rw [List.filter_cons_of_pos (by simpa using q), List.map_cons, List.sum_cons]
    · have hm : mid s = s.1 := if_neg q
      have i := ih (P ++ [mid s]) (s.2 + (s.1.sz : Int)) (by rw [endS_snoc, hm]; omega) ch.2 ⟨h2.asc, fun r hr => ⟨Nat.zero_le _, (h2.bd r hr).2⟩⟩ (fun s hs => pin s (.tail _ hs))
      rw [hl, List.append_assoc, List.append_assoc, List.singleton_append, List.singleton_append] at i
      rw [show lm P.length (s :: L) = lm (P.length + 1) L by rw [lm, if_neg q], List.map_cons, List.map_cons]
      rw [hm] at i ⊢
      refine ⟨i.1, i.2.1, ?_⟩
      rw [i.2.2]
      unfold ml
      rw [List.filter_cons_of_neg (by simpa using q)]
def ChD : Int → List Sp2 → Prop
  | _, [] => True
  | b, s :: ss => s.2 + (s.1.sz : Int) ≤ b ∧ ChD s.2 ss
theorem ChS.le {b : Int} : ∀ {ss : List Sp2} {e : Int}, ChS b e ss → e ≤ b ∧ ∀ s ∈ ss, e ≤ s.2 ∧ s.2 + (s.1.sz : Int) ≤ b
  | [], _, h => ⟨h, fun _ z => by cases z⟩
  | s :: ss, e, h => by
    obtain ⟨i1, i2⟩ := ChS.le h.2
    have := h.1
    refine ⟨by omega, fun t ht => ?_⟩
    rcases List.mem_cons.mp ht with rfl | ht
    · exact ⟨h.1, i1⟩
    · have := i2 t ht
      exact ⟨by omega, this.2⟩
theorem chd_snoc : ∀ {xs : List Sp2} {b : Int} {s : Sp2}, ChD b xs → (∀ t ∈ xs, s.2 + (s.1.sz : Int) ≤ t.2) → s.2 + (s.1.sz : Int) ≤ b → ChD b (xs ++ [s])
  | [], _, _, _, _, h => ⟨h, trivial⟩
  | x :: xs, _, _, g, a, _ => ⟨g.1, chd_snoc g.2 (fun t ht => a t (.tail _ ht)) (a x (.head _))⟩
theorem ChS.rev {b : Int} : ∀ {ss : List Sp2} {e : Int}, ChS b e ss → ChD b ss.reverse
  | [], _, _ => trivial
  | s :: ss, e, h => by
    rw [List.reverse_cons]
    obtain ⟨i1, i2⟩ := ChS.le h.2
    exact chd_snoc (ChS.rev h.2) (fun t ht => (i2 t (List.mem_reverse.mp ht)).1) i1
theorem mid_eq {s : Sp2} (h : ¬ (s.1.st : Int) < s.2) : mid s = tgt s := by
  unfold mid tgt
  by_cases q : s.2 < (s.1.st : Int)
  · rw [if_pos q]
  · rw [if_neg q]
    have : s.2.toNat = s.1.st := by omega
    rw [this]
    rfl
theorem rm_walk {n : Nat} (L : List Sp2) : ∀ (D : List Rw) (b : Int), (begS n D : Int) = b → ChD b L → (L.map (·.1)).Pairwise (fun r s => s.st + s.sz ≤ r.st) → (∀ s ∈ L, 0 ≤ s.2) → (∀ s ∈ L, 0 < s.1.pn → s.2 = (s.1.st : Int)) →
    WOk n ((L.map mid).reverse ++ D) (rm L) ∧ wEnd ((L.map mid).reverse ++ D) (rm L) = (L.map tgt).reverse ++ D ∧ wPrice ((L.map mid).reverse ++ D) (rm L) = szN (mr L) := by
  induction L with
  | nil => intro D b _ _ _ _ _; exact ⟨trivial, rfl, rfl⟩
  | cons s L ih =>
    intro D b he ch pw nn pin
    obtain ⟨p1, p2⟩ := List.pairwise_cons.mp (show ((s.1 :: L.map (·.1)).Pairwise (fun r s => s.st + s.sz ≤ r.st)) from pw)
    have h0 := nn s (.head _)
    have hc := ch.1
    have i := ih (tgt s :: D) s.2 (by show ((s.2.toNat : Nat) : Int) = s.2; omega) ch.2 p2 (fun s hs => nn s (.tail _ hs)) (fun s hs => pin s (.tail _ hs))
    rw [List.map_cons, List.map_cons, List.reverse_cons, List.reverse_cons, List.append_assoc, List.append_assoc, List.singleton_append, List.singleton_append]
    by_cases q : (s.1.st : Int) < s.2
    · have hm : mid s = s.1 := if_neg (by omega)
      have hl : L.length = (L.map mid).reverse.length := by simp
      rw [show rm (s :: L) = (L.length, s.1.nm, s.2.toNat) :: rm L by rw [rm, if_pos q], hm]
      have hmv : mvT ((L.map mid).reverse ++ s.1 :: D) L.length s.2.toNat = (L.map mid).reverse ++ tgt s :: D := by rw [hl, mvT_mid]; rfl
      have hat : ((L.map mid).reverse ++ s.1 :: D)[L.length]? = some s.1 := by rw [hl]; exact mid_at _ _ _
      refine ⟨⟨⟨s.1, hat, rfl, ?_, ?_, ?_⟩, ?_⟩, ?_, ?_⟩
      · have := pin s (.head _)
        omega
      · show lowT ((L.map mid).reverse ++ s.1 :: D) L.length ≤ s.2.toNat
        rw [hl, mid_low]
        cases L with
        | nil => exact Nat.zero_le _
        | cons t L =>
          rw [List.map_cons, List.reverse_cons, endS_snoc]
          have a1 := p1 t.1 (by simp)
          have a2 := ch.2.1
          have a3 := nn t (by simp)
          unfold mid
          split
          · show t.2.toNat + t.1.sz ≤ _; omega
          · show t.1.st + t.1.sz ≤ _; omega
      · show s.2.toNat + s.1.sz ≤ highT n ((L.map mid).reverse ++ s.1 :: D) L.length
        rw [hl, mid_high]
        cases D with
        | nil => simp only [begS] at he; show s.2.toNat + s.1.sz ≤ n; omega
        | cons t D => simp only [begS] at he; show s.2.toNat + s.1.sz ≤ t.st; omega
      · show WOk n (mvT ((L.map mid).reverse ++ s.1 :: D) L.length s.2.toNat) _
        rw [hmv]; exact i.1
      · show wEnd (mvT ((L.map mid).reverse ++ s.1 :: D) L.length s.2.toNat) _ = _
        rw [hmv]; exact i.2.1
      · show wPr ((L.map mid).reverse ++ s.1 :: D) (L.length, s.1.nm, s.2.toNat) + wPrice (mvT ((L.map mid).reverse ++ s.1 :: D) L.length s.2.toNat) _ = _
        rw [hmv, i.2.2]
        have e1 : wPr ((L.map mid).reverse ++ s.1 :: D) (L.length, s.1.nm, s.2.toNat) = s.1.sz := by
          simp only [wPr, hat]
          rw [if_neg (by omega)]
        rw [e1]
        unfold mr szN
        rw [List.filter_cons_of_pos (by simpa using q), List.map_cons, List.sum_cons]
    · rw [show rm (s :: L) = rm L by rw [rm, if_neg q], mid_eq q]
      refine ⟨i.1, i.2.1, ?_⟩
      rw [i.2.2]
      unfold mr
      rw [List.filter_cons_of_neg (by simpa using q)]
def tdyM (L : List Sp2) : List Mv := lm 0 L ++ rm L.reverse
theorem tdy_walk {n : Nat} {L : List Sp2} (ch : ChS n 0 L) (ok : OkA 0 n (L.map (·.1))) (pin : ∀ s ∈ L, 0 < s.1.pn → s.2 = (s.1.st : Int)) :
    WOk n (L.map (·.1)) (tdyM L) ∧ wPrice (L.map (·.1)) (tdyM L) = szN (ml L) + szN (mr L.reverse) := by
  have a := lm_walk L [] 0 (Int.le_refl _) ch ok pin
  have c := ChS.le ch
  have b := rm_walk (n := n) L.reverse [] n rfl (ChS.rev ch) (by rw [List.map_reverse]; exact List.pairwise_reverse.mpr ok.asc) (fun s hs => (c.2 s (List.mem_reverse.mp hs)).1) (fun s hs => pin s (List.mem_reverse.mp hs))
  rw [List.map_reverse, List.reverse_reverse, List.append_nil] at b
  simp only [List.nil_append, List.length_nil] at a
  unfold tdyM
  refine ⟨wok_app a.1 (by rw [a.2.1]; exact b.1), ?_⟩
  rw [wpr_app, a.2.1, a.2.2, b.2.2]
theorem mv_split (L : List Sp2) : ((ml L).map fun s => (s.1.sz : Int)).sum + ((mr L).map fun s => (s.1.sz : Int)).sum = pri L := by
  unfold pri ml mr mv
  induction L with
  | nil => rfl
  | cons s L ih =>
    by_cases q : s.2 < (s.1.st : Int)
    · rw [List.filter_cons_of_pos (by simpa using q), List.filter_cons_of_neg (by simp; omega), List.filter_cons_of_pos (by simp; omega), List.map_cons, List.map_cons, List.sum_cons, List.sum_cons]
      omega
    · by_cases q2 : (s.1.st : Int) < s.2
      · rw [List.filter_cons_of_neg (by simpa using q), List.filter_cons_of_pos (by simpa using q2), List.filter_cons_of_pos (by simp; omega), List.map_cons, List.map_cons, List.sum_cons, List.sum_cons]
        omega
      · rw [List.filter_cons_of_neg (by simpa using q), List.filter_cons_of_neg (by simpa using q2), List.filter_cons_of_neg (by simp; omega)]
        exact ih
theorem szN_cast (L : List Sp2) : ((szN L : Nat) : Int) = (L.map fun s => (s.1.sz : Int)).sum := by
  unfold szN
  induction L with
  | nil => rfl
  | cons s L ih => rw [List.map_cons, List.map_cons, List.sum_cons, List.sum_cons, ← ih]; omega
theorem mr_rev (L : List Sp2) : mr L.reverse = (mr L).reverse := List.filter_reverse ..
theorem tdy_price {n : Nat} {L : List Sp2} (ch : ChS n 0 L) (ok : OkA 0 n (L.map (·.1))) (pin : ∀ s ∈ L, 0 < s.1.pn → s.2 = (s.1.st : Int)) : ((wPrice (L.map (·.1)) (tdyM L) : Nat) : Int) = pri L := by
  rw [(tdy_walk ch ok pin).2, ← mv_split, Int.natCast_add, szN_cast, szN_cast, mr_rev, sum_perm ((List.reverse_perm (mr L)).map _)]
theorem lm_nm (L : List Sp2) : ∀ k, (lm k L).map (fun m => (m.2.1, ((m.2.2 : Nat) : Int))) = (ml L).map fun s => (s.1.nm, ((s.2.toNat : Nat) : Int)) := by
  induction L with
  | nil => intro k; rfl
  | cons s L ih =>
    intro k
    unfold ml
    by_cases q : s.2 < (s.1.st : Int)
    · rw [lm, if_pos q, List.filter_cons_of_pos (by simpa using q), List.map_cons, List.map_cons, ih]; rfl
    · rw [lm, if_neg q, List.filter_cons_of_neg (by simpa using q), ih]; rfl
theorem rm_nm (L : List Sp2) : (rm L).map (fun m => (m.2.1, ((m.2.2 : Nat) : Int))) = (mr L).map fun s => (s.1.nm, ((s.2.toNat : Nat) : Int)) := by
  induction L with
  | nil => rfl
  | cons s L ih =>
    unfold mr
    by_cases q : (s.1.st : Int) < s.2
    · rw [rm, if_pos q, List.filter_cons_of_pos (by simpa using q), List.map_cons, List.map_cons, ih]; rfl
    · rw [rm, if_neg q, List.filter_cons_of_neg (by simpa using q), ih]; rfl
def ordJ (L : List Sp2) : List Sp2 := ml L ++ (mr L).reverse
theorem tdy_told {L : List Sp2} (nn : ∀ s ∈ L, 0 ≤ s.2) : (tdyM L).map (fun m => (m.2.1, ((m.2.2 : Nat) : Int))) = (ordJ L).map fun s => (s.1.nm, s.2) := by
  unfold tdyM ordJ
  rw [List.map_append, lm_nm, rm_nm, mr_rev, ← List.map_append]
  refine List.map_congr_left fun s hs => ?_
  have : 0 ≤ s.2 := nn s (by
    rcases List.mem_append.mp hs with hs | hs
    · exact (List.mem_filter.mp hs).1
    · exact (List.mem_filter.mp (List.mem_reverse.mp hs)).1)
  congr 1
  omega
end M87
namespace K87
open PySem L2 PyProof.Rows
def top (i : Nat) : Stmt := PySem.Challenge.pw_slideroom_k87_tidied_walked.main.body.getD i (.Pass ⟨0, 0, 0, 0⟩)
abbrev s_is_whole : Stmt := top 17
theorem sc_is_whole : FnScope ["thing"] ["thing"] (defScope s_is_whole) := ⟨rfl, rfl, rfl, by decide +kernel, rfl, by decide +kernel, by decide +kernel⟩
abbrev s_is_from : Stmt := top 18
theorem sc_is_from : FnScope ["thing", "low"] ["thing", "low"] (defScope s_is_from) := ⟨rfl, rfl, rfl, by decide +kernel, rfl, by decide +kernel, by decide +kernel⟩
abbrev s_is_within : Stmt := top 19
theorem sc_is_within : FnScope ["thing", "low", "high"] ["thing", "low", "high"] (defScope s_is_within) := ⟨rfl, rfl, rfl, by decide +kernel, rfl, by decide +kernel, by decide +kernel⟩
abbrev s_is_many : Stmt := top 20
theorem sc_is_many : FnScope ["thing"] ["thing"] (defScope s_is_many) := ⟨rfl, rfl, rfl, by decide +kernel, rfl, by decide +kernel, by decide +kernel⟩
abbrev s_is_name : Stmt := top 21
theorem sc_is_name : FnScope ["thing"] ["thing"] (defScope s_is_name) := ⟨rfl, rfl, rfl, by decide +kernel, rfl, by decide +kernel, by decide +kernel⟩
abbrev s_end_of : Stmt := top 23
theorem sc_end_of : FnScope ["stretch"] ["stretch"] (defScope s_end_of) := ⟨rfl, rfl, rfl, by decide +kernel, rfl, by decide +kernel, by decide +kernel⟩
abbrev s_is_row : Stmt := top 27
theorem sc_is_row : FnScope ["thing"] ["thing"] (defScope s_is_row) := ⟨rfl, rfl, rfl, by decide +kernel, rfl, by decide +kernel, by decide +kernel⟩
abbrev s_cells_of : Stmt := top 28
theorem sc_cells_of : FnScope ["row"] ["row"] (defScope s_cells_of) := ⟨rfl, rfl, rfl, by decide +kernel, rfl, by decide +kernel, by decide +kernel⟩
abbrev s_need_row : Stmt := top 29
theorem sc_need_row : FnScope ["many", "row", "ahead", "other"] ["many", "row", "ahead"] (defScope s_need_row) := ⟨rfl, rfl, rfl, by decide +kernel, rfl, by decide +kernel, by decide +kernel⟩
abbrev s_need_rows : Stmt := top 30
theorem sc_need_rows : FnScope ["many", "rows", "at"] ["many", "rows"] (defScope s_need_rows) := ⟨rfl, rfl, rfl, by decide +kernel, rfl, by decide +kernel, by decide +kernel⟩
abbrev s_share : Stmt := top 24
theorem sc_share : FnScope ["one", "other"] ["one", "other"] (defScope s_share) := ⟨rfl, rfl, rfl, by decide +kernel, rfl, by decide +kernel, by decide +kernel⟩
abbrev s_between : Stmt := top 33
theorem sc_between : FnScope ["layout", "first", "behind"] ["layout", "first", "behind"] (defScope s_between) := ⟨rfl, rfl, rfl, by decide +kernel, rfl, by decide +kernel, by decide +kernel⟩
abbrev s_freeb : Stmt := top 34
theorem sc_freeb : FnScope ["layout", "first", "behind"] ["layout", "first", "behind"] (defScope s_freeb) := ⟨rfl, rfl, rfl, by decide +kernel, rfl, by decide +kernel, by decide +kernel⟩
abbrev s_stretches : Stmt := top 35
theorem sc_stretches : FnScope ["layout", "stretches", "first", "block"] ["layout"] (defScope s_stretches) := ⟨rfl, rfl, rfl, by decide +kernel, rfl, by decide +kernel, by decide +kernel⟩
abbrev s_sdown : Stmt := top 37
theorem sc_sdown : FnScope ["blocks", "first", "steps", "end_ahead", "name", "start", "size", "pins", "to"] ["blocks", "first"] (defScope s_sdown) := ⟨rfl, rfl, rfl, by decide +kernel, rfl, by decide +kernel, by decide +kernel⟩
abbrev s_sup : Stmt := top 38
theorem sc_sup : FnScope ["blocks", "behind", "steps", "start_behind", "name", "start", "size", "pins", "to"] ["blocks", "behind"] (defScope s_sup) := ⟨rfl, rfl, rfl, by decide +kernel, rfl, by decide +kernel, by decide +kernel⟩
abbrev s_moves : Stmt := top 39
theorem sc_moves : FnScope ["steps"] ["steps"] (defScope s_moves) := ⟨rfl, rfl, rfl, by decide +kernel, rfl, by decide +kernel, by decide +kernel⟩
abbrev s_cmoved : Stmt := top 40
theorem sc_cmoved : FnScope ["steps"] ["steps"] (defScope s_cmoved) := ⟨rfl, rfl, rfl, by decide +kernel, rfl, by decide +kernel, by decide +kernel⟩
abbrev s_cheapest : Stmt := top 41
theorem sc_cheapest : FnScope ["blocks", "first", "behind", "choices", "gap"] ["blocks", "first", "behind"] (defScope s_cheapest) := ⟨rfl, rfl, rfl, by decide +kernel, rfl, by decide +kernel, by decide +kernel⟩
abbrev s_order : Stmt := top 42
theorem sc_order : FnScope ["steps", "rising", "lesser", "greater"] ["steps"] (defScope s_order) := ⟨rfl, rfl, rfl, by decide +kernel, rfl, by decide +kernel, by decide +kernel⟩
abbrev s_tidied : Stmt := top 43
theorem sc_tidied : FnScope ["layout", "steps", "first", "behind", "free"] ["layout"] (defScope s_tidied) := ⟨rfl, rfl, rfl, by decide +kernel, rfl, by decide +kernel, by decide +kernel⟩
abbrev s_cell_at : Stmt := top 45
theorem sc_cell_at : FnScope ["_law_script", "_law_k"] ["_law_script", "_law_k"] (defScope s_cell_at) := ⟨rfl, rfl, rfl, by decide +kernel, rfl, by decide +kernel, by decide +kernel⟩
abbrev s_box : Stmt := top 46
theorem sc_box : FnScope ["_law_cell_here"] ["_law_cell_here"] (defScope s_box) := ⟨rfl, rfl, rfl, by decide +kernel, rfl, by decide +kernel, by decide +kernel⟩
abbrev s_take : Stmt := top 47
theorem sc_take : FnScope ["_law_well_here", "_law_many_here", "_law_number"] ["_law_well_here", "_law_many_here"] (defScope s_take) := ⟨rfl, rfl, rfl, by decide +kernel, rfl, by decide +kernel, by decide +kernel⟩
abbrev s_names : Stmt := top 48
theorem sc_names : FnScope ["_law_well_here", "_law_many_here", "_law_letters", "_law_tail", "_law_shift", "_law_names_here", "_law_k", "_law_name", "_law_words"] ["_law_well_here", "_law_many_here"] (defScope s_names) := ⟨rfl, rfl, rfl, by decide +kernel, rfl, by decide +kernel, by decide +kernel⟩
abbrev s_most : Stmt := top 50
theorem sc_most : FnScope ["_law_well_here"] ["_law_well_here"] (defScope s_most) := ⟨rfl, rfl, rfl, by decide +kernel, rfl, by decide +kernel, by decide +kernel⟩
abbrev s_many : Stmt := top 49
theorem sc_many : FnScope ["_law_well_here"] ["_law_well_here"] (defScope s_many) := ⟨rfl, rfl, rfl, by decide +kernel, rfl, by decide +kernel, by decide +kernel⟩
abbrev s_rows : Stmt := top 51
theorem sc_rows : FnScope ["_law_well_here", "_law_many_here", "_law_names_here", "_law_share", "_law_rows_here", "_law_at", "_law_name", "_law_left", "_law_gap", "_law_wide", "_law_size", "_law_pins"] ["_law_well_here", "_law_many_here", "_law_names_here"] (defScope s_rows) := ⟨rfl, rfl, rfl, by decide +kernel, rfl, by decide +kernel, by decide +kernel⟩
abbrev s_mixed : Stmt := top 52
theorem sc_mixed : FnScope ["_law_well_here", "_law_some", "_law_left", "_law_found"] ["_law_well_here", "_law_some"] (defScope s_mixed) := ⟨rfl, rfl, rfl, by decide +kernel, rfl, by decide +kernel, by decide +kernel⟩
abbrev s_lwhole : Stmt := top 53
theorem sc_lwhole : FnScope ["_law_thing"] ["_law_thing"] (defScope s_lwhole) := ⟨rfl, rfl, rfl, by decide +kernel, rfl, by decide +kernel, by decide +kernel⟩
abbrev s_walk : Stmt := top 54
theorem sc_walk : FnScope ["_law_many_here", "_law_rows_here", "_law_moves", "_law_lying", "_law_names_here", "_law_done", "_law_price_here", "_law_move", "_law_name", "_law_to", "_law_k", "_law_low", "_law_high"] ["_law_many_here", "_law_rows_here", "_law_moves"] (defScope s_walk) := ⟨rfl, rfl, rfl, by decide +kernel, rfl, by decide +kernel, by decide +kernel⟩
abbrev s_lstretches : Stmt := top 55
theorem sc_lstretches : FnScope ["_law_many_here", "_law_rows_here", "_law_found", "_law_first", "_law_used", "_law_name", "_law_start", "_law_size", "_law_pins"] ["_law_many_here", "_law_rows_here"] (defScope s_lstretches) := ⟨rfl, rfl, rfl, by decide +kernel, rfl, by decide +kernel, by decide +kernel⟩
abbrev s_joined : Stmt := top 56
theorem sc_joined : FnScope ["_law_rows_here", "_law_stretch", "_law_gap", "_law_first", "_law_behind", "_law_free", "_law_found", "_law_at", "_law_within", "_law_k", "_law_name", "_law_start", "_law_size", "_law_pins"] ["_law_rows_here", "_law_stretch", "_law_gap"] (defScope s_joined) := ⟨rfl, rfl, rfl, by decide +kernel, rfl, by decide +kernel, by decide +kernel⟩
abbrev s_price : Stmt := top 57
theorem sc_price : FnScope ["_law_steps"] ["_law_steps"] (defScope s_price) := ⟨rfl, rfl, rfl, by decide +kernel, rfl, by decide +kernel, by decide +kernel⟩
abbrev s_best : Stmt := top 58
theorem sc_best : FnScope ["_law_rows_here", "_law_stretch", "_law_first", "_law_behind", "_law_free", "_law_many_here", "_law_best_here", "_law_gap", "_law_steps"] ["_law_rows_here", "_law_stretch"] (defScope s_best) := ⟨rfl, rfl, rfl, by decide +kernel, rfl, by decide +kernel, by decide +kernel⟩
abbrev s_due : Stmt := top 59
theorem sc_due : FnScope ["_law_many_here", "_law_rows_here", "_law_price_here", "_law_left", "_law_right", "_law_stretch", "_law_steps"] ["_law_many_here", "_law_rows_here"] (defScope s_due) := ⟨rfl, rfl, rfl, by decide +kernel, rfl, by decide +kernel, by decide +kernel⟩
abbrev s_told : Stmt := top 60
theorem sc_told : FnScope ["_law_many_here", "_law_rows_here", "_law_told_here", "_law_walk_here"] ["_law_many_here", "_law_rows_here", "_law_told_here"] (defScope s_told) := ⟨rfl, rfl, rfl, by decide +kernel, rfl, by decide +kernel, by decide +kernel⟩
abbrev s_law : Stmt := top 61
theorem sc_law : FnScope ["_law_script", "_law_k", "_law_well_here", "_law_many_here", "_law_rows_here", "_law_layout", "_law_turn", "_law_told_here"] ["_law_script"] (defScope s_law) := ⟨rfl, rfl, rfl, by decide +kernel, rfl, by decide +kernel, by decide +kernel⟩
abbrev s_Linit : Stmt := inClass (top 31) 0
theorem sc_Linit : FnScope ["self", "many", "rows"] ["self", "many", "rows"] (defScope s_Linit) := ⟨rfl, rfl, rfl, by decide +kernel, rfl, by decide +kernel, by decide +kernel⟩
abbrev s_Lblocks : Stmt := inClass (top 31) 1
theorem sc_Lblocks : FnScope ["self"] ["self"] (defScope s_Lblocks) := ⟨rfl, rfl, rfl, by decide +kernel, rfl, by decide +kernel, by decide +kernel⟩
structure Txt (K : PySem.W.Frag) (mg : Str → Option Value) (c : Nat → Addr) (R CL ct_Linit pt_Linit ct_order pt_order : Addr) : Prop where
  d_is_whole : HasDef K mg "is_whole" s_is_whole
  d_is_from : HasDef K mg "is_from" s_is_from
  d_is_within : HasDef K mg "is_within" s_is_within
  d_is_many : HasDef K mg "is_many" s_is_many
  d_is_name : HasDef K mg "is_name" s_is_name
  d_end_of : HasDef K mg "end_of" s_end_of
  d_is_row : HasDef K mg "is_row" s_is_row
  d_cells_of : HasDef K mg "cells_of" s_cells_of
  d_need_row : HasDef K mg "need_row" s_need_row
  d_need_rows : HasDef K mg "need_rows" s_need_rows
  d_share : HasDef K mg "share_cells" s_share
  d_between : HasDef K mg "blocks_between" s_between
  d_freeb : HasDef K mg "free_between" s_freeb
  d_stretches : HasDef K mg "stretches_of" s_stretches
  d_sdown : HasDef K mg "steps_down" s_sdown
  d_sup : HasDef K mg "steps_up" s_sup
  d_moves : HasDef K mg "moves_of" s_moves
  d_cmoved : HasDef K mg "cells_moved" s_cmoved
  d_cheapest : HasDef K mg "cheapest_joining" s_cheapest
  tab_order : PySem.W.codeHdIn K ct_order pt_order = true
  d_order : HasDefC K mg "in_moving_order" s_order ct_order
  d_tidied : HasDef K mg "tidied" s_tidied
  d_cell_at : HasDef K mg "_law_cell" s_cell_at
  d_box : HasDef K mg "_law_well" s_box
  d_take : HasDef K mg "_law_draw" s_take
  d_names : HasDef K mg "_law_names" s_names
  d_most : HasDef K mg "_law_most" s_most
  d_many : HasDef K mg "_law_many" s_many
  d_rows : HasDef K mg "_law_rows" s_rows
  d_mixed : HasDef K mg "_law_mixed" s_mixed
  d_lwhole : HasDef K mg "_law_whole" s_lwhole
  d_walk : HasDef K mg "_law_walk" s_walk
  d_lstretches : HasDef K mg "_law_stretches" s_lstretches
  d_joined : HasDef K mg "_law_joined" s_joined
  d_price : HasDef K mg "_law_price" s_price
  d_best : HasDef K mg "_law_best" s_best
  d_due : HasDef K mg "_law_due" s_due
  d_told : HasDef K mg "_law_told" s_told
  n_isinstance : mg "isinstance" = none
  n_int : mg "int" = none
  n_bool : mg "bool" = none
  n_str : mg "str" = none
  n_list : mg "list" = none
  n_tuple : mg "tuple" = none
  n_len : mg "len" = none
  n_all : mg "all" = none
  n_range : mg "range" = none
  n_sorted : mg "sorted" = none
  n_max : mg "max" = none
  n_min : mg "min" = none
  n_reversed : mg "reversed" = none
  n_sum : mg "sum" = none
  n_enumerate : mg "enumerate" = none
  g_LETTERS : GlobIs mg "LETTERS" (.str LET)
  g_NAME_SIGNS : GlobIs mg "NAME_SIGNS" (.str SGN)
  g_MOST_SIGNS : GlobIs mg "MOST_SIGNS" (.int 8)
  g_FEWEST_CELLS : GlobIs mg "FEWEST_CELLS" (.int 16)
  g_MOST_CELLS : GlobIs mg "MOST_CELLS" (.int 240)
  g_MOST_BLOCKS : GlobIs mg "MOST_BLOCKS" (.int 40)
  tne : pt_Linit ≠ pt_order
  g_R : mg "RoomError" = some (.ref R)
  c_R : (PySem.W.clsIn K R).isSome = true
  t_R : PySem.W.typeIn K (.ref R) = some (.type "type")
  m_R : PySem.W.mroIn K R (.type "BaseException") = some true
  clL : Cls K CL
  gc_Layout : mg "Layout" = some (.ref CL)
  aL_many : NoAttr K CL "many"
  aL_rows : NoAttr K CL "rows"
  tab_Linit : PySem.W.codeHdIn K ct_Linit pt_Linit = true
  f_Linit : ∃ f, (∃ fd, Fun K "__init__" "Layout.__init__" s_Linit f fd ∧ fd.code = .ref ct_Linit) ∧ Mk K CL f
  f_Lblocks : ∃ f, FnAt K "blocks" "Layout.blocks" s_Lblocks f ∧ Meth K CL "blocks" f
local macro_rules | `(tactic| k_tabat) => `(tactic| first
  | with_reducible assumption
  | (with_reducible exact New.e (by with_reducible assumption))
  | (with_reducible refine New.at (by with_reducible assumption) ?_; k_tabat)
  | (with_reducible refine Off.at (by with_reducible assumption) (by k_ne) ?_; k_tabat)
  | (with_reducible refine Kp.at (by with_reducible assumption) (by k_ne) ?_; k_tabat)
  | (with_reducible refine Same.at (by with_reducible assumption) ?_; k_tabat))
local macro_rules | `(tactic| k_ne) => `(tactic| first
  | with_reducible assumption
  | (with_reducible exact Ne.symm (by with_reducible assumption))
  | (with_reducible exact New.neA (by with_reducible assumption) (by k_in))
  | (with_reducible exact New.neB (by with_reducible assumption) (by k_in)))
local macro_rules | `(tactic| k_in) => `(tactic| first
  | (with_reducible exact Hs.of (by with_reducible assumption))
  | (with_reducible exact New.hs (by with_reducible assumption))
  | (with_reducible refine New.hsAt (by with_reducible assumption) ?_; k_in)
  | (with_reducible refine Off.hsAt (by with_reducible assumption) (by k_ne) ?_; k_in)
  | (with_reducible refine Kp.hsAt (by with_reducible assumption) (by k_ne) ?_; k_in)
  | (with_reducible refine Same.hsAt (by with_reducible assumption) ?_; k_in))
local macro_rules | `(tactic| k_flat) => `(tactic| first
  | with_reducible assumption
  | (with_reducible exact SqL.of (by k_tabat))
  | (with_reducible exact SqT.of (by k_tabat))
  | (with_reducible refine Same.seq (by with_reducible assumption) ?_; k_flat)
  | (with_reducible refine Same.seq (New.s (by with_reducible assumption)) ?_; k_flat)
  | (with_reducible refine Off.seq (by with_reducible assumption) (by k_ne) ?_; k_flat))
local macro_rules | `(tactic| k_keys) => `(tactic| first
  | with_reducible assumption
  | (with_reducible exact atI_0)
  | (with_reducible exact atL1)
  | (with_reducible exact atL2)
  | (with_reducible exact atL3)
  | with_unfolding_all rfl)
local macro_rules | `(tactic| k_room) => `(tactic| first
  | with_reducible assumption
  | decide
  | omega
  | (simp only [List.length_cons, List.length_nil, List.length_map, List.length_append, List.length_replicate]; omega))
local macro_rules | `(tactic| k_inst) => `(tactic| first
  | (with_reducible refine small_line ?_; first | omega | (simp only [List.length_cons, List.length_nil, List.length_map, List.length_append, List.length_replicate, rowsN_len]; omega))
  | (with_reducible refine small_lt ?_; first | omega | (simp only [List.length_cons, List.length_nil, List.length_map, List.length_append, List.length_replicate, rowsN_len]; omega))
  | with_unfolding_all exact Nat.le_of_ble_eq_true rfl
  | omega)
local macro_rules | `(tactic| k_upd) => `(tactic| first
  | with_reducible assumption
  | (intro b u e; k_tabat))
local macro_rules | `(tactic| k_updF) => `(tactic| first
  | with_reducible assumption
  | (intro b u nb e; k_tabat))
local macro_rules | `(tactic| k_all) => `(tactic| first
  | with_reducible assumption
  | (refine ⟨?_, ?_, ?_⟩; (focus (intro b u e; k_tabat)); (focus k_tabat); (focus (intro b u e; k_ne))))
local macro_rules | `(tactic| k_mem) => `(tactic| with_reducible (first
  | refine go_seq ?_ | refine go_asg ?_ | refine go_ret ?_ | refine go_if ?_ | refine go_drop ?_ | refine go_next ?_ | refine go_nx ?_ | refine w_rt ?_
  | refine go_test ?_ | refine go_b ?_ | refine go_op ?_ | refine go_cb ?_ | refine go_cons ?_ | refine go_nil ?_ | refine w_call ?_ | refine w_c ?_
  | refine wv0 ?_ | refine wv1 ?_ | refine wv2 ?_ | refine wv3 ?_ | refine wv4 ?_ | refine wv5 ?_ | refine wv6 ?_ | refine wv7 ?_ | refine wv8 ?_ | refine wv9 ?_ | refine wv10 ?_ | refine wv11 ?_ | refine wv12 ?_ | refine wv13 ?_
  | refine wn0 ?_ | refine wn1 ?_ | refine wn2 ?_ | refine wn3 ?_ | refine wn4 ?_ | refine wn5 ?_ | refine wn6 ?_ | refine wn7 ?_ | refine wn8 ?_ | refine wn9 ?_ | refine wn10 ?_ | refine wn11 ?_ | refine wn12 ?_ | refine wn13 ?_
  | refine w_i0 ?_ | refine w_u ?_ | refine w_un ?_ | refine w_eqi ?_ | refine w_nei ?_ | refine w_eqs ?_ | refine w_nes ?_ | refine w_eqb ?_ | refine w_neb ?_ | refine w_bl ?_ | refine w_not ?_ | refine w_and ?_ | refine w_or ?_ | refine w_notV ?_ | refine w_andV ?_ | refine w_orV ?_
  | refine w_ifE ?_ | refine w_chain ?_ | refine w_bm ?_ | refine w_bm0 ?_ | refine w_sub ?_ | refine w_slice ?_ | refine w_noPart ?_ | refine w_part ?_ | refine w_int ?_ | refine w_max ?_ | refine w_min ?_ | refine w_intB ?_ | refine w_intI ?_
  | refine w_mod (by decide) ?_ | refine w_div (by decide) (by decide) ?_ | refine w_pow (by decide) (by decide) (by decide) ?_ | refine w_mulL (by decide) (by decide) ?_ | refine w_mulR (by decide) (by decide) ?_ | refine go_tupA ?_ | refine go_lstA ?_ | refine w_notT ?_ | refine w_isB ?_ | refine w_isNB ?_ | refine w_revSl ?_ | refine w_din ?_ | refine w_dput ?_ | refine go_fs ?_ | refine go_fmt ?_ | refine go_fld ?_ | refine go_methB ?_ | refine go_makeB ?_ | refine go_sfldB ?_))
set_option hygiene false in
local macro_rules | `(tactic| k_meth) => `(tactic| first
  | k_mem
  | with_reducible (refine w_isTT (by k_tabat) ?_)
  | with_reducible (refine w_isLL (by k_tabat) ?_)
  | with_reducible (refine w_isTL (by k_tabat) ?_)
  | with_reducible (refine w_isLT (by k_tabat) ?_)
  | with_reducible refine w_isII ?_
  | with_reducible refine w_isIB ?_
  | with_reducible refine w_isBB ?_
  | with_reducible refine w_isBI ?_
  | with_reducible (refine w_ixL (by k_flat) (by k_keys) ?_)
  | with_reducible (refine w_ixT (by k_flat) (by k_keys) ?_)
  | with_reducible (refine w_lenL (by k_flat) ?_)
  | with_reducible (refine w_lenT (by k_flat) ?_)
  | with_reducible (refine made_ok (by k_inst) ?_; intro _ _ _)
  | with_reducible (refine w_tyL (by k_flat) ?_)
  | with_reducible (refine w_app (by k_tabat) (by k_inst) ?_; intro _ _ _)
  | with_reducible (refine w_clr (by k_tabat) ?_; intro _ _ _)
  | with_reducible (refine w_slA (by k_flat) ?_; intro _ _ _)
  | with_reducible (refine w_catA (by k_tabat) (by k_tabat) (by k_inst) ?_; intro _ _ _)
  | with_reducible (refine w_lofL (by k_flat) ?_; intro _ _ _)
  | with_reducible (refine w_rep1 (by k_tabat) (by omega) ?_; intro _ _ _)
  | with_reducible (refine i_pos (by k_room) ?_)
  | with_reducible (refine i_neg (by k_room) ?_)
  | with_reducible (refine i_npos (by k_room) ?_)
  | with_reducible (refine i_nneg (by k_room) ?_)
  | with_reducible (refine i_tt ?_)
  | with_reducible (refine i_ff ?_)
  | with_reducible (refine i_ntt ?_)
  | with_reducible (refine i_nff ?_)
  | with_reducible (refine w_tupB (by with_unfolding_all rfl) (by k_flat) ?_)
  | with_reducible (refine go_aug rfl ?_)
  | with_reducible refine w_not2 ?_
  | with_reducible refine go_ck ?_
  | with_reducible refine go_slc ?_
  | with_reducible (refine w_mod (by omega) ?_)
  | with_reducible (refine w_rng2 ?_)
  | with_reducible refine w_forE ?_
  | with_reducible refine w_forR1 ?_
  | with_reducible refine w_forR2 ?_
  | with_reducible refine w_forL ?_
  | with_reducible refine w_compL ?_)
section
variable {P : Program} {w : World} {K : PySem.W.Frag} {mg : Str → Option Value} {base : Heap} {c : Nat → Addr} {ct_Linit pt_Linit ct_order pt_order R CL : Addr}
theorem D_is_whole (T : Txt K mg c R CL ct_Linit pt_Linit ct_order pt_order) : Def P w K mg base CX0 1 "is_whole" ["thing"] (sp_whole K) := by
  refine def_of T.d_is_whole sc_is_whole (fun vs H Q E h => ?_) (fun _ _ _ _ _ _ us hl => match us, hl with | [_], _ => rfl) (fun f cdv A outer s H vs Q E hr h => ?_)
  · obtain ⟨x, n, rfl, _⟩ := h
    rfl
  · obtain ⟨x, n, rfl, ty, k⟩ := h
    have nd := sc_is_whole.nd
    refine ⟨_, (pss_one (ps_ret (pe_and (pe_callB call_isT rfl T.n_isinstance boot_isinstance (pa_cons (pv 0) (pa_cons (pe_ty (T := "int") rfl T.n_int boot_int) pa_nil))) (pe_one (pe_not (pe_callB call_isT rfl T.n_isinstance boot_isinstance (pa_cons (pv 0) (pa_cons (pe_ty (T := "bool") rfl T.n_bool boot_bool) pa_nil)))))))), ?_⟩
    clear nd 
    rw [show start ["thing"] [x] = [some (x)] from rfl]
    try dsimp only [cx_K, cx_K2]
    rw [isW_eq] at k
    repeat k_mem
    refine w_is ty (bt_int ty) ?_
    repeat k_mem
    refine i_b (fun h => ?_) (fun h => ?_)
    · repeat k_mem
      refine w_is ty (bt_bool ty) ?_
      repeat k_mem
      rw [h] at k
      exact k
    · rw [h] at k
      exact k
theorem D_is_from (T : Txt K mg c R CL ct_Linit pt_Linit ct_order pt_order) : Def P w K mg base CX0 2 "is_from" ["thing", "low"] (sp_is_from K) := by
  have D_is_whole := D_is_whole (P := P) (w := w) (base := base) T
  refine def_of T.d_is_from sc_is_from (fun vs H Q E h => ?_) (fun _ _ _ _ _ _ us hl => match us, hl with | [_, _], _ => rfl) (fun f cdv A outer s H vs Q E hr h => ?_)
  · obtain ⟨x, n, lo, rfl, _⟩ := h
    rfl
  · obtain ⟨x, n, lo, rfl, ty, k⟩ := h
    have nd := sc_is_from.nd
    refine ⟨_, (pss_one (ps_ret (pe_and (pe_def D_is_whole hr (pa_cons (pv 0) pa_nil)) (pe_one (pe_cmpR op_le (pv 1) (pv 0) (nomark _)))))), ?_⟩
    clear nd D_is_whole
    rw [show start ["thing", "low"] [x, .int lo] = [some (x), some (.int lo)] from rfl]
    try dsimp only [cx_K, cx_K2]
    repeat k_mem
    refine u_whole ty ?_
    repeat k_mem
    cases x with
    | int i =>
      refine i_T rfl ?_
      repeat k_mem
      exact k
    | _ => exact i_F rfl k
theorem D_is_within (T : Txt K mg c R CL ct_Linit pt_Linit ct_order pt_order) : Def P w K mg base CX0 2 "is_within" ["thing", "low", "high"] (sp_is_within K) := by
  have D_is_whole := D_is_whole (P := P) (w := w) (base := base) T
  refine def_of T.d_is_within sc_is_within (fun vs H Q E h => ?_) (fun _ _ _ _ _ _ us hl => match us, hl with | [_, _, _], _ => rfl) (fun f cdv A outer s H vs Q E hr h => ?_)
  · obtain ⟨x, n, lo, hi, rfl, _⟩ := h
    rfl
  · obtain ⟨x, n, lo, hi, rfl, ty, k⟩ := h
    have nd := sc_is_within.nd
    refine ⟨_, (pss_one (ps_ret (pe_and (pe_def D_is_whole hr (pa_cons (pv 0) pa_nil)) (pe_one (pe_chain op_le op_le (pv 1) (pv 0) (pv 2)))))), ?_⟩
    clear nd D_is_whole
    rw [show start ["thing", "low", "high"] [x, .int lo, .int hi] = [some (x), some (.int lo), some (.int hi)] from rfl]
    try dsimp only [cx_K, cx_K2]
    repeat k_mem
    refine u_whole ty ?_
    repeat k_mem
    cases x with
    | int i =>
      refine i_T rfl ?_
      repeat k_mem
      have k : Q (.bl (decide (lo ≤ i) && decide (i ≤ hi))) H := k
      refine i_dec (fun h => ?_) (fun h => ?_)
      · repeat k_mem
        rw [decide_eq_true h, Bool.true_and] at k
        exact k
      · rw [decide_eq_false h, Bool.false_and] at k
        exact k
    | _ => exact i_F rfl k
theorem D_is_many (T : Txt K mg c R CL ct_Linit pt_Linit ct_order pt_order) : Def P w K mg base CX0 3 "is_many" ["thing"] (sp_is_many K) := by
  have D_is_within := D_is_within (P := P) (w := w) (base := base) T
  refine def_of T.d_is_many sc_is_many (fun vs H Q E h => ?_) (fun _ _ _ _ _ _ us hl => match us, hl with | [_], _ => rfl) (fun f cdv A outer s H vs Q E hr h => ?_)
  · obtain ⟨x, n, rfl, _⟩ := h
    rfl
  · obtain ⟨x, n, rfl, ty, k⟩ := h
    have nd := sc_is_many.nd
    refine ⟨_, (pss_one (ps_ret (pe_def D_is_within hr (pa_cons (pv 0) (pa_cons (pe_gl T.g_FEWEST_CELLS) (pa_cons (pe_gl T.g_MOST_CELLS) pa_nil)))))), ?_⟩
    clear nd D_is_within
    rw [show start ["thing"] [x] = [some (x)] from rfl]
    try dsimp only [cx_K, cx_K2]
    repeat k_mem
    exact u_within ty k
theorem D_end_of (T : Txt K mg c R CL ct_Linit pt_Linit ct_order pt_order) : Def P w K mg base CX0 1 "end_of" ["stretch"] sp_end_of := by
  refine def_of T.d_end_of sc_end_of (fun vs H Q E h => ?_) (fun _ _ _ _ _ _ us hl => match us, hl with | [_], _ => rfl) (fun f cdv A outer s H vs Q E hr h => ?_)
  · obtain ⟨q, a, b, rfl, _⟩ := h
    rfl
  · obtain ⟨q, a, b, rfl, h, k⟩ := h
    have nd := sc_end_of.nd
    refine ⟨_, (pss_one (ps_ret (pe_op op_add (pe_ix ix_tup (pv 0) pe_int (fun _ _ => rfl)) (pe_ix ix_tup (pv 0) pe_int (fun _ _ => rfl))))), ?_⟩
    clear nd 
    rw [show start ["stretch"] [.ref q] = [some (.ref q)] from rfl]
    try dsimp only [cx_K, cx_K2]
    repeat k_meth
    exact k
theorem D_cell_at (T : Txt K mg c R CL ct_Linit pt_Linit ct_order pt_order) : Def P w K mg base CX0 1 "_law_cell" ["_law_script", "_law_k"] (sp_cellA K) := by
  refine def_of T.d_cell_at sc_cell_at (fun vs H Q E h => ?_) (fun _ _ _ _ _ _ us hl => match us, hl with | [_, _], _ => rfl) (fun f cdv A outer s H vs Q E hr h => ?_)
  · obtain ⟨a, ns, m, rfl, _⟩ := h
    rfl
  · obtain ⟨a, ns, m, rfl, hS, m0, k⟩ := h
    have nd := sc_cell_at.nd
    refine ⟨_, (pss_cons (ps_if (pt_cmpR op_lt (pv 1) (pe_callB call_lenN rfl T.n_len boot_len (pa_cons (pv 0) pa_nil)) (nomark _)) (pss_one (ps_ret (pe_ix ix_list (pv 0) (pv 1) (fun _ _ => rfl)))) pss_nil)
      (pss_one (ps_ret (pe_op op_add (pe_op op_mul pe_int (pv 1)) pe_int)))), ?_⟩
    clear nd 
    rw [show start ["_law_script", "_law_k"] [.ref a, .int m] = [some (.ref a), some (.int m)] from rfl]
    try dsimp only [cx_K, cx_K2]
    repeat k_meth
    refine i_dec (fun h => ?_) (fun h => ?_)
    · repeat k_meth
      rw [List.length_map] at h
      obtain ⟨v, e, mm⟩ := atI_lt (xs := ns.map V.int) m0 (by rw [List.length_map]; exact h)
      obtain ⟨c, _, rfl⟩ := List.mem_map.mp mm
      exact w_ixL hS e (k c)
    · repeat k_meth
      exact k _
theorem D_box (T : Txt K mg c R CL ct_Linit pt_Linit ct_order pt_order) : Def P w K mg base CX0 1 "_law_well" ["_law_cell_here"] sp_boxA := by
  refine def_of T.d_box sc_box (fun vs H Q E h => ?_) (fun _ _ _ _ _ _ us hl => match us, hl with | [_], _ => rfl) (fun f cdv A outer s H vs Q E hr h => ?_)
  · obtain ⟨c, rfl, _⟩ := h
    rfl
  · obtain ⟨c, rfl, k⟩ := h
    have nd := sc_box.nd
    refine ⟨_, (pss_cons (ps_if (pt_cmpR op_ge (pv 0) (pe_op op_pow pe_int pe_int) (nomark _)) (pss_one (ps_ret (pe_lstA (pa_cons (pv 0) (pa_cons (pe_op op_mod (pv 0) pe_int) (pa_cons pe_int pa_nil)))))) pss_nil)
      (pss_one (ps_ret (pe_lstA (pa_cons pe_int (pa_cons (pe_op op_mod (pv 0) pe_int) (pa_cons pe_int pa_nil))))))), ?_⟩
    clear nd 
    rw [show start ["_law_cell_here"] [.int c] = [some (.int c)] from rfl]
    try dsimp only [cx_K, cx_K2]
    repeat k_meth
    refine i_dec (fun h => ?_) (fun h => ?_)
    · repeat k_meth
      rename_i n
      exact k _ _ _ _ n
    · repeat k_meth
      rename_i n
      exact k _ _ _ _ n
theorem D_take (T : Txt K mg c R CL ct_Linit pt_Linit ct_order pt_order) : Def P w K mg base CX0 1 "_law_draw" ["_law_well_here", "_law_many_here"] sp_takeA := by
  refine def_of T.d_take sc_take (fun vs H Q E h => ?_) (fun _ _ _ _ _ _ us hl => match us, hl with | [_, _], _ => rfl) (fun f cdv A outer s H vs Q E hr h => ?_)
  · obtain ⟨p, a, b, c, m, rfl, _⟩ := h
    rfl
  · obtain ⟨p, a, b, c, m, rfl, hp, m0, m1, k⟩ := h
    have nd := sc_take.nd
    refine ⟨_, (pss_cons (ps_if (pt_cmpR op_gt (pe_ix ix_list (pv 0) pe_int (fun _ _ => rfl)) pe_int (nomark _)) (pss_cons (ps_set (i := 2) nd rfl (Or.inl rfl) (pe_op op_mod (pe_ix ix_list (pv 0) pe_int (fun _ _ => rfl)) (pv 1)))
        (pss_cons (ps_asg (pe_op op_fdiv (pe_ix ix_list (pv 0) pe_int (fun _ _ => rfl)) (pv 1)) (pg_sub (pv 0) pe_int set_listA))
        (pss_one (ps_ret (pv 2))))) pss_nil)
      (pss_cons (ps_asg (pe_op op_add (pe_ix ix_list (pv 0) pe_int (fun _ _ => rfl)) pe_int) (pg_sub (pv 0) pe_int set_listA))
      (pss_cons (ps_set (i := 2) nd rfl (Or.inl rfl) (pe_op op_mod (pe_op op_add (pe_op op_add (pe_op op_mul (pe_ix ix_list (pv 0) pe_int (fun _ _ => rfl)) pe_int) (pe_op op_mul pe_int (pe_ix ix_list (pv 0) pe_int (fun _ _ => rfl)))) pe_int) pe_int))
      (pss_cons (ps_set (i := 2) nd rfl (Or.inl rfl) (pe_op op_mod (pe_op op_add (pe_op op_add (pe_op op_mul (pv 2) (pv 2)) (pe_op op_mul pe_int (pe_ix ix_list (pv 0) pe_int (fun _ _ => rfl)))) pe_int) pe_int))
      (pss_one (ps_ret (pe_op op_mod (pe_op op_mod (pe_op op_mul (pv 2) (pv 2)) pe_int) (pv 1)))))))), ?_⟩
    clear nd 
    rw [show start ["_law_well_here", "_law_many_here", "_law_number"] [.ref p, .int m] = [some (.ref p), some (.int m), none] from rfl]
    try dsimp only [cx_K, cx_K2]
    repeat k_meth
    refine i_dec (fun h => ?_) (fun h => ?_)
    · repeat k_meth
      refine w_div m0 m1 ?_
      repeat k_meth
      refine w_setA hp rfl fun H1 f1 e1 => ?_
      repeat k_meth
      exact k _ _ _ _ H1 (Int.emod_nonneg _ (by omega)) (Int.emod_lt_of_pos _ m0) f1 e1
    · repeat k_meth
      refine w_setA hp rfl fun H1 f1 e1 => ?_
      have e1 : H1 p = some (.lst [.int a, .int b, .int (c + 1)]) := e1
      repeat k_meth
      generalize (b * 48271 + 7919 * (c + 1) + 101) = z
      have b1 := Int.emod_nonneg z (show (2147483647 : Int) ≠ 0 by decide)
      have b2 := Int.emod_lt_of_pos z (show (0 : Int) < 2147483647 by decide)
      generalize z % 2147483647 = y at b1 b2
      refine w_mulL (by omega) (by omega) ?_
      repeat k_meth
      have b3 := Int.emod_nonneg (y * y + 104729 * (c + 1) + 7) (show (2147483629 : Int) ≠ 0 by decide)
      have b4 := Int.emod_lt_of_pos (y * y + 104729 * (c + 1) + 7) (show (0 : Int) < 2147483629 by decide)
      generalize (y * y + 104729 * (c + 1) + 7) % 2147483629 = x at b3 b4
      refine w_mulR (by omega) (by omega) ?_
      repeat k_meth
      exact k _ _ _ _ H1 (Int.emod_nonneg _ (by omega)) (Int.emod_lt_of_pos _ m0) f1 e1
end
end K87
namespace K87
open PySem L2 PyProof.Rows
local macro_rules | `(tactic| k_room) => `(tactic| first
  | with_reducible assumption
  | with_unfolding_all exact rfl
  | with_unfolding_all exact Nat.le_of_ble_eq_true rfl
  | omega
  | (with_reducible refine small_line ?_; first | omega | (simp only [List.length_cons, List.length_nil, List.length_map, List.length_append, List.length_replicate, rowsN_len, List.length_take, List.length_drop, List.length_set]; omega))
  | (with_reducible refine small_lt ?_; first | omega | (simp only [List.length_cons, List.length_nil, List.length_map, List.length_append, List.length_replicate, rowsN_len, List.length_take, List.length_drop, List.length_set]; omega))
  | (simp only [List.length_cons, List.length_nil, List.length_map, List.length_append, List.length_replicate, rowsN_len, List.length_take, List.length_drop, List.length_set]; omega)
  | decide)
local macro_rules | `(tactic| k_mem) => `(tactic| first
  | with_reducible assumption
  | decide
  | omega
  | (simp only [List.length_cons, List.length_nil, List.length_map, List.length_append, List.length_replicate, rowsN_len, List.length_take, List.length_drop, List.length_set]; omega))
set_option hygiene false in
local macro_rules | `(tactic| k_meth) => `(tactic| first
  | with_reducible refine go1 ?_
  | (intro H_ a_ dx_ (F_ : SH _ _ _ _ _) (ex_ : ExcT _ _ _ _); clear F; (have F := F_); clear F_; have exA_ := ExA.mk ex_)
  | (intro H_ (F_ : SH _ _ _ _ _); clear F; (have F := F_); clear F_)
  | (intro H_ p_ (F_ : SH _ _ _ _ _); clear F; (have F := F_); clear F_)
  | (intro H_ x_ dx_ (F_ : SH _ _ _ _ _); clear F; (have F := F_); clear F_)
  | (intro H_ p_ ys_ l_ (F_ : SH _ _ _ _ _); clear F; (have F := F_); clear F_)
  | with_reducible refine sd (by k_room) ?_
  | (intro (r_ : Int) (x_ : Int) (y_ : Int) (z_ : Int) lo_ hi_)
  | (intro (x_ : Int) (y_ : Int))
  | (intro (c_ : Int))
  | with_reducible refine i_pos (by k_mem) ?_
  | with_reducible refine i_neg (by k_mem) ?_
  | with_reducible refine i_npos (by k_mem) ?_
  | with_reducible refine i_nneg (by k_mem) ?_)
open M22
def sp_is_name : Sp := fun vs H Q _ => ∃ cs : List Nat, vs = [.str (tx cs)] ∧ NameOk cs ∧ ∀ H', Same H H' → Q (.bl true) H'
def sp_share : Sp := fun vs H Q _ => ∃ (p q : Addr) (a b c d : Int), vs = [.ref p, .ref q] ∧ H p = some (.tup [.int a, .int b]) ∧ H q = some (.tup [.int c, .int d]) ∧ Q (.bl (decide (a < c + d) && decide (c < a + b))) H
def sp_cells : Sp := fun vs H Q _ => ∃ (q : Addr) (r : Rw), vs = [.ref q] ∧ H q = some (.tup (rowV r)) ∧ ∀ p H', Same H H' → H' p = some (.tup [.int (r.st : Nat), .int (r.sz : Nat)]) → Q (.ref p) H'
def sp_is_row : Sp := fun vs H Q _ => ∃ (q : Addr) (r : Rw), vs = [.ref q] ∧ H q = some (.tup (rowV r)) ∧ NameOk r.nm ∧ 1 ≤ r.sz ∧ ∀ H', Same H H' → Q (.bl true) H'
def sp_need_row : Sp := fun vs H Q _ => ∃ (n : Nat) (q l : Addr) (r : Rw) (ys : List V) (rs : List Rw), vs = [.int (n : Nat), .ref q, .ref l] ∧ H q = some (.tup (rowV r)) ∧ H l = some (.lst ys) ∧ TupsAt H ys (rowsV rs) ∧ GoodR n r ∧ (∀ s ∈ rs, Apart s r) ∧ ∀ H', Same H H' → Q .non H'
def sp_need_rows : Sp := fun vs H Q _ => ∃ (n : Nat) (l : Addr) (ys : List V) (rs : List Rw), vs = [.int (n : Nat), .ref l] ∧ H l = some (.lst ys) ∧ TupsAt H ys (rowsV rs) ∧ Lay n rs ∧ ∀ H', Same H H' → Q .non H'
section
variable {H : Hp} {Q : VK} {E : XK} {cs : List Nat} {p q l : Addr} {a b c d : Int} {r : Rw} {n : Nat} {ys : List V} {rs : List Rw}
instance go_is_name : Go (sp_is_name [.str (tx cs)] H Q E) (Sd (NameOk cs) (∀ H', Same H H' → Q (.bl true) H')) := ⟨fun s => ⟨cs, rfl, s.1, s.2⟩⟩
instance go_share [h : Hat H p (.tup [.int a, .int b])] [h2 : Hat H q (.tup [.int c, .int d])] : Go (sp_share [.ref p, .ref q] H Q E) (Q (.bl (decide (a < c + d) && decide (c < a + b))) H) := ⟨fun k => ⟨p, q, a, b, c, d, rfl, h.e, h2.e, k⟩⟩
instance go_cells [h : Hat H q (.tup (rowV r))] : Go (sp_cells [.ref q] H Q E) (∀ p H', Same H H' → H' p = some (.tup [.int (r.st : Nat), .int (r.sz : Nat)]) → Q (.ref p) H') := ⟨fun k => ⟨q, r, rfl, h.e, k⟩⟩
instance go_is_row [h : Hat H q (.tup (rowV r))] : Go (sp_is_row [.ref q] H Q E) (Sd (NameOk r.nm ∧ 1 ≤ r.sz) (∀ H', Same H H' → Q (.bl true) H')) := ⟨fun s => ⟨q, r, rfl, h.e, s.1.1, s.1.2, s.2⟩⟩
instance go_need_row [h : Hat H q (.tup (rowV r))] [h2 : Hat H l (.lst ys)] [t : TpA H ys (rowsV rs)] : Go (sp_need_row [.int (n : Nat), .ref q, .ref l] H Q E) (Sd (GoodR n r ∧ ∀ s ∈ rs, Apart s r) (∀ H', Same H H' → Q .non H')) := ⟨fun s => ⟨n, q, l, r, ys, rs, rfl, h.e, h2.e, t.e, s.1.1, s.1.2, s.2⟩⟩
instance go_need_rows [h2 : Hat H l (.lst ys)] [t : TpA H ys (rowsV rs)] : Go (sp_need_rows [.int (n : Nat), .ref l] H Q E) (Sd (Lay n rs) (∀ H', Same H H' → Q .non H')) := ⟨fun s => ⟨n, l, ys, rs, rfl, h2.e, t.e, s.1, s.2⟩⟩
instance nx_sameT {H0 : Hp} {M : List Addr} {L : List (Addr × HO)} {I : List Im} {xs : List V} {Z : Addr → Hp → Prop} [F : SH H0 M H L I] : Go (∀ p H', Same H H' → H' p = some (.tup xs) → Z p H') (∀ H' p, SH H0 M H' L (.tup p xs :: I) → Z p H') := ⟨fun k p H' s e => k H' p ((F.same s).addT e)⟩
theorem rows_take {i : Nat} (t : TupsAt H ys (rowsV rs)) : TupsAt H (ys.take i) (rowsV (rs.take i)) := by
  refine ⟨?_, fun j r e => ?_⟩
  · rw [rowsV_len, List.length_take, List.length_take, t.1, rowsV_len]
  · unfold rowsV at e
    rw [List.map_take, List.getElem?_take] at e
    split at e
    · rename_i hj
      obtain ⟨q, e1, e2⟩ := t.2 j r e
      exact ⟨q, by rw [List.getElem?_take, if_pos hj]; exact e1, e2⟩
    · cases e
theorem cut_take {i : Nat} : cutV ys none (some (i : Int)) = ys.take i := by
  unfold cutV
  rw [HT.sIx_nat]
  show (ys.drop 0).take (min i ys.length - 0) = _
  rw [List.drop_zero, Nat.sub_zero]
  by_cases h : i ≤ ys.length
  · rw [show min i ys.length = i by omega]
  · rw [List.take_of_length_le (by omega), List.take_of_length_le (by omega)]
end
section
variable {P : Program} {w : World} {K : PySem.W.Frag} {mg : Str → Option Value} {base : Heap} {c : Nat → Addr} {ct_Linit pt_Linit ct_order pt_order R CL : Addr}
theorem D_is_name (T : Txt K mg c R CL ct_Linit pt_Linit ct_order pt_order) : Def P w K mg base CX0 1 "is_name" ["thing"] sp_is_name := by
  refine def_of T.d_is_name sc_is_name (fun vs H Q E h => ?_) (fun _ _ _ _ _ _ us hl => match us, hl with | [_], _ => rfl) (fun f cdv A outer s H vs Q E hr h => ?_)
  · obtain ⟨cs, rfl, _⟩ := h
    rfl
  · obtain ⟨cs, rfl, ok, k⟩ := h
    have nd := sc_is_name.nd
    refine ⟨_, (pss_cons (ps_if (PW.pt (pw_or (pt_not (pt_val (pe_callB call_isT rfl T.n_isinstance boot_isinstance (pa_cons (pv 0) (pa_cons (pe_ty (T := "str") rfl T.n_str boot_str) pa_nil))))) (pw_or1 (pt_not (pt_chain op_le op_le pe_int (pe_callB call_lenN rfl T.n_len boot_len (pa_cons (pv 0) pa_nil)) (pe_gl T.g_MOST_SIGNS)))))) (pss_one (ps_ret pe_bl)) pss_nil)
      (pss_one (ps_ret (pe_and (pe_cmpR op_inS (pe_ix ix_str (pv 0) pe_int (fun _ _ => rfl)) (pe_gl T.g_LETTERS) (by with_unfolding_all rfl)) (pe_one (pe_callB (call_all rfl) rfl T.n_all boot_all (pa_cons (pe_comp (N := ["sign"]) (nt := 1) (fr := []) (pi_str (pv 0)) (fun _ _ _ _ => (pg_name (i := 0) (show (["sign"] : List Str).Nodup from by decide +kernel) rfl (Or.inl rfl))) (fun _ _ _ _ => pif_nil) (fun _ _ _ _ => (pe_cmpR op_inS (pv 0) (pe_gl T.g_NAME_SIGNS) (by with_unfolding_all rfl)))) pa_nil))))))), ?_⟩
    clear nd 
    rw [show start ["thing"] [.str (tx cs)] = [some (.str (tx cs))] from rfl]
    try dsimp only [cx_K, cx_K2]
    have iL_many : FldOk K CL "many" := ⟨T.clL, T.aL_many⟩
    have iL_rows : FldOk K CL "rows" := ⟨T.clL, T.aL_rows⟩
    have F : SH H [] H [] [] := SH.nil
    have h1 := ok.lo
    have h2 := ok.hi
    repeat k_meth
    intro c hc
    repeat k_meth
    rw [let_low, ok.hd c hc]
    repeat k_meth
    refine comp_S (F := fun c => V.bl true) (by omega) rfl (fun c H' R hm s kk => ?_) ?_
    · clear F
      have F : SH H' [] H' [] [] := SH.nil
      repeat k_meth
      rw [sgn_low, ok.all c hm]
      exact kk _ (Same.refl _)
    · have e : (cs.map fun _ => V.bl true) = (List.replicate cs.length true).map V.bl := by
        rw [List.map_replicate, List.map_const']
      rw [e]
      repeat k_meth
      rw [show (List.replicate cs.length true).all id = true by simp]
      exact k _ F.sm
theorem D_share (T : Txt K mg c R CL ct_Linit pt_Linit ct_order pt_order) : Def P w K mg base CX0 2 "share_cells" ["one", "other"] sp_share := by
  have D_end_of := D_end_of (P := P) (w := w) (base := base) T
  refine def_of T.d_share sc_share (fun vs H Q E h => ?_) (fun _ _ _ _ _ _ us hl => match us, hl with | [_, _], _ => rfl) (fun f cdv A outer s H vs Q E hr h => ?_)
  · obtain ⟨p, q, a, b, c, d, rfl, _⟩ := h
    rfl
  · obtain ⟨p, q, a, b, c, d, rfl, hp, hq, k⟩ := h
    have nd := sc_share.nd
    refine ⟨_, (pss_one (ps_ret (pe_and (pe_cmpR op_lt (pe_ix ix_tup (pv 0) pe_int (fun _ _ => rfl)) (pe_def D_end_of hr (pa_cons (pv 1) pa_nil)) (nomark _)) (pe_one (pe_cmpR op_lt (pe_ix ix_tup (pv 1) pe_int (fun _ _ => rfl)) (pe_def D_end_of hr (pa_cons (pv 0) pa_nil)) (nomark _)))))), ?_⟩
    clear nd D_end_of
    rw [show start ["one", "other"] [.ref p, .ref q] = [some (.ref p), some (.ref q)] from rfl]
    try dsimp only [cx_K, cx_K2]
    have iL_many : FldOk K CL "many" := ⟨T.clL, T.aL_many⟩
    have iL_rows : FldOk K CL "rows" := ⟨T.clL, T.aL_rows⟩
    have o_hp := Old.mk (M := []) hp nm0
    have o_hq := Old.mk (M := []) hq nm0
    have F : SH H [] H [] [] := SH.nil
    repeat k_meth
    refine i_dec (fun h => ?_) (fun h => ?_)
    · repeat k_meth
      rw [decide_eq_true h, Bool.true_and] at k
      exact k
    · rw [decide_eq_false h, Bool.false_and] at k
      exact k
theorem D_cells_of (T : Txt K mg c R CL ct_Linit pt_Linit ct_order pt_order) : Def P w K mg base CX0 1 "cells_of" ["row"] sp_cells := by
  refine def_of T.d_cells_of sc_cells_of (fun vs H Q E h => ?_) (fun _ _ _ _ _ _ us hl => match us, hl with | [_], _ => rfl) (fun f cdv A outer s H vs Q E hr h => ?_)
  · obtain ⟨q, r, rfl, _⟩ := h
    rfl
  · obtain ⟨q, r, rfl, hq, k⟩ := h
    have nd := sc_cells_of.nd
    refine ⟨_, (pss_one (ps_ret (pe_tupA (pa_cons (pe_ix ix_tup (pv 0) pe_int (fun _ _ => rfl)) (pa_cons (pe_ix ix_tup (pv 0) pe_int (fun _ _ => rfl)) pa_nil))))), ?_⟩
    clear nd 
    rw [show start ["row"] [.ref q] = [some (.ref q)] from rfl]
    try dsimp only [cx_K, cx_K2]
    have iL_many : FldOk K CL "many" := ⟨T.clL, T.aL_many⟩
    have iL_rows : FldOk K CL "rows" := ⟨T.clL, T.aL_rows⟩
    have o_hq := Old.mk (M := []) hq nm0
    have F : SH H [] H [] [] := SH.nil
    repeat k_meth
    exact k _ _ F.sm hatC
theorem D_is_row (T : Txt K mg c R CL ct_Linit pt_Linit ct_order pt_order) : Def P w K mg base CX0 3 "is_row" ["thing"] sp_is_row := by
  have D_is_name := D_is_name (P := P) (w := w) (base := base) T
  have D_is_from := D_is_from (P := P) (w := w) (base := base) T
  refine def_of T.d_is_row sc_is_row (fun vs H Q E h => ?_) (fun _ _ _ _ _ _ us hl => match us, hl with | [_], _ => rfl) (fun f cdv A outer s H vs Q E hr h => ?_)
  · obtain ⟨q, r, rfl, _⟩ := h
    rfl
  · obtain ⟨q, r, rfl, hq, ok, hz, k⟩ := h
    have nd := sc_is_row.nd
    refine ⟨_, (pss_cons (ps_if (PW.pt (pw_or (pt_not (pt_val (pe_callB call_isT rfl T.n_isinstance boot_isinstance (pa_cons (pv 0) (pa_cons (pe_ty (T := "tuple") rfl T.n_tuple boot_tuple) pa_nil))))) (pw_or1 (pt_cmpR op_ne (pe_callB call_lenN rfl T.n_len boot_len (pa_cons (pv 0) pa_nil)) pe_int (nomark _))))) (pss_one (ps_ret pe_bl)) pss_nil)
      (pss_one (ps_ret (pe_and (pe_def D_is_name hr (pa_cons (pe_ix ix_tup (pv 0) pe_int (fun _ _ => rfl)) pa_nil)) (pe_and (pe_def D_is_from hr (pa_cons (pe_ix ix_tup (pv 0) pe_int (fun _ _ => rfl)) (pa_cons pe_int pa_nil))) (pe_and (pe_def D_is_from hr (pa_cons (pe_ix ix_tup (pv 0) pe_int (fun _ _ => rfl)) (pa_cons pe_int pa_nil))) (pe_one (pe_def D_is_from hr (pa_cons (pe_ix ix_tup (pv 0) pe_int (fun _ _ => rfl)) (pa_cons pe_int pa_nil)))))))))), ?_⟩
    clear nd D_is_name D_is_from
    rw [show start ["thing"] [.ref q] = [some (.ref q)] from rfl]
    try dsimp only [cx_K, cx_K2]
    have iL_many : FldOk K CL "many" := ⟨T.clL, T.aL_many⟩
    have iL_rows : FldOk K CL "rows" := ⟨T.clL, T.aL_rows⟩
    have o_hq := Old.mk (M := []) hq nm0
    have F : SH H [] H [] [] := SH.nil
    have e4 : (((rowV r).length : Nat) : Int) = 4 := rfl
    repeat k_meth
    exact k _ F.sm
theorem D_need_row (T : Txt K mg c R CL ct_Linit pt_Linit ct_order pt_order) : Def P w K mg base CX0 4 "need_row" ["many", "row", "ahead"] sp_need_row := by
  have D_is_row := D_is_row (P := P) (w := w) (base := base) T
  have D_end_of := D_end_of (P := P) (w := w) (base := base) T
  have D_share := D_share (P := P) (w := w) (base := base) T
  have D_cells_of := D_cells_of (P := P) (w := w) (base := base) T
  refine def_of T.d_need_row sc_need_row (fun vs H Q E h => ?_) (fun _ _ _ _ _ _ us hl => match us, hl with | [_, _, _], _ => rfl) (fun f cdv A outer s H vs Q E hr h => ?_)
  · obtain ⟨n, q, l, r, ys, rs, rfl, _⟩ := h
    rfl
  · obtain ⟨n, q, l, r, ys, rs, rfl, hq, hl, tp, gd, ap, k⟩ := h
    have nd := sc_need_row.nd
    refine ⟨_, (pss_cons (ps_if (pt_not (pt_val (pe_def D_is_row hr (pa_cons (pv 1) pa_nil)))) pss_never pss_nil)
      (pss_cons (ps_if (pt_cmpR op_gt (pe_def D_end_of hr (pa_cons (pe_def D_cells_of hr (pa_cons (pv 1) pa_nil)) pa_nil)) (pv 0) (nomark _)) pss_never pss_nil)
      (pss_cons (ps_for PassesOwn.never rfl (pi_list (pv 2)) (pg_name (i := 3) nd rfl (Or.inl rfl)) (pss_one (ps_if (pt_cmpR op_eq (pe_ix ix_tup (pv 3) pe_int (fun _ _ => rfl)) (pe_ix ix_tup (pv 1) pe_int (fun _ _ => rfl)) (nomark _)) pss_never pss_nil)))
      (pss_one (ps_for PassesOwn.never rfl (pi_list (pv 2)) (pg_name (i := 3) nd rfl (Or.inl rfl)) (pss_one (ps_if (pt_val (pe_def D_share hr (pa_cons (pe_def D_cells_of hr (pa_cons (pv 1) pa_nil)) (pa_cons (pe_def D_cells_of hr (pa_cons (pv 3) pa_nil)) pa_nil)))) pss_never pss_nil))))))), ?_⟩
    clear nd D_is_row D_end_of D_share D_cells_of
    rw [show start ["many", "row", "ahead", "other"] [.int (n : Nat), .ref q, .ref l] = [some (.int (n : Nat)), some (.ref q), some (.ref l), none] from rfl]
    try dsimp only [cx_K, cx_K2]
    have iL_many : FldOk K CL "many" := ⟨T.clL, T.aL_many⟩
    have iL_rows : FldOk K CL "rows" := ⟨T.clL, T.aL_rows⟩
    have o_hq := Old.mk (M := []) hq nm0
    have o_hl := Old.mk (M := []) hl nm0
    have o_tp := OldP.mk tp
    have F : SH H [] H [] [] := SH.nil
    have ok : NameOk r.nm ∧ 1 ≤ r.sz := ⟨gd.nm, gd.sz⟩
    have le := gd.le
    repeat k_meth
    refine forL_by (xs := ys) (fun i σ' H' => ∃ o3 : Option V, σ' = [some (.int (n : Nat)), some (.ref q), some (.ref l), o3] ∧ SH H [] H' [] []) ⟨_, rfl, F.subC⟩ ?_ ?_ ?_
    · clear F
      rintro i σ' H' _ ⟨_, rfl, F⟩
      exact SqA.e
    · clear F
      rintro i v σ' H' hv ⟨_, rfl, F⟩
      obtain ⟨s, q1, e1, rfl, e2⟩ := rowsV_at tp hv
      have o_e2 := Old.mk (M := []) e2 nm0
      have ne : ¬ tx s.nm = tx r.nm := fun z => (ap s (List.mem_of_getElem? e1)).1 (tx_inj z)
      repeat k_meth
      exact ⟨_, rfl, F⟩
    · clear F
      rintro σ' H' ⟨_, rfl, F⟩
      repeat k_meth
      refine forL_by (xs := ys) (fun i σ' H' => ∃ o3 : Option V, σ' = [some (.int (n : Nat)), some (.ref q), some (.ref l), o3] ∧ SH H [] H' [] []) ⟨_, rfl, F.subC⟩ ?_ ?_ ?_
      · clear F
        rintro i σ' H' _ ⟨_, rfl, F⟩
        exact SqA.e
      · clear F
        rintro i v σ' H' hv ⟨_, rfl, F⟩
        obtain ⟨s, q1, e1, rfl, e2⟩ := rowsV_at tp hv
        have o_e2 := Old.mk (M := []) e2 nm0
        have ne := (ap s (List.mem_of_getElem? e1)).2
        repeat k_meth
        have e5 : (decide (((r.st : Nat) : Int) < ((s.st : Nat) : Int) + ((s.sz : Nat) : Int)) && decide (((s.st : Nat) : Int) < ((r.st : Nat) : Int) + ((r.sz : Nat) : Int))) = false := by
          rcases ne with ne | ne
          · rw [decide_eq_false (by omega), Bool.false_and]
          · rw [decide_eq_false (show ¬ ((s.st : Nat) : Int) < ((r.st : Nat) : Int) + ((r.sz : Nat) : Int) by omega), Bool.and_false]
        rw [e5]
        repeat k_meth
        exact ⟨_, rfl, F.subC⟩
      · clear F
        rintro σ' H' ⟨_, rfl, F⟩
        repeat k_meth
        exact k _ F.sm
theorem D_need_rows (T : Txt K mg c R CL ct_Linit pt_Linit ct_order pt_order) : Def P w K mg base CX0 5 "need_rows" ["many", "rows"] sp_need_rows := by
  have D_need_row := D_need_row (P := P) (w := w) (base := base) T
  refine def_of T.d_need_rows sc_need_rows (fun vs H Q E h => ?_) (fun _ _ _ _ _ _ us hl => match us, hl with | [_, _], _ => rfl) (fun f cdv A outer s H vs Q E hr h => ?_)
  · obtain ⟨n, l, ys, rs, rfl, _⟩ := h
    rfl
  · obtain ⟨n, l, ys, rs, rfl, hl, tp, ly, k⟩ := h
    have nd := sc_need_rows.nd
    refine ⟨_, (pss_cons (ps_if (pt_not (pt_val (pe_callB call_isT rfl T.n_isinstance boot_isinstance (pa_cons (pv 1) (pa_cons (pe_ty (T := "list") rfl T.n_list boot_list) pa_nil))))) pss_never pss_nil)
      (pss_cons (ps_if (pt_cmpR op_gt (pe_callB call_lenN rfl T.n_len boot_len (pa_cons (pv 1) pa_nil)) (pe_gl T.g_MOST_BLOCKS) (nomark _)) pss_never pss_nil)
      (pss_one (ps_for PassesOwn.never rfl (pi_range1 rfl T.n_range (pa_cons (pe_callB call_lenN rfl T.n_len boot_len (pa_cons (pv 1) pa_nil)) pa_nil)) (pg_name (i := 2) nd rfl (Or.inl rfl)) (pss_one (ps_expr (pe_def D_need_row hr (pa_cons (pv 0) (pa_cons (pe_ix ix_list (pv 1) (pv 2) (fun _ _ => rfl)) (pa_cons (pe_slice sl_listA (pv 1) po_none (po_some (pv 2))) pa_nil)))))))))), ?_⟩
    clear nd D_need_row
    rw [show start ["many", "rows", "at"] [.int (n : Nat), .ref l] = [some (.int (n : Nat)), some (.ref l), none] from rfl]
    try dsimp only [cx_K, cx_K2]
    have iL_many : FldOk K CL "many" := ⟨T.clL, T.aL_many⟩
    have iL_rows : FldOk K CL "rows" := ⟨T.clL, T.aL_rows⟩
    have o_hl := Old.mk (M := []) hl nm0
    have o_tp := OldP.mk tp
    have F : SH H [] H [] [] := SH.nil
    have few := ly.few
    have yl : ys.length = rs.length := by rw [tp.1, rowsV_len]
    repeat k_meth
    rw [show ((ys.length : Nat) : Int).toNat = ys.length by omega]
    refine forR0_by (fun i σ' H' => ∃ o2 : Option V, σ' = [some (.int (n : Nat)), some (.ref l), o2] ∧ SH H [] H' [] []) ⟨_, rfl, F⟩ ?_ ?_
    · clear F
      rintro i σ' H' hi ⟨_, rfl, F⟩
      obtain ⟨s, q1, e1, e0, e2⟩ := rowsV_at tp (i := i) (v := ys[i]) (by simp)
      have o_e2 := Old.mk (M := []) e2 nm0
      have a1 : AtI ys (i : Int) (.ref q1) := ⟨atI_nat (by rw [← e0]; simp)⟩
      have gd := ly.good s (List.mem_of_getElem? e1)
      have ap : ∀ t ∈ rs.take i, Apart t s := fun t ht => by
        have h1 := ly.ap
        obtain ⟨hi2, rfl⟩ := List.getElem?_eq_some_iff.mp e1
        obtain ⟨j, hj, rfl⟩ := List.getElem_of_mem ht
        rw [List.length_take] at hj
        rw [List.getElem_take]
        exact List.pairwise_iff_getElem.mp h1 j i (by omega) hi2 (by omega)
      have side := And.intro gd ap
      repeat k_meth
      rw [cut_take] at F
      have tp2 : TpA H_ (ys.take i) (rowsV (rs.take i)) := ⟨(rows_take tp).same F.sm⟩
      repeat k_meth
      exact ⟨_, rfl, F.subC⟩
    · clear F
      rintro σ' H' ⟨_, rfl, F⟩
      repeat k_meth
      exact k _ F.sm
end
def lF (n : Int) (p : Addr) : List (Str × V) := putF "rows" (.ref p) (putF "many" (.int n) [])
theorem lF_many {n : Int} {p : Addr} : (lF n p).lookup ("many" : Str) = some (.int n) := by unfold lF; rw [lookup_putF, if_neg (by decide), lookup_putF, if_pos rfl]
theorem lF_rows {n : Int} {p : Addr} : (lF n p).lookup ("rows" : Str) = some (.ref p) := by unfold lF; rw [lookup_putF, if_pos rfl]
theorem lF_none {n : Int} {p : Addr} {m : Str} (h1 : m ≠ "rows") (h2 : m ≠ "many") : (lF n p).lookup m = none := by unfold lF; rw [lookup_putF, if_neg h1, lookup_putF, if_neg h2]; rfl
class LayA (n : Nat) (rs : List Rw) (as : outParam (List Rw)) : Prop where
  p : rs.Perm as
  l : Lay n as
  a : Asc as
def sp_Linit (CL P : Addr) (pos : Pos) (qual : Str) : Sp := fun vs H Q _ => ∃ (x dx l : Addr) (n : Nat) (ys : List V) (rs as : List Rw) (ps : Array Value), vs = [.ref x, .int (n : Nat), .ref l] ∧ H x = some (.ins CL dx []) ∧ H l = some (.lst ys) ∧ TupsAt H ys (rowsV rs) ∧ LayA n rs as ∧ 16 ≤ n ∧ n ≤ 240 ∧ H P = some (.tbl ps) ∧ TabOk pos qual ps H ∧
  ∀ (p : Addr) (zs : List V) (ps' : Array Value) (H' : Hp), (∀ b u, b ≠ x → b ≠ P → H b = some u → H' b = some u) → H' x = some (.ins CL dx (lF n p)) → H' p = some (.lst zs) → TupsAt H' zs (rowsV as) → (∀ b u, H b = some u → b ≠ p) → H' P = some (.tbl ps') → TabOk pos qual ps' H' → Q .non H'
def sp_Lblocks (CL : Addr) : Sp := fun vs H Q _ => ∃ (x p dx : Addr) (n : Nat) (zs : List V), vs = [.ref x] ∧ H x = some (.ins CL dx (lF (n : Nat) p)) ∧ H p = some (.lst zs) ∧ ∀ q H', New H H' q (.lst zs) → Q (.ref q) H'
section
variable {CL P x dx l p : Addr} {pos : Pos} {qual : Str} {H H0 : Hp} {M : List Addr} {L : List (Addr × HO)} {I : List Im} {Q : VK} {E : XK} {n : Nat} {m : Int} {ys zs : List V} {rs as : List Rw} {ps : Array Value}
instance ll_many : FLk (lF m p) "many" (.int m) := ⟨lF_many⟩
instance ll_rows : FLk (lF m p) "rows" (.ref p) := ⟨lF_rows⟩
instance ln_blocks : FNo (lF m p) "blocks" := ⟨lF_none (by decide) (by decide)⟩
instance go_Lblocks [h : Hat H x (.ins CL dx (lF (n : Nat) p))] [h2 : Hat H p (.lst zs)] : Go (sp_Lblocks CL [.ref x] H Q E) (∀ q H', New H H' q (.lst zs) → Q (.ref q) H') := ⟨fun k => ⟨x, p, dx, n, zs, rfl, h.e, h2.e, k⟩⟩
instance go_Linit [h : Hat H x (.ins CL dx [])] [h2 : Hat H l (.lst ys)] [t : TpA H ys (rowsV rs)] [e : Hat H P (.tbl ps)] [F : SH H0 M H L I] [tb : TabA I pos qual ps] [la : LayA n rs as] : Go (sp_Linit CL P pos qual [.ref x, .int (n : Nat), .ref l] H Q E)
    (Sd (16 ≤ n ∧ n ≤ 240) (∀ (ps' : Array Value) (H1 : Hp), Kp P H H1 → H1 P = some (.tbl ps') → TabOk pos qual ps' H1 → ∀ (p : Addr) (zs : List V) (H2 : Hp), New H1 H2 p (.lst zs) → TupsAt H2 zs (rowsV as) → ∀ H3, Off x H2 H3 → H3 x = some (.ins CL dx (lF n p)) → Q .non H3)) := by
  refine ⟨fun s => ⟨x, dx, l, n, ys, rs, as, ps, rfl, h.e, h2.e, t.e, la, s.1.1, s.1.2, e.e, F.im _ tb.m, fun p zs ps' H' keep ex ep tz fr eP tk => ?_⟩⟩
  have hx := h.e
  have hP := e.e
  have nxp : x ≠ p := fr x _ hx
  have nPp : P ≠ p := fr P _ hP
  have nPx : P ≠ x := fun z => by rw [z, hx] at hP; cases hP
  let H2 : Hp := fun b => if b = x then H x else H' b
  let H1 : Hp := fun b => if b = p then none else H2 b
  have h2x : H2 x = H x := if_pos rfl
  have h2n : ∀ {b : Addr}, b ≠ x → H2 b = H' b := fun n => if_neg n
  have h1n : ∀ {b : Addr}, b ≠ p → H1 b = H2 b := fun n => if_neg n
  refine s.2 ps' H1 (fun b u nb eb => ?_) ?_ ?_ p zs H2 ⟨fun b u eb => ?_, ?_, fun b u eb z => ?_⟩ ?_ H' (fun b nb => (h2n nb).symm) ex
  · have n1 : b ≠ p := fr b u eb
    rw [h1n n1]
    by_cases hb : b = x
    · rw [hb, h2x, ← hb]
      exact eb
    · rw [h2n hb]
      exact keep b u hb nb eb
  · rw [h1n nPp, h2n nPx]
    exact eP
  · rcases tk with tk | ⟨c', oc, vs, t', e1, e2, e3⟩
    · exact .inl tk
    · refine .inr ⟨c', oc, vs, t', e1, ?_, e3⟩
      have n1 : c' ≠ p := fun z => by rw [z, ep] at e2; cases e2
      have n2 : c' ≠ x := fun z => by rw [z, ex] at e2; cases e2
      rw [h1n n1, h2n n2]
      exact e2
  · by_cases hb : b = p
    · have : H1 b = none := if_pos hb
      rw [this] at eb
      cases eb
    · rw [h1n hb] at eb
      exact eb
  · rw [h2n (Ne.symm nxp)]
    exact ep
  · have : H1 b = none := if_pos z
    rw [this] at eb
    cases eb
  · refine ⟨tz.1, fun j r ej => ?_⟩
    obtain ⟨q, e1, e2⟩ := tz.2 j r ej
    refine ⟨q, e1, ?_⟩
    rw [h2n (fun z => by rw [z, ex] at e2; cases e2)]
    exact e2
end
abbrev lamPos : Pos := ⟨96, 37, 96, 55⟩
abbrev lamQual : Str := "Layout.__init__.<locals>.<lambda>"
section
variable {P : Program} {w : World} {K : PySem.W.Frag} {mg : Str → Option Value} {base : Heap} {c : Nat → Addr} {ct_Linit pt_Linit ct_order pt_order R CL : Addr}
theorem MK_Linit (T : Txt K mg c R CL ct_Linit pt_Linit ct_order pt_order) (B : Bm mg base) : Mak P w K mg base CX0 6 "Layout" CL ["self", "many", "rows"] (sp_Linit CL pt_Linit lamPos lamQual) := by
  have D_need_rows := D_need_rows (P := P) (w := w) (base := base) T
  have D_is_many := D_is_many (P := P) (w := w) (base := base) T
  obtain ⟨f, hf, hm⟩ := T.f_Linit
  refine (fn_tellsC (k := 5) hf sc_Linit (fun vs H Q E h => ?_) (fun _ _ _ _ _ _ us hl => match us, hl with | [_, _, _], _ => rfl) (fun f A outer s H vs Q E hr h => ?_)).mak hm T.gc_Layout
  · obtain ⟨x, dx, l, n, ys, rs, as, ps, rfl, _⟩ := h
    rfl
  · obtain ⟨x, dx, l, n, ys, rs, as, ps, rfl, hx, hl, tp, la, h16, h240, hP, tk, k⟩ := h
    have nd := sc_Linit.nd
    refine ⟨_, (pss_cons (ps_if (pt_not (pt_val (pe_def D_is_many hr (pa_cons (pv 1) pa_nil)))) pss_never pss_nil)
      (pss_cons (ps_expr (pe_def D_need_rows hr (pa_cons (pv 1) (pa_cons (pv 2) pa_nil))))
      (pss_cons (ps_fld (pv 0) (pv 1) rfl)
      (pss_one (ps_fld (pv 0) (pe_ckw (call_sortK rfl hr) rfl T.n_sorted boot_sorted (pa_cons (pv 2) pa_nil) (pe_lam (qual := lamQual) B rfl T.tab_Linit (by with_unfolding_all rfl) ⟨rfl, rfl, rfl, by with_unfolding_all rfl, by decide +kernel, by decide⟩)) rfl))))), ?_⟩
    clear nd D_need_rows D_is_many
    rw [show start ["self", "many", "rows"] [.ref x, .int (n : Nat), .ref l] = [some (.ref x), some (.int (n : Nat)), some (.ref l)] from rfl]
    try dsimp only [cx_K, cx_K2]
    have iL_many : FldOk K CL "many" := ⟨T.clL, T.aL_many⟩
    have iL_rows : FldOk K CL "rows" := ⟨T.clL, T.aL_rows⟩
    have nxP : x ≠ pt_Linit := fun z => by rw [z, hP] at hx; cases hx
    have nlx : l ≠ x := fun z => by rw [z, hx] at hl; cases hl
    have nlP : l ≠ pt_Linit := fun z => by rw [z, hP] at hl; cases hl
    have nm2 : ∀ {b : Addr}, b ≠ x → b ≠ pt_Linit → b ∉ [x, pt_Linit] := fun a b z => by
      rcases List.mem_cons.mp z with z | z
      · exact a z
      · exact b (List.mem_singleton.mp z)
    have F : SH H [x, pt_Linit] H [(x, .ins CL dx []), (pt_Linit, .tbl ps)] [.tps ys (rowsV rs), TabI lamPos lamQual ps] := (((SH.nil.addM (List.mem_cons_of_mem _ List.mem_cons_self) hP rfl (by simp)).addM List.mem_cons_self hx rfl (by simp [Ne.symm nxP])).addF tk).addP tp
    have o_hl := Old.mk (M := [x, pt_Linit]) hl (nm2 nlx nlP)
    have ly := la.l.perm la.p.symm
    have few := ly.few
    have e1 : (decide (16 ≤ (n : Int)) && decide ((n : Int) ≤ 240)) = true := by rw [decide_eq_true (by omega), decide_eq_true (by omega)]; rfl
    repeat k_meth
    rw [e1]
    repeat k_meth
    intro f_ ps_
    repeat k_meth
    intro D zs H8 n8 so
    have t8 := sort_rows (H := H_) TpA.e la.p (la.a.lt la.l.good) so
    replace F := F.newR n8 (t8.same n8.s)
    repeat k_meth
    exact k D zs ps_ _ (fun b u n1 n2 e => F.fr b u (nm2 n1 n2) e) hatC hatC TpA.e (F.fresh (LkL.m (o := .lst zs)) (nm2 (SH.neC (F := F)) (SH.neC (F := F)))) hatC SH.tab
theorem MT_Lblocks (T : Txt K mg c R CL ct_Linit pt_Linit ct_order pt_order) : Met P w K mg base CX0 1 CL "blocks" ["self"] (sp_Lblocks CL) := by
  obtain ⟨f, hf, hm⟩ := T.f_Lblocks
  refine (fn_tells (k := 0) hf sc_Lblocks (fun vs H Q E h => ?_) (fun _ _ _ _ _ _ us hl => match us, hl with | [_], _ => rfl) (fun f cdv A outer s H vs Q E hr h => ?_)).met hm
  · obtain ⟨x, p, dx, n, zs, rfl, _⟩ := h
    rfl
  · obtain ⟨x, p, dx, n, zs, rfl, hx, hp, k⟩ := h
    have nd := sc_Lblocks.nd
    refine ⟨_, (pss_one (ps_ret (pe_callTy call_list_ofA rfl T.n_list boot_list (pa_cons (pe_fld (pv 0) rfl) pa_nil)))), ?_⟩
    clear nd 
    rw [show start ["self"] [.ref x] = [some (.ref x)] from rfl]
    try dsimp only [cx_K, cx_K2]
    have iL_many : FldOk K CL "many" := ⟨T.clL, T.aL_many⟩
    have iL_rows : FldOk K CL "rows" := ⟨T.clL, T.aL_rows⟩
    have o_hx := Old.mk (M := []) hx nm0
    have o_hp := Old.mk (M := []) hp nm0
    have F : SH H [] H [] [] := SH.nil
    repeat k_meth
    exact k _ _ SH.nwC
end
open M22
def sp_lmany : Sp := fun vs H Q _ => ∃ (bx : Addr) (x y z : Int), vs = [.ref bx] ∧ H bx = some (.lst [.int x, .int y, .int z]) ∧ ∀ (n : Nat) (x' y' z' : Int) (H' : Hp), 16 ≤ n → n ≤ 240 → Kp bx H H' → H' bx = some (.lst [.int x', .int y', .int z']) → Q (.int (n : Nat)) H'
def sp_names : Sp := fun vs H Q _ => ∃ (bx : Addr) (x y z : Int) (m : Nat), vs = [.ref bx, .int (m : Nat)] ∧ H bx = some (.lst [.int x, .int y, .int z]) ∧ m ≤ 40 ∧ ∀ (x' y' z' : Int) (nms : List (List Nat)) (p : Addr) (H' : Hp), nms.length = m → (∀ cs ∈ nms, NameOk cs) → nms.Nodup → Kp bx H H' → H' bx = some (.lst [.int x', .int y', .int z']) → H' p = some (.lst (nms.map fun cs => .str (tx cs))) → (∀ b u, H b = some u → b ≠ p) → Q (.ref p) H'
def sp_mixed : Sp := fun vs H Q _ => ∃ (bx l : Addr) (x y z : Int) (ys : List V) (rs : List Rw), vs = [.ref bx, .ref l] ∧ H bx = some (.lst [.int x, .int y, .int z]) ∧ H l = some (.lst ys) ∧ TupsAt H ys (rowsV rs) ∧ rs.length ≤ 1000 ∧ bx ≠ l ∧ ∀ (x' y' z' : Int) (qs : List Rw) (p : Addr) (zs : List V) (H' : Hp), qs.Perm rs → Kp bx H H' → H' bx = some (.lst [.int x', .int y', .int z']) → H' p = some (.lst zs) → TupsAt H' zs (rowsV qs) → (∀ b u, H b = some u → b ≠ p) → Q (.ref p) H'
theorem two_steps {H H' : Hp} {bx p : Addr} {b3 o : HO} {R : Hp → Prop} (hb : ∃ u, H bx = some u) (kp : Kp bx H H') (eb : H' bx = some b3) (ep : H' p = some o) (fr : ∀ b u, H b = some u → b ≠ p) (k : ∀ H1, Kp bx H H1 → H1 bx = some b3 → New H1 H' p o → R H') : R H' := by
  obtain ⟨u0, hb⟩ := hb
  have nb : bx ≠ p := fr bx _ hb
  have h1 : ∀ {b : Addr}, b ≠ p → (fun b => if b = p then none else H' b : Hp) b = H' b := fun n => if_neg n
  refine k (fun b => if b = p then none else H' b) (fun b u n e => ?_) ?_ ⟨fun b u e => ?_, ep, fun b u e z => ?_⟩
  · rw [h1 (fr b u e)]
    exact kp b u n e
  · exact (h1 nb).trans eb
  · have e : (if b = p then none else H' b) = some u := e
    split at e
    · cases e
    · exact e
  · have e : (if b = p then none else H' b) = some u := e
    rw [if_pos z] at e
    cases e
section
variable {bx l : Addr} {x y z : Int} {H : Hp} {Q : VK} {E : XK} {n m : Nat} {ys : List V} {rs : List Rw}
instance go_lmany [h : Hat H bx (.lst [.int x, .int y, .int z])] : Go (sp_lmany [.ref bx] H Q E) (∀ (x' y' z' : Int) (n : Nat), 16 ≤ n → n ≤ 240 → ∀ H', Kp bx H H' → H' bx = some (.lst [.int x', .int y', .int z']) → Q (.int (n : Nat)) H') := ⟨fun k => ⟨bx, x, y, z, rfl, h.e, fun n x' y' z' H' h1 h2 f e => k x' y' z' n h1 h2 H' f e⟩⟩
instance go_names [h : Hat H bx (.lst [.int x, .int y, .int z])] : Go (sp_names [.ref bx, .int (m : Nat)] H Q E) (Sd (m ≤ 40) (∀ (x' y' z' : Int) (nms : List (List Nat)), nms.length = m → (∀ cs ∈ nms, NameOk cs) → nms.Nodup → ∀ H1, Kp bx H H1 → H1 bx = some (.lst [.int x', .int y', .int z']) → ∀ p H2, New H1 H2 p (.lst (nms.map fun cs => .str (tx cs))) → Q (.ref p) H2)) :=
  ⟨fun s => ⟨bx, x, y, z, m, rfl, h.e, s.1, fun x' y' z' nms p H' h1 h2 h3 f e e2 fr => two_steps (R := fun H' => Q (.ref p) H') ⟨_, h.e⟩ f e e2 fr fun H1 f1 e1 n1 => s.2 x' y' z' nms h1 h2 h3 H1 f1 e1 p H' n1⟩⟩
instance go_mixed {H0 : Hp} {M : List Addr} {L : List (Addr × HO)} {I : List Im} [h : Hat H bx (.lst [.int x, .int y, .int z])] [h2 : Hat H l (.lst ys)] [t : TpA H ys (rowsV rs)] [F : SH H0 M H L I] [ne : LkNe L bx l] : Go (sp_mixed [.ref bx, .ref l] H Q E) (Sd (rs.length ≤ 1000) (∀ (x' y' z' : Int) (qs : List Rw), qs.Perm rs → ∀ H1, Kp bx H H1 → H1 bx = some (.lst [.int x', .int y', .int z']) → ∀ p zs H2, New H1 H2 p (.lst zs) → TupsAt H2 zs (rowsV qs) → Q (.ref p) H2)) :=
  ⟨fun s => ⟨bx, l, x, y, z, ys, rs, rfl, h.e, h2.e, t.e, s.1, ne.ne F.nd, fun x' y' z' qs p zs H' h1 f e e2 t fr => two_steps (R := fun H' => Q (.ref p) H') ⟨_, h.e⟩ f e e2 fr fun H1 f1 e1 n1 => s.2 x' y' z' qs h1 H1 f1 e1 p zs H' n1 t⟩⟩
end
def letter (s : Nat) : Nat := 97 + s % 26
theorem letter_at {s : Int} {c : Nat} (h0 : 0 ≤ s) (h : (List.range' 97 26)[(s % 26).toNat]? = some c) : c = letter s.toNat := by
  have h1 : (s % 26).toNat < 26 := by omega
  rw [List.getElem?_eq_getElem (by simpa using h1), List.getElem_range'] at h
  have := Option.some.inj h
  unfold letter
  omega
theorem letter_low (s : Nat) : isLow (letter s) = true := by
  unfold isLow letter
  rw [decide_eq_true (by omega), decide_eq_true (by omega)]
  rfl
structure TailOk (tl : List Nat) : Prop where
  len : tl.length = 7
  all : ∀ c ∈ tl, c ∈ [98, 103, 106, 107, 55, 113, 118, 48]
theorem TailOk.sgn {tl : List Nat} (h : TailOk tl) : ∀ c ∈ tl, (isLow c || isFig c) = true := fun c hc => by
  have := h.all c hc
  simp only [List.mem_cons, List.not_mem_nil, or_false] at this
  rcases this with rfl | rfl | rfl | rfl | rfl | rfl | rfl | rfl <;> rfl
def nameA (s : Nat) (tl : List Nat) (k : Nat) : List Nat := [letter (s + k / 8)] ++ tl.take (k % 8)
def nameB (s : Nat) (tl : List Nat) (k r : Nat) : List Nat := ([letter (s + 9 * k)] ++ List.replicate (k / 26) 122) ++ tl.take r
theorem nameA_ok {s k : Nat} {tl : List Nat} (h : TailOk tl) : NameOk (nameA s tl k) := by
  refine ⟨?_, ?_, fun c hc => ?_, fun c hc => ?_⟩
  · simp [nameA]
  · simp only [nameA, List.length_append, List.length_singleton, List.length_take]
    omega
  · have : some (letter (s + k / 8)) = some c := hc
    cases this
    exact letter_low _
  · rcases List.mem_append.mp hc with hc | hc
    · rw [List.mem_singleton.mp hc, letter_low]
      rfl
    · exact h.sgn c (List.mem_of_mem_take hc)
theorem nameB_ok {s k r : Nat} {tl : List Nat} (h : TailOk tl) (hk : k < 40) (hr : r < 7) : NameOk (nameB s tl k r) := by
  refine ⟨?_, ?_, fun c hc => ?_, fun c hc => ?_⟩
  · simp [nameB]
  · simp only [nameB, List.length_append, List.length_singleton, List.length_take, List.length_replicate]
    omega
  · have : some (letter (s + 9 * k)) = some c := hc
    cases this
    exact letter_low _
  · rcases List.mem_append.mp hc with hc | hc
    · rcases List.mem_append.mp hc with hc | hc
      · rw [List.mem_singleton.mp hc, letter_low]
        rfl
      · rw [(List.mem_replicate.mp hc).2]
        rfl
    · exact h.sgn c (List.mem_of_mem_take hc)
theorem nameA_inj {s : Nat} {tl : List Nat} (h : TailOk tl) {i j : Nat} (hi : i < 40) (hj : j < 40) (e : nameA s tl i = nameA s tl j) : i = j := by
  have e1 := congrArg List.length e
  simp only [nameA, List.length_append, List.length_singleton, List.length_take, h.len] at e1
  have e2 : letter (s + i / 8) = letter (s + j / 8) := by
    have := congrArg (fun l : List Nat => l[0]?) e
    exact Option.some.inj this
  unfold letter at e2
  omega
theorem nameB_inj {s : Nat} {tl : List Nat} (h : TailOk tl) {i j r t : Nat} (hi : i < 40) (hj : j < 40) (hij : i < j) (e : nameB s tl i r = nameB s tl j t) : False := by
  have e2 : letter (s + 9 * i) = letter (s + 9 * j) := by
    have := congrArg (fun l : List Nat => l[0]?) e
    exact Option.some.inj this
  unfold letter at e2
  have e3 : j = i + 26 := by omega
  have e4 : i / 26 = 0 := by omega
  have e5 : j / 26 = 1 := by omega
  have e6 : tl.take r = [122] ++ tl.take t := by
    unfold nameB at e
    rw [e4, e5] at e
    simp only [List.replicate, List.append_nil, List.append_assoc, List.cons_append, List.nil_append, List.cons.injEq] at e
    exact e.2
  have e7 : 122 ∈ tl := List.mem_of_mem_take (i := r) (by rw [e6]; simp)
  have := h.all 122 e7
  simp at this
theorem nodup_of {nms : List (List Nat)} (h : ∀ (i j : Nat) a b, i < j → nms[i]? = some a → nms[j]? = some b → a ≠ b) : nms.Nodup := by
  rw [List.Nodup, List.pairwise_iff_getElem]
  intro i j hi hj hij
  exact h i j _ _ hij (by simp) (by simp)
theorem join_one : ∀ cs : List Nat, Str.join (Str.ofString "") (cs.map fun c => tx [c]) = tx cs := by
  have e0 : Str.ofString "" = tx [] := by decide +kernel
  rw [e0]
  intro cs
  induction cs with
  | nil => rfl
  | cons c t ih =>
    cases t with
    | nil => rfl
    | cons d u =>
      show tx [c] ++ tx [] ++ Str.join (tx []) ((d :: u).map fun c => tx [c]) = _
      rw [ih, append_tx, append_tx]
      rfl
instance go_join {K : PySem.W.Frag} {H : Hp} {Q : VK} {p : Addr} {cs : List Nat} [h : SqA K H p (cs.map fun c => V.str (tx [c]))] : Go (rJoin K (.str (Str.ofString "")) [.ref p] H Q) (Sd (cs.length ≤ 1000) (Q (.str (tx cs)) H)) := ⟨fun s => ⟨_, p, cs.map fun c => tx [c], rfl, rfl, by rw [List.map_map]; exact h.e, by decide, by
  rw [List.map_map, List.length_map]
  have : (cs.map ((fun t : Str => t.length) ∘ fun c => tx [c])) = cs.map fun _ => 1 := rfl
  rw [this, List.map_const']
  have hs : (List.replicate cs.length 1).sum = cs.length := by simp
  have := s.1
  omega, by rw [join_one]; exact s.2⟩⟩
instance go_tyS {K : PySem.W.Frag} {H : Hp} {z : Str} {R : Prop} : Go (tyV K "str" (.str z) H ∧ R) R := ⟨fun k => ⟨by first | exact .inr (.inr rfl) | exact .inr rfl | exact ⟨_, rfl⟩ | trivial, k⟩⟩
def wordsN : List (List Nat) := [[100, 111, 119, 110], [117, 112], [112, 97, 99, 107], [99, 101, 108, 108, 115], [97, 116], [115, 105, 122, 101], [112, 105, 110, 115], [102, 105, 116], [116, 97, 107, 101], [104, 97, 108, 118, 101, 115], [110, 101, 120, 116], [102, 105, 114, 115, 116]]
instance {c : List Nat} : Decidable (NameOk c) := decidable_of_iff (1 ≤ c.length ∧ c.length ≤ 8 ∧ (∀ x ∈ c.head?, isLow x = true) ∧ ∀ x ∈ c, (isLow x || isFig x) = true) ⟨fun h => ⟨h.1, h.2.1, fun x hx => h.2.2.1 x (by cases c with | nil => cases hx | cons a t => simpa using hx), h.2.2.2⟩, fun h => ⟨h.lo, h.hi, fun x hx => h.hd x (by cases c with | nil => cases hx | cons a t => simpa using hx), h.all⟩⟩
theorem words_ok : ∀ c ∈ wordsN, NameOk c := by decide +kernel
theorem words_nd : wordsN.Nodup := by decide +kernel
theorem words_tx : [V.str (Str.ofString "down"), V.str (Str.ofString "up"), V.str (Str.ofString "pack"), V.str (Str.ofString "cells"), V.str (Str.ofString "at"), V.str (Str.ofString "size"), V.str (Str.ofString "pins"), V.str (Str.ofString "fit"), V.str (Str.ofString "take"), V.str (Str.ofString "halves"), V.str (Str.ofString "next"), V.str (Str.ofString "first")] = wordsN.map fun cs => V.str (tx cs) := by
  show _ = [V.str (tx [100, 111, 119, 110]), V.str (tx [117, 112]), V.str (tx [112, 97, 99, 107]), V.str (tx [99, 101, 108, 108, 115]), V.str (tx [97, 116]), V.str (tx [115, 105, 122, 101]), V.str (tx [112, 105, 110, 115]), V.str (tx [102, 105, 116]), V.str (tx [116, 97, 107, 101]), V.str (tx [104, 97, 108, 118, 101, 115]), V.str (tx [110, 101, 120, 116]), V.str (tx [102, 105, 114, 115, 116])]
  rw [show Str.ofString "down" = tx [100, 111, 119, 110] by decide +kernel, show Str.ofString "up" = tx [117, 112] by decide +kernel, show Str.ofString "pack" = tx [112, 97, 99, 107] by decide +kernel, show Str.ofString "cells" = tx [99, 101, 108, 108, 115] by decide +kernel, show Str.ofString "at" = tx [97, 116] by decide +kernel, show Str.ofString "size" = tx [115, 105, 122, 101] by decide +kernel, show Str.ofString "pins" = tx [112, 105, 110, 115] by decide +kernel, show Str.ofString "fit" = tx [102, 105, 116] by decide +kernel, show Str.ofString "take" = tx [116, 97, 107, 101] by decide +kernel, show Str.ofString "halves" = tx [104, 97, 108, 118, 101, 115] by decide +kernel, show Str.ofString "next" = tx [110, 101, 120, 116] by decide +kernel, show Str.ofString "first" = tx [102, 105, 114, 115, 116] by decide +kernel]
def sp_most : Sp := fun vs H Q _ => ∃ (bx : Addr) (x y z : Int), vs = [.ref bx] ∧ H bx = some (.lst [.int x, .int y, .int z]) ∧ ∀ (n : Nat) (x' y' z' : Int) (H' : Hp), n ≤ 40 → Kp bx H H' → H' bx = some (.lst [.int x', .int y', .int z']) → Q (.int (n : Nat)) H'
instance go_most {bx : Addr} {x y z : Int} {H : Hp} {Q : VK} {E : XK} [h : Hat H bx (.lst [.int x, .int y, .int z])] : Go (sp_most [.ref bx] H Q E) (∀ (x' y' z' : Int) (n : Nat), n ≤ 40 → ∀ H', Kp bx H H' → H' bx = some (.lst [.int x', .int y', .int z']) → Q (.int (n : Nat)) H') := ⟨fun k => ⟨bx, x, y, z, rfl, h.e, fun n x' y' z' H' h1 f e => k x' y' z' n h1 H' f e⟩⟩
section
variable {P : Program} {w : World} {K : PySem.W.Frag} {mg : Str → Option Value} {base : Heap} {c : Nat → Addr} {ct_Linit pt_Linit ct_order pt_order R CL : Addr}
theorem D_many (T : Txt K mg c R CL ct_Linit pt_Linit ct_order pt_order) : Def P w K mg base CX0 2 "_law_many" ["_law_well_here"] sp_lmany := by
  have D_take := D_take (P := P) (w := w) (base := base) T
  refine def_of T.d_many sc_many (fun vs H Q E h => ?_) (fun _ _ _ _ _ _ us hl => match us, hl with | [_], _ => rfl) (fun f cdv A outer s H vs Q E hr h => ?_)
  · obtain ⟨bx, x, y, z, rfl, _⟩ := h
    rfl
  · obtain ⟨bx, x, y, z, rfl, hbx, k⟩ := h
    have nd := sc_many.nd
    refine ⟨_, (pss_one (ps_ret (pe_ix ix_list (pe_lstA (pa_cons pe_int (pa_cons pe_int (pa_cons (pe_op op_add pe_int (pe_def D_take hr (pa_cons (pv 0) (pa_cons pe_int pa_nil)))) (pa_cons (pe_op op_add pe_int (pe_def D_take hr (pa_cons (pv 0) (pa_cons pe_int pa_nil)))) pa_nil))))) (pe_def D_take hr (pa_cons (pv 0) (pa_cons pe_int pa_nil))) (fun _ _ => rfl)))), ?_⟩
    clear nd D_take
    rw [show start ["_law_well_here"] [.ref bx] = [some (.ref bx)] from rfl]
    try dsimp only [cx_K, cx_K2]
    have iL_many : FldOk K CL "many" := ⟨T.clL, T.aL_many⟩
    have iL_rows : FldOk K CL "rows" := ⟨T.clL, T.aL_rows⟩
    have F : SH H [bx] H [(bx, .lst [.int x, .int y, .int z])] [] := SH.nil.addM List.mem_cons_self hbx rfl (by simp)
    repeat k_meth
    refine w_ixM SqA.e lo_ hi_ fun v hv => ?_
    obtain ⟨g, hg, rfl⟩ : ∃ g : Nat, (16 ≤ g ∧ g ≤ 240) ∧ v = .int (g : Nat) := by
      simp only [List.mem_cons, List.not_mem_nil, or_false] at hv
      rcases hv with rfl | rfl | rfl | rfl
      · exact ⟨16, by omega, rfl⟩
      · exact ⟨240, by omega, rfl⟩
      · rename_i r1 _ _ _ _ _ _ r2 _ _ _ _ _ _ _
        exact ⟨(16 + r1).toNat, by omega, by congr 1; omega⟩
      · rename_i r1 _ _ _ _ _ _ r2 _ _ _ _ _ _ _
        exact ⟨(16 + r2).toNat, by omega, by congr 1; omega⟩
    repeat k_meth
    exact k g _ _ _ _ hg.1 hg.2 F.kpo hatC
theorem D_most (T : Txt K mg c R CL ct_Linit pt_Linit ct_order pt_order) : Def P w K mg base CX0 2 "_law_most" ["_law_well_here"] sp_most := by
  have D_take := D_take (P := P) (w := w) (base := base) T
  refine def_of T.d_most sc_most (fun vs H Q E h => ?_) (fun _ _ _ _ _ _ us hl => match us, hl with | [_], _ => rfl) (fun f cdv A outer s H vs Q E hr h => ?_)
  · obtain ⟨bx, x, y, z, rfl, _⟩ := h
    rfl
  · obtain ⟨bx, x, y, z, rfl, hbx, k⟩ := h
    have nd := sc_most.nd
    refine ⟨_, (pss_one (ps_ret (pe_ix ix_list (pe_lstA (pa_cons (pe_def D_take hr (pa_cons (pv 0) (pa_cons pe_int pa_nil))) (pa_cons (pe_op op_add pe_int (pe_def D_take hr (pa_cons (pv 0) (pa_cons pe_int pa_nil)))) (pa_cons pe_int pa_nil)))) (pe_callB (call_maxN rfl) rfl T.n_max boot_max (pa_cons pe_int (pa_cons (pe_op op_sub (pe_def D_take hr (pa_cons (pv 0) (pa_cons pe_int pa_nil))) pe_int) pa_nil))) (fun _ _ => rfl)))), ?_⟩
    clear nd D_take
    rw [show start ["_law_well_here"] [.ref bx] = [some (.ref bx)] from rfl]
    try dsimp only [cx_K, cx_K2]
    have iL_many : FldOk K CL "many" := ⟨T.clL, T.aL_many⟩
    have iL_rows : FldOk K CL "rows" := ⟨T.clL, T.aL_rows⟩
    have F : SH H [bx] H [(bx, .lst [.int x, .int y, .int z])] [] := SH.nil.addM List.mem_cons_self hbx rfl (by simp)
    repeat k_meth
    refine w_ixM SqA.e (by omega) (by simp only [List.length_cons, List.length_nil]; omega) fun v hv => ?_
    obtain ⟨g, hg, rfl⟩ : ∃ g : Nat, g ≤ 40 ∧ v = .int (g : Nat) := by
      simp only [List.mem_cons, List.not_mem_nil, or_false] at hv
      rcases hv with rfl | rfl | rfl
      · rename_i r1 _ _ _ _ _ _ r2 _ _ _ _ _ _ _
        exact ⟨r1.toNat, by omega, by congr 1; omega⟩
      · rename_i r1 _ _ _ _ _ _ r2 _ _ _ _ _ _ _
        exact ⟨(9 + r2).toNat, by omega, by congr 1; omega⟩
      · exact ⟨40, by omega, rfl⟩
    repeat k_meth
    exact k g _ _ _ _ hg F.kpo hatC
end
open M22
theorem cut_take2 {ys : List V} {i : Nat} : cutV ys none (some (i : Int)) = ys.take i := by
  unfold cutV
  rw [HT.sIx_nat]
  show (ys.drop 0).take (min i ys.length - 0) = _
  rw [List.drop_zero, Nat.sub_zero]
  by_cases h : i ≤ ys.length
  · rw [show min i ys.length = i by omega]
  · rw [List.take_of_length_le (by omega), List.take_of_length_le (by omega)]
theorem cut_drop {ys : List V} {i : Nat} : cutV ys (some (i : Int)) none = ys.drop i := by
  unfold cutV
  rw [HT.sIx_nat]
  show (ys.drop (min i ys.length)).take (ys.length - min i ys.length) = _
  by_cases h : i ≤ ys.length
  · rw [show min i ys.length = i by omega, List.take_of_length_le (by rw [List.length_drop]; omega)]
  · rw [List.drop_of_length_le (by omega), List.drop_of_length_le (by omega)]
    simp
theorem second_no {s k r : Nat} {tl : List Nat} (h : TailOk tl) {c : List Nat} (hc : c ∈ wordsN) : c ≠ nameB s tl k r := fun z => by
  have h2 : ∃ d, c[1]? = some d ∧ d ≠ 122 ∧ d ∉ [98, 103, 106, 107, 55, 113, 118, 48] := by
    have : ∀ c ∈ wordsN, ∃ d ∈ c[1]?, d ≠ 122 ∧ d ∉ [98, 103, 106, 107, 55, 113, 118, 48] := by decide +kernel
    obtain ⟨d, hd, r⟩ := this c hc
    exact ⟨d, hd, r⟩
  obtain ⟨d, hd, n1, n2⟩ := h2
  rw [z] at hd
  have hm : d ∈ List.replicate (k / 26) 122 ++ tl.take r := by
    have : (nameB s tl k r)[1]? = (List.replicate (k / 26) 122 ++ tl.take r)[0]? := by unfold nameB; rw [List.append_assoc]; rfl
    rw [this] at hd
    exact List.mem_of_getElem? hd
  rcases List.mem_append.mp hm with hm | hm
  · exact n1 (List.mem_replicate.mp hm).2
  · exact n2 (h.all d (List.mem_of_mem_take hm))
theorem words_mix {s m : Nat} {tl : List Nat} (h : TailOk tl) {nms : List (List Nat)} (hl : nms.length = m) (h40 : m ≤ 40) (hn : ∀ (j : Nat) cs, nms[j]? = some cs → ∃ r, r < 7 ∧ cs = nameB s tl j r) (ok : ∀ cs ∈ nms, NameOk cs) (nd : nms.Nodup) :
    (wordsN.take m ++ nms.drop 12).length = m ∧ (∀ cs ∈ wordsN.take m ++ nms.drop 12, NameOk cs) ∧ (wordsN.take m ++ nms.drop 12).Nodup := by
  refine ⟨?_, fun cs hcs => ?_, ?_⟩
  · rw [List.length_append, List.length_take, List.length_drop, hl, show wordsN.length = 12 from rfl]
    omega
  · rcases List.mem_append.mp hcs with hcs | hcs
    · exact words_ok cs (List.mem_of_mem_take hcs)
    · exact ok cs (List.mem_of_mem_drop hcs)
  · rw [List.nodup_append]
    refine ⟨words_nd.sublist (List.take_sublist _ _), nd.sublist (List.drop_sublist _ _), fun a ha b hb e => ?_⟩
    obtain ⟨j, hj, e2⟩ := List.getElem_of_mem (List.mem_of_mem_drop hb)
    obtain ⟨r, _, rfl⟩ := hn j b (by rw [← e2]; simp)
    exact second_no h (List.mem_of_mem_take ha) e
section
variable {P : Program} {w : World} {K : PySem.W.Frag} {mg : Str → Option Value} {base : Heap} {c : Nat → Addr} {ct_Linit pt_Linit ct_order pt_order R CL : Addr}
theorem D_names (T : Txt K mg c R CL ct_Linit pt_Linit ct_order pt_order) : Def P w K mg base CX0 2 "_law_names" ["_law_well_here", "_law_many_here"] sp_names := by
  have D_take := D_take (P := P) (w := w) (base := base) T
  refine def_of T.d_names sc_names (fun vs H Q E h => ?_) (fun _ _ _ _ _ _ us hl => match us, hl with | [_, _], _ => rfl) (fun f cdv A outer s H vs Q E hr h => ?_)
  · obtain ⟨bx, x, y, z, m, rfl, _⟩ := h
    rfl
  · obtain ⟨bx, x, y, z, m, rfl, hbx, h40, k⟩ := h
    have nd := sc_names.nd
    refine' ⟨_, (pss_cons (ps_set (i := 2) nd rfl (Or.inr rfl) (pe_strT (cs := List.range' 97 26) (by decide +kernel)))
      (pss_cons (ps_set (i := 3) nd rfl (Or.inr rfl) (pe_join pe_str (pe_comp (N := ["_law_k", "_law_well_here"]) (nt := 1) (fr := [0]) (pi_range1 rfl T.n_range (pa_cons pe_int pa_nil)) (fun _ _ _ _ => (pg_name (i := 0) (show (["_law_k", "_law_well_here"] : List Str).Nodup from by decide +kernel) rfl (Or.inl rfl))) (fun _ _ _ _ => pif_nil) (fun _ _ _ _ => (pe_ix ix_str (pe_strT (cs := [98, 103, 106, 107, 55, 113, 118, 48]) (by decide +kernel)) (pe_def D_take hr (pa_cons (pv 1) (pa_cons pe_int pa_nil))) (fun _ _ => rfl))))))
      (pss_cons (ps_set (i := 4) nd rfl (Or.inr rfl) (pe_def D_take hr (pa_cons (pv 0) (pa_cons pe_int pa_nil))))
      (pss_cons (ps_if (pt_cmpR op_eq (pe_def D_take hr (pa_cons (pv 0) (pa_cons pe_int pa_nil))) pe_int (nomark _)) (pss_one (ps_ret (pe_comp (N := ["_law_k", "_law_letters", "_law_tail", "_law_shift"]) (nt := 1) (fr := [2, 3, 4]) (pi_range1 rfl T.n_range (pa_cons (pv 1) pa_nil)) (fun _ _ _ _ => (pg_name (i := 0) (show (["_law_k", "_law_letters", "_law_tail", "_law_shift"] : List Str).Nodup from by decide +kernel) rfl (Or.inl rfl))) (fun _ _ _ _ => pif_nil) (fun _ _ _ _ => (pe_op op_addS (pe_ix ix_str (pv 1) (pe_op op_mod (pe_op op_add (pv 3) (pe_op op_fdiv (pv 0) pe_int)) pe_int) (fun _ _ => rfl)) (pe_slS (pv 2) (pe_op op_mod (pv 0) pe_int))))))) pss_nil)
      (pss_cons (ps_set (i := 5) nd rfl (Or.inl rfl) (pe_lstA pa_nil))
      (pss_cons (ps_for PassesOwn.never rfl (pi_range1 rfl T.n_range (pa_cons (pv 1) pa_nil)) (pg_name (i := 6) nd rfl (Or.inl rfl)) (pss_cons (ps_set (i := 7) nd rfl (Or.inl rfl) (pe_op op_addS (pe_ix ix_str (pv 2) (pe_op op_mod (pe_op op_add (pv 4) (pe_op op_mul pe_int (pv 6))) pe_int) (fun _ _ => rfl)) (pe_op op_mulS (pe_strT (cs := [122]) (by decide +kernel)) (pe_op op_fdiv (pv 6) pe_int))))
        (pss_one (ps_expr (pe_appendA (pv 5) (pe_op op_addS (pv 7) (pe_slS (pv 3) (pe_def D_take hr (pa_cons (pv 0) (pa_cons pe_int pa_nil))))))))))
      (pss_cons ?s7
      ?r7))))))), ?main⟩
    case s7 =>
      refine ps_set (i := 8) (te := tLstA (tVals [.str "down", .str "up", .str "pack", .str "cells", .str "at", .str "size", .str "pins", .str "fit", .str "take", .str "halves", .str "next", .str "first"])) ?a ?b ?c ?d ?e ?f
      case a => exact nd
      case b => rfl
      case c => exact Or.inl rfl
      case d =>
        refine pe_lstA ?g
        case g =>
          refine pa_vals ?h
          case h => with_unfolding_all rfl
      case e => rfl
      case f => first | exact .inl rfl | exact .inr rfl
    case r7 =>
      exact (pss_cons (ps_if (pt_cmpR op_eq (pe_def D_take hr (pa_cons (pv 0) (pa_cons pe_int pa_nil))) pe_int (nomark _)) (pss_one (ps_set (i := 5) nd rfl (Or.inl rfl) (pe_op op_catA (pe_slice sl_listA (pv 8) po_none (po_some (pv 1))) (pe_slice sl_listA (pv 5) (po_some pe_int) po_none)))) pss_nil)
            (pss_one (ps_ret (pv 5))))
    clear nd D_take
    rw [show start ["_law_well_here", "_law_many_here", "_law_letters", "_law_tail", "_law_shift", "_law_names_here", "_law_k", "_law_name", "_law_words"] [.ref bx, .int (m : Nat)] = [some (.ref bx), some (.int (m : Nat)), none, none, none, none, none, none, none] from rfl]
    try dsimp only [cx_K, cx_K2]
    have iL_many : FldOk K CL "many" := ⟨T.clL, T.aL_many⟩
    have iL_rows : FldOk K CL "rows" := ⟨T.clL, T.aL_rows⟩
    have F : SH H [bx] H [(bx, .lst [.int x, .int y, .int z])] [] := SH.nil.addM List.mem_cons_self hbx rfl (by simp)
    repeat k_meth
    have e26 : (List.range' 97 26).length = 26 := by simp
    refine go_compR (n := 7) (fvs := [some (.ref bx)]) (fun acc i ys H' => ∃ (cs : List Nat) (x y z : Int), cs.length = i ∧ (∀ c ∈ cs, c ∈ [98, 103, 106, 107, 55, 113, 118, 48]) ∧ ys = cs.map (fun c => V.str (tx [c])) ∧ SH H [bx] H' [(acc, .lst ys), (bx, .lst [.int x, .int y, .int z])] []) (rda_cons rd_c rda_nil) (by decide) rfl (fun acc H' n => ⟨[], x, y, z, rfl, by simp, rfl, F.newL n⟩) ?_ ?_ ?_
    · clear F
      rintro acc i ys H' ⟨cs, x, y, z, h1, _, rfl, F⟩
      exact ⟨hatC, by rw [List.length_map]; exact h1⟩
    · clear F
      rintro acc i ys H' R hi ⟨cs, x, y, z, h1, h2, rfl, F⟩ kk
      repeat k_meth
      intro c hc
      refine kk _ _ hatC ?_
      repeat k_meth
      refine ⟨cs ++ [c], _, _, _, by simp [h1], fun d hd => ?_, by simp, F⟩
      rcases List.mem_append.mp hd with hd | hd
      · exact h2 d hd
      · rw [List.mem_singleton.mp hd]
        exact List.mem_of_getElem? hc
    · clear F
      rintro acc ys H' ⟨tl, x, y, z, h1, h2, rfl, F⟩
      have tk : TailOk tl := ⟨h1, h2⟩
      repeat k_meth
      rename_i sh _ _ _ sh0 _ _
      refine i_dec (fun h => ?_) (fun h => ?_)
      · repeat k_meth
        refine go_map_range (n := m) (fvs := [some (.str (tx (List.range' 97 26))), some (.str (tx tl)), some (.int sh)]) (F := fun j => V.str (tx (nameA sh.toNat tl j))) (rda_cons (rd_var rfl) rda_nil) (by omega) (by omega) rfl (fun i H' hi s8 Q8 q8 => ?_) ?_
        · repeat k_meth
          intro c hc
          have e3 := letter_at (by omega) hc
          subst e3
          repeat k_meth
          have e4 : [letter (sh + (i : Int) / 8).toNat] ++ tl.take ((i : Int) % 8).toNat = nameA sh.toNat tl i := by
            unfold nameA
            rw [show (sh + (i : Int) / 8).toNat = sh.toNat + i / 8 by omega, show ((i : Int) % 8).toNat = i % 8 by omega]
          rw [e4]
          exact q8
        · repeat k_meth
          have e5 : (List.range m).map (fun j => V.str (tx (nameA sh.toNat tl j))) = ((List.range m).map (nameA sh.toNat tl)).map fun cs => V.str (tx cs) := by
            rw [List.map_map]
            rfl
          rw [e5] at F
          refine k _ _ _ _ _ _ (by simp) (fun cs hcs => ?_) (nodup_of fun i j a b hij ha hb z => ?_) F.kpo hatC hatC (F.fresh (LkL.m (o := .lst _)) (nm1 (SH.neC (F := F))))
          · obtain ⟨j, _, rfl⟩ := List.mem_map.mp hcs
            exact nameA_ok tk
          · have h3 := (List.getElem?_eq_some_iff.mp hb).1
            rw [List.length_map, List.length_range] at h3
            rw [List.getElem?_map, List.getElem?_range (by omega)] at ha hb
            cases ha
            cases hb
            have := nameA_inj tk (by omega) (by omega) z
            omega
      · repeat k_meth
        rename Addr => nl
        rw [show ((m : Nat) : Int).toNat = m by omega]
        refine forR0_by (fun i σ' H' => ∃ (o6 o7 : Option V) (nms : List (List Nat)) (x y z : Int), σ' = [some (.ref bx), some (.int (m : Nat)), some (.str (tx (List.range' 97 26))), some (.str (tx tl)), some (.int sh), some (.ref nl), o6, o7, none] ∧ nms.length = i ∧ (∀ (j : Nat) cs, nms[j]? = some cs → ∃ r, r < 7 ∧ cs = nameB sh.toNat tl j r) ∧ SH H [bx] H' [(nl, .lst (nms.map fun cs => V.str (tx cs))), (bx, .lst [.int x, .int y, .int z])] []) ⟨_, _, [], _, _, _, rfl, rfl, fun j cs e => by simp at e, F.subC (L' := [(nl, .lst []), (bx, .lst [.int x_, .int y_, .int z_])])⟩ ?_ ?_
        · clear F
          rintro i σ' H' hi ⟨_, _, nms, x, y, z, rfl, hl, hn, F⟩
          repeat k_meth
          intro c hc
          have e3 := letter_at (by omega) hc
          subst e3
          repeat k_meth
          refine ⟨_, _, nms ++ [nameB sh.toNat tl i r_.toNat], x_, y_, z_, rfl, by simp [hl], fun j cs e => ?_, ?_⟩
          · by_cases hj : j < nms.length
            · rw [List.getElem?_append_left hj] at e
              exact hn j cs e
            · have hj2 := (List.getElem?_eq_some_iff.mp e).1
              rw [List.length_append, List.length_singleton] at hj2
              obtain rfl : j = i := by omega
              rw [List.getElem?_append_right (by omega), hl, Nat.sub_self] at e
              cases e
              exact ⟨r_.toNat, by omega, rfl⟩
          · have e4 : [letter (sh + 9 * (i : Int)).toNat] ++ List.replicate ((i : Int) / 26).toNat 122 ++ tl.take r_.toNat = nameB sh.toNat tl i r_.toNat := by
              unfold nameB
              rw [show (sh + 9 * (i : Int)).toNat = sh.toNat + 9 * i by omega, show ((i : Int) / 26).toNat = i / 26 by omega]
            rw [e4] at F
            rw [List.map_append]
            exact F
        · clear F
          rintro σ' H' ⟨_, _, nms, x, y, z, rfl, hl, hn, F⟩
          have okn : ∀ cs ∈ nms, NameOk cs := fun cs hcs => by
            obtain ⟨j, hj, e⟩ := List.getElem_of_mem hcs
            obtain ⟨r, hr, rfl⟩ := hn j cs (by rw [← e]; simp)
            exact nameB_ok tk (by omega) hr
          have ndn : nms.Nodup := nodup_of fun i j a b hij ha hb z => by
            have h3 := (List.getElem?_eq_some_iff.mp hb).1
            obtain ⟨r, hr, rfl⟩ := hn i a ha
            obtain ⟨t, ht, rfl⟩ := hn j b hb
            exact nameB_inj tk (by omega) (by omega) hij z
          repeat k_meth
          refine i_dec (fun h5 => ?_) (fun h5 => ?_)
          · repeat k_meth
            have e1 : cutV [V.str (Str.ofString "down"), V.str (Str.ofString "up"), V.str (Str.ofString "pack"), V.str (Str.ofString "cells"), V.str (Str.ofString "at"), V.str (Str.ofString "size"), V.str (Str.ofString "pins"), V.str (Str.ofString "fit"), V.str (Str.ofString "take"), V.str (Str.ofString "halves"), V.str (Str.ofString "next"), V.str (Str.ofString "first")] none (some (m : Int)) = (wordsN.take m).map fun cs => V.str (tx cs) := by rw [cut_take2, words_tx, List.map_take]
            have e2 : cutV (nms.map fun cs => V.str (tx cs)) (some 12) none = (nms.drop 12).map fun cs => V.str (tx cs) := by rw [show (12 : Int) = ((12 : Nat) : Int) from rfl, cut_drop, List.map_drop]
            obtain ⟨l3, o3, n3⟩ := words_mix tk hl h40 hn okn ndn
            rw [e1, e2, ← List.map_append]
            refine sd (small_line ?_) ?_
            · rw [List.length_append] at l3
              rw [List.length_map, List.length_map]
              omega
            · repeat k_meth
              exact k _ _ _ (wordsN.take m ++ nms.drop 12) _ _ l3 o3 n3 F.kpo hatC hatC (F.fresh (LkL.m (o := .lst ((wordsN.take m ++ nms.drop 12).map fun cs => V.str (tx cs)))) (nm1 (SH.neC (F := F))))
          · repeat k_meth
            exact k _ _ _ nms _ _ hl okn ndn F.kpo hatC hatC (F.fresh (LkL.m (o := .lst (nms.map fun cs => V.str (tx cs)))) (nm1 (SH.neC (F := F))))
end
open M22
theorem pickL {v : V} {xs : List Int} {lo hi : Int} (hv : v ∈ xs.map V.int) (h : ∀ a ∈ xs, lo ≤ a ∧ a < hi) (h0 : 0 ≤ lo) : ∃ g : Nat, v = .int (g : Nat) ∧ lo ≤ (g : Int) ∧ (g : Int) < hi := by
  obtain ⟨a, ha, rfl⟩ := List.mem_map.mp hv
  have := h a ha
  exact ⟨a.toNat, by congr 1; omega, by omega, by omega⟩
theorem pickL4 {v : V} {a b c d lo hi : Int} (hv : v ∈ [V.int a, V.int b, V.int c, V.int d]) (h : 0 ≤ lo ∧ (lo ≤ a ∧ a < hi) ∧ (lo ≤ b ∧ b < hi) ∧ (lo ≤ c ∧ c < hi) ∧ (lo ≤ d ∧ d < hi)) : ∃ g : Nat, v = .int (g : Nat) ∧ lo ≤ (g : Int) ∧ (g : Int) < hi :=
  pickL (xs := [a, b, c, d]) hv (fun z hz => by
    simp only [List.mem_cons, List.not_mem_nil, or_false] at hz
    rcases hz with rfl | rfl | rfl | rfl
    · exact h.2.1
    · exact h.2.2.1
    · exact h.2.2.2.1
    · exact h.2.2.2.2) h.1
theorem pickL3 {v : V} {a b c lo hi : Int} (hv : v ∈ [V.int a, V.int b, V.int c]) (h : 0 ≤ lo ∧ (lo ≤ a ∧ a < hi) ∧ (lo ≤ b ∧ b < hi) ∧ (lo ≤ c ∧ c < hi)) : ∃ g : Nat, v = .int (g : Nat) ∧ lo ≤ (g : Int) ∧ (g : Int) < hi :=
  pickL (xs := [a, b, c]) hv (fun z hz => by
    simp only [List.mem_cons, List.not_mem_nil, or_false] at hz
    rcases hz with rfl | rfl | rfl
    · exact h.2.1
    · exact h.2.2.1
    · exact h.2.2.2) h.1
theorem lay_of {n at_ : Nat} {rs : List Rw} {nms : List (List Nat)} (h1 : at_ ≤ n) (as : Asc rs) (ok : ∀ r ∈ rs, NameOk r.nm ∧ 1 ≤ r.sz ∧ r.st + r.sz ≤ at_) (sb : (rs.map (·.nm)).Sublist nms) (nd : nms.Nodup) (h40 : nms.length ≤ 40) : Lay n rs := by
  refine ⟨fun r hr => ⟨(ok r hr).1, (ok r hr).2.1, by have := (ok r hr).2.2; omega⟩, ?_, ?_⟩
  · have h2 : rs.Pairwise fun r s => r.nm ≠ s.nm := List.pairwise_map.mp (nd.sublist sb)
    exact h2.imp₂ (fun a b h3 h4 => ⟨h3, .inl h4⟩) as
  · have := sb.length_le
    rw [List.length_map] at this
    omega
theorem asc_snoc {rs : List Rw} {r : Rw} {at_ : Nat} (h : Asc rs) (ok : ∀ s ∈ rs, s.st + s.sz ≤ at_) (hr : at_ ≤ r.st) : Asc (rs ++ [r]) := by
  unfold Asc
  rw [List.pairwise_append]
  refine ⟨h, List.pairwise_singleton _ _, fun a ha b hb => ?_⟩
  rw [List.mem_singleton.mp hb]
  have := ok a ha
  omega
theorem rowsV_snoc (rs : List Rw) (r : Rw) : rowsV (rs ++ [r]) = rowsV rs ++ [rowV r] := by unfold rowsV; rw [List.map_append]; rfl
theorem while_m {c : TT} {tb : TS} {D : Ends} {σ : L2.St} {H : Hp} (Pv : Nat → L2.St → Hp → Prop) (h0 : ∃ m, Pv m σ H)
    (hs : ∀ m σ H, Pv m σ H → c σ H fun b H1 => if b = true then ∃ N : L2.St → Hp → Prop, (∀ σ' H', N σ' H' → ∃ m', m' < m ∧ Pv m' σ' H') ∧ tb { D with nx := N, ct := N, bk := D.nx } σ H1 else D.nx σ H1) : tWhile c tb D σ H := ⟨Pv, h0, hs⟩
theorem flat_V (rs : List Rw) : ∀ r ∈ rowsV rs, ∀ v ∈ r, isFlat v = true := by
  intro r hr v hv
  obtain ⟨x, _, rfl⟩ := List.mem_map.mp hr
  simp only [List.mem_cons, List.not_mem_nil, or_false] at hv
  rcases hv with rfl | rfl | rfl | rfl <;> rfl
instance go_neNilV {K : PySem.W.Frag} {H : Hp} {Q : VK} {p b : Addr} {ys : List V} {rs : List Rw} [h : Hat H p (.lst ys)] [t : TpA H ys (rowsV rs)] [h2 : Hat H b (.lst [])] : Go (rNeD K (.ref p) (.ref b) H Q) (Q (.bl (!decide (rowsV rs = []))) H) := ⟨w_neRNil (zs := []) h.e t.e (flat_V _) h2.e⟩
theorem tups_erase {H : Hp} {ys : List V} {rs : List Rw} {i : Nat} (t : TupsAt H ys (rowsV rs)) : TupsAt H (ys.eraseIdx i) (rowsV (rs.eraseIdx i)) := by
  have hl : ys.length = rs.length := by rw [t.1, rowsV_len]
  refine ⟨by rw [rowsV_len, List.length_eraseIdx, List.length_eraseIdx, hl], fun j r e => ?_⟩
  unfold rowsV at e
  rw [List.getElem?_map, List.getElem?_eraseIdx] at e
  rw [List.getElem?_eraseIdx]
  split at e
  · rename_i hj
    have e2 : (rowsV rs)[j]? = some r := by unfold rowsV; rw [List.getElem?_map]; exact e
    rw [if_pos hj]
    exact t.2 j r e2
  · rename_i hj
    have e2 : (rowsV rs)[j + 1]? = some r := by unfold rowsV; rw [List.getElem?_map]; exact e
    rw [if_neg hj]
    exact t.2 (j + 1) r e2
theorem perm_erase {α : Type} {ls : List α} {i : Nat} {r : α} (h : ls[i]? = some r) : (ls.eraseIdx i ++ [r]).Perm ls := by
  induction ls generalizing i with
  | nil => simp at h
  | cons a t ih =>
    cases i with
    | zero =>
      simp at h
      subst h
      exact List.perm_append_comm
    | succ i => exact (ih (by simpa using h)).cons a
def sp_lrows3 : Sp := fun vs H Q _ => ∃ (bx nl : Addr) (x y z : Int) (n : Nat) (nms : List (List Nat)), vs = [.ref bx, .int (n : Nat), .ref nl] ∧ H bx = some (.lst [.int x, .int y, .int z]) ∧ H nl = some (.lst (nms.map fun cs => .str (tx cs))) ∧ bx ≠ nl ∧ (16 ≤ n ∧ n ≤ 240 ∧ nms.length ≤ 40 ∧ (∀ cs ∈ nms, NameOk cs) ∧ nms.Nodup) ∧ ∀ (x' y' z' : Int) (rs : List Rw) (p : Addr) (ys : List V) (H' : Hp), Lay n rs → Asc rs → Kp bx H H' → H' bx = some (.lst [.int x', .int y', .int z']) → H' p = some (.lst ys) → TupsAt H' ys (rowsV rs) → (∀ b u, H b = some u → b ≠ p) → Q (.ref p) H'
instance go_lrows3 {bx nl : Addr} {x y z : Int} {H H0 : Hp} {M : List Addr} {L : List (Addr × HO)} {I : List Im} {Q : VK} {E : XK} {n : Nat} {nms : List (List Nat)} [h : Hat H bx (.lst [.int x, .int y, .int z])] [h2 : Hat H nl (.lst (nms.map fun cs => .str (tx cs)))] [F : SH H0 M H L I] [ne : LkNe L bx nl] : Go (sp_lrows3 [.ref bx, .int (n : Nat), .ref nl] H Q E) (Sd (16 ≤ n ∧ n ≤ 240 ∧ nms.length ≤ 40 ∧ (∀ cs ∈ nms, NameOk cs) ∧ nms.Nodup) (∀ (x' y' z' : Int) (rs : List Rw), Lay n rs → Asc rs → ∀ H1, Kp bx H H1 → H1 bx = some (.lst [.int x', .int y', .int z']) → ∀ p ys H2, New H1 H2 p (.lst ys) → TupsAt H2 ys (rowsV rs) → Q (.ref p) H2)) :=
  ⟨fun s => ⟨bx, nl, x, y, z, n, nms, rfl, h.e, h2.e, ne.ne F.nd, s.1, fun x' y' z' rs p ys H' h1 h2 f e e2 t fr => two_steps (R := fun H' => Q (.ref p) H') ⟨_, h.e⟩ f e e2 fr fun H1 f1 e1 n1 => s.2 x' y' z' rs h1 h2 H1 f1 e1 p ys H' n1 t⟩⟩
theorem pickL2 {v : V} {a b lo hi : Int} (hv : v ∈ [V.int a, V.int b]) (h : 0 ≤ lo ∧ (lo ≤ a ∧ a < hi) ∧ (lo ≤ b ∧ b < hi)) : ∃ g : Nat, v = .int (g : Nat) ∧ lo ≤ (g : Int) ∧ (g : Int) < hi :=
  pickL3 (c := b) (by simpa using hv) ⟨h.1, h.2.1, h.2.2, h.2.2⟩
section
variable {P : Program} {w : World} {K : PySem.W.Frag} {mg : Str → Option Value} {base : Heap} {c : Nat → Addr} {ct_Linit pt_Linit ct_order pt_order R CL : Addr}
theorem D_rows (T : Txt K mg c R CL ct_Linit pt_Linit ct_order pt_order) : Def P w K mg base CX0 2 "_law_rows" ["_law_well_here", "_law_many_here", "_law_names_here"] sp_lrows3 := by
  have D_take := D_take (P := P) (w := w) (base := base) T
  refine def_of T.d_rows sc_rows (fun vs H Q E h => ?_) (fun _ _ _ _ _ _ us hl => match us, hl with | [_, _, _], _ => rfl) (fun f cdv A outer s H vs Q E hr h => ?_)
  · obtain ⟨bx, nl, x, y, z, n, nms, rfl, _⟩ := h
    rfl
  · obtain ⟨bx, nl, x, y, z, n, nms, rfl, hbx, hnl, nbl, side, k⟩ := h
    have nd := sc_rows.nd
    refine ⟨_, (pss_cons (ps_set (i := 3) nd rfl (Or.inl rfl) (pe_ix ix_list (pe_lstA (pa_cons pe_int (pa_cons pe_int (pa_cons pe_int (pa_cons pe_int pa_nil))))) (pe_def D_take hr (pa_cons (pv 0) (pa_cons pe_int pa_nil))) (fun _ _ => rfl)))
      (pss_cons (ps_set (i := 4) nd rfl (Or.inl rfl) (pe_lstA pa_nil))
      (pss_cons (ps_set (i := 5) nd rfl (Or.inl rfl) pe_int)
      (pss_cons (ps_for PassesOwn.never rfl (pi_list (pv 2)) (pg_name (i := 6) nd rfl (Or.inl rfl)) (pss_cons (ps_set (i := 7) nd rfl (Or.inl rfl) (pe_op op_sub (pv 1) (pv 5)))
        (pss_one (ps_if (pt_cmpR op_gt (pv 7) pe_int (nomark _)) (pss_cons (ps_set (i := 8) nd rfl (Or.inl rfl) (pe_ix ix_list (pe_lstA (pa_cons pe_int (pa_cons pe_int (pa_cons (pe_def D_take hr (pa_cons (pv 0) (pa_cons (pe_callB (call_minN rfl) rfl T.n_min boot_min (pa_cons (pv 7) (pa_cons pe_int pa_nil))) pa_nil))) (pa_cons (pe_def D_take hr (pa_cons (pv 0) (pa_cons (pv 7) pa_nil))) pa_nil))))) (pe_def D_take hr (pa_cons (pv 0) (pa_cons pe_int pa_nil))) (fun _ _ => rfl)))
          (pss_cons (ps_set (i := 9) nd rfl (Or.inl rfl) (pe_ix ix_list (pe_lstA (pa_cons pe_int (pa_cons pe_int (pa_cons pe_int (pa_cons pe_int pa_nil))))) (pe_def D_take hr (pa_cons (pv 0) (pa_cons pe_int pa_nil))) (fun _ _ => rfl)))
          (pss_cons (ps_if (pt_cmpR op_gt (pe_callB call_lenN rfl T.n_len boot_len (pa_cons (pv 2) pa_nil)) pe_int (nomark _)) (pss_one (ps_set (i := 9) nd rfl (Or.inl rfl) (pe_callB (call_minN rfl) rfl T.n_min boot_min (pa_cons (pv 9) (pa_cons pe_int pa_nil))))) pss_nil)
          (pss_cons (ps_if (pt_cmpR op_gt (pe_callB call_lenN rfl T.n_len boot_len (pa_cons (pv 2) pa_nil)) pe_int (nomark _)) (pss_cons (ps_set (i := 8) nd rfl (Or.inl rfl) (pe_op op_fdiv (pe_def D_take hr (pa_cons (pv 0) (pa_cons (pe_callB (call_minN rfl) rfl T.n_min boot_min (pa_cons (pv 7) (pa_cons pe_int pa_nil))) pa_nil))) pe_int))
            (pss_one (ps_set (i := 9) nd rfl (Or.inl rfl) (pe_ix ix_list (pe_lstA (pa_cons pe_int (pa_cons (pe_op op_add pe_int (pe_op op_fdiv (pv 1) pe_int)) pa_nil))) (pe_def D_take hr (pa_cons (pv 0) (pa_cons pe_int pa_nil))) (fun _ _ => rfl))))) pss_nil)
          (pss_cons (ps_set (i := 10) nd rfl (Or.inl rfl) (pe_op op_add pe_int (pe_def D_take hr (pa_cons (pv 0) (pa_cons (pe_callB (call_minN rfl) rfl T.n_min boot_min (pa_cons (pe_op op_sub (pv 7) (pv 8)) (pa_cons (pv 9) pa_nil))) pa_nil)))))
          (pss_cons (ps_set (i := 11) nd rfl (Or.inl rfl) pe_int)
          (pss_cons (ps_if (PW.pt (pw_and (pt_cmpR op_gt (pv 3) pe_int (nomark _)) (pw_and1 (pt_cmpR op_eq (pe_def D_take hr (pa_cons (pv 0) (pa_cons (pv 3) pa_nil))) pe_int (nomark _))))) (pss_one (ps_set (i := 11) nd rfl (Or.inl rfl) (pe_op op_add pe_int (pe_def D_take hr (pa_cons (pv 0) (pa_cons (pe_ix ix_list (pe_lstA (pa_cons pe_int (pa_cons pe_int (pa_cons pe_int pa_nil)))) (pe_def D_take hr (pa_cons (pv 0) (pa_cons pe_int pa_nil))) (fun _ _ => rfl)) pa_nil)))))) pss_nil)
          (pss_cons (ps_expr (pe_appendA (pv 4) (pe_tupA (pa_cons (pv 6) (pa_cons (pe_op op_add (pv 5) (pv 8)) (pa_cons (pv 10) (pa_cons (pv 11) pa_nil)))))))
          (pss_one (ps_set (i := 5) nd rfl (Or.inl rfl) (pe_op op_add (pe_op op_add (pv 5) (pv 8)) (pv 10)))))))))))) pss_nil))))
      (pss_one (ps_ret (pv 4))))))), ?_⟩
    clear nd D_take
    rw [show start ["_law_well_here", "_law_many_here", "_law_names_here", "_law_share", "_law_rows_here", "_law_at", "_law_name", "_law_left", "_law_gap", "_law_wide", "_law_size", "_law_pins"] [.ref bx, .int (n : Nat), .ref nl] = [some (.ref bx), some (.int (n : Nat)), some (.ref nl), none, none, none, none, none, none, none, none, none] from rfl]
    try dsimp only [cx_K, cx_K2]
    have iL_many : FldOk K CL "many" := ⟨T.clL, T.aL_many⟩
    have iL_rows : FldOk K CL "rows" := ⟨T.clL, T.aL_rows⟩
    have F : SH H [bx] H [(bx, .lst [.int x, .int y, .int z])] [] := SH.nil.addM List.mem_cons_self hbx rfl (by simp)
    have o_hnl := Old.mk (M := [bx]) hnl (nm1 (Ne.symm nbl))
    obtain ⟨h16, h240, h40, nk, nn⟩ := side
    have nl1 : (nms.map fun cs => V.str (tx cs)).length = nms.length := List.length_map ..
    repeat k_meth
    refine w_ixM SqA.e lo_ hi_ fun v hv => ?_
    obtain ⟨sh, rfl, hs0, hs1⟩ := pickL4 (lo := 0) (hi := 6) hv (by omega)
    clear hv
    repeat k_meth
    rename Addr => rwA
    refine forL_by (xs := nms.map fun cs => V.str (tx cs)) (fun i σ' H' => ∃ (o6 o7 o8 o9 o10 o11 : Option V) (at_ : Nat) (rs : List Rw) (ys : List V) (x y z : Int), σ' = [some (.ref bx), some (.int (n : Nat)), some (.ref nl), some (.int (sh : Nat)), some (.ref rwA), some (.int (at_ : Nat)), o6, o7, o8, o9, o10, o11] ∧ at_ ≤ n ∧ Asc rs ∧ (∀ r ∈ rs, NameOk r.nm ∧ 1 ≤ r.sz ∧ r.st + r.sz ≤ at_) ∧ (rs.map (·.nm)).Sublist (nms.take i) ∧ ys.length = rs.length ∧ SH H [bx] H' [(rwA, .lst ys), (bx, .lst [.int x, .int y, .int z])] [.tps ys (rowsV rs)]) ⟨_, _, _, _, _, _, 0, [], [], x_, y_, z_, rfl, Nat.zero_le _, List.Pairwise.nil, by simp, List.nil_sublist _, rfl, (F.addP (ys := []) (rs := rowsV []) TupsAt.nil).sub SbC.s (by simp)⟩ ?_ ?_ ?_
    · clear F
      rintro i σ' H' _ ⟨_, _, _, _, _, _, at_, rs, ys, x, y, z, rfl, hat, as, ok, sb, yl, F⟩
      exact SqA.e
    · clear F
      rintro i v σ' H' hv ⟨_, _, _, _, _, _, at_, rs, ys, x, y, z, rfl, hat, as, ok, sb, yl, F⟩
      clear lo_ hi_
      obtain ⟨nm0, hnm, rfl⟩ : ∃ nm0, nms[i]? = some nm0 ∧ v = .str (tx nm0) := by
        rw [List.getElem?_map] at hv
        cases e : nms[i]? with
        | none => rw [e] at hv; cases hv
        | some c => rw [e] at hv; exact ⟨c, rfl, (Option.some.inj hv).symm⟩
      have tkn : nms.take (i + 1) = nms.take i ++ [nm0] := by rw [List.take_succ, hnm]; rfl
      have few : rs.length ≤ 40 := by
        have := sb.length_le
        rw [List.length_map, List.length_take] at this
        omega
      repeat k_meth
      refine i_dec (fun h => ?_) (fun h => ?_)
      · repeat k_meth
        refine w_ixM SqA.e lo_ hi_ fun v hv => ?_
        obtain ⟨g, rfl, hg0, hg⟩ := pickL4 (lo := 0) (hi := (n : Int) - (at_ : Int)) hv (by omega)
        clear hv
        repeat k_meth
        refine w_ixM SqA.e lo_ hi_ fun v hv => ?_
        obtain ⟨wd, rfl, hw0, hw⟩ := pickL4 (lo := 1) (hi := 241) hv (by omega)
        clear hv
        repeat k_meth
        refine i_dec (fun h8 => ?_) (fun h8 => ?_)
        · repeat k_meth
          refine i_dec (fun h20 => ?_) (fun h20 => ?_)
          · repeat k_meth
            rename_i r7 _ _ _ r7lo r7hi _ _
            clear hg0 hg
            obtain ⟨g, hg⟩ : ∃ g : Nat, r7 / 7 = (g : Int) := ⟨(r7 / 7).toNat, by omega⟩
            have hgl : (g : Int) < (n : Int) - (at_ : Int) := by omega
            rw [hg]
            clear hg
            refine w_ixM SqA.e lo_ hi_ fun v hv => ?_
            clear hw0 hw
            obtain ⟨wd, rfl, hw0, hw⟩ := pickL2 (lo := 1) (hi := 241) hv (by omega)
            clear hv
            repeat k_meth
            obtain ⟨z1, hz1⟩ : ∃ z1 : Nat, r_ = (z1 : Int) := ⟨r_.toNat, by omega⟩
            subst hz1
            refine i_dec (fun hs0 => ?_) (fun hs0 => ?_)
            · repeat k_meth
              refine i_dec (fun hd0 => ?_) (fun hd0 => ?_)
              · repeat k_meth
                refine w_ixM SqA.e lo_ hi_ fun v hv => ?_
                obtain ⟨wp, rfl, hp0, hp1⟩ := pickL3 (lo := 1) (hi := 1001) hv (by omega)
                clear hv
                repeat k_meth
                obtain ⟨pn, hpn⟩ : ∃ pn : Nat, 1 + r_ = (pn : Int) := ⟨(1 + r_).toNat, by omega⟩
                rw [hpn] at F
                rw [show [V.str (tx nm0), V.int ((at_ : Int) + (g : Int)), V.int (1 + (z1 : Int)), V.int (pn : Int)] = rowV ⟨nm0, at_ + g, 1 + z1, pn⟩ by simp [rowV]] at F
                have F2 := SH.app (ys := ys) (rs := rowsV rs) (q := p_) (r := rowV ⟨nm0, at_ + g, 1 + z1, pn⟩) F (LkP.m) (LkI.m)
                rw [← rowsV_snoc] at F2
                rw [show (at_ : Int) + (g : Int) + (1 + (z1 : Int)) = ((at_ + g + (1 + z1) : Nat) : Int) by omega]
                refine ⟨_, _, _, _, _, _, at_ + g + (1 + z1), rs ++ [⟨nm0, at_ + g, 1 + z1, pn⟩], ys ++ [.ref p_], x_, y_, z_, rfl, by omega, asc_snoc as (fun s hs => (ok s hs).2.2) (by show at_ ≤ at_ + g; omega), fun s hs => ?_, ?_, by simp [yl], F2.sub SbC.s (by simp)⟩
                · rcases List.mem_append.mp hs with hs | hs
                  · have := ok s hs
                    exact ⟨this.1, this.2.1, by omega⟩
                  · rw [List.mem_singleton.mp hs]
                    exact ⟨nk _ (List.mem_of_getElem? hnm), by show 1 ≤ 1 + z1; omega, by show at_ + g + (1 + z1) ≤ _; omega⟩
                · rw [List.map_append, tkn]
                  exact List.Sublist.append sb (List.Sublist.refl _)
              · repeat k_meth
                
                rw [show [V.str (tx nm0), V.int ((at_ : Int) + (g : Int)), V.int (1 + (z1 : Int)), V.int 0] = rowV ⟨nm0, at_ + g, 1 + z1, 0⟩ by simp [rowV]] at F
                have F2 := SH.app (ys := ys) (rs := rowsV rs) (q := p_) (r := rowV ⟨nm0, at_ + g, 1 + z1, 0⟩) F (LkP.m) (LkI.m)
                rw [← rowsV_snoc] at F2
                rw [show (at_ : Int) + (g : Int) + (1 + (z1 : Int)) = ((at_ + g + (1 + z1) : Nat) : Int) by omega]
                refine ⟨_, _, _, _, _, _, at_ + g + (1 + z1), rs ++ [⟨nm0, at_ + g, 1 + z1, 0⟩], ys ++ [.ref p_], x_, y_, z_, rfl, by omega, asc_snoc as (fun s hs => (ok s hs).2.2) (by show at_ ≤ at_ + g; omega), fun s hs => ?_, ?_, by simp [yl], F2.sub SbC.s (by simp)⟩
                · rcases List.mem_append.mp hs with hs | hs
                  · have := ok s hs
                    exact ⟨this.1, this.2.1, by omega⟩
                  · rw [List.mem_singleton.mp hs]
                    exact ⟨nk _ (List.mem_of_getElem? hnm), by show 1 ≤ 1 + z1; omega, by show at_ + g + (1 + z1) ≤ _; omega⟩
                · rw [List.map_append, tkn]
                  exact List.Sublist.append sb (List.Sublist.refl _)
            · repeat k_meth
              
              rw [show [V.str (tx nm0), V.int ((at_ : Int) + (g : Int)), V.int (1 + (z1 : Int)), V.int 0] = rowV ⟨nm0, at_ + g, 1 + z1, 0⟩ by simp [rowV]] at F
              have F2 := SH.app (ys := ys) (rs := rowsV rs) (q := p_) (r := rowV ⟨nm0, at_ + g, 1 + z1, 0⟩) F (LkP.m) (LkI.m)
              rw [← rowsV_snoc] at F2
              rw [show (at_ : Int) + (g : Int) + (1 + (z1 : Int)) = ((at_ + g + (1 + z1) : Nat) : Int) by omega]
              refine ⟨_, _, _, _, _, _, at_ + g + (1 + z1), rs ++ [⟨nm0, at_ + g, 1 + z1, 0⟩], ys ++ [.ref p_], x_, y_, z_, rfl, by omega, asc_snoc as (fun s hs => (ok s hs).2.2) (by show at_ ≤ at_ + g; omega), fun s hs => ?_, ?_, by simp [yl], F2.sub SbC.s (by simp)⟩
              · rcases List.mem_append.mp hs with hs | hs
                · have := ok s hs
                  exact ⟨this.1, this.2.1, by omega⟩
                · rw [List.mem_singleton.mp hs]
                  exact ⟨nk _ (List.mem_of_getElem? hnm), by show 1 ≤ 1 + z1; omega, by show at_ + g + (1 + z1) ≤ _; omega⟩
              · rw [List.map_append, tkn]
                exact List.Sublist.append sb (List.Sublist.refl _)
          · repeat k_meth
            obtain ⟨z1, hz1⟩ : ∃ z1 : Nat, r_ = (z1 : Int) := ⟨r_.toNat, by omega⟩
            subst hz1
            refine i_dec (fun hs0 => ?_) (fun hs0 => ?_)
            · repeat k_meth
              refine i_dec (fun hd0 => ?_) (fun hd0 => ?_)
              · repeat k_meth
                refine w_ixM SqA.e lo_ hi_ fun v hv => ?_
                obtain ⟨wp, rfl, hp0, hp1⟩ := pickL3 (lo := 1) (hi := 1001) hv (by omega)
                clear hv
                repeat k_meth
                obtain ⟨pn, hpn⟩ : ∃ pn : Nat, 1 + r_ = (pn : Int) := ⟨(1 + r_).toNat, by omega⟩
                rw [hpn] at F
                rw [show [V.str (tx nm0), V.int ((at_ : Int) + (g : Int)), V.int (1 + (z1 : Int)), V.int (pn : Int)] = rowV ⟨nm0, at_ + g, 1 + z1, pn⟩ by simp [rowV]] at F
                have F2 := SH.app (ys := ys) (rs := rowsV rs) (q := p_) (r := rowV ⟨nm0, at_ + g, 1 + z1, pn⟩) F (LkP.m) (LkI.m)
                rw [← rowsV_snoc] at F2
                rw [show (at_ : Int) + (g : Int) + (1 + (z1 : Int)) = ((at_ + g + (1 + z1) : Nat) : Int) by omega]
                refine ⟨_, _, _, _, _, _, at_ + g + (1 + z1), rs ++ [⟨nm0, at_ + g, 1 + z1, pn⟩], ys ++ [.ref p_], x_, y_, z_, rfl, by omega, asc_snoc as (fun s hs => (ok s hs).2.2) (by show at_ ≤ at_ + g; omega), fun s hs => ?_, ?_, by simp [yl], F2.sub SbC.s (by simp)⟩
                · rcases List.mem_append.mp hs with hs | hs
                  · have := ok s hs
                    exact ⟨this.1, this.2.1, by omega⟩
                  · rw [List.mem_singleton.mp hs]
                    exact ⟨nk _ (List.mem_of_getElem? hnm), by show 1 ≤ 1 + z1; omega, by show at_ + g + (1 + z1) ≤ _; omega⟩
                · rw [List.map_append, tkn]
                  exact List.Sublist.append sb (List.Sublist.refl _)
              · repeat k_meth
                
                rw [show [V.str (tx nm0), V.int ((at_ : Int) + (g : Int)), V.int (1 + (z1 : Int)), V.int 0] = rowV ⟨nm0, at_ + g, 1 + z1, 0⟩ by simp [rowV]] at F
                have F2 := SH.app (ys := ys) (rs := rowsV rs) (q := p_) (r := rowV ⟨nm0, at_ + g, 1 + z1, 0⟩) F (LkP.m) (LkI.m)
                rw [← rowsV_snoc] at F2
                rw [show (at_ : Int) + (g : Int) + (1 + (z1 : Int)) = ((at_ + g + (1 + z1) : Nat) : Int) by omega]
                refine ⟨_, _, _, _, _, _, at_ + g + (1 + z1), rs ++ [⟨nm0, at_ + g, 1 + z1, 0⟩], ys ++ [.ref p_], x_, y_, z_, rfl, by omega, asc_snoc as (fun s hs => (ok s hs).2.2) (by show at_ ≤ at_ + g; omega), fun s hs => ?_, ?_, by simp [yl], F2.sub SbC.s (by simp)⟩
                · rcases List.mem_append.mp hs with hs | hs
                  · have := ok s hs
                    exact ⟨this.1, this.2.1, by omega⟩
                  · rw [List.mem_singleton.mp hs]
                    exact ⟨nk _ (List.mem_of_getElem? hnm), by show 1 ≤ 1 + z1; omega, by show at_ + g + (1 + z1) ≤ _; omega⟩
                · rw [List.map_append, tkn]
                  exact List.Sublist.append sb (List.Sublist.refl _)
            · repeat k_meth
              
              rw [show [V.str (tx nm0), V.int ((at_ : Int) + (g : Int)), V.int (1 + (z1 : Int)), V.int 0] = rowV ⟨nm0, at_ + g, 1 + z1, 0⟩ by simp [rowV]] at F
              have F2 := SH.app (ys := ys) (rs := rowsV rs) (q := p_) (r := rowV ⟨nm0, at_ + g, 1 + z1, 0⟩) F (LkP.m) (LkI.m)
              rw [← rowsV_snoc] at F2
              rw [show (at_ : Int) + (g : Int) + (1 + (z1 : Int)) = ((at_ + g + (1 + z1) : Nat) : Int) by omega]
              refine ⟨_, _, _, _, _, _, at_ + g + (1 + z1), rs ++ [⟨nm0, at_ + g, 1 + z1, 0⟩], ys ++ [.ref p_], x_, y_, z_, rfl, by omega, asc_snoc as (fun s hs => (ok s hs).2.2) (by show at_ ≤ at_ + g; omega), fun s hs => ?_, ?_, by simp [yl], F2.sub SbC.s (by simp)⟩
              · rcases List.mem_append.mp hs with hs | hs
                · have := ok s hs
                  exact ⟨this.1, this.2.1, by omega⟩
                · rw [List.mem_singleton.mp hs]
                  exact ⟨nk _ (List.mem_of_getElem? hnm), by show 1 ≤ 1 + z1; omega, by show at_ + g + (1 + z1) ≤ _; omega⟩
              · rw [List.map_append, tkn]
                exact List.Sublist.append sb (List.Sublist.refl _)
        · repeat k_meth
          repeat k_meth
          obtain ⟨z1, hz1⟩ : ∃ z1 : Nat, r_ = (z1 : Int) := ⟨r_.toNat, by omega⟩
          subst hz1
          refine i_dec (fun hs0 => ?_) (fun hs0 => ?_)
          · repeat k_meth
            refine i_dec (fun hd0 => ?_) (fun hd0 => ?_)
            · repeat k_meth
              refine w_ixM SqA.e lo_ hi_ fun v hv => ?_
              obtain ⟨wp, rfl, hp0, hp1⟩ := pickL3 (lo := 1) (hi := 1001) hv (by omega)
              clear hv
              repeat k_meth
              obtain ⟨pn, hpn⟩ : ∃ pn : Nat, 1 + r_ = (pn : Int) := ⟨(1 + r_).toNat, by omega⟩
              rw [hpn] at F
              rw [show [V.str (tx nm0), V.int ((at_ : Int) + (g : Int)), V.int (1 + (z1 : Int)), V.int (pn : Int)] = rowV ⟨nm0, at_ + g, 1 + z1, pn⟩ by simp [rowV]] at F
              have F2 := SH.app (ys := ys) (rs := rowsV rs) (q := p_) (r := rowV ⟨nm0, at_ + g, 1 + z1, pn⟩) F (LkP.m) (LkI.m)
              rw [← rowsV_snoc] at F2
              rw [show (at_ : Int) + (g : Int) + (1 + (z1 : Int)) = ((at_ + g + (1 + z1) : Nat) : Int) by omega]
              refine ⟨_, _, _, _, _, _, at_ + g + (1 + z1), rs ++ [⟨nm0, at_ + g, 1 + z1, pn⟩], ys ++ [.ref p_], x_, y_, z_, rfl, by omega, asc_snoc as (fun s hs => (ok s hs).2.2) (by show at_ ≤ at_ + g; omega), fun s hs => ?_, ?_, by simp [yl], F2.sub SbC.s (by simp)⟩
              · rcases List.mem_append.mp hs with hs | hs
                · have := ok s hs
                  exact ⟨this.1, this.2.1, by omega⟩
                · rw [List.mem_singleton.mp hs]
                  exact ⟨nk _ (List.mem_of_getElem? hnm), by show 1 ≤ 1 + z1; omega, by show at_ + g + (1 + z1) ≤ _; omega⟩
              · rw [List.map_append, tkn]
                exact List.Sublist.append sb (List.Sublist.refl _)
            · repeat k_meth
              
              rw [show [V.str (tx nm0), V.int ((at_ : Int) + (g : Int)), V.int (1 + (z1 : Int)), V.int 0] = rowV ⟨nm0, at_ + g, 1 + z1, 0⟩ by simp [rowV]] at F
              have F2 := SH.app (ys := ys) (rs := rowsV rs) (q := p_) (r := rowV ⟨nm0, at_ + g, 1 + z1, 0⟩) F (LkP.m) (LkI.m)
              rw [← rowsV_snoc] at F2
              rw [show (at_ : Int) + (g : Int) + (1 + (z1 : Int)) = ((at_ + g + (1 + z1) : Nat) : Int) by omega]
              refine ⟨_, _, _, _, _, _, at_ + g + (1 + z1), rs ++ [⟨nm0, at_ + g, 1 + z1, 0⟩], ys ++ [.ref p_], x_, y_, z_, rfl, by omega, asc_snoc as (fun s hs => (ok s hs).2.2) (by show at_ ≤ at_ + g; omega), fun s hs => ?_, ?_, by simp [yl], F2.sub SbC.s (by simp)⟩
              · rcases List.mem_append.mp hs with hs | hs
                · have := ok s hs
                  exact ⟨this.1, this.2.1, by omega⟩
                · rw [List.mem_singleton.mp hs]
                  exact ⟨nk _ (List.mem_of_getElem? hnm), by show 1 ≤ 1 + z1; omega, by show at_ + g + (1 + z1) ≤ _; omega⟩
              · rw [List.map_append, tkn]
                exact List.Sublist.append sb (List.Sublist.refl _)
          · repeat k_meth
            
            rw [show [V.str (tx nm0), V.int ((at_ : Int) + (g : Int)), V.int (1 + (z1 : Int)), V.int 0] = rowV ⟨nm0, at_ + g, 1 + z1, 0⟩ by simp [rowV]] at F
            have F2 := SH.app (ys := ys) (rs := rowsV rs) (q := p_) (r := rowV ⟨nm0, at_ + g, 1 + z1, 0⟩) F (LkP.m) (LkI.m)
            rw [← rowsV_snoc] at F2
            rw [show (at_ : Int) + (g : Int) + (1 + (z1 : Int)) = ((at_ + g + (1 + z1) : Nat) : Int) by omega]
            refine ⟨_, _, _, _, _, _, at_ + g + (1 + z1), rs ++ [⟨nm0, at_ + g, 1 + z1, 0⟩], ys ++ [.ref p_], x_, y_, z_, rfl, by omega, asc_snoc as (fun s hs => (ok s hs).2.2) (by show at_ ≤ at_ + g; omega), fun s hs => ?_, ?_, by simp [yl], F2.sub SbC.s (by simp)⟩
            · rcases List.mem_append.mp hs with hs | hs
              · have := ok s hs
                exact ⟨this.1, this.2.1, by omega⟩
              · rw [List.mem_singleton.mp hs]
                exact ⟨nk _ (List.mem_of_getElem? hnm), by show 1 ≤ 1 + z1; omega, by show at_ + g + (1 + z1) ≤ _; omega⟩
            · rw [List.map_append, tkn]
              exact List.Sublist.append sb (List.Sublist.refl _)
      · repeat k_meth
        exact ⟨_, _, _, _, _, _, at_, rs, ys, x, y, z, rfl, hat, as, ok, sb.trans (by rw [tkn]; exact List.sublist_append_left _ _), yl, F⟩
    · clear F
      rintro σ' H' ⟨_, _, _, _, _, _, at_, rs, ys, x, y, z, rfl, hat, as, ok, sb, yl, F⟩
      repeat k_meth
      exact k _ _ _ rs _ ys _ (lay_of hat as ok sb (nn.sublist (List.take_sublist _ _)) (by rw [List.length_take]; omega)) as F.kpo hatC hatC TpA.e (F.fresh (LkL.m (o := .lst _)) (nm1 (SH.neC (F := F))))
theorem D_mixed (T : Txt K mg c R CL ct_Linit pt_Linit ct_order pt_order) : Def P w K mg base CX0 2 "_law_mixed" ["_law_well_here", "_law_some"] sp_mixed := by
  have D_take := D_take (P := P) (w := w) (base := base) T
  refine def_of T.d_mixed sc_mixed (fun vs H Q E h => ?_) (fun _ _ _ _ _ _ us hl => match us, hl with | [_, _], _ => rfl) (fun f cdv A outer s H vs Q E hr h => ?_)
  · obtain ⟨bx, l, x, y, z, ys, rs, rfl, _⟩ := h
    rfl
  · obtain ⟨bx, l, x, y, z, ys, rs, rfl, hbx, hl, tp, hz, nbl, k⟩ := h
    have nd := sc_mixed.nd
    refine ⟨_, (pss_cons (ps_set (i := 2) nd rfl (Or.inl rfl) (pe_callTy call_list_ofA rfl T.n_list boot_list (pa_cons (pv 1) pa_nil)))
      (pss_cons (ps_set (i := 3) nd rfl (Or.inl rfl) (pe_lstA pa_nil))
      (pss_cons (ps_while PassesOwn.never (pt_cmpR (op_ne_dN hr) (pv 2) (pe_lstA pa_nil) (nomark _)) (pss_one (ps_expr (pe_appendA (pv 3) (pe_popA (pv 2) (pe_def D_take hr (pa_cons (pv 0) (pa_cons (pe_callB call_lenN rfl T.n_len boot_len (pa_cons (pv 2) pa_nil)) pa_nil))))))))
      (pss_one (ps_ret (pv 3)))))), ?_⟩
    clear nd D_take
    rw [show start ["_law_well_here", "_law_some", "_law_left", "_law_found"] [.ref bx, .ref l] = [some (.ref bx), some (.ref l), none, none] from rfl]
    try dsimp only [cx_K, cx_K2]
    have iL_many : FldOk K CL "many" := ⟨T.clL, T.aL_many⟩
    have iL_rows : FldOk K CL "rows" := ⟨T.clL, T.aL_rows⟩
    have F : SH H [bx] H [(bx, .lst [.int x, .int y, .int z])] [] := SH.nil.addM List.mem_cons_self hbx rfl (by simp)
    have o_hl := Old.mk (M := [bx]) hl (nm1 (Ne.symm nbl))
    have yl : ys.length = rs.length := by rw [tp.1, rowsV_len]
    replace F := F.addP tp
    repeat k_meth
    rename Addr => fd
    refine while_m (fun m σ' H' => ∃ (ls fs : List Rw) (yl yf : List V) (x y z : Int), σ' = [some (.ref bx), some (.ref l), some (.ref p_), some (.ref fd)] ∧ m = ls.length ∧ (fs ++ ls).Perm rs ∧ yl.length = ls.length ∧ yf.length = fs.length ∧ SH H [bx] H' [(p_, .lst yl), (fd, .lst yf), (bx, .lst [.int x, .int y, .int z])] [.tps yl (rowsV ls), .tps yf (rowsV fs)]) ⟨rs.length, rs, [], ys, [], x, y, z, rfl, rfl, List.Perm.refl _, yl, rfl, (F.addP (ys := []) (rs := rowsV []) TupsAt.nil).sub SbC.s (by simp)⟩ ?_
    clear F
    rintro m σ' H' ⟨ls, fs, yl', yf, x, y, z, rfl, rfl, pm, h1, h2, F⟩
    have pl := pm.length_eq
    rw [List.length_append] at pl
    repeat k_meth
    by_cases hn : rowsV ls = []
    · repeat k_meth
      have e0 : ls = [] := List.map_eq_nil_iff.mp hn
      rw [e0, List.append_nil] at pm
      exact k _ _ _ fs _ yf _ pm F.kpo hatC hatC TpA.e (F.fresh (LkL.m (o := .lst _)) (nm1 (SH.neC (F := F))))
    · have hp : 0 < ls.length := by
        cases ls with
        | nil => exact absurd rfl hn
        | cons a t => simp
      repeat k_meth
      refine ⟨fun σ' H' => ∃ m', m' < ls.length ∧ _, fun σ' H' h => h, ?_⟩
      repeat k_meth
      intro v hv
      repeat k_meth
      obtain ⟨r, q, e1, rfl, e2⟩ := rowsV_at (H := H_) (rs := ls) TpA.e hv
      have t1 := tups_erase (H := H_) (ys := yl') (rs := ls) (i := r_.toNat) TpA.e
      have t2 : TupsAt H_ (yf ++ [.ref q]) (rowsV (fs ++ [r])) := by
        rw [rowsV_snoc]
        exact TupsAt.snoc (TpA.e (H := H_) (ys := yf) (rs := rowsV fs)) e2
      have hlt := (List.getElem?_eq_some_iff.mp e1).1
      refine ⟨ls.length - 1, by omega, ls.eraseIdx r_.toNat, fs ++ [r], yl'.eraseIdx r_.toNat, yf ++ [.ref q], x_, y_, z_, rfl, ?_, ?_, ?_, ?_, ((F.addP t2).addP t1).sub SbC.s (by simp)⟩
      · rw [List.length_eraseIdx, if_pos hlt]
      · refine List.Perm.trans ?_ pm
        rw [List.append_assoc]
        exact (List.perm_append_comm.trans (perm_erase e1)).append_left fs
      · rw [List.length_eraseIdx, List.length_eraseIdx, h1]
      · rw [List.length_append, List.length_append, h2]
        rfl
end
open M22
abbrev Stp := Rw × Int
def stD (g : List Stp × Int) (r : Rw) : List Stp × Int := if 0 < r.pn then (g.1, (r.st : Int) + (r.sz : Int)) else if g.2 = (r.st : Int) then (g.1, g.2 + (r.sz : Int)) else (g.1 ++ [(r, g.2)], g.2 + (r.sz : Int))
def stU (g : List Stp × Int) (r : Rw) : List Stp × Int := if 0 < r.pn then (g.1, (r.st : Int)) else if g.2 - (r.sz : Int) = (r.st : Int) then (g.1, g.2 - (r.sz : Int)) else (g.1 ++ [(r, g.2 - (r.sz : Int))], g.2 - (r.sz : Int))
def downF (f : Int) (rs : List Rw) : List Stp × Int := rs.foldl stD ([], f)
def upF (b : Int) (rs : List Rw) : List Stp × Int := rs.foldl stU ([], b)
theorem downF_snoc (f : Int) (rs : List Rw) (r : Rw) : downF f (rs ++ [r]) = stD (downF f rs) r := by unfold downF; rw [List.foldl_append]; rfl
theorem upF_snoc (f : Int) (rs : List Rw) (r : Rw) : upF f (rs ++ [r]) = stU (upF f rs) r := by unfold upF; rw [List.foldl_append]; rfl
theorem stD_pin {g : List Stp × Int} {r : Rw} (h : 0 < r.pn) : stD g r = (g.1, (r.st : Int) + (r.sz : Int)) := if_pos h
theorem stD_eq {g : List Stp × Int} {r : Rw} (h : ¬ 0 < r.pn) (e : g.2 = (r.st : Int)) : stD g r = (g.1, g.2 + (r.sz : Int)) := by unfold stD; rw [if_neg h, if_pos e]
theorem stD_ne {g : List Stp × Int} {r : Rw} (h : ¬ 0 < r.pn) (e : ¬ g.2 = (r.st : Int)) : stD g r = (g.1 ++ [(r, g.2)], g.2 + (r.sz : Int)) := by unfold stD; rw [if_neg h, if_neg e]
theorem stU_pin {g : List Stp × Int} {r : Rw} (h : 0 < r.pn) : stU g r = (g.1, (r.st : Int)) := if_pos h
theorem stU_eq {g : List Stp × Int} {r : Rw} (h : ¬ 0 < r.pn) (e : g.2 - (r.sz : Int) = (r.st : Int)) : stU g r = (g.1, g.2 - (r.sz : Int)) := by unfold stU; rw [if_neg h, if_pos e]
theorem stU_ne {g : List Stp × Int} {r : Rw} (h : ¬ 0 < r.pn) (e : ¬ g.2 - (r.sz : Int) = (r.st : Int)) : stU g r = (g.1 ++ [(r, g.2 - (r.sz : Int))], g.2 - (r.sz : Int)) := by unfold stU; rw [if_neg h, if_neg e]
theorem fold_len {st : List Stp × Int → Rw → List Stp × Int} (h : ∀ g r, (st g r).1.length ≤ g.1.length + 1) (rs : List Rw) (g : List Stp × Int) : (rs.foldl st g).1.length ≤ g.1.length + rs.length := by
  induction rs generalizing g with
  | nil => exact Nat.le_refl _
  | cons r t ih =>
    have := ih (st g r)
    have := h g r
    rw [List.foldl_cons, List.length_cons]
    omega
theorem downF_len (f : Int) (rs : List Rw) : (downF f rs).1.length ≤ rs.length := by
  have := fold_len (st := stD) (fun g r => by unfold stD; split; · simp
                                              · split <;> simp) rs ([], f)
  simpa [downF] using this
theorem upF_len (f : Int) (rs : List Rw) : (upF f rs).1.length ≤ rs.length := by
  have := fold_len (st := stU) (fun g r => by unfold stU; split; · simp
                                              · split <;> simp) rs ([], f)
  simpa [upF] using this
abbrev stepV (s : Stp) : List V := [.str (tx s.1.nm), .int (s.1.st : Nat), .int (s.1.sz : Nat), .int s.2]
abbrev moveV (s : Stp) : List V := [.str (tx s.1.nm), .int s.2]
def stepsV (ss : List Stp) : List (List V) := ss.map stepV
def movesV (ss : List Stp) : List (List V) := ss.map moveV
theorem stepsV_len (ss : List Stp) : (stepsV ss).length = ss.length := List.length_map ..
theorem movesV_len (ss : List Stp) : (movesV ss).length = ss.length := List.length_map ..
theorem stepsV_snoc (ss : List Stp) (s : Stp) : stepsV (ss ++ [s]) = stepsV ss ++ [stepV s] := by unfold stepsV; rw [List.map_append]; rfl
theorem movesV_snoc (ss : List Stp) (s : Stp) : movesV (ss ++ [s]) = movesV ss ++ [moveV s] := by unfold movesV; rw [List.map_append]; rfl
theorem flat_M (ss : List Stp) : ∀ r ∈ movesV ss, ∀ v ∈ r, isFlat v = true := by
  intro r hr v hv
  obtain ⟨x, _, rfl⟩ := List.mem_map.mp hr
  simp only [List.mem_cons, List.not_mem_nil, or_false] at hv
  rcases hv with rfl | rfl <;> rfl
theorem map_at {α β : Type} {f : α → β} {ss : List α} {i : Nat} {r : β} (h : (ss.map f)[i]? = some r) : ∃ s, ss[i]? = some s ∧ r = f s := by
  rw [List.getElem?_map] at h
  cases e : ss[i]? with
  | none => rw [e] at h; cases h
  | some s => rw [e] at h; exact ⟨s, rfl, (Option.some.inj h).symm⟩
theorem take_snocR {α : Type} {rs : List α} {i : Nat} {r : α} (h : rs[i]? = some r) : rs.take (i + 1) = rs.take i ++ [r] := by rw [List.take_succ, h]; rfl
theorem rev_at {α : Type} {rs : List α} {i n : Nat} {r : α} (hn : n = rs.length) (hi : i < n) (h : rs[n - 1 - i]? = some r) : rs.reverse[i]? = some r := by
  subst hn
  rw [List.getElem?_reverse hi]
  exact h
theorem comp_W {K : PySem.W.Frag} {l : Addr} {xs : List V} {rows : List (List V)} {σ fvs : L2.St} {fr : List Nat} {te : TE} {H : Hp} {Q : VK} (hq : H l = some (.lst xs)) (tp : TupsAt H xs rows) (hz : xs.length ≤ 1000000) (hf : (fr.map fun i => (σ[i]?).getD none) = fvs)
    (G : Nat → List V → Hp → Prop) (st : ∀ i ys H1 H2, (∀ q u, H1 q = some (.tup u) → H2 q = some (.tup u)) → G i ys H1 → G i ys H2) (g0 : G 0 [] H)
    (turnE : ∀ (i : Nat) (q : Addr) r ys (H' : Hp) (R : VK), rows[i]? = some r → Same H H' → H' q = some (.tup r) → G i ys H' → (∀ y H2, Same H' H2 → G (i + 1) (ys ++ [y]) H2 → R y H2) → te (some (.ref q) :: fvs) H' R)
    (k : ∀ p ys H', New H H' p (.lst ys) → G xs.length ys H' → Q (.ref p) H') : CompAll (Itl K l) 1 fr (gName 0) tTrue te σ H Q := by
  intro acc hacc
  subst hf
  have nacc : ∀ b u, H b = some u → b ≠ acc := fun b u e => ne_of_none e hacc
  have n0 : New H (upd H acc (.lst [])) acc (.lst []) := .mk' hacc
  refine comp_by (items_list (xs := xs)) (fun i ys H' => H' acc = some (.lst ys) ∧ Same H H' ∧ ys.length ≤ i ∧ G i ys H') ⟨n0.e, n0.s, Nat.le_refl _, st _ _ _ _ (fun q u e => n0.s _ _ e) g0⟩ (fun i ys H' _ h => ⟨h.2.1.seq (SqL.of hq), h.1⟩) ?_ ?_
  · rintro i x tv ys H' hx hi ⟨ha, hs, hl, hg⟩ htv
    obtain ⟨t0, rfl⟩ : ∃ a, tv = [a] := List.length_eq_one_iff.mp htv
    obtain ⟨r, q, e1, rfl, e2⟩ := tups_at tp hx
    refine wn0 ?_
    unfold tTrue
    dsimp only
    rw [if_pos rfl]
    refine turnE i q r ys H' _ e1 hs (hs _ _ e2) hg fun y H3 s3 g3 => ⟨Nat.lt_of_le_of_lt hl (Nat.lt_of_lt_of_le hi (small_line hz)), s3 _ _ ha, CompW.next (tv := [some (.ref q)]) hi ⟨upd_same, fun b u e => ?_, by rw [List.length_append, List.length_singleton]; omega, st _ _ _ _ (fun q' u e => ?_) g3⟩ rfl⟩
    · rw [upd_ne (nacc b u e)]
      exact s3 _ _ (hs _ _ e)
    · have e3 : H3 acc = some (.lst ys) := s3 _ _ ha
      rw [upd_ne (fun z => by rw [z, e3] at e; cases e)]
      exact e
  · rintro ys H' ⟨ha, hs, _, hg⟩
    exact k acc ys H' ⟨hs, ha, nacc⟩ hg
theorem tups_st {H1 H2 : Hp} {ys : List V} {rows : List (List V)} (s : ∀ q u, H1 q = some (.tup u) → H2 q = some (.tup u)) (t : TupsAt H1 ys rows) : TupsAt H2 ys rows := ⟨t.1, fun j r e => let ⟨q, a, b⟩ := t.2 j r e; ⟨q, a, s _ _ b⟩⟩
def sp_sdown : Sp := fun vs H Q _ => ∃ (l : Addr) (f : Int) (zs : List V) (rs : List Rw), vs = [.ref l, .int f] ∧ H l = some (.lst zs) ∧ TupsAt H zs (rowsV rs) ∧ rs.length ≤ 40 ∧ ∀ q ys H', New H H' q (.lst ys) → TupsAt H' ys (stepsV (downF f rs).1) → Q (.ref q) H'
def sp_sup : Sp := fun vs H Q _ => ∃ (l : Addr) (f : Int) (zs : List V) (rs : List Rw), vs = [.ref l, .int f] ∧ H l = some (.lst zs) ∧ TupsAt H zs (rowsV rs) ∧ rs.length ≤ 40 ∧ ∀ q ys H', New H H' q (.lst ys) → TupsAt H' ys (stepsV (upF f rs.reverse).1) → Q (.ref q) H'
def sp_moves : Sp := fun vs H Q _ => ∃ (l : Addr) (zs : List V) (ss : List Stp), vs = [.ref l] ∧ H l = some (.lst zs) ∧ TupsAt H zs (stepsV ss) ∧ ss.length ≤ 40 ∧ ∀ q ys H', New H H' q (.lst ys) → TupsAt H' ys (movesV ss) → Q (.ref q) H'
section
variable {K : PySem.W.Frag} {CL x p q dx l : Addr} {H H0 : Hp} {M : List Addr} {L : List (Addr × HO)} {I : List Im} {Q : VK} {E : XK} {n : Nat} {f : Int} {ys zs : List V} {rs : List Rw} {ss : List Stp} {Z : Addr → Hp → Prop}
instance go_sdown [h2 : Hat H l (.lst zs)] [t : TpA H zs (rowsV rs)] : Go (sp_sdown [.ref l, .int f] H Q E) (Sd (rs.length ≤ 40) (∀ q ys H', New H H' q (.lst ys) → TupsAt H' ys (stepsV (downF f rs).1) → Q (.ref q) H')) := ⟨fun s => ⟨l, f, zs, rs, rfl, h2.e, t.e, s.1, s.2⟩⟩
instance go_sup [h2 : Hat H l (.lst zs)] [t : TpA H zs (rowsV rs)] : Go (sp_sup [.ref l, .int f] H Q E) (Sd (rs.length ≤ 40) (∀ q ys H', New H H' q (.lst ys) → TupsAt H' ys (stepsV (upF f rs.reverse).1) → Q (.ref q) H')) := ⟨fun s => ⟨l, f, zs, rs, rfl, h2.e, t.e, s.1, s.2⟩⟩
instance go_moves [h2 : Hat H l (.lst zs)] [t : TpA H zs (stepsV ss)] : Go (sp_moves [.ref l] H Q E) (Sd (ss.length ≤ 40) (∀ q ys H', New H H' q (.lst ys) → TupsAt H' ys (movesV ss) → Q (.ref q) H')) := ⟨fun s => ⟨l, zs, ss, rfl, h2.e, t.e, s.1, s.2⟩⟩
instance nx_steps [F : SH H0 M H L I] : Go (∀ p ys H', New H H' p (.lst ys) → TupsAt H' ys (stepsV ss) → Z p H') (∀ H' p ys, ys.length = ss.length → SH H0 M H' ((p, .lst ys) :: L) (.tps ys (stepsV ss) :: I) → Z p H') := ⟨fun k p ys H' n t => k H' p ys (by rw [t.1, stepsV_len]) (F.newR n t)⟩
instance nx_moves [F : SH H0 M H L I] : Go (∀ p ys H', New H H' p (.lst ys) → TupsAt H' ys (movesV ss) → Z p H') (∀ H' p ys, ys.length = ss.length → SH H0 M H' ((p, .lst ys) :: L) (.tps ys (movesV ss) :: I) → Z p H') := ⟨fun k p ys H' n t => k H' p ys (by rw [t.1, movesV_len]) (F.newR n t)⟩
end
section
variable {P : Program} {w : World} {K : PySem.W.Frag} {mg : Str → Option Value} {base : Heap} {c : Nat → Addr} {ct_Linit pt_Linit ct_order pt_order R CL : Addr}
theorem D_sdown (T : Txt K mg c R CL ct_Linit pt_Linit ct_order pt_order) : Def P w K mg base CX0 1 "steps_down" ["blocks", "first"] sp_sdown := by
  refine def_of T.d_sdown sc_sdown (fun vs H Q E h => ?_) (fun _ _ _ _ _ _ us hl => match us, hl with | [_, _], _ => rfl) (fun f cdv A outer s H vs Q E hr h => ?_)
  · obtain ⟨l, f, zs, rs, rfl, _⟩ := h
    rfl
  · obtain ⟨l, f, zs, rs, rfl, hl, tp, few, k⟩ := h
    have nd := sc_sdown.nd
    refine ⟨_, (pss_cons (ps_set (i := 2) nd rfl (Or.inl rfl) (pe_lstA pa_nil))
      (pss_cons (ps_set (i := 3) nd rfl (Or.inl rfl) (pv 1))
      (pss_cons (ps_for PassesOwn.never rfl (pi_list (pv 0)) (pg_tup rfl (pgs_cons (pg_name (i := 4) nd rfl (Or.inl rfl)) (pgs_cons (pg_name (i := 5) nd rfl (Or.inl rfl)) (pgs_cons (pg_name (i := 6) nd rfl (Or.inl rfl)) (pgs_cons (pg_name (i := 7) nd rfl (Or.inl rfl)) pgs_nil))))) (pss_cons (ps_set (i := 8) nd rfl (Or.inl rfl) (pe_ifExp (pt_cmpR op_gt (pv 7) pe_int (nomark _)) (pv 5) (pv 3)))
        (pss_cons (ps_if (pt_cmpR op_ne (pv 8) (pv 5) (nomark _)) (pss_one (ps_expr (pe_appendA (pv 2) (pe_tupA (pa_cons (pv 4) (pa_cons (pv 5) (pa_cons (pv 6) (pa_cons (pv 8) pa_nil)))))))) pss_nil)
        (pss_one (ps_set (i := 3) nd rfl (Or.inl rfl) (pe_op op_add (pv 8) (pv 6)))))))
      (pss_one (ps_ret (pv 2)))))), ?_⟩
    clear nd 
    rw [show start ["blocks", "first", "steps", "end_ahead", "name", "start", "size", "pins", "to"] [.ref l, .int f] = [some (.ref l), some (.int f), none, none, none, none, none, none, none] from rfl]
    try dsimp only [cx_K, cx_K2]
    have iL_many : FldOk K CL "many" := ⟨T.clL, T.aL_many⟩
    have iL_rows : FldOk K CL "rows" := ⟨T.clL, T.aL_rows⟩
    have o_hl := Old.mk (M := []) hl nm0
    have o_tp := OldP.mk tp
    have F : SH H [] H [] [] := SH.nil
    have zl : zs.length = rs.length := by rw [tp.1, rowsV_len]
    repeat k_meth
    rename Addr => sl
    refine forL_by (xs := zs) (fun i σ' H' => ∃ (o4 o5 o6 o7 o8 : Option V) (ys : List V), σ' = [some (.ref l), some (.int f), some (.ref sl), some (.int (downF f (rs.take i)).2), o4, o5, o6, o7, o8] ∧ ys.length = (downF f (rs.take i)).1.length ∧ SH H [] H' [(sl, .lst ys)] [.tps ys (stepsV (downF f (rs.take i)).1)]) ⟨_, _, _, _, _, [], rfl, rfl, (F.addP (ys := []) (rs := stepsV []) TupsAt.nil).sub SbC.s (fun _ h => h)⟩ ?_ ?_ ?_
    · clear F
      rintro i σ' H' _ ⟨_, _, _, _, _, ys, rfl, yl, F⟩
      exact SqA.e
    · clear F
      rintro i v σ' H' hv ⟨_, _, _, _, _, ys, rfl, yl, F⟩
      obtain ⟨r, q1, e1, rfl, e2⟩ := rowsV_at tp hv
      
      have o_e2 := Old.mk (M := []) e2 nm0
      have dl := downF_len f (rs.take i)
      rw [List.length_take] at dl
      have hi41 : i ≤ 40 := by
        have := (List.getElem?_eq_some_iff.mp hv).1
        omega
      by_cases hp : 0 < r.pn
      · repeat k_meth
        refine ⟨_, _, _, _, _, ys, by rw [take_snocR e1, downF_snoc, stD_pin hp], by rw [take_snocR e1, downF_snoc, stD_pin hp]; exact yl, ?_⟩
        rw [take_snocR e1, downF_snoc, stD_pin hp]
        exact F.sub SbC.s (by simp)
      · by_cases he : (downF f (rs.take i)).2 = (r.st : Int)
        · repeat k_meth
          refine ⟨_, _, _, _, _, ys, by rw [take_snocR e1, downF_snoc, stD_eq hp he], by rw [take_snocR e1, downF_snoc, stD_eq hp he]; exact yl, ?_⟩
          rw [take_snocR e1, downF_snoc, stD_eq hp he]
          exact F.sub SbC.s (by simp)
        · repeat k_meth
          rename Addr => tq
          have F2 := SH.app (ys := ys) (rs := stepsV (downF f (rs.take i)).1) (q := tq) (r := stepV (r, (downF f (rs.take i)).2)) F (LkP.m) (LkI.m)
          rw [← stepsV_snoc] at F2
          refine ⟨_, _, _, _, _, ys ++ [.ref tq], by rw [take_snocR e1, downF_snoc, stD_ne hp he], by rw [take_snocR e1, downF_snoc, stD_ne hp he]; simp [yl], ?_⟩
          rw [take_snocR e1, downF_snoc, stD_ne hp he]
          exact F2.sub SbC.s (by simp)
    · clear F
      rintro σ' H' ⟨_, _, _, _, _, ys, rfl, yl, F⟩
      rw [zl, List.take_of_length_le (by omega)] at F
      repeat k_meth
      exact k _ _ _ SH.nwC TpA.e
theorem D_sup (T : Txt K mg c R CL ct_Linit pt_Linit ct_order pt_order) : Def P w K mg base CX0 1 "steps_up" ["blocks", "behind"] sp_sup := by
  refine def_of T.d_sup sc_sup (fun vs H Q E h => ?_) (fun _ _ _ _ _ _ us hl => match us, hl with | [_, _], _ => rfl) (fun f cdv A outer s H vs Q E hr h => ?_)
  · obtain ⟨l, f, zs, rs, rfl, _⟩ := h
    rfl
  · obtain ⟨l, f, zs, rs, rfl, hl, tp, few, k⟩ := h
    have nd := sc_sup.nd
    refine ⟨_, (pss_cons (ps_set (i := 2) nd rfl (Or.inl rfl) (pe_lstA pa_nil))
      (pss_cons (ps_set (i := 3) nd rfl (Or.inl rfl) (pv 1))
      (pss_cons (ps_for PassesOwn.never rfl (pi_rev rfl T.n_reversed (pa_cons (pv 0) pa_nil)) (pg_tup rfl (pgs_cons (pg_name (i := 4) nd rfl (Or.inl rfl)) (pgs_cons (pg_name (i := 5) nd rfl (Or.inl rfl)) (pgs_cons (pg_name (i := 6) nd rfl (Or.inl rfl)) (pgs_cons (pg_name (i := 7) nd rfl (Or.inl rfl)) pgs_nil))))) (pss_cons (ps_set (i := 8) nd rfl (Or.inl rfl) (pe_ifExp (pt_cmpR op_gt (pv 7) pe_int (nomark _)) (pv 5) (pe_op op_sub (pv 3) (pv 6))))
        (pss_cons (ps_if (pt_cmpR op_ne (pv 8) (pv 5) (nomark _)) (pss_one (ps_expr (pe_appendA (pv 2) (pe_tupA (pa_cons (pv 4) (pa_cons (pv 5) (pa_cons (pv 6) (pa_cons (pv 8) pa_nil)))))))) pss_nil)
        (pss_one (ps_set (i := 3) nd rfl (Or.inl rfl) (pv 8))))))
      (pss_one (ps_ret (pv 2)))))), ?_⟩
    clear nd 
    rw [show start ["blocks", "behind", "steps", "start_behind", "name", "start", "size", "pins", "to"] [.ref l, .int f] = [some (.ref l), some (.int f), none, none, none, none, none, none, none] from rfl]
    try dsimp only [cx_K, cx_K2]
    have iL_many : FldOk K CL "many" := ⟨T.clL, T.aL_many⟩
    have iL_rows : FldOk K CL "rows" := ⟨T.clL, T.aL_rows⟩
    have o_hl := Old.mk (M := []) hl nm0
    have o_tp := OldP.mk tp
    have F : SH H [] H [] [] := SH.nil
    have zl : zs.length = rs.length := by rw [tp.1, rowsV_len]
    repeat k_meth
    rename Addr => sl
    refine forV_by (xs := zs) (fun i σ' H' => ∃ (o4 o5 o6 o7 o8 : Option V) (ys : List V), σ' = [some (.ref l), some (.int f), some (.ref sl), some (.int (upF f (rs.reverse.take i)).2), o4, o5, o6, o7, o8] ∧ ys.length = (upF f (rs.reverse.take i)).1.length ∧ SH H [] H' [(sl, .lst ys)] [.tps ys (stepsV (upF f (rs.reverse.take i)).1)]) ⟨_, _, _, _, _, [], rfl, rfl, (F.addP (ys := []) (rs := stepsV []) TupsAt.nil).sub SbC.s (fun _ h => h)⟩ ?_ ?_ ?_
    · clear F
      rintro i σ' H' _ ⟨_, _, _, _, _, ys, rfl, yl, F⟩
      exact SqA.e
    · clear F
      rintro i v σ' H' hi hv ⟨_, _, _, _, _, ys, rfl, yl, F⟩
      obtain ⟨r, q1, e1, rfl, e2⟩ := rowsV_at tp hv
      replace e1 := rev_at zl hi e1
      have o_e2 := Old.mk (M := []) e2 nm0
      have dl := upF_len f (rs.reverse.take i)
      rw [List.length_take, List.length_reverse] at dl
      have hi41 : i ≤ 40 := by
        have := (List.getElem?_eq_some_iff.mp hv).1
        omega
      by_cases hp : 0 < r.pn
      · repeat k_meth
        refine ⟨_, _, _, _, _, ys, by rw [take_snocR e1, upF_snoc, stU_pin hp], by rw [take_snocR e1, upF_snoc, stU_pin hp]; exact yl, ?_⟩
        rw [take_snocR e1, upF_snoc, stU_pin hp]
        exact F.sub SbC.s (by simp)
      · by_cases he : (upF f (rs.reverse.take i)).2 - (r.sz : Int) = (r.st : Int)
        · repeat k_meth
          refine ⟨_, _, _, _, _, ys, by rw [take_snocR e1, upF_snoc, stU_eq hp he], by rw [take_snocR e1, upF_snoc, stU_eq hp he]; exact yl, ?_⟩
          rw [take_snocR e1, upF_snoc, stU_eq hp he]
          exact F.sub SbC.s (by simp)
        · repeat k_meth
          rename Addr => tq
          have F2 := SH.app (ys := ys) (rs := stepsV (upF f (rs.reverse.take i)).1) (q := tq) (r := stepV (r, (upF f (rs.reverse.take i)).2 - (r.sz : Int))) F (LkP.m) (LkI.m)
          rw [← stepsV_snoc] at F2
          refine ⟨_, _, _, _, _, ys ++ [.ref tq], by rw [take_snocR e1, upF_snoc, stU_ne hp he], by rw [take_snocR e1, upF_snoc, stU_ne hp he]; simp [yl], ?_⟩
          rw [take_snocR e1, upF_snoc, stU_ne hp he]
          exact F2.sub SbC.s (by simp)
    · clear F
      rintro σ' H' ⟨_, _, _, _, _, ys, rfl, yl, F⟩
      rw [zl, List.take_of_length_le (by rw [List.length_reverse]; omega)] at F
      repeat k_meth
      exact k _ _ _ SH.nwC TpA.e
theorem D_moves (T : Txt K mg c R CL ct_Linit pt_Linit ct_order pt_order) : Def P w K mg base CX0 1 "moves_of" ["steps"] sp_moves := by
  refine def_of T.d_moves sc_moves (fun vs H Q E h => ?_) (fun _ _ _ _ _ _ us hl => match us, hl with | [_], _ => rfl) (fun f cdv A outer s H vs Q E hr h => ?_)
  · obtain ⟨l, zs, ss, rfl, _⟩ := h
    rfl
  · obtain ⟨l, zs, ss, rfl, hl, tp, few, k⟩ := h
    have nd := sc_moves.nd
    refine ⟨_, (pss_one (ps_ret (pe_comp (N := ["step"]) (nt := 1) (fr := []) (pi_list (pv 0)) (fun _ _ _ _ => (pg_name (i := 0) (show (["step"] : List Str).Nodup from by decide +kernel) rfl (Or.inl rfl))) (fun _ _ _ _ => pif_nil) (fun _ _ _ _ => (pe_tupA (pa_cons (pe_ix (ix_tupK (K := K) rfl) (pv 0) pe_int (fun _ _ => rfl)) (pa_cons (pe_ix (ix_tupK (K := K) rfl) (pv 0) pe_int (fun _ _ => rfl)) pa_nil))))))), ?_⟩
    clear nd 
    rw [show start ["steps"] [.ref l] = [some (.ref l)] from rfl]
    try dsimp only [cx_K, cx_K2]
    have iL_many : FldOk K CL "many" := ⟨T.clL, T.aL_many⟩
    have iL_rows : FldOk K CL "rows" := ⟨T.clL, T.aL_rows⟩
    have o_hl := Old.mk (M := []) hl nm0
    have o_tp := OldP.mk tp
    have F : SH H [] H [] [] := SH.nil
    have zl : zs.length = ss.length := by rw [tp.1, stepsV_len]
    repeat k_meth
    refine comp_W (fvs := []) hatC (TpA.e (rs := stepsV ss)) (by omega) rfl (fun i ys H' => TupsAt H' ys (movesV (ss.take i))) (fun i ys H1 H2 s t => tups_st s t) TupsAt.nil (fun i q1 r ys H' R e1 s1 e2 g kk => ?_) fun q ys H' n1 g => ?_
    · clear F
      have F : SH H' [] H' [] [] := SH.nil
      obtain ⟨s, e3, rfl⟩ := map_at e1
      have o_e2 := Old.mk (M := []) e2 nm0
      repeat k_meth
      refine kk _ _ F.sm ?_
      rw [take_snocR e3, movesV_snoc]
      exact TupsAt.snoc (g.same F.sm) hatC
    · rw [List.take_of_length_le (by omega)] at g
      replace F := F.newR n1 g
      repeat k_meth
      exact k _ _ _ SH.nwC TpA.e
end
open M22
theorem comp_G {K : PySem.W.Frag} {l : Addr} {xs : List V} {rows : List (List V)} {σ fvs : L2.St} {fr : List Nat} {c : TT} {te : TE} {H : Hp} {Q : VK} {P : List V → Bool} (hq : H l = some (.lst xs)) (tp : TupsAt H xs rows) (hz : xs.length ≤ 1000000) (hf : (fr.map fun i => (σ[i]?).getD none) = fvs)
    (G : Nat → List V → Hp → Prop) (st : ∀ i ys H1 H2, (∀ q u, H1 q = some (.tup u) → H2 q = some (.tup u)) → G i ys H1 → G i ys H2) (g0 : G 0 [] H)
    (turnC : ∀ (i : Nat) (q : Addr) r (H' : Hp) (R : Bool → Hp → Prop), rows[i]? = some r → Same H H' → H' q = some (.tup r) → (∀ H2, Same H' H2 → R (P r) H2) → c (some (.ref q) :: fvs) H' R)
    (turnE : ∀ (i : Nat) (q : Addr) r ys (H' : Hp) (R : VK), rows[i]? = some r → P r = true → Same H H' → H' q = some (.tup r) → G i ys H' → (∀ y H2, Same H' H2 → G (i + 1) (ys ++ [y]) H2 → R y H2) → te (some (.ref q) :: fvs) H' R)
    (skip : ∀ (i : Nat) r ys (H' : Hp), rows[i]? = some r → P r = false → G i ys H' → G (i + 1) ys H')
    (k : ∀ p ys H', New H H' p (.lst ys) → G xs.length ys H' → Q (.ref p) H') : CompAll (Itl K l) 1 fr (gName 0) c te σ H Q := by
  intro acc hacc
  subst hf
  have nacc : ∀ b u, H b = some u → b ≠ acc := fun b u e => ne_of_none e hacc
  have n0 : New H (upd H acc (.lst [])) acc (.lst []) := .mk' hacc
  refine comp_by (items_list (xs := xs)) (fun i ys H' => H' acc = some (.lst ys) ∧ Same H H' ∧ ys.length ≤ i ∧ G i ys H') ⟨n0.e, n0.s, Nat.le_refl _, st _ _ _ _ (fun q u e => n0.s _ _ e) g0⟩ (fun i ys H' _ h => ⟨h.2.1.seq (SqL.of hq), h.1⟩) ?_ ?_
  · rintro i x tv ys H' hx hi ⟨ha, hs, hl, hg⟩ htv
    obtain ⟨t0, rfl⟩ : ∃ a, tv = [a] := List.length_eq_one_iff.mp htv
    obtain ⟨r, q, e1, rfl, e2⟩ := tups_at tp hx
    refine wn0 ?_
    refine turnC i q r H' _ e1 hs (hs _ _ e2) fun H2 s2 => ?_
    have g2 := st _ _ _ _ (fun q u e => s2 _ _ e) hg
    have ha2 : H2 acc = some (.lst ys) := s2 _ _ ha
    by_cases hp : P r = true
    · rw [hp, if_pos rfl]
      refine turnE i q r ys H2 _ e1 hp (hs.trans s2) (s2 _ _ (hs _ _ e2)) g2 fun y H3 s3 g3 => ⟨Nat.lt_of_le_of_lt hl (Nat.lt_of_lt_of_le hi (small_line hz)), s3 _ _ ha2, CompW.next (tv := [some (.ref q)]) hi ⟨upd_same, fun b u e => ?_, by rw [List.length_append, List.length_singleton]; omega, st _ _ _ _ (fun q' u e => ?_) g3⟩ rfl⟩
      · rw [upd_ne (nacc b u e)]
        exact s3 _ _ (s2 _ _ (hs _ _ e))
      · have e3 : H3 acc = some (.lst ys) := s3 _ _ ha2
        rw [upd_ne (fun z => by rw [z, e3] at e; cases e)]
        exact e
    · have hp : P r = false := by simpa using hp
      rw [hp, if_neg (by decide)]
      exact CompW.next (tv := [some (.ref q)]) hi ⟨ha2, hs.trans s2, by omega, skip i r ys H2 e1 hp g2⟩ rfl
  · rintro ys H' ⟨ha, hs, _, hg⟩
    exact k acc ys H' ⟨hs, ha, nacc⟩ hg
section
variable {K : PySem.W.Frag} {H : Hp} {Q : VK} {p q l : Addr} {ns : List Int} {c : Int}
instance go_sumL [h : SqA K H l (ns.map V.int)] : Go (rSumL K [.ref l] H Q) (Sd ((∀ n ∈ ns, 0 ≤ n ∧ n ≤ 1000000) ∧ ns.length ≤ 1000000) (Q (.int ns.sum) H)) := ⟨fun s => w_sumL h.e s.1.1 s.1.2 s.2⟩
end
def within (a b : Int) (r : Rw) : Bool := decide (a ≤ (r.st : Int)) && decide ((r.st : Int) < b)
def freeB (rs : List Rw) (a b : Int) : Int := b - a - ((rs.filter (within a b)).map fun r => (r.sz : Int)).sum
def sp_between (CL : Addr) : Sp := fun vs H Q _ => ∃ (x p dx : Addr) (n : Nat) (zs : List V) (rs : List Rw) (a b : Int), vs = [.ref x, .int a, .int b] ∧ H x = some (.ins CL dx (lF (n : Nat) p)) ∧ H p = some (.lst zs) ∧ TupsAt H zs (rowsV rs) ∧ rs.length ≤ 40 ∧ ∀ q ys H', New H H' q (.lst ys) → TupsAt H' ys (rowsV (rs.filter (within a b))) → Q (.ref q) H'
def sp_freeb (CL : Addr) : Sp := fun vs H Q _ => ∃ (x p dx : Addr) (n : Nat) (zs : List V) (rs : List Rw) (a b : Int), vs = [.ref x, .int a, .int b] ∧ H x = some (.ins CL dx (lF (n : Nat) p)) ∧ H p = some (.lst zs) ∧ TupsAt H zs (rowsV rs) ∧ (rs.length ≤ 40 ∧ ∀ r ∈ rs, r.sz ≤ 240) ∧ ∀ H', Same H H' → Q (.int (freeB rs a b)) H'
section
variable {CL x p dx l : Addr} {H : Hp} {Q : VK} {E : XK} {n : Nat} {zs : List V} {rs : List Rw} {a b : Int}
instance go_between [h : Hat H x (.ins CL dx (lF (n : Nat) p))] [h2 : Hat H p (.lst zs)] [t : TpA H zs (rowsV rs)] : Go (sp_between CL [.ref x, .int a, .int b] H Q E) (Sd (rs.length ≤ 40) (∀ q ys H', New H H' q (.lst ys) → TupsAt H' ys (rowsV (rs.filter (within a b))) → Q (.ref q) H')) := ⟨fun s => ⟨x, p, dx, n, zs, rs, a, b, rfl, h.e, h2.e, t.e, s.1, s.2⟩⟩
instance go_freeb [h : Hat H x (.ins CL dx (lF (n : Nat) p))] [h2 : Hat H p (.lst zs)] [t : TpA H zs (rowsV rs)] : Go (sp_freeb CL [.ref x, .int a, .int b] H Q E) (Sd (rs.length ≤ 40 ∧ ∀ r ∈ rs, r.sz ≤ 240) (∀ H', Same H H' → Q (.int (freeB rs a b)) H')) := ⟨fun s => ⟨x, p, dx, n, zs, rs, a, b, rfl, h.e, h2.e, t.e, s.1, s.2⟩⟩
end
def inV2 (a b : Int) (r : List V) : Bool := match r with
  | [_, .int s, _, _] => decide (a ≤ s) && decide (s < b)
  | _ => false
theorem filt_rows (rs : List Rw) (a b : Int) : (rowsV rs).filter (inV2 a b) = rowsV (rs.filter (within a b)) := by
  unfold rowsV
  rw [List.filter_map]
  rfl
theorem take_rows {rows : List (List V)} {i : Nat} {r : List V} (h : rows[i]? = some r) : rows.take (i + 1) = rows.take i ++ [r] := by rw [List.take_succ, h]; rfl
section
variable {P : Program} {w : World} {K : PySem.W.Frag} {mg : Str → Option Value} {base : Heap} {c : Nat → Addr} {ct_Linit pt_Linit ct_order pt_order R CL : Addr}
theorem D_between (T : Txt K mg c R CL ct_Linit pt_Linit ct_order pt_order) : Def P w K mg base CX0 2 "blocks_between" ["layout", "first", "behind"] (sp_between CL) := by
  have MT_Lblocks := MT_Lblocks (P := P) (w := w) (base := base) T
  refine def_of T.d_between sc_between (fun vs H Q E h => ?_) (fun _ _ _ _ _ _ us hl => match us, hl with | [_, _, _], _ => rfl) (fun f cdv A outer s H vs Q E hr h => ?_)
  · obtain ⟨x, p, dx, n, zs, rs, a, b, rfl, _⟩ := h
    rfl
  · obtain ⟨x, p, dx, n, zs, rs, a, b, rfl, hx, hp, tp, few, k⟩ := h
    have nd := sc_between.nd
    refine ⟨_, (pss_one (ps_ret (pe_comp (N := ["block", "first", "behind"]) (nt := 1) (fr := [1, 2]) (pi_list (pe_met0 (pv 0) T.clL MT_Lblocks hr)) (fun _ _ _ _ => (pg_name (i := 0) (show (["block", "first", "behind"] : List Str).Nodup from by decide +kernel) rfl (Or.inl rfl))) (fun _ _ _ _ => pif_one (pt_chain op_le op_lt (pv 1) (pe_ix (ix_tupK (K := K) rfl) (pv 0) pe_int (fun _ _ => rfl)) (pv 2))) (fun _ _ _ _ => (pv 0))))), ?_⟩
    clear nd MT_Lblocks
    rw [show start ["layout", "first", "behind"] [.ref x, .int a, .int b] = [some (.ref x), some (.int a), some (.int b)] from rfl]
    try dsimp only [cx_K, cx_K2]
    have iL_many : FldOk K CL "many" := ⟨T.clL, T.aL_many⟩
    have iL_rows : FldOk K CL "rows" := ⟨T.clL, T.aL_rows⟩
    have o_hx := Old.mk (M := []) hx nm0
    have o_hp := Old.mk (M := []) hp nm0
    have o_tp := OldP.mk tp
    have F : SH H [] H [] [] := SH.nil
    have yl : zs.length = rs.length := by rw [tp.1, rowsV_len]
    repeat k_meth
    refine comp_G (P := inV2 a b) (fvs := [some (.int a), some (.int b)]) hatC (TpA.e (rs := rowsV rs)) (by omega) rfl (fun i ys H' => TupsAt H' ys (((rowsV rs).take i).filter (inV2 a b))) (fun i ys H1 H2 s t => tups_st s t) TupsAt.nil (fun i q1 r H' R e1 s1 e2 kk => ?_) (fun i q1 r ys H' R e1 hp s1 e2 g kk => ?_) (fun i r ys H' e1 hp g => by rw [take_rows e1, List.filter_append, List.filter_cons_of_neg (by simp [hp]), List.filter_nil, List.append_nil]; exact g) fun q ys H' n1 g => ?_
    · clear F
      have F : SH H' [] H' [] [] := SH.nil
      obtain ⟨s, _, rfl⟩ := List.mem_map.mp (List.mem_of_getElem? e1)
      have o_e2 := Old.mk (M := []) e2 nm0
      have kk : ∀ H2, Same H' H2 → R (decide (a ≤ (s.st : Int)) && decide ((s.st : Int) < b)) H2 := kk
      repeat k_meth
      refine i_dec (fun h => ?_) (fun h => ?_)
      · repeat k_meth
        rw [decide_eq_true h, Bool.true_and] at kk
        exact kk _ (Same.refl _)
      · repeat k_meth
        rw [decide_eq_false h, Bool.false_and] at kk
        exact kk _ (Same.refl _)
    · repeat k_meth
      refine kk _ _ (Same.refl _) ?_
      rw [take_rows e1, List.filter_append, List.filter_cons_of_pos hp, List.filter_nil]
      exact TupsAt.snoc g e2
    · rw [List.take_of_length_le (by rw [rowsV_len]; omega), filt_rows] at g
      replace F := F.newR n1 g
      repeat k_meth
      exact k _ _ _ SH.nwC TpA.e
theorem D_freeb (T : Txt K mg c R CL ct_Linit pt_Linit ct_order pt_order) : Def P w K mg base CX0 3 "free_between" ["layout", "first", "behind"] (sp_freeb CL) := by
  have D_between := D_between (P := P) (w := w) (base := base) T
  refine def_of T.d_freeb sc_freeb (fun vs H Q E h => ?_) (fun _ _ _ _ _ _ us hl => match us, hl with | [_, _, _], _ => rfl) (fun f cdv A outer s H vs Q E hr h => ?_)
  · obtain ⟨x, p, dx, n, zs, rs, a, b, rfl, _⟩ := h
    rfl
  · obtain ⟨x, p, dx, n, zs, rs, a, b, rfl, hx, hp, tp, few, k⟩ := h
    have nd := sc_freeb.nd
    refine ⟨_, (pss_one (ps_ret (pe_op op_sub (pe_op op_sub (pv 2) (pv 1)) (pe_callB (call_sumL rfl) rfl T.n_sum boot_sum (pa_cons (pe_comp (N := ["block"]) (nt := 1) (fr := []) (pi_list (pe_def D_between hr (pa_cons (pv 0) (pa_cons (pv 1) (pa_cons (pv 2) pa_nil))))) (fun _ _ _ _ => (pg_name (i := 0) (show (["block"] : List Str).Nodup from by decide +kernel) rfl (Or.inl rfl))) (fun _ _ _ _ => pif_nil) (fun _ _ _ _ => (pe_ix (ix_tupK (K := K) rfl) (pv 0) pe_int (fun _ _ => rfl)))) pa_nil))))), ?_⟩
    clear nd D_between
    rw [show start ["layout", "first", "behind"] [.ref x, .int a, .int b] = [some (.ref x), some (.int a), some (.int b)] from rfl]
    try dsimp only [cx_K, cx_K2]
    have iL_many : FldOk K CL "many" := ⟨T.clL, T.aL_many⟩
    have iL_rows : FldOk K CL "rows" := ⟨T.clL, T.aL_rows⟩
    have o_hx := Old.mk (M := []) hx nm0
    have o_hp := Old.mk (M := []) hp nm0
    have o_tp := OldP.mk tp
    have F : SH H [] H [] [] := SH.nil
    have few1 := few.1
    have fl : (rs.filter (within a b)).length ≤ 40 := Nat.le_trans (List.length_filter_le _ _) few.1
    repeat k_meth
    refine comp_rows (F := fun r => r.getD 2 .non) hatC (TpA.e (rs := rowsV (rs.filter (within a b)))) (by omega) rfl (fun q r H1 R hr s1 e1 kk => ?_) ?_
    · clear F
      have F : SH H1 [] H1 [] [] := SH.nil
      obtain ⟨s, _, rfl⟩ := List.mem_map.mp hr
      have o_e1 := Old.mk (M := []) e1 nm0
      repeat k_meth
      exact kk _ (Same.refl _)
    · have e5 : (rowsV (rs.filter (within a b))).map (fun r => r.getD 2 V.non) = ((rs.filter (within a b)).map fun r => ((r.sz : Nat) : Int)).map V.int := by
        unfold rowsV
        rw [List.map_map, List.map_map]
        rfl
      rw [e5]
      have side : (∀ n ∈ (rs.filter (within a b)).map fun r => ((r.sz : Nat) : Int), 0 ≤ n ∧ n ≤ 1000000) ∧ ((rs.filter (within a b)).map fun r => ((r.sz : Nat) : Int)).length ≤ 1000000 := by
        refine ⟨fun n hn => ?_, by rw [List.length_map]; omega⟩
        obtain ⟨r, hr, rfl⟩ := List.mem_map.mp hn
        have := few.2 r (List.mem_filter.mp hr).1
        omega
      repeat k_meth
      exact k _ F.sm
end
abbrev W3 := Int × Int × Int
abbrev row3 (w : W3) : List V := [V.int w.1, V.int w.2.1, V.int w.2.2]
def rows3 (ws : List W3) : List (List V) := ws.map row3
theorem rows3_len (ws : List W3) : (rows3 ws).length = ws.length := List.length_map ..
theorem rows3_snoc (ws : List W3) (w : W3) : rows3 (ws ++ [w]) = rows3 ws ++ [row3 w] := by unfold rows3; rw [List.map_append]; rfl
def spF (r0 rs : List Rw) : List W3 × Int := rs.foldl (fun g r => if 0 < r.pn then (g.1 ++ [(g.2, (r.st : Int), freeB r0 g.2 r.st)], (r.st : Int) + (r.sz : Int)) else g) ([], 0)
theorem spF_snoc (r0 rs : List Rw) (r : Rw) : spF r0 (rs ++ [r]) = if 0 < r.pn then ((spF r0 rs).1 ++ [((spF r0 rs).2, (r.st : Int), freeB r0 (spF r0 rs).2 r.st)], (r.st : Int) + (r.sz : Int)) else spF r0 rs := by unfold spF; rw [List.foldl_append]; rfl
def strF (n : Nat) (rs : List Rw) : List W3 := (spF rs rs).1 ++ [((spF rs rs).2, (n : Int), freeB rs (spF rs rs).2 n)]
theorem snocR {P : List Rw → Prop} (h0 : P []) (h1 : ∀ rs r, P rs → P (rs ++ [r])) (rs : List Rw) : P rs := by
  have : ∀ n, ∀ rs : List Rw, rs.length = n → P rs := by
    intro n
    induction n with
    | zero => intro rs h; rw [List.length_eq_zero_iff.mp h]; exact h0
    | succ n ih =>
      intro rs h
      have hne : rs ≠ [] := fun z => by rw [z] at h; simp at h
      have e := List.dropLast_concat_getLast hne
      rw [← e]
      exact h1 _ _ (ih _ (by rw [List.length_dropLast]; omega))
  exact this rs.length rs rfl
theorem spF_len (r0 rs : List Rw) : (spF r0 rs).1.length ≤ rs.length := by
  induction rs using snocR with
  | h0 => exact Nat.le_refl _
  | h1 rs r ih =>
    rw [spF_snoc]
    split
    · simp only [List.length_append, List.length_singleton]; omega
    · simp only [List.length_append, List.length_singleton]; omega
def sp_stretches (CL : Addr) : Sp := fun vs H Q _ => ∃ (x p dx : Addr) (n : Nat) (zs : List V) (rs : List Rw), vs = [.ref x] ∧ H x = some (.ins CL dx (lF (n : Nat) p)) ∧ H p = some (.lst zs) ∧ TupsAt H zs (rowsV rs) ∧ (rs.length ≤ 40 ∧ ∀ r ∈ rs, r.sz ≤ 240) ∧ ∀ q ys H', New H H' q (.lst ys) → TupsAt H' ys (rows3 (strF n rs)) → Q (.ref q) H'
section
variable {K : PySem.W.Frag} {CL x p dx l q a : Addr} {H H0 : Hp} {M : List Addr} {L : List (Addr × HO)} {I : List Im} {Q : VK} {E : XK} {n : Nat} {xs ys zs : List V} {rs : List Rw} {ws : List W3} {Z : Addr → Hp → Prop} {t0 te : TE} {nt : Nat} {fr : List Nat} {g : TG} {cc : TT} {σ fvs : L2.St} {i : Int}
instance go_stretches [h : Hat H x (.ins CL dx (lF (n : Nat) p))] [h2 : Hat H p (.lst zs)] [t : TpA H zs (rowsV rs)] : Go (sp_stretches CL [.ref x] H Q E) (Sd (rs.length ≤ 40 ∧ ∀ r ∈ rs, r.sz ≤ 240) (∀ q ys H', New H H' q (.lst ys) → TupsAt H' ys (rows3 (strF n rs)) → Q (.ref q) H')) := ⟨fun s => ⟨x, p, dx, n, zs, rs, rfl, h.e, h2.e, t.e, s.1, s.2⟩⟩
instance nx_rows3 [F : SH H0 M H L I] : Go (∀ p ys H', New H H' p (.lst ys) → TupsAt H' ys (rows3 ws) → Z p H') (∀ H' p ys, ys.length = ws.length → SH H0 M H' ((p, .lst ys) :: L) (.tps ys (rows3 ws) :: I) → Z p H') := ⟨fun k p ys H' n t => k H' p ys (by rw [t.1, rows3_len]) (F.newR n t)⟩
instance go_wholeI : Go (sp_whole K [.int i] H Q E) (Q (.bl true) H) := ⟨fun k => ⟨_, _, rfl, .int i, k⟩⟩
end
theorem row3_at {H : Hp} {ws : List W3} {ys : List V} {i : Nat} {v : V} (h : TupsAt H ys (rows3 ws)) (e : ys[i]? = some v) : ∃ w q, ws[i]? = some w ∧ v = .ref q ∧ H q = some (.tup (row3 w)) := by
  obtain ⟨r, q, e1, e2, e3⟩ := tups_at h e
  unfold rows3 at e1
  rw [List.getElem?_map] at e1
  cases e4 : ws[i]? with
  | none => rw [e4] at e1; cases e1
  | some w => rw [e4] at e1; cases e1; exact ⟨w, q, rfl, e2, e3⟩
section
variable {P : Program} {w : World} {K : PySem.W.Frag} {mg : Str → Option Value} {base : Heap} {c : Nat → Addr} {ct_Linit pt_Linit ct_order pt_order R CL : Addr}
theorem D_stretches (T : Txt K mg c R CL ct_Linit pt_Linit ct_order pt_order) : Def P w K mg base CX0 4 "stretches_of" ["layout"] (sp_stretches CL) := by
  have MT_Lblocks := MT_Lblocks (P := P) (w := w) (base := base) T
  have D_end_of := D_end_of (P := P) (w := w) (base := base) T
  have D_freeb := D_freeb (P := P) (w := w) (base := base) T
  have D_cells_of := D_cells_of (P := P) (w := w) (base := base) T
  refine def_of T.d_stretches sc_stretches (fun vs H Q E h => ?_) (fun _ _ _ _ _ _ us hl => match us, hl with | [_], _ => rfl) (fun f cdv A outer s H vs Q E hr h => ?_)
  · obtain ⟨x, p, dx, n, zs, rs, rfl, _⟩ := h
    rfl
  · obtain ⟨x, p, dx, n, zs, rs, rfl, hx, hp, tp, few, k⟩ := h
    have nd := sc_stretches.nd
    refine ⟨_, (pss_cons (ps_set (i := 1) nd rfl (Or.inl rfl) (pe_lstA pa_nil))
      (pss_cons (ps_set (i := 2) nd rfl (Or.inl rfl) pe_int)
      (pss_cons (ps_for PassesOwn.never rfl (pi_list (pe_met0 (pv 0) T.clL MT_Lblocks hr)) (pg_name (i := 3) nd rfl (Or.inl rfl)) (pss_one (ps_if (pt_cmpR op_gt (pe_ix ix_tup (pv 3) pe_int (fun _ _ => rfl)) pe_int (nomark _)) (pss_cons (ps_expr (pe_appendA (pv 1) (pe_tupA (pa_cons (pv 2) (pa_cons (pe_ix ix_tup (pv 3) pe_int (fun _ _ => rfl)) (pa_cons (pe_def D_freeb hr (pa_cons (pv 0) (pa_cons (pv 2) (pa_cons (pe_ix ix_tup (pv 3) pe_int (fun _ _ => rfl)) pa_nil)))) pa_nil))))))
          (pss_one (ps_set (i := 2) nd rfl (Or.inl rfl) (pe_def D_end_of hr (pa_cons (pe_def D_cells_of hr (pa_cons (pv 3) pa_nil)) pa_nil))))) pss_nil)))
      (pss_cons (ps_expr (pe_appendA (pv 1) (pe_tupA (pa_cons (pv 2) (pa_cons (pe_fld (pv 0) rfl) (pa_cons (pe_def D_freeb hr (pa_cons (pv 0) (pa_cons (pv 2) (pa_cons (pe_fld (pv 0) rfl) pa_nil)))) pa_nil))))))
      (pss_one (ps_ret (pv 1))))))), ?_⟩
    clear nd MT_Lblocks D_end_of D_freeb D_cells_of
    rw [show start ["layout", "stretches", "first", "block"] [.ref x] = [some (.ref x), none, none, none] from rfl]
    try dsimp only [cx_K, cx_K2]
    have iL_many : FldOk K CL "many" := ⟨T.clL, T.aL_many⟩
    have iL_rows : FldOk K CL "rows" := ⟨T.clL, T.aL_rows⟩
    have o_hx := Old.mk (M := []) hx nm0
    have o_hp := Old.mk (M := []) hp nm0
    have o_tp := OldP.mk tp
    have F : SH H [] H [] [] := SH.nil
    have few1 := few.1
    repeat k_meth
    rename_i _ sl
    rename Addr => bl
    refine forL_by (xs := zs) (fun i σ' H' => ∃ (o3 : Option V) (ys : List V), σ' = [some (.ref x), some (.ref sl), some (.int (spF rs (rs.take i)).2), o3] ∧ ys.length = (spF rs (rs.take i)).1.length ∧ SH H [] H' [(sl, .lst ys), (bl, .lst zs)] [.tps ys (rows3 (spF rs (rs.take i)).1)]) ⟨_, [], rfl, rfl, (F.addP (ys := []) (rs := rows3 []) TupsAt.nil).sub SbC.s (fun _ h => h)⟩ ?_ ?_ ?_
    · clear F
      rintro i σ' H' _ ⟨_, ys, rfl, yl, F⟩
      exact SqA.e
    · clear F
      rintro i v σ' H' hv ⟨_, ys, rfl, yl, F⟩
      obtain ⟨r, q1, e1, rfl, e2⟩ := rowsV_at tp hv
      have o_e2 := Old.mk (M := []) e2 nm0
      have sl1 := spF_len rs (rs.take i)
      rw [List.length_take] at sl1
      repeat k_meth
      refine i_dec (fun h => ?_) (fun h => ?_)
      · have hp : 0 < r.pn := by omega
        repeat k_meth
        rename Addr => zz
        have F2 := SH.app (ys := ys) (rs := rows3 (spF rs (rs.take i)).1) (q := p_) (r := row3 ((spF rs (rs.take i)).2, (r.st : Int), freeB rs (spF rs (rs.take i)).2 r.st)) F (LkP.m) (LkI.m)
        rw [← rows3_snoc] at F2
        refine ⟨_, ys ++ [.ref p_], by rw [take_snocR e1, spF_snoc, if_pos hp], by rw [take_snocR e1, spF_snoc, if_pos hp]; simp [yl], ?_⟩
        rw [take_snocR e1, spF_snoc, if_pos hp]
        exact F2.sub SbC.s (by simp)
      · have hp : ¬ 0 < r.pn := by omega
        repeat k_meth
        refine ⟨_, ys, by rw [take_snocR e1, spF_snoc, if_neg hp], by rw [take_snocR e1, spF_snoc, if_neg hp]; exact yl, ?_⟩
        rw [take_snocR e1, spF_snoc, if_neg hp]
        exact F
    · clear F
      rintro σ' H' ⟨_, ys, rfl, yl, F⟩
      have sl1 := spF_len rs rs
      rw [show zs.length = rs.length by rw [tp.1, rowsV_len], List.take_length] at F yl ⊢
      repeat k_meth
      rename Addr => tq
      have F2 := SH.app (ys := ys) (rs := rows3 (spF rs rs).1) (q := tq) (r := row3 ((spF rs rs).2, (n : Int), freeB rs (spF rs rs).2 n)) F (LkP.m) (LkI.m)
      rw [← rows3_snoc] at F2
      exact k _ _ _ (SH.nwC (F := F2)) (F2.tps List.mem_cons_self)
end
open M22 M82
def mvV (m : Mv) : List V := [.str (tx m.2.1), .int (m.2.2 : Nat)]
def mvsV (ms : List Mv) : List (List V) := ms.map mvV
theorem mvsV_len (ms : List Mv) : (mvsV ms).length = ms.length := List.length_map ..
theorem filt_all {f b : Int} {B : List Rw} (h : ∀ r ∈ B, f ≤ (r.st : Int) ∧ (r.st : Int) < b) : B.filter (within f b) = B := List.filter_eq_self.mpr fun r hr => by
  have := h r hr
  unfold within
  rw [decide_eq_true this.1, decide_eq_true this.2]
  rfl
theorem filt_none {f b : Int} {B : List Rw} (h : ∀ r ∈ B, (r.st : Int) < f ∨ b ≤ (r.st : Int)) : B.filter (within f b) = [] := List.filter_eq_nil_iff.mpr fun r hr => by
  unfold within
  rcases h r hr with h | h
  · rw [decide_eq_false (by omega)]; simp
  · rw [decide_eq_false (p := (r.st : Int) < b) (by omega)]; simp
theorem spF_gen {n : Nat} {r0 : List Rw} (ok : OkA 0 n r0) : ∀ (rs A B : List Rw) (f u : Int) (g : List W3), r0 = A ++ B ++ rs → (∀ a ∈ A, (a.st : Int) < f) → (∀ b ∈ B, f ≤ (b.st : Int)) → (∀ s ∈ rs, f ≤ (s.st : Int)) → u = (B.map fun r => (r.sz : Int)).sum →
    (rs.foldl (fun g r => if 0 < r.pn then (g.1 ++ [(g.2, (r.st : Int), freeB r0 g.2 r.st)], (r.st : Int) + (r.sz : Int)) else g) (g, f)).1 ++ [((rs.foldl (fun g r => if 0 < r.pn then (g.1 ++ [(g.2, (r.st : Int), freeB r0 g.2 r.st)], (r.st : Int) + (r.sz : Int)) else g) (g, f)).2, (n : Int), freeB r0 (rs.foldl (fun g r => if 0 < r.pn then (g.1 ++ [(g.2, (r.st : Int), freeB r0 g.2 r.st)], (r.st : Int) + (r.sz : Int)) else g) (g, f)).2 n)] = g ++ strG n f u rs := by
  intro rs
  induction rs with
  | nil =>
    intro A B f u g e hA hB _ hu
    have : freeB r0 f n = (n : Int) - f - u := by
      unfold freeB
      rw [e, List.append_nil, List.filter_append, filt_none fun r hr => .inl (hA r hr), filt_all fun r hr => ⟨hB r hr, by have := ok.bd r (by rw [e]; simp [hr]); omega⟩, List.nil_append, hu]
    show g ++ [(f, (n : Int), freeB r0 f n)] = _
    rw [this]
    rfl
  | cons r rs ih =>
    intro A B f u g e hA hB hs hu
    have aw := ok.asc
    rw [e, List.pairwise_append] at aw
    have aw2 := List.pairwise_cons.mp aw.2.1
    have br := ok.bd r (by rw [e]; simp)
    rw [List.foldl_cons]
    by_cases hp : 0 < r.pn
    · have : freeB r0 f r.st = (r.st : Int) - f - u := by
        unfold freeB
        rw [e, List.filter_append, List.filter_append, filt_none fun r hr => .inl (hA r hr), filt_all fun b hb => ⟨hB b hb, by have := aw.2.2 b (by simp [hb]) r (by simp); have := ok.bd b (by rw [e]; simp [hb]); omega⟩, filt_none (B := r :: rs) fun s hs => .inr (by
          rcases List.mem_cons.mp hs with rfl | hs
          · omega
          · have := aw2.1 s hs; omega), List.nil_append, List.append_nil, hu]
      rw [strG, if_pos hp]
      simp only [if_pos hp, this]
      have i := ih (A ++ B ++ [r]) [] ((r.st : Int) + (r.sz : Int)) 0 (g ++ [(f, (r.st : Int), (r.st : Int) - f - u)]) (by rw [e]; simp) (fun a ha => by
        rcases List.mem_append.mp ha with ha | ha
        · have := aw.2.2 a ha r (by simp); omega
        · rw [List.mem_singleton.mp ha]; omega) (fun b hb => by cases hb) (fun s hs => by have := aw2.1 s hs; omega) rfl
      rw [i, List.append_assoc]
      rfl
    · rw [strG, if_neg hp]
      simp only [if_neg hp]
      exact ih A (B ++ [r]) f (u + (r.sz : Int)) g (by rw [e]; simp) hA (fun b hb => by
        rcases List.mem_append.mp hb with hb | hb
        · exact hB b hb
        · rw [List.mem_singleton.mp hb]; exact hs r (.head _)) (fun s h => hs s (.tail _ h)) (by rw [List.map_append, List.sum_append, ← hu]; simp)
theorem strF_G {n : Nat} {rs : List Rw} (ok : OkA 0 n rs) : strF n rs = strG n 0 0 rs := spF_gen ok rs [] [] 0 0 [] rfl (fun a h => by cases h) (fun a h => by cases h) (fun s _ => by omega) rfl
theorem ok_of {n : Nat} {rs : List Rw} (h : Lay n rs) (a : Asc rs) : OkA 0 n rs := ⟨a, fun r hr => ⟨Nat.zero_le _, (h.good r hr).sz, (h.good r hr).le⟩⟩
theorem nms_nd {n : Nat} {rs : List Rw} (h : Lay n rs) : (rs.map (·.nm)).Nodup := by
  rw [List.Nodup, List.pairwise_map]
  exact h.ap.imp fun h => h.1
open M22 M82
theorem strG_len (n : Nat) (rs : List Rw) : ∀ f u, (strG n f u rs).length ≤ rs.length + 1 := by
  induction rs with
  | nil => intro f u; exact Nat.le_refl _
  | cons r rs ih =>
    intro f u
    rw [strG]
    split
    · have := ih ((r.st : Int) + (r.sz : Int)) 0
      simp only [List.length_cons]; omega
    · have := ih f (u + (r.sz : Int))
      simp only [List.length_cons]; omega
theorem drop_at {α : Type} {rs : List α} {i : Nat} {r : α} (h : rs[i]? = some r) : rs.drop i = r :: rs.drop (i + 1) := by
  obtain ⟨hi, e⟩ := List.getElem?_eq_some_iff.mp h
  rw [List.drop_eq_getElem_cons hi, e]
def sp_lstr : Sp := fun vs H Q _ => ∃ (l : Addr) (n : Nat) (zs : List V) (rs : List Rw), vs = [.int (n : Nat), .ref l] ∧ H l = some (.lst zs) ∧ TupsAt H zs (rowsV rs) ∧ rs.length ≤ 40 ∧ ∀ q ys H', New H H' q (.lst ys) → TupsAt H' ys (rows3 (strG n 0 0 rs)) → Q (.ref q) H'
section
variable {K : PySem.W.Frag} {CL x p dx l q : Addr} {H H0 : Hp} {M : List Addr} {L : List (Addr × HO)} {I : List Im} {Q : VK} {E : XK} {n : Nat} {ys zs : List V} {rs : List Rw} {ws : List W3} {us : List (Int × Int)} {w : Int} {Z : Addr → Hp → Prop}
instance go_lstr [h2 : Hat H l (.lst zs)] [t : TpA H zs (rowsV rs)] : Go (sp_lstr [.int (n : Nat), .ref l] H Q E) (Sd (rs.length ≤ 40) (∀ q ys H', New H H' q (.lst ys) → TupsAt H' ys (rows3 (strG n 0 0 rs)) → Q (.ref q) H')) := ⟨fun s => ⟨l, n, zs, rs, rfl, h2.e, t.e, s.1, s.2⟩⟩
end
section
variable {P : Program} {w : World} {K : PySem.W.Frag} {mg : Str → Option Value} {base : Heap} {c : Nat → Addr} {ct_Linit pt_Linit ct_order pt_order R CL : Addr}
theorem D_lwhole (T : Txt K mg c R CL ct_Linit pt_Linit ct_order pt_order) : Def P w K mg base CX0 1 "_law_whole" ["_law_thing"] (sp_whole K) := by
  refine def_of T.d_lwhole sc_lwhole (fun vs H Q E h => ?_) (fun _ _ _ _ _ _ us hl => match us, hl with | [_], _ => rfl) (fun f cdv A outer s H vs Q E hr h => ?_)
  · obtain ⟨x, n, rfl, _⟩ := h
    rfl
  · obtain ⟨x, n, rfl, ty, k⟩ := h
    have nd := sc_lwhole.nd
    refine ⟨_, (pss_one (ps_ret (pe_and (pe_callB call_isT rfl T.n_isinstance boot_isinstance (pa_cons (pv 0) (pa_cons (pe_ty (T := "int") rfl T.n_int boot_int) pa_nil))) (pe_one (pe_not (pe_callB call_isT rfl T.n_isinstance boot_isinstance (pa_cons (pv 0) (pa_cons (pe_ty (T := "bool") rfl T.n_bool boot_bool) pa_nil)))))))), ?_⟩
    clear nd 
    rw [show start ["_law_thing"] [x] = [some (x)] from rfl]
    try dsimp only [cx_K, cx_K2]
    rw [isW_eq] at k
    repeat k_meth
    refine w_is ty (bt_int ty) ?_
    repeat k_meth
    refine i_b (fun h => ?_) (fun h => ?_)
    · repeat k_meth
      refine w_is ty (bt_bool ty) ?_
      repeat k_meth
      rw [h] at k
      exact k
    · rw [h] at k
      exact k
theorem D_lstretches (T : Txt K mg c R CL ct_Linit pt_Linit ct_order pt_order) : Def P w K mg base CX0 1 "_law_stretches" ["_law_many_here", "_law_rows_here"] sp_lstr := by
  refine def_of T.d_lstretches sc_lstretches (fun vs H Q E h => ?_) (fun _ _ _ _ _ _ us hl => match us, hl with | [_, _], _ => rfl) (fun f cdv A outer s H vs Q E hr h => ?_)
  · obtain ⟨l, n, zs, rs, rfl, _⟩ := h
    rfl
  · obtain ⟨l, n, zs, rs, rfl, hl, tp, few, k⟩ := h
    have nd := sc_lstretches.nd
    refine ⟨_, (pss_cons (ps_set (i := 2) nd rfl (Or.inl rfl) (pe_lstA pa_nil))
      (pss_cons (ps_set (i := 3) nd rfl (Or.inl rfl) pe_int)
      (pss_cons (ps_set (i := 4) nd rfl (Or.inl rfl) pe_int)
      (pss_cons (ps_for PassesOwn.never rfl (pi_list (pv 1)) (pg_tup rfl (pgs_cons (pg_name (i := 5) nd rfl (Or.inl rfl)) (pgs_cons (pg_name (i := 6) nd rfl (Or.inl rfl)) (pgs_cons (pg_name (i := 7) nd rfl (Or.inl rfl)) (pgs_cons (pg_name (i := 8) nd rfl (Or.inl rfl)) pgs_nil))))) (pss_one (ps_if (pt_cmpR op_gt (pv 8) pe_int (nomark _)) (pss_cons (ps_expr (pe_appendA (pv 2) (pe_tupA (pa_cons (pv 3) (pa_cons (pv 6) (pa_cons (pe_op op_sub (pe_op op_sub (pv 6) (pv 3)) (pv 4)) pa_nil))))))
          (pss_cons (ps_set (i := 3) nd rfl (Or.inl rfl) (pe_op op_add (pv 6) (pv 7)))
          (pss_one (ps_set (i := 4) nd rfl (Or.inl rfl) pe_int)))) (pss_one (ps_set (i := 4) nd rfl (Or.inl rfl) (pe_op op_add (pv 4) (pv 7)))))))
      (pss_cons (ps_expr (pe_appendA (pv 2) (pe_tupA (pa_cons (pv 3) (pa_cons (pv 0) (pa_cons (pe_op op_sub (pe_op op_sub (pv 0) (pv 3)) (pv 4)) pa_nil))))))
      (pss_one (ps_ret (pv 2)))))))), ?_⟩
    clear nd 
    rw [show start ["_law_many_here", "_law_rows_here", "_law_found", "_law_first", "_law_used", "_law_name", "_law_start", "_law_size", "_law_pins"] [.int (n : Nat), .ref l] = [some (.int (n : Nat)), some (.ref l), none, none, none, none, none, none, none] from rfl]
    try dsimp only [cx_K, cx_K2]
    have iL_many : FldOk K CL "many" := ⟨T.clL, T.aL_many⟩
    have iL_rows : FldOk K CL "rows" := ⟨T.clL, T.aL_rows⟩
    have o_hl := Old.mk (M := []) hl nm0
    have o_tp := OldP.mk tp
    have F : SH H [] H [] [] := SH.nil
    have zl : zs.length = rs.length := by rw [tp.1, rowsV_len]
    have sl := strG_len n rs 0 0
    repeat k_meth
    rename Addr => fo
    refine forL_by (xs := zs) (fun i σ' H' => ∃ (o5 o6 o7 o8 : Option V) (f u : Int) (ws : List W3) (ys : List V), σ' = [some (.int (n : Nat)), some (.ref l), some (.ref fo), some (.int f), some (.int u), o5, o6, o7, o8] ∧ ws ++ strG n f u (rs.drop i) = strG n 0 0 rs ∧ ys.length = ws.length ∧ SH H [] H' [(fo, .lst ys)] [.tps ys (rows3 ws)]) ⟨_, _, _, _, 0, 0, [], [], rfl, rfl, rfl, (F.addP (ys := []) (rs := rows3 []) TupsAt.nil).sub SbC.s (fun _ h => h)⟩ ?_ ?_ ?_
    · clear F
      rintro i σ' H' _ ⟨_, _, _, _, f, u, ws, ys, rfl, e, yl, F⟩
      exact SqA.e
    · clear F
      rintro i v σ' H' hv ⟨_, _, _, _, f, u, ws, ys, rfl, e, yl, F⟩
      obtain ⟨r, q1, e1, rfl, e2⟩ := rowsV_at tp hv
      have o_e2 := Old.mk (M := []) e2 nm0
      rw [drop_at e1, strG] at e
      have wl : ws.length ≤ 41 := by
        have := congrArg List.length e
        rw [List.length_append] at this
        omega
      repeat k_meth
      refine i_dec (fun h => ?_) (fun h => ?_)
      · have hp : 0 < r.pn := by omega
        rw [if_pos hp] at e
        repeat k_meth
        rename Addr => tq
        have F2 := SH.app (ys := ys) (rs := rows3 ws) (q := tq) (r := row3 (f, (r.st : Int), (r.st : Int) - f - u)) F (LkP.m) (LkI.m)
        rw [← rows3_snoc] at F2
        exact ⟨_, _, _, _, _, _, ws ++ [(f, (r.st : Int), (r.st : Int) - f - u)], ys ++ [.ref tq], rfl, by rw [← e, List.append_assoc]; rfl, by simp [yl], F2.sub SbC.s (by simp)⟩
      · have hp : ¬ 0 < r.pn := by omega
        rw [if_neg hp] at e
        repeat k_meth
        exact ⟨_, _, _, _, _, _, ws, ys, rfl, e, yl, F.sub SbC.s (by simp)⟩
    · clear F
      rintro σ' H' ⟨_, _, _, _, f, u, ws, ys, rfl, e, yl, F⟩
      rw [zl, List.drop_of_length_le (Nat.le_refl _), strG] at e
      have wl : ws.length ≤ 41 := by
        have := congrArg List.length e
        rw [List.length_append] at this
        omega
      repeat k_meth
      rename Addr => tq
      have F2 := SH.app (ys := ys) (rs := rows3 ws) (q := tq) (r := row3 (f, (n : Int), (n : Int) - f - u)) F (LkP.m) (LkI.m)
      rw [← rows3_snoc, e] at F2
      exact k _ _ _ (SH.nwC (F := F2)) (F2.tps List.mem_cons_self)
end
open M22 M82
structure WkOk (n : Nat) (rs : List Rw) (ms : List Mv) : Prop where
  few : rs.length ≤ 40
  fem : ms.length ≤ 40
  ok : WOk n rs ms
  ndm : (ms.map (·.2.1)).Nodup
  ndr : (rs.map (·.nm)).Nodup
def sp_walk : Sp := fun vs H Q _ => ∃ (n : Nat) (l m : Addr) (zs ws : List V) (rs : List Rw) (ms : List Mv), vs = [.int (n : Nat), .ref l, .ref m] ∧ H l = some (.lst zs) ∧ TupsAt H zs (rowsV rs) ∧ H m = some (.lst ws) ∧ TupsAt H ws (mvsV ms) ∧ WkOk n rs ms ∧ ∀ p ys H1, New H H1 p (.lst ys) → TupsAt H1 ys (rowsV (wEnd rs ms)) → ∀ t H2, Same H1 H2 → H2 t = some (.tup [.int (wPrice rs ms : Nat), .ref p]) → Q (.ref t) H2
section
variable {l m : Addr} {H : Hp} {Q : VK} {E : XK} {n : Nat} {ws zs : List V} {rs : List Rw} {ms : List Mv}
instance go_walk [h1 : Hat H l (.lst zs)] [t1 : TpA H zs (rowsV rs)] [h2 : Hat H m (.lst ws)] [t2 : TpA H ws (mvsV ms)] : Go (sp_walk [.int (n : Nat), .ref l, .ref m] H Q E) (Sd (WkOk n rs ms) (∀ p ys H1, New H H1 p (.lst ys) → TupsAt H1 ys (rowsV (wEnd rs ms)) → ∀ t H2, Same H1 H2 → H2 t = some (.tup [.int (wPrice rs ms : Nat), .ref p]) → Q (.ref t) H2)) := ⟨fun s => ⟨n, l, m, zs, ws, rs, ms, rfl, h1.e, t1.e, h2.e, t2.e, s.1, s.2⟩⟩
end
theorem hsR_up {qs : List Addr} {T : List (List V)} {i : Nat} {q : Addr} {r : List V} (o : List V) (h1 : qs[i]? = some q) (h2 : T[i]? = some r) : Up q (.lst o) (hsR qs T) (hsR qs (T.set i o)) := by
  have := hsR_set (B := []) o h1 h2
  rw [List.append_nil, List.append_nil] at this
  exact this
theorem mv_at {H : Hp} {ms : List Mv} {ys : List V} {i : Nat} {v : V} (h : TupsAt H ys (mvsV ms)) (e : ys[i]? = some v) : ∃ w q, ms[i]? = some w ∧ v = .ref q ∧ H q = some (.tup (mvV w)) := by
  obtain ⟨r, q, e1, e2, e3⟩ := tups_at h e
  unfold mvsV at e1
  rw [List.getElem?_map] at e1
  cases e4 : ms[i]? with
  | none => rw [e4] at e1; cases e1
  | some w => rw [e4] at e1; cases e1; exact ⟨w, q, rfl, e2, e3⟩
theorem mvT_nm (T : List Rw) (k to : Nat) : (mvT T k to).map (·.nm) = T.map (·.nm) := by
  unfold mvT
  induction T generalizing k with
  | nil => simp
  | cons r T ih =>
    cases k with
    | zero => rfl
    | succ k => rw [List.modify_succ_cons, List.map_cons, List.map_cons, ih]
theorem mvT_rows {T : List Rw} {k to : Nat} {r : Rw} (h : T[k]? = some r) : rowsV (mvT T k to) = (rowsV T).set k ((rowV r).set 1 (.int (to : Nat))) := by
  unfold mvT rowsV
  induction T generalizing k with
  | nil => simp at h
  | cons a T ih =>
    cases k with
    | zero => simp at h; subst h; rfl
    | succ k => rw [List.modify_succ_cons, List.map_cons, List.map_cons, List.set_cons_succ, ih (by simpa using h)]
theorem lowT_at {T : List Rw} {j : Nat} {r : Rw} (h : T[j]? = some r) : lowT T (j + 1) = r.st + r.sz := by simp only [lowT, h]
theorem highT_at {n : Nat} {T : List Rw} {k : Nat} {r : Rw} (h : T[k + 1]? = some r) : highT n T k = r.st := by simp only [highT, h]
theorem highT_no {n : Nat} {T : List Rw} {k : Nat} (h : ¬ k + 1 < T.length) : highT n T k = n := by simp only [highT, List.getElem?_eq_none (by omega : T.length ≤ k + 1)]
theorem rowsV_get {T : List Rw} {k : Nat} {r : Rw} (h : T[k]? = some r) : (rowsV T)[k]? = some (rowV r) := by unfold rowsV; rw [List.getElem?_map, h]; rfl
theorem ref_at {qs : List Addr} {T : List Rw} {k : Nat} {r : Rw} (hl : qs.length = T.length) (h : T[k]? = some r) : ∃ q, qs[k]? = some q ∧ (qs.map V.ref)[k]? = some (V.ref q) := by
  have := (List.getElem?_eq_some_iff.mp h).1
  exact ⟨qs[k], by simp, by simp⟩
section
variable {P : Program} {w : World} {K : PySem.W.Frag} {mg : Str → Option Value} {base : Heap} {c : Nat → Addr} {ct_Linit pt_Linit ct_order pt_order R CL : Addr}
theorem wPr_eq {T : List Rw} {m : Mv} {r : Rw} (h : T[m.1]? = some r) (e : m.2.2 = r.st) : wPr T m = 0 := by simp only [wPr, h]; rw [if_pos e]
theorem wPr_ne {T : List Rw} {m : Mv} {r : Rw} (h : T[m.1]? = some r) (e : ¬ m.2.2 = r.st) : wPr T m = r.sz := by simp only [wPr, h]; rw [if_neg e]
theorem D_walk (T : Txt K mg c R CL ct_Linit pt_Linit ct_order pt_order) : Def P w K mg base CX0 2 "_law_walk" ["_law_many_here", "_law_rows_here", "_law_moves"] sp_walk := by
  have D_lwhole := D_lwhole (P := P) (w := w) (base := base) T
  refine def_of T.d_walk sc_walk (fun vs H Q E h => ?_) (fun _ _ _ _ _ _ us hl => match us, hl with | [_, _, _], _ => rfl) (fun f cdv A outer s H vs Q E hr h => ?_)
  · obtain ⟨n, l, m, zs, ws, rs, ms, rfl, _⟩ := h
    rfl
  · obtain ⟨n, l, m, zs, ws, rs, ms, rfl, hl, tl, hm, tm, side, k⟩ := h
    have nd := sc_walk.nd
    refine ⟨_, (pss_cons (ps_if (pt_not (pt_val (pe_callB call_isT rfl T.n_isinstance boot_isinstance (pa_cons (pv 2) (pa_cons (pe_ty (T := "list") rfl T.n_list boot_list) pa_nil))))) (pss_one (ps_ret pe_non)) pss_nil)
      (pss_cons (ps_setc (i := 3) nd rfl (Or.inl rfl) (N := ["_law_row"]) (nt := 1) (fr := []) (pi_list (pv 1)) (fun _ _ _ _ => (pg_name (i := 0) (show (["_law_row"] : List Str).Nodup from by decide +kernel) rfl (Or.inl rfl))) (fun _ _ _ _ => pif_nil) (fun _ _ _ _ => (pe_callTy (call_list_ofK (K := K) rfl) rfl T.n_list boot_list (pa_cons (pv 0) pa_nil))))
      (pss_cons (ps_setc (i := 4) nd rfl (Or.inl rfl) (N := ["_law_row"]) (nt := 1) (fr := []) (pi_list (pv 1)) (fun _ _ _ _ => (pg_name (i := 0) (show (["_law_row"] : List Str).Nodup from by decide +kernel) rfl (Or.inl rfl))) (fun _ _ _ _ => pif_nil) (fun _ _ _ _ => (pe_ix (ix_tupK (K := K) rfl) (pv 0) pe_int (fun _ _ => rfl))))
      (pss_cons (ps_set (i := 5) nd rfl (Or.inl rfl) (pe_lstA pa_nil))
      (pss_cons (ps_set (i := 6) nd rfl (Or.inl rfl) pe_int)
      (pss_cons (ps_for PassesOwn.never rfl (pi_list (pv 2)) (pg_name (i := 7) nd rfl (Or.inl rfl)) (pss_cons (ps_if (PW.pt (pw_or (pt_not (pt_val (pe_callB call_isT rfl T.n_isinstance boot_isinstance (pa_cons (pv 7) (pa_cons (pe_ty (T := "tuple") rfl T.n_tuple boot_tuple) pa_nil))))) (pw_or (pt_cmpR op_ne (pe_callB call_lenN rfl T.n_len boot_len (pa_cons (pv 7) pa_nil)) pe_int (nomark _)) (pw_or1 (pt_not (pt_val (pe_callB call_isT rfl T.n_isinstance boot_isinstance (pa_cons (pe_ix ix_tup (pv 7) pe_int (fun _ _ => rfl)) (pa_cons (pe_ty (T := "str") rfl T.n_str boot_str) pa_nil))))))))) (pss_one (ps_ret pe_non)) pss_nil)
        (pss_cons (ps_asg (pv 7) (pg_tup rfl (pgs_cons (pg_name (i := 8) nd rfl (Or.inl rfl)) (pgs_cons (pg_name (i := 9) nd rfl (Or.inl rfl)) pgs_nil))))
        (pss_cons (ps_if (PW.pt (pw_or (pt_cmpR op_notIn_seq (pv 8) (pv 4) (by with_unfolding_all rfl)) (pw_or (pt_cmpR op_in_seq (pv 8) (pv 5) (by with_unfolding_all rfl)) (pw_or1 (pt_not (pt_val (pe_def D_lwhole hr (pa_cons (pv 9) pa_nil)))))))) (pss_one (ps_ret pe_non)) pss_nil)
        (pss_cons (ps_set (i := 10) nd rfl (Or.inl rfl) (pe_idx (pv 4) (pv 8)))
        (pss_cons (ps_set (i := 11) nd rfl (Or.inl rfl) pe_int)
        (pss_cons (ps_set (i := 12) nd rfl (Or.inl rfl) (pv 0))
        (pss_cons (ps_if (pt_cmpR op_gt (pv 10) pe_int (nomark _)) (pss_one (ps_set (i := 11) nd rfl (Or.inl rfl) (pe_op op_add (pe_ix ix_list (pe_ix ix_list (pv 3) (pe_op op_sub (pv 10) pe_int) (fun _ _ => rfl)) pe_int (fun _ _ => rfl)) (pe_ix ix_list (pe_ix ix_list (pv 3) (pe_op op_sub (pv 10) pe_int) (fun _ _ => rfl)) pe_int (fun _ _ => rfl))))) pss_nil)
        (pss_cons (ps_if (pt_cmpR op_lt (pe_op op_add (pv 10) pe_int) (pe_callB call_lenN rfl T.n_len boot_len (pa_cons (pv 3) pa_nil)) (nomark _)) (pss_one (ps_set (i := 12) nd rfl (Or.inl rfl) (pe_ix ix_list (pe_ix ix_list (pv 3) (pe_op op_add (pv 10) pe_int) (fun _ _ => rfl)) pe_int (fun _ _ => rfl)))) pss_nil)
        (pss_cons (ps_if (PW.pt (pw_or (pt_cmpR op_gt (pe_ix ix_list (pe_ix ix_list (pv 3) (pv 10) (fun _ _ => rfl)) pe_int (fun _ _ => rfl)) pe_int (nomark _)) (pw_or (pt_cmpR op_lt (pv 9) (pv 11) (nomark _)) (pw_or1 (pt_cmpR op_gt (pe_op op_add (pv 9) (pe_ix ix_list (pe_ix ix_list (pv 3) (pv 10) (fun _ _ => rfl)) pe_int (fun _ _ => rfl))) (pv 12) (nomark _)))))) (pss_one (ps_ret pe_non)) pss_nil)
        (pss_cons (ps_if (pt_cmpR op_ne (pv 9) (pe_ix ix_list (pe_ix ix_list (pv 3) (pv 10) (fun _ _ => rfl)) pe_int (fun _ _ => rfl)) (nomark _)) (pss_one (ps_set (i := 6) nd rfl (Or.inl rfl) (pe_op op_add (pv 6) (pe_ix ix_list (pe_ix ix_list (pv 3) (pv 10) (fun _ _ => rfl)) pe_int (fun _ _ => rfl))))) pss_nil)
        (pss_cons (ps_asg (pv 9) (pg_sub (pe_ix ix_list (pv 3) (pv 10) (fun _ _ => rfl)) pe_int set_listA))
        (pss_one (ps_expr (pe_appendA (pv 5) (pv 8))))))))))))))))
      (pss_one (ps_ret (pe_tupA (pa_cons (pv 6) (pa_cons (pe_comp (N := ["_law_row"]) (nt := 1) (fr := []) (pi_list (pv 3)) (fun _ _ _ _ => (pg_name (i := 0) (show (["_law_row"] : List Str).Nodup from by decide +kernel) rfl (Or.inl rfl))) (fun _ _ _ _ => pif_nil) (fun _ _ _ _ => (pe_callTy (call_tuple_ofK (K := K) rfl) rfl T.n_tuple boot_tuple (pa_cons (pv 0) pa_nil)))) pa_nil))))))))))), ?_⟩
    clear nd D_lwhole
    rw [show start ["_law_many_here", "_law_rows_here", "_law_moves", "_law_lying", "_law_names_here", "_law_done", "_law_price_here", "_law_move", "_law_name", "_law_to", "_law_k", "_law_low", "_law_high"] [.int (n : Nat), .ref l, .ref m] = [some (.int (n : Nat)), some (.ref l), some (.ref m), none, none, none, none, none, none, none, none, none, none] from rfl]
    try dsimp only [cx_K, cx_K2]
    have iL_many : FldOk K CL "many" := ⟨T.clL, T.aL_many⟩
    have iL_rows : FldOk K CL "rows" := ⟨T.clL, T.aL_rows⟩
    have o_hl := Old.mk (M := []) hl nm0
    have o_hm := Old.mk (M := []) hm nm0
    have o_tl := OldP.mk tl
    have o_tm := OldP.mk tm
    have F : SH H [] H [] [] := SH.nil
    obtain ⟨few, fem, ok, ndm, ndr⟩ := side
    have zl : zs.length = rs.length := by rw [tl.1, rowsV_len]
    have wl : ws.length = ms.length := by rw [tm.1, mvsV_len]
    repeat k_meth
    refine comp_lists (fvs := []) F hatC (TpA.e (rs := rowsV rs)) (by omega) rfl (fun q r H' R hr e2 kk => ?_) fun lyA qs H1 ql F1 => ?_
    · clear F
      have F : SH H' [] H' [] [] := SH.nil
      have o_e2 := Old.mk (M := []) e2 nm0
      repeat k_meth
      exact kk _ _ SH.nwC
    clear F
    have F := F1
    clear F1
    rw [List.append_nil] at F
    repeat k_meth
    refine comp_rows (F := fun r => r.getD 0 .non) hatC (TpA.e (rs := rowsV rs)) (by omega) rfl (fun q r H1 R hr s1 e1 kk => ?_) ?_
    · clear F
      have F : SH H1 [] H1 [] [] := SH.nil
      obtain ⟨s, _, rfl⟩ := List.mem_map.mp hr
      have o_e1 := Old.mk (M := []) e1 nm0
      repeat k_meth
      exact kk _ (Same.refl _)
    rw [show (rowsV rs).map (fun r => r.getD 0 V.non) = (rs.map (·.nm)).map fun cs => V.str (tx cs) by unfold rowsV; rw [List.map_map, List.map_map]; rfl]
    rw [rowsV_len] at ql
    repeat k_meth
    rename_i nmA
    rename Addr => dnA
    refine forL_by (xs := ws) (fun i σ' H' => ∃ (o7 o8 o9 o10 o11 o12 : Option V) (T : List Rw) (pr : Nat), σ' = [some (.int (n : Nat)), some (.ref l), some (.ref m), some (.ref lyA), some (.ref nmA), some (.ref dnA), some (.int (pr : Nat)), o7, o8, o9, o10, o11, o12] ∧ WOk n T (ms.drop i) ∧ wEnd T (ms.drop i) = wEnd rs ms ∧ pr + wPrice T (ms.drop i) = wPrice rs ms ∧ T.map (·.nm) = rs.map (·.nm) ∧ SH H [] H' ((dnA, .lst (((ms.take i).map (·.2.1)).map fun cs => V.str (tx cs))) :: (nmA, .lst ((rs.map (·.nm)).map fun cs => V.str (tx cs))) :: (lyA, .lst (qs.map V.ref)) :: hsR qs (rowsV T)) []) ⟨_, _, _, _, _, _, rs, 0, rfl, ok, rfl, by simp, rfl, by rw [List.take_zero]; exact F⟩ ?_ ?_ ?_
    · clear F
      rintro i σ' H' _ ⟨_, _, _, _, _, _, T, pr, rfl, okT, wE, pE, nme, F⟩
      exact SqA.e
    · clear F
      rintro i v σ' H' hv ⟨_, _, _, _, _, _, T, pr, rfl, okT, wE, pE, nme, F⟩
      obtain ⟨mm, q1, e1, rfl, e2⟩ := mv_at tm hv
      have o_e2 : Old H [] q1 (.tup [.str (tx mm.2.1), .int (mm.2.2 : Nat)]) := Old.mk (M := []) e2 nm0
      rw [drop_at e1] at okT wE pE
      obtain ⟨⟨r, hr, hnm, hpn, lo1, hi1⟩, okn⟩ := okT
      have wn : wEnd (mvT T mm.1 mm.2.2) (ms.drop (i + 1)) = wEnd rs ms := wE
      have pn : pr + (wPr T mm + wPrice (mvT T mm.1 mm.2.2) (ms.drop (i + 1))) = wPrice rs ms := pE
      clear wE pE
      have hT : T.length = rs.length := by have := congrArg List.length nme; simpa using this
      replace ql : qs.length = T.length := by omega
      have ix : IdxA (rs.map (·.nm)) mm.2.1 mm.1 := ⟨by rw [← nme, List.getElem?_map, hr, ← hnm]; rfl, ndr⟩
      have in1 : mm.2.1 ∈ rs.map (·.nm) := List.mem_of_getElem? ix.a
      have in2 : ¬ mm.2.1 ∈ (ms.take i).map (·.2.1) := fun z => by
        have h1 : (ms.map (·.2.1))[i]? = some mm.2.1 := by rw [List.getElem?_map, e1]; rfl
        rw [List.map_take] at z
        obtain ⟨j, hj, e⟩ := List.getElem_of_mem z
        rw [List.length_take] at hj
        rw [List.getElem_take] at e
        obtain ⟨hi, e3⟩ := List.getElem?_eq_some_iff.mp h1
        exact List.pairwise_iff_getElem.mp ndm j i (by omega) hi (by omega) (e.trans e3.symm)
      have hi40 : i < 40 := by
        have := (List.getElem?_eq_some_iff.mp hv).1
        omega
      have hkT := (List.getElem?_eq_some_iff.mp hr).1
      obtain ⟨q, hq, hx⟩ := ref_at ql hr
      have a1 : AtI (qs.map V.ref) ((mm.1 : Nat) : Int) (.ref q) := ⟨atI_nat hx⟩
      have o1 : Hat H' q (.lst (rowV r)) := ⟨F.at' _ (by simp only [List.mem_cons]; exact .inr (.inr (.inr (hsR_at hq (rowsV_get hr)))))⟩
      have tkl : (((ms.take i).map (·.2.1)).map fun cs => V.str (tx cs)).length < sizeLine := by rw [List.length_map, List.length_map, List.length_take, sizeLine_eq]; omega
      have qll : (qs.map V.ref).length = T.length := by rw [List.length_map]; exact ql
      rcases Nat.eq_zero_or_pos mm.1 with hk0 | hk0
      · by_cases hh : mm.1 + 1 < T.length
        · obtain ⟨r2, hr2⟩ : ∃ r2, T[mm.1 + 1]? = some r2 := ⟨T[mm.1 + 1], by simp [hh]⟩
          rw [highT_at hr2] at hi1
          obtain ⟨q2, hq2, hx2⟩ := ref_at ql hr2
          have a2 : AtI (qs.map V.ref) (((mm.1 : Nat) : Int) + 1) (.ref q2) := ⟨by rw [show ((mm.1 : Nat) : Int) + 1 = ((mm.1 + 1 : Nat) : Int) by omega]; exact atI_nat hx2⟩
          have o2 : Hat H' q2 (.lst (rowV r2)) := ⟨F.at' _ (by simp only [List.mem_cons]; exact .inr (.inr (.inr (hsR_at hq2 (rowsV_get hr2)))))⟩
          by_cases hto : mm.2.2 = r.st
          · repeat k_meth
            intro Hn off en
            have F2 := F.offL off en (.tail (.tail (.tail (hsR_up _ hq (rowsV_get hr)))))
            clear F
            have F : SH H [] Hn _ _ := F2
            clear F2
            rw [show (Int.toNat 1) = 1 from rfl, ← mvT_rows hr] at F
            repeat k_meth
            refine ⟨_, _, _, _, _, _, mvT T mm.1 mm.2.2, pr, rfl, okn, wn, by rw [wPr_eq hr hto] at pn; omega, by rw [mvT_nm]; exact nme, ?_⟩
            rw [take_snocR e1, List.map_append, List.map_append]
            exact F
          · repeat k_meth
            intro Hn off en
            have F2 := F.offL off en (.tail (.tail (.tail (hsR_up _ hq (rowsV_get hr)))))
            clear F
            have F : SH H [] Hn _ _ := F2
            clear F2
            rw [show (Int.toNat 1) = 1 from rfl, ← mvT_rows hr] at F
            repeat k_meth
            refine ⟨_, _, _, _, _, _, mvT T mm.1 mm.2.2, pr + r.sz, by simp only [Int.natCast_add]; rfl, okn, wn, by rw [wPr_ne hr hto] at pn; omega, by rw [mvT_nm]; exact nme, ?_⟩
            rw [take_snocR e1, List.map_append, List.map_append]
            exact F
        · rw [highT_no hh] at hi1
          by_cases hto : mm.2.2 = r.st
          · repeat k_meth
            intro Hn off en
            have F2 := F.offL off en (.tail (.tail (.tail (hsR_up _ hq (rowsV_get hr)))))
            clear F
            have F : SH H [] Hn _ _ := F2
            clear F2
            rw [show (Int.toNat 1) = 1 from rfl, ← mvT_rows hr] at F
            repeat k_meth
            refine ⟨_, _, _, _, _, _, mvT T mm.1 mm.2.2, pr, rfl, okn, wn, by rw [wPr_eq hr hto] at pn; omega, by rw [mvT_nm]; exact nme, ?_⟩
            rw [take_snocR e1, List.map_append, List.map_append]
            exact F
          · repeat k_meth
            intro Hn off en
            have F2 := F.offL off en (.tail (.tail (.tail (hsR_up _ hq (rowsV_get hr)))))
            clear F
            have F : SH H [] Hn _ _ := F2
            clear F2
            rw [show (Int.toNat 1) = 1 from rfl, ← mvT_rows hr] at F
            repeat k_meth
            refine ⟨_, _, _, _, _, _, mvT T mm.1 mm.2.2, pr + r.sz, by simp only [Int.natCast_add]; rfl, okn, wn, by rw [wPr_ne hr hto] at pn; omega, by rw [mvT_nm]; exact nme, ?_⟩
            rw [take_snocR e1, List.map_append, List.map_append]
            exact F
      · obtain ⟨r0, hr0⟩ : ∃ r0, T[mm.1 - 1]? = some r0 := ⟨T[mm.1 - 1], by simp⟩
        have lw := lowT_at hr0
        rw [show mm.1 - 1 + 1 = mm.1 by omega] at lw
        rw [lw] at lo1
        obtain ⟨q0, hq0, hx0⟩ := ref_at ql hr0
        have a0 : AtI (qs.map V.ref) (((mm.1 : Nat) : Int) - 1) (.ref q0) := ⟨by rw [show ((mm.1 : Nat) : Int) - 1 = ((mm.1 - 1 : Nat) : Int) by omega]; exact atI_nat hx0⟩
        have o0 : Hat H' q0 (.lst (rowV r0)) := ⟨F.at' _ (by simp only [List.mem_cons]; exact .inr (.inr (.inr (hsR_at hq0 (rowsV_get hr0)))))⟩
        by_cases hh : mm.1 + 1 < T.length
        · obtain ⟨r2, hr2⟩ : ∃ r2, T[mm.1 + 1]? = some r2 := ⟨T[mm.1 + 1], by simp [hh]⟩
          rw [highT_at hr2] at hi1
          obtain ⟨q2, hq2, hx2⟩ := ref_at ql hr2
          have a2 : AtI (qs.map V.ref) (((mm.1 : Nat) : Int) + 1) (.ref q2) := ⟨by rw [show ((mm.1 : Nat) : Int) + 1 = ((mm.1 + 1 : Nat) : Int) by omega]; exact atI_nat hx2⟩
          have o2 : Hat H' q2 (.lst (rowV r2)) := ⟨F.at' _ (by simp only [List.mem_cons]; exact .inr (.inr (.inr (hsR_at hq2 (rowsV_get hr2)))))⟩
          by_cases hto : mm.2.2 = r.st
          · repeat k_meth
            intro Hn off en
            have F2 := F.offL off en (.tail (.tail (.tail (hsR_up _ hq (rowsV_get hr)))))
            clear F
            have F : SH H [] Hn _ _ := F2
            clear F2
            rw [show (Int.toNat 1) = 1 from rfl, ← mvT_rows hr] at F
            repeat k_meth
            refine ⟨_, _, _, _, _, _, mvT T mm.1 mm.2.2, pr, rfl, okn, wn, by rw [wPr_eq hr hto] at pn; omega, by rw [mvT_nm]; exact nme, ?_⟩
            rw [take_snocR e1, List.map_append, List.map_append]
            exact F
          · repeat k_meth
            intro Hn off en
            have F2 := F.offL off en (.tail (.tail (.tail (hsR_up _ hq (rowsV_get hr)))))
            clear F
            have F : SH H [] Hn _ _ := F2
            clear F2
            rw [show (Int.toNat 1) = 1 from rfl, ← mvT_rows hr] at F
            repeat k_meth
            refine ⟨_, _, _, _, _, _, mvT T mm.1 mm.2.2, pr + r.sz, by simp only [Int.natCast_add]; rfl, okn, wn, by rw [wPr_ne hr hto] at pn; omega, by rw [mvT_nm]; exact nme, ?_⟩
            rw [take_snocR e1, List.map_append, List.map_append]
            exact F
        · rw [highT_no hh] at hi1
          by_cases hto : mm.2.2 = r.st
          · repeat k_meth
            intro Hn off en
            have F2 := F.offL off en (.tail (.tail (.tail (hsR_up _ hq (rowsV_get hr)))))
            clear F
            have F : SH H [] Hn _ _ := F2
            clear F2
            rw [show (Int.toNat 1) = 1 from rfl, ← mvT_rows hr] at F
            repeat k_meth
            refine ⟨_, _, _, _, _, _, mvT T mm.1 mm.2.2, pr, rfl, okn, wn, by rw [wPr_eq hr hto] at pn; omega, by rw [mvT_nm]; exact nme, ?_⟩
            rw [take_snocR e1, List.map_append, List.map_append]
            exact F
          · repeat k_meth
            intro Hn off en
            have F2 := F.offL off en (.tail (.tail (.tail (hsR_up _ hq (rowsV_get hr)))))
            clear F
            have F : SH H [] Hn _ _ := F2
            clear F2
            rw [show (Int.toNat 1) = 1 from rfl, ← mvT_rows hr] at F
            repeat k_meth
            refine ⟨_, _, _, _, _, _, mvT T mm.1 mm.2.2, pr + r.sz, by simp only [Int.natCast_add]; rfl, okn, wn, by rw [wPr_ne hr hto] at pn; omega, by rw [mvT_nm]; exact nme, ?_⟩
            rw [take_snocR e1, List.map_append, List.map_append]
            exact F
    · clear F
      rintro σ' H' ⟨_, _, _, _, _, _, T, pr, rfl, okT, wE, pE, nme, F⟩
      rw [wl, List.drop_of_length_le (Nat.le_refl _)] at wE pE
      have wE : T = wEnd rs ms := wE
      have pE : pr + 0 = wPrice rs ms := pE
      have hT : T.length = rs.length := by have := congrArg List.length nme; simpa using this
      repeat k_meth
      refine comp_Wx (fvs := []) hatC (by rw [List.length_map]; omega) rfl (fun i ys H1 => TupsAt H1 ys (rowsV (T.take i))) (fun i ys H1 H2 s t => tups_st s t) TupsAt.nil (fun i x ys H1 R hx s1 g kk => ?_) fun q ys H1 n1 g => ?_
      · have hi : i < T.length := by
          have := (List.getElem?_eq_some_iff.mp hx).1
          rw [List.length_map] at this
          omega
        obtain ⟨q, hq, hx2⟩ := ref_at (T := T) (k := i) (ql.trans hT.symm) (List.getElem?_eq_getElem hi)
        rw [hx2] at hx
        cases hx
        have hh : H1 q = some (.lst (rowV T[i])) := s1 _ _ (F.at' _ (by simp only [List.mem_cons]; exact .inr (.inr (.inr (hsR_at hq (rowsV_get (List.getElem?_eq_getElem hi)))))))
        clear F
        have F : SH H1 [] H1 [] [] := SH.nil
        have o_hh := Old.mk (M := []) hh nm0
        repeat k_meth
        refine kk _ _ F.sm ?_
        rw [take_snocR (List.getElem?_eq_getElem hi), rowsV_snoc]
        exact TupsAt.snoc (g.same F.sm) hatC
      · rw [List.length_map, ql, ← hT, List.take_of_length_le (Nat.le_refl _), wE] at g
        replace F := F.newR n1 g
        rw [show pr = wPrice rs ms from pE]
        repeat k_meth
        exact k _ _ _ SH.nwC TpA.e _ _ (Same.refl _) hatC
end
open M22 M82 M87
theorem down_plc (A : List Rw) : (∀ r ∈ A, r.pn = 0) → ∀ (g : List Stp) (f : Int), (A.foldl stD (g, f)).1 = g ++ mv (plc f A) := by
  induction A with
  | nil => intro _ g f; exact (List.append_nil _).symm
  | cons r A ih =>
    intro un g f
    have hp : ¬ 0 < r.pn := by rw [un r (.head _)]; omega
    rw [List.foldl_cons, plc]
    by_cases he : f = (r.st : Int)
    · rw [stD_eq hp (show (g, f).2 = (r.st : Int) from he)]
      show (A.foldl stD (g, f + (r.sz : Int))).1 = _
      rw [ih (fun s hs => un s (.tail _ hs))]
      unfold mv
      rw [List.filter_cons_of_neg (by simpa using he)]
    · rw [stD_ne hp (show ¬ (g, f).2 = (r.st : Int) from he)]
      show (A.foldl stD (g ++ [(r, f)], f + (r.sz : Int))).1 = _
      rw [ih (fun s hs => un s (.tail _ hs)), List.append_assoc]
      unfold mv
      rw [List.filter_cons_of_pos (by simpa using he)]
      rfl
theorem up_plc (b : Int) (A : List Rw) : (∀ r ∈ A, r.pn = 0) → A.reverse.foldl stU (([] : List Stp), b) = ((mv (plc (b - szs A) A)).reverse, b - szs A) := by
  induction A with
  | nil => intro _; rw [szs_nil, Int.sub_zero]; rfl
  | cons r A ih =>
    intro un
    have hp : ¬ 0 < r.pn := by rw [un r (.head _)]; omega
    rw [List.reverse_cons, List.foldl_append, ih (fun s hs => un s (.tail _ hs)), List.foldl_cons, List.foldl_nil, plc, szs_cons]
    have e1 : b - szs A - (r.sz : Int) = b - ((r.sz : Int) + szs A) := by omega
    have e2 : b - ((r.sz : Int) + szs A) + (r.sz : Int) = b - szs A := by omega
    rw [e2]
    by_cases he : b - ((r.sz : Int) + szs A) = (r.st : Int)
    · rw [stU_eq hp (show _ - (r.sz : Int) = (r.st : Int) from e1.trans he)]
      show (_, b - szs A - (r.sz : Int)) = _
      rw [e1]
      unfold mv
      rw [List.filter_cons_of_neg (by simpa using he)]
    · rw [stU_ne hp (show ¬ _ - (r.sz : Int) = (r.st : Int) from fun z => he (e1.symm.trans z))]
      show (_ ++ [(r, b - szs A - (r.sz : Int))], b - szs A - (r.sz : Int)) = _
      rw [e1]
      unfold mv
      rw [List.filter_cons_of_pos (by simpa using he), List.reverse_cons]
theorem chc_eq {A : List Rw} (un : ∀ r ∈ A, r.pn = 0) (f b : Int) (g : Nat) : (downF f (A.take g)).1 ++ (upF b (A.drop g).reverse).1 = chc f b g A := by
  unfold downF upF chc
  rw [down_plc _ (fun r hr => un r (List.mem_of_mem_take hr)), up_plc _ _ (fun r hr => un r (List.mem_of_mem_drop hr)), List.nil_append]
theorem mv_len (ss : List Sp2) : (mv ss).length ≤ ss.length := List.length_filter_le ..
theorem plc_len (a : Int) (A : List Rw) : (plc a A).length = A.length := by have := congrArg List.length (plc_fst a A); rwa [List.length_map] at this
theorem jn_len (f b : Int) (g : Nat) (A : List Rw) : (jn f b g A).length = A.length := by have := congrArg List.length (jn_fst f b g A); rwa [List.length_map] at this
theorem chc_len (f b : Int) (g : Nat) (A : List Rw) : (chc f b g A).length ≤ A.length := by
  rw [(chc_perm f b g A).length_eq]
  have := mv_len (jn f b g A)
  rw [jn_len] at this
  exact this
theorem chc_mem {f b : Int} {g : Nat} {A : List Rw} {s : Sp2} (h : s ∈ chc f b g A) : s.1 ∈ A := by
  have := (List.mem_filter.mp ((chc_perm f b g A).mem_iff.mp h)).1
  rw [← jn_fst f b g A]
  exact List.mem_map_of_mem this
theorem tp_take {H : Hp} {ys : List V} {A : List Rw} (h : TupsAt H ys (rowsV A)) (i : Nat) : TupsAt H (ys.take i) (rowsV (A.take i)) := by
  have hl : ys.length = A.length := by rw [h.1, rowsV_len]
  refine ⟨by rw [rowsV_len, List.length_take, List.length_take, hl], fun j r e => ?_⟩
  unfold rowsV at e
  rw [List.getElem?_map, List.getElem?_take] at e
  by_cases hj : j < i
  · rw [if_pos hj] at e
    obtain ⟨q, a, b⟩ := h.2 j r (by unfold rowsV; rw [List.getElem?_map]; exact e)
    exact ⟨q, by rw [List.getElem?_take, if_pos hj]; exact a, b⟩
  · rw [if_neg hj] at e; cases e
theorem tp_drop {H : Hp} {ys : List V} {A : List Rw} (h : TupsAt H ys (rowsV A)) (i : Nat) : TupsAt H (ys.drop i) (rowsV (A.drop i)) := by
  have hl : ys.length = A.length := by rw [h.1, rowsV_len]
  refine ⟨by rw [rowsV_len, List.length_drop, List.length_drop, hl], fun j r e => ?_⟩
  unfold rowsV at e
  rw [List.getElem?_map, List.getElem?_drop] at e
  obtain ⟨q, a, b⟩ := h.2 (i + j) r (by unfold rowsV; rw [List.getElem?_map]; exact e)
  exact ⟨q, by rw [List.getElem?_drop]; exact a, b⟩
def szI (ss : List Stp) : Int := (ss.map fun s => (s.1.sz : Int)).sum
def sp_cmoved : Sp := fun vs H Q _ => ∃ (l : Addr) (zs : List V) (ss : List Stp), vs = [.ref l] ∧ H l = some (.lst zs) ∧ TupsAt H zs (stepsV ss) ∧ (ss.length ≤ 40 ∧ ∀ s ∈ ss, s.1.sz ≤ 240) ∧ ∀ H', Same H H' → Q (.int (szI ss)) H'
def sp_cheapest : Sp := fun vs H Q _ => ∃ (l : Addr) (f b : Int) (zs : List V) (A : List Rw), vs = [.ref l, .int f, .int b] ∧ H l = some (.lst zs) ∧ TupsAt H zs (rowsV A) ∧ (A.length ≤ 40 ∧ (∀ r ∈ A, r.sz ≤ 240) ∧ ∀ r ∈ A, r.pn = 0) ∧ ∀ q ys H', New H H' q (.lst ys) → TupsAt H' ys (stepsV (chc f b (gp0 f b A) A)) → Q (.ref q) H'
section
variable {K : PySem.W.Frag} {l : Addr} {H : Hp} {Q : VK} {E : XK} {zs : List V} {ss : List Stp} {A : List Rw} {f b : Int} {sp : Sp} {t : TA} {σ : L2.St}
instance go_cmoved [h : Hat H l (.lst zs)] [t : TpA H zs (stepsV ss)] : Go (sp_cmoved [.ref l] H Q E) (Sd (ss.length ≤ 40 ∧ ∀ s ∈ ss, s.1.sz ≤ 240) (∀ H', Same H H' → Q (.int (szI ss)) H')) := ⟨fun s => ⟨l, zs, ss, rfl, h.e, t.e, s.1, s.2⟩⟩
instance go_cheapest [h : Hat H l (.lst zs)] [t : TpA H zs (rowsV A)] : Go (sp_cheapest [.ref l, .int f, .int b] H Q E) (Sd (A.length ≤ 40 ∧ (∀ r ∈ A, r.sz ≤ 240) ∧ ∀ r ∈ A, r.pn = 0) (∀ q ys H', New H H' q (.lst ys) → TupsAt H' ys (stepsV (chc f b (gp0 f b A) A)) → Q (.ref q) H')) := ⟨fun s => ⟨l, f, b, zs, A, rfl, h.e, t.e, s.1, s.2⟩⟩
instance go_minK : Go (tMinK K sp t σ H Q) (t σ H fun xs H1 => rMinK K sp xs H1 Q) := ⟨id⟩
end
section
variable {P : Program} {w : World} {K : PySem.W.Frag} {mg : Str → Option Value} {base : Heap} {c : Nat → Addr} {ct_Linit pt_Linit ct_order pt_order R CL : Addr}
theorem D_cmoved (T : Txt K mg c R CL ct_Linit pt_Linit ct_order pt_order) : Def P w K mg base CX0 1 "cells_moved" ["steps"] sp_cmoved := by
  refine def_of T.d_cmoved sc_cmoved (fun vs H Q E h => ?_) (fun _ _ _ _ _ _ us hl => match us, hl with | [_], _ => rfl) (fun f cdv A outer s H vs Q E hr h => ?_)
  · obtain ⟨l, zs, ss, rfl, _⟩ := h
    rfl
  · obtain ⟨l, zs, ss, rfl, hl, tp, few, k⟩ := h
    have nd := sc_cmoved.nd
    refine ⟨_, (pss_one (ps_ret (pe_callB (call_sumL rfl) rfl T.n_sum boot_sum (pa_cons (pe_comp (N := ["step"]) (nt := 1) (fr := []) (pi_list (pv 0)) (fun _ _ _ _ => (pg_name (i := 0) (show (["step"] : List Str).Nodup from by decide +kernel) rfl (Or.inl rfl))) (fun _ _ _ _ => pif_nil) (fun _ _ _ _ => (pe_ix (ix_tupK (K := K) rfl) (pv 0) pe_int (fun _ _ => rfl)))) pa_nil)))), ?_⟩
    clear nd 
    rw [show start ["steps"] [.ref l] = [some (.ref l)] from rfl]
    try dsimp only [cx_K, cx_K2]
    have iL_many : FldOk K CL "many" := ⟨T.clL, T.aL_many⟩
    have iL_rows : FldOk K CL "rows" := ⟨T.clL, T.aL_rows⟩
    have o_hl := Old.mk (M := []) hl nm0
    have o_tp := OldP.mk tp
    have F : SH H [] H [] [] := SH.nil
    have zl : zs.length = ss.length := by rw [tp.1, stepsV_len]
    have few1 := few.1
    repeat k_meth
    refine comp_rows (F := fun r => r.getD 2 .non) hatC (TpA.e (rs := stepsV ss)) (by omega) rfl (fun q r H1 R hr s1 e1 kk => ?_) ?_
    · clear F
      have F : SH H1 [] H1 [] [] := SH.nil
      obtain ⟨s, _, rfl⟩ := List.mem_map.mp hr
      have o_e1 := Old.mk (M := []) e1 nm0
      repeat k_meth
      exact kk _ (Same.refl _)
    · have e5 : (stepsV ss).map (fun r => r.getD 2 V.non) = (ss.map fun s => ((s.1.sz : Nat) : Int)).map V.int := by
        unfold stepsV
        rw [List.map_map, List.map_map]
        rfl
      rw [e5]
      have side : (∀ n ∈ ss.map fun s => ((s.1.sz : Nat) : Int), 0 ≤ n ∧ n ≤ 1000000) ∧ (ss.map fun s => ((s.1.sz : Nat) : Int)).length ≤ 1000000 := by
        refine ⟨fun n hn => ?_, by rw [List.length_map]; omega⟩
        obtain ⟨r, hr, rfl⟩ := List.mem_map.mp hn
        have := few.2 r hr
        omega
      repeat k_meth
      exact k _ F.sm
theorem D_cheapest (T : Txt K mg c R CL ct_Linit pt_Linit ct_order pt_order) : Def P w K mg base CX0 3 "cheapest_joining" ["blocks", "first", "behind"] sp_cheapest := by
  have D_cmoved := D_cmoved (P := P) (w := w) (base := base) T
  have D_sdown := D_sdown (P := P) (w := w) (base := base) T
  have D_sup := D_sup (P := P) (w := w) (base := base) T
  refine def_of T.d_cheapest sc_cheapest (fun vs H Q E h => ?_) (fun _ _ _ _ _ _ us hl => match us, hl with | [_, _, _], _ => rfl) (fun f cdv A outer s H vs Q E hr h => ?_)
  · obtain ⟨l, f, b, zs, A, rfl, _⟩ := h
    rfl
  · obtain ⟨l, f, b, zs, A, rfl, hl, tp, side, k⟩ := h
    have nd := sc_cheapest.nd
    refine ⟨_, (pss_cons (ps_set (i := 3) nd rfl (Or.inl rfl) (pe_lstA pa_nil))
      (pss_cons (ps_for PassesOwn.never rfl (pi_range1 rfl T.n_range (pa_cons (pe_op op_add (pe_callB call_lenN rfl T.n_len boot_len (pa_cons (pv 0) pa_nil)) pe_int) pa_nil)) (pg_name (i := 4) nd rfl (Or.inl rfl)) (pss_one (ps_expr (pe_appendA (pv 3) (pe_op op_catA (pe_def D_sdown hr (pa_cons (pe_slice sl_listA (pv 0) po_none (po_some (pv 4))) (pa_cons (pv 1) pa_nil))) (pe_def D_sup hr (pa_cons (pe_slice sl_listA (pv 0) (po_some (pv 4)) po_none) (pa_cons (pv 2) pa_nil))))))))
      (pss_one (ps_ret (pe_minK D_cmoved hr rfl T.n_min (pa_cons (pv 3) pa_nil)))))), ?_⟩
    clear nd D_cmoved D_sdown D_sup
    rw [show start ["blocks", "first", "behind", "choices", "gap"] [.ref l, .int f, .int b] = [some (.ref l), some (.int f), some (.int b), none, none] from rfl]
    try dsimp only [cx_K, cx_K2]
    have iL_many : FldOk K CL "many" := ⟨T.clL, T.aL_many⟩
    have iL_rows : FldOk K CL "rows" := ⟨T.clL, T.aL_rows⟩
    have o_hl := Old.mk (M := []) hl nm0
    have o_tp := OldP.mk tp
    have F : SH H [] H [] [] := SH.nil
    obtain ⟨few, fsz, un⟩ := side
    have zl : zs.length = A.length := by rw [tp.1, rowsV_len]
    repeat k_meth
    rename Addr => ch
    rw [show ((zs.length : Int) + 1).toNat = A.length + 1 by omega]
    refine forR0_by (fun i σ' H' => ∃ (o4 : Option V) (qs : List Addr) (YS : List (List V)), σ' = [some (.ref l), some (.int f), some (.int b), some (.ref ch), o4] ∧ qs.length = i ∧ YS.length = i ∧ SH H [] H' ((ch, .lst (qs.map V.ref)) :: hsR qs YS) [RowsI YS ((List.range i).map fun g => stepsV (chc f b g A))]) ⟨_, [], [], rfl, rfl, rfl, F.addF ⟨rfl, fun j ys rs e => by simp at e⟩⟩ ?_ ?_
    · clear F
      rintro i σ' H' hi ⟨_, qs, YS, rfl, ql, yl, F⟩
      have c1 : CutA zs none (some (i : Int)) (zs.take i) := ⟨cut_take2⟩
      have c2 : CutA zs (some (i : Int)) none (zs.drop i) := ⟨cut_drop⟩
      have o_t1 := OldP.mk (tp_take tp i)
      have o_t2 := OldP.mk (tp_drop tp i)
      have l1 : (A.take i).length ≤ 40 := by rw [List.length_take]; omega
      have l2 : (A.drop i).length ≤ 40 := by rw [List.length_drop]; omega
      have d1 := downF_len f (A.take i)
      have d2 := upF_len b (A.drop i).reverse
      rw [List.length_reverse] at d2
      have qll : (qs.map V.ref).length < sizeLine := by rw [List.length_map, sizeLine_eq]; omega
      repeat k_meth
      rename_i y1 _ _ _ _ _ _
      rename List V => y2
      have t1 : TupsAt H_ (y1 ++ y2) (stepsV (chc f b i A)) := by
        have := (F.tps (ys := y1) (rs := stepsV (downF f (A.take i)).1) (by simp)).app (F.tps (ys := y2) (rs := stepsV (upF b (A.drop i).reverse).1) (by simp))
        rw [← chc_eq un]
        unfold stepsV at this ⊢
        rw [List.map_append]
        exact this
      have ri := F.im (RowsI YS ((List.range i).map fun g => stepsV (chc f b g A))) (by simp)
      have F3 : SH H [] H_ ((p_, .lst (y1 ++ y2)) :: (ch, .lst (qs.map V.ref ++ [V.ref p_])) :: hsR qs YS) [] := F.sub SbC.s (by simp)
      have F4 : SH H [] H_ ((ch, .lst ((qs ++ [p_]).map V.ref)) :: hsR (qs ++ [p_]) (YS ++ [y1 ++ y2])) [] := by
        refine SH.perm F3 ?_
        rw [hsR_snoc (by omega), List.map_append]
        exact (List.Perm.cons _ (List.perm_append_singleton _ _)).trans (List.Perm.swap ..)
      refine ⟨_, qs ++ [p_], YS ++ [y1 ++ y2], rfl, by simp [ql], by simp [yl], F4.addF ⟨by simp [yl], fun j ys rs e1 e2 => ?_⟩⟩
      rw [List.range_succ, List.map_append] at e2
      by_cases hj : j < i
      · rw [List.getElem?_append_left (by omega)] at e1
        rw [List.getElem?_append_left (by simpa using hj)] at e2
        exact ri.2 j ys rs e1 e2
      · have hj2 := (List.getElem?_eq_some_iff.mp e1).1
        rw [List.length_append, List.length_singleton] at hj2
        have : j = i := by omega
        subst this
        rw [List.getElem?_append_right (by omega), yl, Nat.sub_self] at e1
        rw [List.getElem?_append_right (by simp)] at e2
        simp at e1 e2
        rw [← e1, ← e2]
        exact t1
    · clear F
      rintro σ' H' ⟨_, qs, YS, rfl, ql, yl, F⟩
      repeat k_meth
      have ri := F.im (RowsI YS ((List.range (A.length + 1)).map fun g => stepsV (chc f b g A))) (by simp)
      have one : ∀ i, i < A.length + 1 → ∃ q ys, qs[i]? = some q ∧ YS[i]? = some ys ∧ (q, HO.lst ys) ∈ ((ch, HO.lst (qs.map V.ref)) :: hsR qs YS) ∧ TupsAt H' ys (stepsV (chc f b i A)) := fun i hi => by
        have h1 : qs[i]? = some (qs[i]'(by omega)) := by simp
        have h2 : YS[i]? = some (YS[i]'(by omega)) := by simp
        exact ⟨_, _, h1, h2, List.mem_cons_of_mem _ (hsR_at h1 h2), ri.2 i _ _ h2 (by rw [List.getElem?_map, List.getElem?_range hi]; rfl)⟩
      have side : ∀ g, (chc f b g A).length ≤ 40 ∧ ∀ s ∈ chc f b g A, s.1.sz ≤ 240 := fun g => ⟨by have := chc_len f b g A; omega, fun s hs => fsz _ (chc_mem hs)⟩
      refine ⟨ch, qs.map V.ref, fun i => pri (jn f b i A), fun H2 => Same H' H2, rfl, by rw [List.length_map]; omega, Same.refl _, fun H2 s => s.seq (SqL.of hatC), fun i v H2 hv s => ?_, fun i v H2 hv best s => ?_⟩
      · have hi := (List.getElem?_eq_some_iff.mp hv).1
        rw [List.length_map] at hi
        obtain ⟨q, ys, h1, h2, hm, tq⟩ := one i (by omega)
        rw [List.getElem?_map, h1] at hv
        cases hv
        exact ⟨q, ys, chc f b i A, rfl, s _ _ (F.at' _ hm), tq.same s, side i, fun H3 s3 => ⟨by unfold szI; rw [chc_sum], s.trans s3⟩⟩
      · have hi := (List.getElem?_eq_some_iff.mp hv).1
        rw [List.length_map] at hi
        obtain ⟨q, ys, h1, h2, hm, tq⟩ := one i (by omega)
        rw [List.getElem?_map, h1] at hv
        cases hv
        have e : i = gp0 f b A := IsFm.one ⟨by omega, fun j hj => best j (by rw [List.length_map]; omega)⟩ (fm_is _ _)
        have F2 := F.same s
        have tq2 := tq.same s
        rw [e] at tq2
        exact k q ys H2 (F2.nw hm) tq2
end
open M22 M82 M87
theorem rise_g {α : Type} {key : α → Nat} : ∀ {as bs : List α}, as.Perm bs → as.Pairwise (fun r s => key r ≤ key s) → bs.Pairwise (fun r s => key r < key s) → as = bs := by
  intro as
  induction as with
  | nil => intro bs p _ _; exact (List.nil_perm.mp p).symm
  | cons a t ih =>
    intro bs p ha hb
    cases bs with
    | nil => exact absurd p.length_eq (by simp)
    | cons b u =>
      obtain rfl : a = b := by
        rcases List.mem_cons.mp (p.mem_iff.mp (List.mem_cons_self (a := a) (l := t))) with h | h
        · exact h
        · have h1 := (List.pairwise_cons.mp hb).1 a h
          rcases List.mem_cons.mp (p.mem_iff.mpr (List.mem_cons_self (a := b) (l := u))) with h2 | h2
          · exact h2.symm
          · have := (List.pairwise_cons.mp ha).1 b h2
            omega
      rw [ih (List.perm_cons a |>.mp p) (List.pairwise_cons.mp ha).2 (List.pairwise_cons.mp hb).2]
theorem sort_steps {H : Hp} {rs as : List Stp} {ys zs : List V} (t : TupsAt H ys (stepsV rs)) (p : rs.Perm as) (ha : as.Pairwise fun r s => r.1.st < s.1.st) (s : SortedBy (rs.map fun r => ((r.1.st : Nat) : Int)) ys zs) : TupsAt H zs (stepsV as) := by
  obtain ⟨ps, pp, rfl, pw⟩ := s
  have hl : ys.length = rs.length := by rw [t.1, stepsV_len]
  have ez : (rs.map fun r => ((r.1.st : Nat) : Int)).zip ys = (rs.zip ys).map fun p => (((p.1.1.st : Nat) : Int), p.2) := by
    rw [List.zip_map_left]
    rfl
  rw [ez] at pp
  obtain ⟨qs, pq, rfl⟩ := perm_of_map pp
  have pf : (qs.map Prod.fst).Perm rs := by
    have := pq.map Prod.fst
    rw [List.map_fst_zip (by omega)] at this
    exact this
  have hq : qs.map Prod.fst = as := by
    refine rise_g (key := fun r : Stp => r.1.st) (pf.trans p) ?_ ha
    rw [List.pairwise_map] at pw ⊢
    exact pw.imp fun h => by omega
  have each : ∀ x ∈ qs, ∃ q, x.2 = .ref q ∧ H q = some (.tup (stepV x.1)) := fun x hx => by
    obtain ⟨i, hi, e⟩ := List.getElem_of_mem (pq.mem_iff.mp hx)
    rw [List.length_zip] at hi
    rw [List.getElem_zip] at e
    obtain ⟨q, e3, e4⟩ := t.2 i (stepV rs[i]) (by unfold stepsV; rw [List.getElem?_map, List.getElem?_eq_getElem (by omega)]; rfl)
    rw [List.getElem?_eq_getElem (by omega)] at e3
    exact ⟨q, by rw [← e]; exact Option.some.inj e3, by rw [← e]; exact e4⟩
  refine ⟨by rw [stepsV_len, ← hq, List.length_map, List.length_map, List.length_map], fun j r e => ?_⟩
  unfold stepsV at e
  rw [← hq, List.map_map, List.getElem?_map] at e
  cases e5 : qs[j]? with
  | none => rw [e5] at e; cases e
  | some x =>
    rw [e5] at e
    cases e
    obtain ⟨q, e6, e7⟩ := each x (List.mem_of_getElem? e5)
    exact ⟨q, by rw [List.map_map, List.getElem?_map, e5]; show some x.2 = _; rw [e6], e7⟩
def ltS (r : List V) : Bool := match r with
  | [_, .int s, _, .int t] => decide (t < s)
  | _ => false
def gtS (r : List V) : Bool := match r with
  | [_, .int s, _, .int t] => decide (s < t)
  | _ => false
theorem filt_lt (M : List Stp) : (stepsV M).filter ltS = stepsV (ml M) := by
  unfold stepsV ml
  rw [List.filter_map]
  rfl
theorem filt_gt (M : List Stp) : (stepsV M).filter gtS = stepsV (mr M) := by
  unfold stepsV mr
  rw [List.filter_map]
  rfl
theorem ml_mv (L : List Sp2) : ml (mv L) = ml L := by
  unfold ml mv
  rw [List.filter_filter]
  refine List.filter_congr fun s _ => ?_
  by_cases q : s.2 < (s.1.st : Int)
  · simp [q]; omega
  · simp [q]
theorem mr_mv (L : List Sp2) : mr (mv L) = mr L := by
  unfold mr mv
  rw [List.filter_filter]
  refine List.filter_congr fun s _ => ?_
  by_cases q : (s.1.st : Int) < s.2
  · simp [q]; omega
  · simp [q]
instance go_lrev {K : PySem.W.Frag} {ta : TA} {σ : L2.St} {H : Hp} {Q : VK} : Go (tLRev K ta σ H Q) (ta σ H fun vs H1 => ∃ a xs, vs = [.ref a] ∧ SqL K H1 a xs ∧ ∀ l H', New H1 H' l (.lst xs.reverse) → Q (.ref l) H') := ⟨id⟩
instance go_lrv2 {K : PySem.W.Frag} {H : Hp} {Z : Addr → Hp → Prop} {a : Addr} {xs : List V} [h : SqA K H a xs] : Go (∃ a' xs', [V.ref a] = [.ref a'] ∧ SqL K H a' xs' ∧ ∀ l H', New H H' l (.lst xs'.reverse) → Z l H') (∀ l H', New H H' l (.lst xs.reverse) → Z l H') := ⟨fun k => ⟨a, xs, rfl, h.e, k⟩⟩
structure OrdOk (ss : List Stp) (Jl : List Sp2) : Prop where
  few : ss.length ≤ 40
  pm : ss.Perm (mv Jl)
  up : (Jl.map (·.1)).Pairwise fun r s => r.st < s.st
theorem OrdOk.mv_up {ss : List Stp} {Jl : List Sp2} (h : OrdOk ss Jl) : (mv Jl).Pairwise fun r s => r.1.st < s.1.st := (List.pairwise_map.mp h.up).sublist List.filter_sublist
def sp_order (P : Addr) (pos : Pos) (qual : Str) : Sp := fun vs H Q _ => ∃ (l : Addr) (zs : List V) (ss : List Stp) (Jl : List Sp2) (ps : Array Value), vs = [.ref l] ∧ SH H [P] H [(P, .tbl ps)] [TabI pos qual ps] ∧ l ≠ P ∧ H l = some (.lst zs) ∧ TupsAt H zs (stepsV ss) ∧ OrdOk ss Jl ∧ ∀ q ys ps' H', SH H [P] H' [(q, .lst ys), (P, .tbl ps')] [.tps ys (stepsV (ordJ Jl)), TabI pos qual ps'] → Q (.ref q) H'
instance go_sortKS {K : PySem.W.Frag} {H : Hp} {Q : VK} {l f : Addr} {ys : List V} {ss : List Stp} {H0 : Hp} {M : List Addr} {L : List (Addr × HO)} {I : List Im} [F : SH H0 M H L I] [h : SqA K H l ys] [t : TpA H ys (stepsV ss)] [m : LamA I f] : Go (rSortK K [.ref l] (.ref f) H Q) (Sd (ss.length < 64) (∀ D zs H', New H H' D (.lst zs) → SortedBy (ss.map fun r => ((r.1.st : Nat) : Int)) ys zs → Q (.ref D) H')) := ⟨fun s => by
  have hl : ys.length = ss.length := by rw [t.e.1, stepsV_len]
  refine ⟨l, f, ys, ss.map fun r => ((r.1.st : Nat) : Int), rfl, rfl, F.im _ m.m, h.e, by rw [List.length_map, hl], by rw [hl]; exact s.1, fun i v k hv hk => ?_, s.2⟩
  obtain ⟨r, q, e1, e2, e3⟩ := tups_at t.e hv
  obtain ⟨x, e4, rfl⟩ := map_at e1
  rw [List.getElem?_map, e4] at hk
  cases hk
  exact ⟨q, _, e2, e3, rfl⟩⟩
abbrev lamPos2 : Pos := ⟨162, 31, 162, 51⟩
abbrev lamQual2 : Str := "in_moving_order.<locals>.<lambda>"
section
variable {P : Program} {w : World} {K : PySem.W.Frag} {mg : Str → Option Value} {base : Heap} {c : Nat → Addr} {ct_Linit pt_Linit ct_order pt_order R CL : Addr}
theorem D_order (T : Txt K mg c R CL ct_Linit pt_Linit ct_order pt_order) (B : Bm mg base) : Def P w K mg base CX0 1 "in_moving_order" ["steps"] (sp_order pt_order lamPos2 lamQual2) := by
  refine def_ofC T.d_order sc_order (fun vs H Q E h => ?_) (fun _ _ _ _ _ _ us hl => match us, hl with | [_], _ => rfl) (fun f A outer s H vs Q E hr h => ?_)
  · obtain ⟨l, zs, ss, Jl, ps, rfl, _⟩ := h
    rfl
  · obtain ⟨l, zs, ss, Jl, ps, rfl, F, hne, hl, tp, side, k⟩ := h
    have nd := sc_order.nd
    refine ⟨_, (pss_cons (ps_set (i := 1) nd rfl (Or.inl rfl) (pe_ckw (call_sortK rfl hr) rfl T.n_sorted boot_sorted (pa_cons (pv 0) pa_nil) (pe_lam (qual := lamQual2) B rfl T.tab_order (by with_unfolding_all rfl) ⟨rfl, rfl, rfl, by with_unfolding_all rfl, by decide +kernel, by decide⟩)))
      (pss_cons (ps_setc (i := 2) nd rfl (Or.inl rfl) (N := ["step"]) (nt := 1) (fr := []) (pi_list (pv 1)) (fun _ _ _ _ => (pg_name (i := 0) (show (["step"] : List Str).Nodup from by decide +kernel) rfl (Or.inl rfl))) (fun _ _ _ _ => pif_one (pt_cmpR op_lt (pe_ix (ix_tupK (K := K) rfl) (pv 0) pe_int (fun _ _ => rfl)) (pe_ix (ix_tupK (K := K) rfl) (pv 0) pe_int (fun _ _ => rfl)) (nomark _))) (fun _ _ _ _ => (pv 0)))
      (pss_cons (ps_setc (i := 3) nd rfl (Or.inl rfl) (N := ["step"]) (nt := 1) (fr := []) (pi_list (pv 1)) (fun _ _ _ _ => (pg_name (i := 0) (show (["step"] : List Str).Nodup from by decide +kernel) rfl (Or.inl rfl))) (fun _ _ _ _ => pif_one (pt_cmpR op_gt (pe_ix (ix_tupK (K := K) rfl) (pv 0) pe_int (fun _ _ => rfl)) (pe_ix (ix_tupK (K := K) rfl) (pv 0) pe_int (fun _ _ => rfl)) (nomark _))) (fun _ _ _ _ => (pv 0)))
      (pss_one (ps_ret (pe_op op_catA (pv 2) (pe_listRev rfl rfl T.n_list rfl T.n_reversed (pa_cons (pv 3) pa_nil)))))))), ?_⟩
    clear nd 
    rw [show start ["steps", "rising", "lesser", "greater"] [.ref l] = [some (.ref l), none, none, none] from rfl]
    try dsimp only [cx_K, cx_K2]
    have iL_many : FldOk K CL "many" := ⟨T.clL, T.aL_many⟩
    have iL_rows : FldOk K CL "rows" := ⟨T.clL, T.aL_rows⟩
    have o_hl := Old.mk (M := [pt_order]) hl (nm1 hne)
    replace F := F.addP tp
    have few := side.few
    have ml2 : (mv Jl).length = ss.length := side.pm.length_eq.symm
    repeat k_meth
    intro f_ ps_
    repeat k_meth
    intro D zs2 H8 n8 so
    have t8 := sort_steps (H := H_) TpA.e side.pm side.mv_up so
    have zl2 : zs2.length = ss.length := by rw [t8.1, stepsV_len, ml2]
    replace F := F.newR n8 (t8.same n8.s)
    repeat k_meth
    refine comp_G (P := ltS) (fvs := []) hatC (TpA.e (rs := stepsV (mv Jl))) (by omega) rfl (fun i ys H' => TupsAt H' ys (((stepsV (mv Jl)).take i).filter ltS)) (fun i ys H1 H2 s t => tups_st s t) TupsAt.nil (fun i q1 r H' R e1 s1 e2 kk => ?_) (fun i q1 r ys H' R e1 hp s1 e2 g kk => ?_) (fun i r ys H' e1 hp g => by rw [take_rows e1, List.filter_append, List.filter_cons_of_neg (by simp [hp]), List.filter_nil, List.append_nil]; exact g) fun qltS yltS HltS n1 g => ?_
    · clear F
      have F : SH H' [] H' [] [] := SH.nil
      obtain ⟨s, _, rfl⟩ := List.mem_map.mp (List.mem_of_getElem? e1)
      have o_e2 := Old.mk (M := []) e2 nm0
      have kk : ∀ H2, Same H' H2 → R (decide (s.2 < (s.1.st : Int))) H2 := kk
      repeat k_meth
      exact kk _ (Same.refl _)
    · repeat k_meth
      refine kk _ _ (Same.refl _) ?_
      rw [take_rows e1, List.filter_append, List.filter_cons_of_pos hp, List.filter_nil]
      exact TupsAt.snoc g e2
    rw [List.take_of_length_le (by rw [stepsV_len]; omega), filt_lt, ml_mv] at g
    replace F := F.newR n1 g
    have lltS : yltS.length ≤ 40 := by
      rw [g.1, stepsV_len]
      have := List.length_filter_le (fun s : Sp2 => decide (s.2 < (s.1.st : Int))) Jl
      have a2 := ml_mv Jl
      have a3 := congrArg List.length a2
      have a4 := List.length_filter_le (fun s : Sp2 => decide (s.2 < (s.1.st : Int))) (mv Jl)
      unfold ml at a3 ⊢
      omega
    repeat k_meth
    refine comp_G (P := gtS) (fvs := []) hatC (TpA.e (rs := stepsV (mv Jl))) (by omega) rfl (fun i ys H' => TupsAt H' ys (((stepsV (mv Jl)).take i).filter gtS)) (fun i ys H1 H2 s t => tups_st s t) TupsAt.nil (fun i q1 r H' R e1 s1 e2 kk => ?_) (fun i q1 r ys H' R e1 hp s1 e2 g kk => ?_) (fun i r ys H' e1 hp g => by rw [take_rows e1, List.filter_append, List.filter_cons_of_neg (by simp [hp]), List.filter_nil, List.append_nil]; exact g) fun qgtS ygtS HgtS n1 g => ?_
    · clear F
      have F : SH H' [] H' [] [] := SH.nil
      obtain ⟨s, _, rfl⟩ := List.mem_map.mp (List.mem_of_getElem? e1)
      have o_e2 := Old.mk (M := []) e2 nm0
      have kk : ∀ H2, Same H' H2 → R (decide ((s.1.st : Int) < s.2)) H2 := kk
      repeat k_meth
      exact kk _ (Same.refl _)
    · repeat k_meth
      refine kk _ _ (Same.refl _) ?_
      rw [take_rows e1, List.filter_append, List.filter_cons_of_pos hp, List.filter_nil]
      exact TupsAt.snoc g e2
    rw [List.take_of_length_le (by rw [stepsV_len]; omega), filt_gt, mr_mv] at g
    replace F := F.newR n1 g
    have lgtS : ygtS.length ≤ 40 := by
      rw [g.1, stepsV_len]
      have := List.length_filter_le (fun s : Sp2 => decide ((s.1.st : Int) < s.2)) Jl
      have a2 := mr_mv Jl
      have a3 := congrArg List.length a2
      have a4 := List.length_filter_le (fun s : Sp2 => decide ((s.1.st : Int) < s.2)) (mv Jl)
      unfold mr at a3 ⊢
      omega
    have rl : ygtS.reverse.length ≤ 40 := by rw [List.length_reverse]; exact lgtS
    have rl2 : yltS.length + ygtS.reverse.length ≤ sizeLine := by rw [sizeLine_eq]; omega
    repeat k_meth
    have t9 : TupsAt H_ (yltS ++ ygtS.reverse) (stepsV (ordJ Jl)) := by
      have := (F.tps (ys := yltS) (rs := stepsV (ml Jl)) (by simp)).app (F.tps (ys := ygtS) (rs := stepsV (mr Jl)) (by simp)).rev
      unfold ordJ stepsV at *
      rw [List.map_append, List.map_reverse]
      exact this
    exact k _ (yltS ++ ygtS.reverse) ps_ _ ((F.addP t9).sub SbC.s (by simp))
end
open M22 M82 M87
instance nx_smT {H0 H : Hp} {M : List Addr} {L : List (Addr × HO)} {I : List Im} {r : List V} {Z : Addr → Hp → Prop} [F : SH H0 M H L I] : Go (∀ q H', Same H H' → H' q = some (.tup r) → Z q H') (∀ H' q, SH H0 M H' L (.tup q r :: I) → Z q H') := ⟨fun k q H' s e => k H' q ((F.same s).addT e)⟩
def chW (w : S3) : List Stp := chc w.1 w.2.1 (gp0 w.1 w.2.1 w.2.2) w.2.2
def allS (n : Nat) (rs : List Rw) (i : Nat) : List Stp := ((strB n 0 [] rs).take i).flatMap chW
def Jof (n : Nat) (rs : List Rw) : List Sp2 := allJ n 0 [] rs
theorem fm_perm {α β : Type} {f g : α → List β} (h : ∀ x, (f x).Perm (g x)) : ∀ l : List α, (l.flatMap f).Perm (l.flatMap g)
  | [] => List.Perm.refl _
  | x :: l => by rw [List.flatMap_cons, List.flatMap_cons]; exact (h x).append (fm_perm h l)
theorem Jof_fst (n : Nat) (rs : List Rw) : (Jof n rs).map (·.1) = rs := allJ_fst n rs 0 []
theorem Jof_len (n : Nat) (rs : List Rw) : (Jof n rs).length = rs.length := by have := congrArg List.length (Jof_fst n rs); rwa [List.length_map] at this
theorem all_perm (n : Nat) (rs : List Rw) : ((strB n 0 [] rs).flatMap chW).Perm (mv (Jof n rs)) := by
  unfold Jof
  rw [allJ_B]
  exact fm_perm (fun w => chc_perm ..) _
theorem allS_len (n : Nat) (rs : List Rw) (i : Nat) : (allS n rs i).length ≤ rs.length := by
  have h1 : (allS n rs i).length ≤ ((strB n 0 [] rs).flatMap chW).length := by
    unfold allS
    have := congrArg (fun l : List S3 => (l.flatMap chW).length) (List.take_append_drop i (strB n 0 [] rs))
    simp only [List.flatMap_append, List.length_append] at this
    omega
  rw [(all_perm n rs).length_eq] at h1
  have := mv_len (Jof n rs)
  rw [Jof_len] at this
  omega
theorem allS_all (n : Nat) (rs : List Rw) {i : Nat} (h : (strB n 0 [] rs).length ≤ i) : allS n rs i = (strB n 0 [] rs).flatMap chW := by unfold allS; rw [List.take_of_length_le h]
theorem allS_snoc {n : Nat} {rs : List Rw} {i : Nat} {w : S3} (h : (strB n 0 [] rs)[i]? = some w) : allS n rs (i + 1) = allS n rs i ++ chW w := by
  unfold allS
  rw [take_snocR h, List.flatMap_append, List.flatMap_singleton]
theorem asc_lt {n : Nat} {rs : List Rw} (ok : OkA 0 n rs) : rs.Pairwise fun r s => r.st < s.st := ok.asc.imp_of_mem fun {a b} ha hb h => by have := ok.bd a ha; omega
theorem ord_ok {n : Nat} {rs : List Rw} (ok : OkA 0 n rs) (few : rs.length ≤ 40) : OrdOk ((strB n 0 [] rs).flatMap chW) (Jof n rs) := ⟨by
  rw [(all_perm n rs).length_eq]
  have := mv_len (Jof n rs)
  rw [Jof_len] at this
  omega, all_perm n rs, by rw [Jof_fst]; exact asc_lt ok⟩
theorem szI_all (n : Nat) (rs : List Rw) : szI ((strB n 0 [] rs).flatMap chW) = pri (Jof n rs) := by
  unfold szI pri
  exact psum (all_perm n rs)
theorem ordJ_len (L : List Sp2) : (ordJ L).length ≤ L.length := by
  unfold ordJ ml mr
  rw [List.length_append, List.length_reverse]
  induction L with
  | nil => exact Nat.le_refl _
  | cons s L ih =>
    by_cases q : s.2 < (s.1.st : Int)
    · rw [List.filter_cons_of_pos (by simpa using q), List.filter_cons_of_neg (by simp; omega)]
      simp only [List.length_cons]; omega
    · by_cases q2 : (s.1.st : Int) < s.2
      · rw [List.filter_cons_of_neg (by simpa using q), List.filter_cons_of_pos (by simpa using q2)]
        simp only [List.length_cons]; omega
      · rw [List.filter_cons_of_neg (by simpa using q), List.filter_cons_of_neg (by simpa using q2)]
        simp only [List.length_cons]; omega
theorem chW_mem {n : Nat} {rs : List Rw} (ok : OkA 0 n rs) {i : Nat} {s : Stp} (h : s ∈ allS n rs i) : s.1 ∈ rs := by
  unfold allS at h
  obtain ⟨w, hw, hs⟩ := List.mem_flatMap.mp h
  have := strB_ok ok w (List.mem_of_mem_take hw)
  have m := chc_mem hs
  rw [← this.flt] at m
  exact (List.mem_filter.mp m).1
theorem str_at {n : Nat} {rs : List Rw} (ok : OkA 0 n rs) {i : Nat} {w : W3} (h : (strF n rs)[i]? = some w) : ∃ x : S3, (strB n 0 [] rs)[i]? = some x ∧ w.1 = x.1 ∧ w.2.1 = x.2.1 ∧ w.2.2 = x.2.1 - x.1 - szs x.2.2 ∧ rs.filter (within x.1 x.2.1) = x.2.2 ∧ StrOk rs n x := by
  have e := strB_G n rs 0 []
  rw [szs_nil, ← strF_G ok] at e
  rw [← e, List.getElem?_map] at h
  cases e2 : (strB n 0 [] rs)[i]? with
  | none => rw [e2] at h; cases h
  | some x =>
    rw [e2] at h
    cases h
    have so := strB_ok ok x (List.mem_of_getElem? e2)
    exact ⟨x, rfl, rfl, rfl, rfl, so.flt, so⟩
theorem strF_B {n : Nat} {rs : List Rw} (ok : OkA 0 n rs) : (strF n rs).length = (strB n 0 [] rs).length := by
  have e := congrArg List.length (strB_G n rs 0 [])
  rw [szs_nil, ← strF_G ok, List.length_map] at e
  exact e.symm
def sp_tidied (CL P : Addr) (pos : Pos) (qual : Str) : Sp := fun vs H Q _ => ∃ (x p dx : Addr) (n : Nat) (zs : List V) (rs : List Rw) (ps : Array Value), vs = [.ref x] ∧ SH H [P] H [(P, .tbl ps)] [TabI pos qual ps] ∧ x ≠ P ∧ p ≠ P ∧ H x = some (.ins CL dx (lF (n : Nat) p)) ∧ H p = some (.lst zs) ∧ TupsAt H zs (rowsV rs) ∧ (Lay n rs ∧ Asc rs ∧ n ≤ 240) ∧
  ∀ t m ys ps' H', SH H [P] H' [(m, .lst ys), (P, .tbl ps')] [.tup t [.int (pri (Jof n rs)), .ref m], .tps ys (movesV (ordJ (Jof n rs))), TabI pos qual ps'] → Q (.ref t) H'
section
variable {P : Program} {w : World} {K : PySem.W.Frag} {mg : Str → Option Value} {base : Heap} {c : Nat → Addr} {ct_Linit pt_Linit ct_order pt_order R CL : Addr}
theorem D_tidied (T : Txt K mg c R CL ct_Linit pt_Linit ct_order pt_order) (B : Bm mg base) : Def P w K mg base CX0 5 "tidied" ["layout"] (sp_tidied CL pt_order lamPos2 lamQual2) := by
  have D_stretches := D_stretches (P := P) (w := w) (base := base) T
  have D_cmoved := D_cmoved (P := P) (w := w) (base := base) T
  have D_moves := D_moves (P := P) (w := w) (base := base) T
  have D_cheapest := D_cheapest (P := P) (w := w) (base := base) T
  have D_order := D_order (P := P) (w := w) (base := base) T B
  have D_between := D_between (P := P) (w := w) (base := base) T
  refine def_of T.d_tidied sc_tidied (fun vs H Q E h => ?_) (fun _ _ _ _ _ _ us hl => match us, hl with | [_], _ => rfl) (fun f cdv A outer s H vs Q E hr h => ?_)
  · obtain ⟨x, p, dx, n, zs, rs, ps, rfl, _⟩ := h
    rfl
  · obtain ⟨x, p, dx, n, zs, rs, ps, rfl, F, hnx, hnp, hx, hp, tp, side, k⟩ := h
    have nd := sc_tidied.nd
    refine ⟨_, (pss_cons (ps_set (i := 1) nd rfl (Or.inl rfl) (pe_lstA pa_nil))
      (pss_cons (ps_for PassesOwn.never rfl (pi_list (pe_def D_stretches hr (pa_cons (pv 0) pa_nil))) (pg_tup rfl (pgs_cons (pg_name (i := 2) nd rfl (Or.inl rfl)) (pgs_cons (pg_name (i := 3) nd rfl (Or.inl rfl)) (pgs_cons (pg_name (i := 4) nd rfl (Or.inl rfl)) pgs_nil)))) (pss_one (ps_expr (pe_extA (pv 1) (pe_def D_cheapest hr (pa_cons (pe_def D_between hr (pa_cons (pv 0) (pa_cons (pv 2) (pa_cons (pv 3) pa_nil)))) (pa_cons (pv 2) (pa_cons (pv 3) pa_nil))))))))
      (pss_one (ps_ret (pe_tupA (pa_cons (pe_def D_cmoved hr (pa_cons (pv 1) pa_nil)) (pa_cons (pe_def D_moves hr (pa_cons (pe_def D_order hr (pa_cons (pv 1) pa_nil)) pa_nil)) pa_nil))))))), ?_⟩
    clear nd D_stretches D_cmoved D_moves D_cheapest D_order D_between
    rw [show start ["layout", "steps", "first", "behind", "free"] [.ref x] = [some (.ref x), none, none, none, none] from rfl]
    try dsimp only [cx_K, cx_K2]
    have iL_many : FldOk K CL "many" := ⟨T.clL, T.aL_many⟩
    have iL_rows : FldOk K CL "rows" := ⟨T.clL, T.aL_rows⟩
    have o_hx := Old.mk (M := [pt_order]) hx (nm1 hnx)
    have o_hp := Old.mk (M := [pt_order]) hp (nm1 hnp)
    replace F := F.addP tp
    obtain ⟨ly, as, n240⟩ := side
    have ok := ok_of ly as
    have few := ly.few
    have sz240 : ∀ r ∈ rs, r.sz ≤ 240 := fun r hr => by have := (ly.good r hr).le; omega
    have fs : rs.length ≤ 40 ∧ ∀ r ∈ rs, r.sz ≤ 240 := ⟨few, sz240⟩
    repeat k_meth
    rename_i _ st
    rename List V => yw
    rename Addr => sw
    have wl : yw.length = (strF n rs).length := by assumption
    refine forL_by (xs := yw) (fun i σ' H' => ∃ (o2 o3 o4 : Option V) (ys : List V), σ' = [some (.ref x), some (.ref st), o2, o3, o4] ∧ ys.length = (allS n rs i).length ∧ SH H [pt_order] H' [(st, .lst ys), (sw, .lst yw), (pt_order, .tbl ps)] [.tps ys (stepsV (allS n rs i)), .tps yw (rows3 (strF n rs)), .tps zs (rowsV rs), TabI lamPos2 lamQual2 ps]) ⟨_, _, _, [], rfl, rfl, (F.addP (ys := []) (rs := stepsV []) TupsAt.nil).sub SbC.s (by simp [allS])⟩ ?_ ?_ ?_
    · clear F
      rintro i σ' H' _ ⟨_, _, _, ys, rfl, yl, F⟩
      exact SqA.e
    · clear F
      rintro i v σ' H' hv ⟨_, _, _, ys, rfl, yl, F⟩
      obtain ⟨w, q1, e1, rfl, e2⟩ := row3_at (H := H') (ws := strF n rs) (F.tps (by simp)) hv
      replace F := F.addT e2
      obtain ⟨x3, e3, w1, w2, w3, flt, so⟩ := str_at ok e1
      have al := allS_len n rs i
      have al2 := allS_len n rs (i + 1)
      rw [allS_snoc e3, List.length_append] at al2
      rw [show row3 w = [V.int x3.1, V.int x3.2.1, V.int w.2.2] by rw [← w1, ← w2]] at F
      have sd1 : x3.2.2.length ≤ 40 ∧ (∀ r ∈ x3.2.2, r.sz ≤ 240) ∧ ∀ r ∈ x3.2.2, r.pn = 0 := by
        refine ⟨?_, fun r hr => ?_, so.un⟩
        · rw [← flt]
          exact Nat.le_trans (List.length_filter_le _ _) few
        · rw [← flt] at hr
          exact sz240 r (List.mem_filter.mp hr).1
      repeat k_meth
      rw [flt] at F ⊢
      repeat k_meth
      have yl2 : ys_.length = (chW x3).length := by assumption
      refine sd (by rw [sizeLine_eq]; omega) ?_
      repeat k_meth
      have t1 : TupsAt H_ (ys ++ ys_) (stepsV (allS n rs (i + 1))) := by
        have := (F.tps (ys := ys) (rs := stepsV (allS n rs i)) (by simp)).app (F.tps (ys := ys_) (rs := stepsV (chW x3)) (by simp [chW]))
        rw [allS_snoc e3]
        unfold stepsV at this ⊢
        rw [List.map_append]
        exact this
      exact ⟨_, _, _, ys ++ ys_, rfl, by rw [allS_snoc e3, List.length_append, List.length_append, yl, yl2], (F.addP t1).sub SbC.s (by simp)⟩
    · clear F
      rintro σ' H' ⟨_, _, _, ys, rfl, yl, F⟩
      rw [allS_all n rs (by rw [wl, strF_B ok]; exact Nat.le_refl _)] at F yl
      have oo := ord_ok ok few
      have o1 := oo.few
      have o2 : ((strB n 0 [] rs).flatMap chW).length ≤ 40 ∧ ∀ s ∈ (strB n 0 [] rs).flatMap chW, s.1.sz ≤ 240 := ⟨o1, fun s hs => by
        rw [← allS_all n rs (Nat.le_refl _)] at hs
        exact sz240 _ (chW_mem ok hs)⟩
      have jl := ordJ_len (Jof n rs)
      rw [Jof_len] at jl
      repeat k_meth
      have F0 : SH H [pt_order] H_ [(pt_order, .tbl ps), (st, .lst ys)] [.tps ys (stepsV ((strB n 0 [] rs).flatMap chW)), TabI lamPos2 lamQual2 ps] := F.sub SbC.s (by simp)
      have F1 : SH H [pt_order] H_ ([(pt_order, .tbl ps)] ++ [(st, .lst ys)]) [.tps ys (stepsV ((strB n 0 [] rs).flatMap chW)), TabI lamPos2 lamQual2 ps] := F0
      refine ⟨st, ys, (strB n 0 [] rs).flatMap chW, Jof n rs, ps, rfl, (SH.cut F1 rfl).addF (F1.im (TabI lamPos2 lamQual2 ps) (by simp)), SH.neC (F := F0), hatC, TpA.e, oo, fun q yq ps' H2 G => ?_⟩
      have F2 := SH.over F1 G rfl
      clear F F0 F1
      simp only [List.cons_append, List.nil_append] at F2
      have F : SH H [pt_order] H2 _ _ := F2
      clear F2
      rw [szI_all]
      repeat k_meth
      rename List V => ym
      rename Addr => tA
      exact k tA p_ ym ps' _ (F.sub SbC.s (by simp))
end
open M22 M82 M87
theorem plc_at (A : List Rw) : ∀ (a : Int) (k : Nat), (plc a A)[k]? = A[k]?.map fun r => (r, a + szs (A.take k)) := by
  induction A with
  | nil => intro a k; simp [plc]
  | cons r A ih =>
    intro a k
    cases k with
    | zero => simp [plc, szs_nil]
    | succ k =>
      rw [plc, List.getElem?_cons_succ, List.getElem?_cons_succ, ih, List.take_succ_cons, szs_cons]
      congr 1
      funext s
      congr 1
      omega
def atJ (f b : Int) (g : Nat) (A : List Rw) (k : Nat) : Int := if k < g then f + szs (A.take k) else b - szs (A.drop k)
theorem jn_at {f b : Int} {g k : Nat} {A : List Rw} {r : Rw} (hg : g ≤ A.length) (h : A[k]? = some r) : (jn f b g A)[k]? = some (r, atJ f b g A k) := by
  have hk := (List.getElem?_eq_some_iff.mp h).1
  unfold jn atJ
  by_cases q : k < g
  · rw [if_pos q, List.getElem?_append_left (by rw [plc_len, List.length_take]; omega), plc_at, List.getElem?_take, if_pos q, h, List.take_take, Nat.min_eq_left (by omega)]
    rfl
  · rw [if_neg q, List.getElem?_append_right (by rw [plc_len, List.length_take]; omega), plc_at, plc_len, List.length_take, Nat.min_eq_left hg, List.getElem?_drop, show g + (k - g) = k by omega, h]
    show some (r, _) = _
    congr 2
    have e1 := szs_take (A.drop g) (k - g)
    rw [List.drop_drop, show g + (k - g) = k by omega] at e1
    omega
def atK (f b : Int) (g : Nat) (A : List Rw) (k : Nat) : Int := if k ≤ g then f + szs (A.take k) else b - szs (A.drop k)
theorem szs_drop {A : List Rw} {k : Nat} {r : Rw} (h : A[k]? = some r) : szs (A.drop k) = (r.sz : Int) + szs (A.drop (k + 1)) := by rw [drop_at h, szs_cons]
theorem szs_tk {A : List Rw} {k : Nat} {r : Rw} (h : A[k]? = some r) : szs (A.take (k + 1)) = szs (A.take k) + (r.sz : Int) := by rw [take_snocR h, szs_app, szs_cons, szs_nil]; omega
theorem atK_eq {f b : Int} {g : Nat} {A : List Rw} {r : Rw} (h : A[g]? = some r) : atK f b g A g + (b - f - szs A) = atJ f b g A g := by
  unfold atK atJ
  rw [if_pos (Nat.le_refl _), if_neg (Nat.lt_irrefl _)]
  have := szs_take A g
  omega
theorem atK_ne {f b : Int} {g k : Nat} {A : List Rw} (h : ¬ k = g) : atK f b g A k = atJ f b g A k := by
  unfold atK atJ
  by_cases q : k < g
  · rw [if_pos q, if_pos (by omega)]
  · rw [if_neg q, if_neg (by omega)]
theorem atK_succ {f b : Int} {g k : Nat} {A : List Rw} {r : Rw} (h : A[k]? = some r) : atJ f b g A k + (r.sz : Int) = atK f b g A (k + 1) := by
  unfold atK atJ
  have e1 := szs_drop h
  have e2 := szs_tk h
  by_cases q : k < g
  · rw [if_pos q, if_pos (by omega)]; omega
  · rw [if_neg q, if_neg (by omega)]; omega
def StrA (rs : List Rw) (f b fr : Int) (A : List Rw) : Prop := rs.length ≤ 40 ∧ (∀ r ∈ rs, r.sz ≤ 240) ∧ rs.filter (within f b) = A ∧ fr = b - f - szs A
def sp_joined : Sp := fun vs H Q _ => ∃ (l t : Addr) (zs : List V) (rs A : List Rw) (f b fr : Int) (g : Nat), vs = [.ref l, .ref t, .int (g : Nat)] ∧ H l = some (.lst zs) ∧ TupsAt H zs (rowsV rs) ∧ H t = some (.tup [.int f, .int b, .int fr]) ∧ (StrA rs f b fr A ∧ g ≤ A.length) ∧ ∀ q ys H', New H H' q (.lst ys) → TupsAt H' ys (stepsV (jn f b g A)) → Q (.ref q) H'
def sp_price : Sp := fun vs H Q _ => ∃ (l : Addr) (zs : List V) (ss : List Stp), vs = [.ref l] ∧ H l = some (.lst zs) ∧ TupsAt H zs (stepsV ss) ∧ (ss.length ≤ 40 ∧ ∀ s ∈ ss, s.1.sz ≤ 240) ∧ ∀ H', Same H H' → Q (.int (pri ss)) H'
def sp_best : Sp := fun vs H Q _ => ∃ (l t : Addr) (zs : List V) (rs A : List Rw) (f b fr : Int), vs = [.ref l, .ref t] ∧ H l = some (.lst zs) ∧ TupsAt H zs (rowsV rs) ∧ H t = some (.tup [.int f, .int b, .int fr]) ∧ StrA rs f b fr A ∧ ∀ q ys H', New H H' q (.lst ys) → TupsAt H' ys (stepsV (best f b A)) → Q (.ref q) H'
class StrC (rs : List Rw) (f b fr : Int) (A : outParam (List Rw)) : Prop where
  s : StrA rs f b fr A
section
variable {K : PySem.W.Frag} {l t : Addr} {H : Hp} {Q : VK} {E : XK} {zs : List V} {ss : List Stp} {rs A : List Rw} {f b fr : Int} {g : Nat}
instance go_joined [h : Hat H l (.lst zs)] [tt : TpA H zs (rowsV rs)] [h2 : Hat H t (.tup [.int f, .int b, .int fr])] [sc : StrC rs f b fr A] : Go (sp_joined [.ref l, .ref t, .int (g : Nat)] H Q E) (Sd (g ≤ A.length) (∀ q ys H', New H H' q (.lst ys) → TupsAt H' ys (stepsV (jn f b g A)) → Q (.ref q) H')) := ⟨fun s => ⟨l, t, zs, rs, A, f, b, fr, g, rfl, h.e, tt.e, h2.e, ⟨sc.s, s.1⟩, s.2⟩⟩
instance go_joined0 [h : Hat H l (.lst zs)] [tt : TpA H zs (rowsV rs)] [h2 : Hat H t (.tup [.int f, .int b, .int fr])] [sc : StrC rs f b fr A] : Go (sp_joined [.ref l, .ref t, .int 0] H Q E) (∀ q ys H', New H H' q (.lst ys) → TupsAt H' ys (stepsV (jn f b 0 A)) → Q (.ref q) H') := ⟨fun s => ⟨l, t, zs, rs, A, f, b, fr, 0, rfl, h.e, tt.e, h2.e, ⟨sc.s, Nat.zero_le _⟩, s⟩⟩
instance go_price [h : Hat H l (.lst zs)] [tt : TpA H zs (stepsV ss)] : Go (sp_price [.ref l] H Q E) (Sd (ss.length ≤ 40 ∧ ∀ s ∈ ss, s.1.sz ≤ 240) (∀ H', Same H H' → Q (.int (pri ss)) H')) := ⟨fun s => ⟨l, zs, ss, rfl, h.e, tt.e, s.1, s.2⟩⟩
instance go_best [h : Hat H l (.lst zs)] [tt : TpA H zs (rowsV rs)] [h2 : Hat H t (.tup [.int f, .int b, .int fr])] [sc : StrC rs f b fr A] : Go (sp_best [.ref l, .ref t] H Q E) (∀ q ys H', New H H' q (.lst ys) → TupsAt H' ys (stepsV (best f b A)) → Q (.ref q) H') := ⟨fun s => ⟨l, t, zs, rs, A, f, b, fr, rfl, h.e, tt.e, h2.e, sc.s, s⟩⟩
end
def neS (r : List V) : Bool := match r with
  | [_, .int s, _, .int t] => !decide (t = s)
  | _ => false
theorem pr_rows (ss : List Stp) : ((stepsV ss).filter neS).map (fun r => r.getD 2 V.non) = ((mv ss).map fun s => ((s.1.sz : Nat) : Int)).map V.int := by
  have e : mv ss = ss.filter fun s => !decide (s.2 = (s.1.st : Int)) := by
    unfold mv
    exact List.filter_congr fun s _ => by simp
  rw [e]
  unfold stepsV
  rw [List.filter_map, List.map_map, List.map_map]
  rfl
instance go_tup24 {K : PySem.W.Frag} {H : Hp} {l q : Addr} {σ : L2.St} {n m i0 i1 i2 i3 i4 : Nat} {a b c d e : V} {R : L2.St → Hp → Prop} [h : SqB K H l [a, .ref q]] [h2 : SqB K H q [b, c, d, e]] : Go (gTup K n (gCons (gName i0) (gCons (gTup K m (gCons (gName i1) (gCons (gName i2) (gCons (gName i3) (gCons (gName i4) gNil))))) gNil)) (.ref l) σ H R) (Sd (n = 2) (Sd (m = 4) (gName i0 a σ H fun σ1 H1 => gName i1 b σ1 H1 fun σ2 H2 => gName i2 c σ2 H2 fun σ3 H3 => gName i3 d σ3 H3 fun σ4 H4 => gName i4 e σ4 H4 R))) := ⟨fun s => by
  obtain ⟨rfl, rfl, s⟩ := s
  exact ⟨l, [a, .ref q], rfl, h.e, rfl, a, [.ref q], rfl, .ref q, [], rfl, q, [b, c, d, e], rfl, h2.e, rfl, b, _, rfl, c, _, rfl, d, _, rfl, e, [], rfl, rfl, rfl, s⟩⟩
theorem four (ss : List Stp) : ∀ r ∈ stepsV ss, ∃ a b c d, r = [a, b, c, d] := fun r hr => by
  obtain ⟨s, _, rfl⟩ := List.mem_map.mp hr
  exact ⟨_, _, _, _, rfl⟩
theorem jn_szs {f b : Int} {g : Nat} {A : List Rw} {m : Nat} (h : ∀ r ∈ A, r.sz ≤ m) : ∀ s ∈ jn f b g A, s.1.sz ≤ m := fun s hs => h _ (by rw [← jn_fst f b g A]; exact List.mem_map_of_mem hs)
section
variable {P : Program} {w : World} {K : PySem.W.Frag} {mg : Str → Option Value} {base : Heap} {c : Nat → Addr} {ct_Linit pt_Linit ct_order pt_order R CL : Addr}
theorem D_price (T : Txt K mg c R CL ct_Linit pt_Linit ct_order pt_order) : Def P w K mg base CX0 1 "_law_price" ["_law_steps"] sp_price := by
  refine def_of T.d_price sc_price (fun vs H Q E h => ?_) (fun _ _ _ _ _ _ us hl => match us, hl with | [_], _ => rfl) (fun f cdv A outer s H vs Q E hr h => ?_)
  · obtain ⟨l, zs, ss, rfl, _⟩ := h
    rfl
  · obtain ⟨l, zs, ss, rfl, hl, tp, few, k⟩ := h
    have nd := sc_price.nd
    refine ⟨_, (pss_one (ps_ret (pe_callB (call_sumL rfl) rfl T.n_sum boot_sum (pa_cons (pe_comp (N := ["_law_name", "_law_start", "_law_size", "_law_to"]) (nt := 4) (fr := []) (pi_list (pv 0)) (fun _ _ _ _ => (pg_tupK (K := K) (n := 4) rfl rfl (pgs_cons (pg_name (i := 0) (show (["_law_name", "_law_start", "_law_size", "_law_to"] : List Str).Nodup from by decide +kernel) rfl (Or.inl rfl)) (pgs_cons (pg_name (i := 1) (show (["_law_name", "_law_start", "_law_size", "_law_to"] : List Str).Nodup from by decide +kernel) rfl (Or.inl rfl)) (pgs_cons (pg_name (i := 2) (show (["_law_name", "_law_start", "_law_size", "_law_to"] : List Str).Nodup from by decide +kernel) rfl (Or.inl rfl)) (pgs_cons (pg_name (i := 3) (show (["_law_name", "_law_start", "_law_size", "_law_to"] : List Str).Nodup from by decide +kernel) rfl (Or.inl rfl)) pgs_nil)))))) (fun _ _ _ _ => pif_one (pt_cmpR op_ne (pv 3) (pv 1) (nomark _))) (fun _ _ _ _ => (pv 2))) pa_nil)))), ?_⟩
    clear nd 
    rw [show start ["_law_steps"] [.ref l] = [some (.ref l)] from rfl]
    try dsimp only [cx_K, cx_K2]
    have iL_many : FldOk K CL "many" := ⟨T.clL, T.aL_many⟩
    have iL_rows : FldOk K CL "rows" := ⟨T.clL, T.aL_rows⟩
    have o_hl := Old.mk (M := []) hl nm0
    have o_tp := OldP.mk tp
    have F : SH H [] H [] [] := SH.nil
    have zl : zs.length = ss.length := by rw [tp.1, stepsV_len]
    have few1 := few.1
    repeat k_meth
    refine comp_G4 (P := neS) (fvs := []) items_list (fun H' s => s.seq (SqL.of hatC)) (TpA.e (rs := stepsV ss)) rfl (four ss) (by omega) rfl (fun i ys _ => ys = (((stepsV ss).take i).filter neS).map fun r => r.getD 2 V.non) (fun i ys H1 H2 s t => t) rfl (fun i a b c d H1 R e1 s1 kk => ?_) (fun i a b c d ys H1 R e1 hp s1 g kk => ?_) (fun i r ys H1 e1 hp g => by rw [take_rows e1, List.filter_append, List.filter_cons_of_neg (by simp [hp]), List.filter_nil, List.append_nil]; exact g) fun q ys H1 n1 g => ?_
    · clear F
      have F : SH H1 [] H1 [] [] := SH.nil
      obtain ⟨s, _, e⟩ := List.mem_map.mp (List.mem_of_getElem? e1)
      cases e
      have kk : ∀ H2, Same H1 H2 → R (!decide (s.2 = (s.1.st : Int))) H2 := kk
      repeat k_meth
      exact kk _ (Same.refl _)
    · clear F
      have F : SH H1 [] H1 [] [] := SH.nil
      repeat k_meth
      refine kk _ _ (Same.refl _) ?_
      rw [g, take_rows e1, List.filter_append, List.filter_cons_of_pos hp, List.filter_nil, List.map_append]
      rfl
    · rw [List.take_of_length_le (by rw [stepsV_len]; omega), pr_rows] at g
      rw [g] at n1
      replace F := F.newL n1
      have side : (∀ n ∈ (mv ss).map fun s => ((s.1.sz : Nat) : Int), 0 ≤ n ∧ n ≤ 1000000) ∧ ((mv ss).map fun s => ((s.1.sz : Nat) : Int)).length ≤ 1000000 := by
        refine ⟨fun n hn => ?_, by rw [List.length_map]; have := mv_len ss; omega⟩
        obtain ⟨r, hr, rfl⟩ := List.mem_map.mp hn
        have := few.2 r (List.mem_filter.mp hr).1
        omega
      repeat k_meth
      exact k _ F.sm
theorem D_joined (T : Txt K mg c R CL ct_Linit pt_Linit ct_order pt_order) : Def P w K mg base CX0 1 "_law_joined" ["_law_rows_here", "_law_stretch", "_law_gap"] sp_joined := by
  refine def_of T.d_joined sc_joined (fun vs H Q E h => ?_) (fun _ _ _ _ _ _ us hl => match us, hl with | [_, _, _], _ => rfl) (fun f cdv A outer s H vs Q E hr h => ?_)
  · obtain ⟨l, t, zs, rs, A, f, b, fr, g, rfl, _⟩ := h
    rfl
  · obtain ⟨l, t, zs, rs, A, f, b, fr, g, rfl, hl, tp, ht, side, k⟩ := h
    have nd := sc_joined.nd
    refine ⟨_, (pss_cons (ps_asg (pv 1) (pg_tup rfl (pgs_cons (pg_name (i := 3) nd rfl (Or.inr rfl)) (pgs_cons (pg_name (i := 4) nd rfl (Or.inr rfl)) (pgs_cons (pg_name (i := 5) nd rfl (Or.inl rfl)) pgs_nil)))))
      (pss_cons (ps_set (i := 6) nd rfl (Or.inl rfl) (pe_lstA pa_nil))
      (pss_cons (ps_set (i := 7) nd rfl (Or.inl rfl) (pv 3))
      (pss_cons (ps_setc (i := 8) nd rfl (Or.inl rfl) (N := ["_law_row", "_law_first", "_law_behind"]) (nt := 1) (fr := [3, 4]) (pi_list (pv 0)) (fun _ _ _ _ => (pg_name (i := 0) (show (["_law_row", "_law_first", "_law_behind"] : List Str).Nodup from by decide +kernel) rfl (Or.inl rfl))) (fun _ _ _ _ => pif_one (pt_chain op_le op_lt (pv 1) (pe_ix (ix_tupK (K := K) rfl) (pv 0) pe_int (fun _ _ => rfl)) (pv 2))) (fun _ _ _ _ => (pv 0)))
      (pss_cons (ps_for PassesOwn.never rfl (pi_enum rfl T.n_enumerate (pa_cons (pv 8) pa_nil)) (pg_tup rfl (pgs_cons (pg_name (i := 9) nd rfl (Or.inl rfl)) (pgs_cons (pg_tup rfl (pgs_cons (pg_name (i := 10) nd rfl (Or.inl rfl)) (pgs_cons (pg_name (i := 11) nd rfl (Or.inl rfl)) (pgs_cons (pg_name (i := 12) nd rfl (Or.inl rfl)) (pgs_cons (pg_name (i := 13) nd rfl (Or.inl rfl)) pgs_nil))))) pgs_nil))) (pss_cons (ps_if (pt_cmpR op_eq (pv 9) (pv 2) (nomark _)) (pss_one (ps_set (i := 7) nd rfl (Or.inl rfl) (pe_op op_add (pv 7) (pv 5)))) pss_nil)
        (pss_cons (ps_expr (pe_appendA (pv 6) (pe_tupA (pa_cons (pv 10) (pa_cons (pv 11) (pa_cons (pv 12) (pa_cons (pv 7) pa_nil)))))))
        (pss_one (ps_set (i := 7) nd rfl (Or.inl rfl) (pe_op op_add (pv 7) (pv 12)))))))
      (pss_one (ps_ret (pv 6)))))))), ?_⟩
    clear nd 
    rw [show start ["_law_rows_here", "_law_stretch", "_law_gap", "_law_first", "_law_behind", "_law_free", "_law_found", "_law_at", "_law_within", "_law_k", "_law_name", "_law_start", "_law_size", "_law_pins"] [.ref l, .ref t, .int (g : Nat)] = [some (.ref l), some (.ref t), some (.int (g : Nat)), none, none, none, none, none, none, none, none, none, none, none] from rfl]
    try dsimp only [cx_K, cx_K2]
    have iL_many : FldOk K CL "many" := ⟨T.clL, T.aL_many⟩
    have iL_rows : FldOk K CL "rows" := ⟨T.clL, T.aL_rows⟩
    have o_hl := Old.mk (M := []) hl nm0
    have o_ht := Old.mk (M := []) ht nm0
    have o_tp := OldP.mk tp
    have F : SH H [] H [] [] := SH.nil
    obtain ⟨⟨few, fsz, flt, rfl⟩, hg⟩ := side
    have zl : zs.length = rs.length := by rw [tp.1, rowsV_len]
    have al : A.length ≤ 40 := by rw [← flt]; exact Nat.le_trans (List.length_filter_le _ _) few
    repeat k_meth
    rename Addr => fo
    refine comp_G (P := inV2 f b) (fvs := [some (.int f), some (.int b)]) hatC (TpA.e (rs := rowsV rs)) (by omega) rfl (fun i ys H' => TupsAt H' ys (((rowsV rs).take i).filter (inV2 f b))) (fun i ys H1 H2 s t => tups_st s t) TupsAt.nil (fun i q1 r H' R e1 s1 e2 kk => ?_) (fun i q1 r ys H' R e1 hp s1 e2 g kk => ?_) (fun i r ys H' e1 hp g => by rw [take_rows e1, List.filter_append, List.filter_cons_of_neg (by simp [hp]), List.filter_nil, List.append_nil]; exact g) fun wq wy wH n1 gw => ?_
    · clear F
      have F : SH H' [] H' [] [] := SH.nil
      obtain ⟨s, _, rfl⟩ := List.mem_map.mp (List.mem_of_getElem? e1)
      have o_e2 := Old.mk (M := []) e2 nm0
      have kk : ∀ H2, Same H' H2 → R (decide (f ≤ (s.st : Int)) && decide ((s.st : Int) < b)) H2 := kk
      repeat k_meth
      refine i_dec (fun h => ?_) (fun h => ?_)
      · repeat k_meth
        rw [decide_eq_true h, Bool.true_and] at kk
        exact kk _ (Same.refl _)
      · repeat k_meth
        rw [decide_eq_false h, Bool.false_and] at kk
        exact kk _ (Same.refl _)
    · repeat k_meth
      refine kk _ _ (Same.refl _) ?_
      rw [take_rows e1, List.filter_append, List.filter_cons_of_pos hp, List.filter_nil]
      exact TupsAt.snoc g e2
    rw [List.take_of_length_le (by rw [rowsV_len]; omega), filt_rows, flt] at gw
    replace F := F.newR n1 gw
    have wyl : wy.length = A.length := by rw [gw.1, rowsV_len]
    repeat k_meth
    refine forE_by (xs := wy) (fun i σ' H' => ∃ (o9 o10 o11 o12 o13 : Option V) (ys : List V), σ' = [some (.ref l), some (.ref t), some (.int (g : Nat)), some (.int f), some (.int b), some (.int (b - f - szs A)), some (.ref fo), some (.int (atK f b g A i)), some (.ref wq), o9, o10, o11, o12, o13] ∧ ys.length = i ∧ SH H [] H' [(fo, .lst ys), (wq, .lst wy)] [.tps ys (stepsV ((jn f b g A).take i)), .tps wy (rowsV A)]) ⟨_, _, _, _, _, [], by rw [show atK f b g A 0 = f by simp [atK, szs_nil]], rfl, (F.addP (ys := []) (rs := stepsV []) TupsAt.nil).sub SbC.s (by simp)⟩ ?_ ?_ ?_
    · clear F
      rintro i σ' H' _ ⟨_, _, _, _, _, ys, rfl, yl, F⟩
      exact SqA.e
    · clear F
      rintro i v T1 σ' H' H2 hv ⟨_, _, _, _, _, ys, rfl, yl, F⟩ nw
      obtain ⟨r, q1, e1, rfl, e2⟩ := rowsV_at (H := H') (rs := A) (F.tps (by simp)) hv
      replace F := (F.addT e2).newT nw
      have hi40 : i < 40 := by
        have := (List.getElem?_eq_some_iff.mp e1).1
        omega
      have tk := take_snocR (jn_at (f := f) (b := b) hg e1)
      by_cases q : i = g
      · have e4 : atK f b g A i + (b - f - szs A) = atJ f b g A i := by
          rw [q] at e1 ⊢
          exact atK_eq e1
        repeat k_meth
        rw [e4] at F ⊢
        have F2 := SH.app (ys := ys) (rs := stepsV ((jn f b g A).take i)) (q := p_) (r := stepV (r, atJ f b g A i)) F (LkP.m) (LkI.m)
        rw [← stepsV_snoc, ← tk] at F2
        exact ⟨_, _, _, _, _, ys ++ [.ref p_], by rw [atK_succ e1], by simp [yl], F2.sub SbC.s (by simp)⟩
      · have e4 := atK_ne (f := f) (b := b) (A := A) q
        repeat k_meth
        rw [e4] at F ⊢
        have F2 := SH.app (ys := ys) (rs := stepsV ((jn f b g A).take i)) (q := p_) (r := stepV (r, atJ f b g A i)) F (LkP.m) (LkI.m)
        rw [← stepsV_snoc, ← tk] at F2
        exact ⟨_, _, _, _, _, ys ++ [.ref p_], by rw [atK_succ e1], by simp [yl], F2.sub SbC.s (by simp)⟩
    · clear F
      rintro σ' H' ⟨_, _, _, _, _, ys, rfl, yl, F⟩
      rw [wyl, List.take_of_length_le (by rw [jn_len]; exact Nat.le_refl _)] at F
      repeat k_meth
      exact k _ _ _ SH.nwC TpA.e
end
open M22 M82 M87
section
variable {P : Program} {w : World} {K : PySem.W.Frag} {mg : Str → Option Value} {base : Heap} {c : Nat → Addr} {ct_Linit pt_Linit ct_order pt_order R CL : Addr}
theorem D_best (T : Txt K mg c R CL ct_Linit pt_Linit ct_order pt_order) : Def P w K mg base CX0 2 "_law_best" ["_law_rows_here", "_law_stretch"] sp_best := by
  have D_joined := D_joined (P := P) (w := w) (base := base) T
  have D_price := D_price (P := P) (w := w) (base := base) T
  refine def_of T.d_best sc_best (fun vs H Q E h => ?_) (fun _ _ _ _ _ _ us hl => match us, hl with | [_, _], _ => rfl) (fun f cdv A outer s H vs Q E hr h => ?_)
  · obtain ⟨l, t, zs, rs, A, f, b, fr, rfl, _⟩ := h
    rfl
  · obtain ⟨l, t, zs, rs, A, f, b, fr, rfl, hl, tp, ht, side, k⟩ := h
    have nd := sc_best.nd
    refine ⟨_, (pss_cons (ps_asg (pv 1) (pg_tup rfl (pgs_cons (pg_name (i := 2) nd rfl (Or.inr rfl)) (pgs_cons (pg_name (i := 3) nd rfl (Or.inr rfl)) (pgs_cons (pg_name (i := 4) nd rfl (Or.inl rfl)) pgs_nil)))))
      (pss_cons (ps_set (i := 5) nd rfl (Or.inl rfl) (pe_callB call_lenN rfl T.n_len boot_len (pa_cons (pe_comp (N := ["_law_row", "_law_first", "_law_behind"]) (nt := 1) (fr := [2, 3]) (pi_list (pv 0)) (fun _ _ _ _ => (pg_name (i := 0) (show (["_law_row", "_law_first", "_law_behind"] : List Str).Nodup from by decide +kernel) rfl (Or.inl rfl))) (fun _ _ _ _ => pif_one (pt_chain op_le op_lt (pv 1) (pe_ix (ix_tupK (K := K) rfl) (pv 0) pe_int (fun _ _ => rfl)) (pv 2))) (fun _ _ _ _ => (pv 0))) pa_nil)))
      (pss_cons (ps_set (i := 6) nd rfl (Or.inl rfl) (pe_def D_joined hr (pa_cons (pv 0) (pa_cons (pv 1) (pa_cons pe_int pa_nil)))))
      (pss_cons (ps_for PassesOwn.never rfl (pi_range2 rfl T.n_range (pa_cons pe_int (pa_cons (pe_op op_add (pv 5) pe_int) pa_nil))) (pg_name (i := 7) nd rfl (Or.inl rfl)) (pss_cons (ps_set (i := 8) nd rfl (Or.inl rfl) (pe_def D_joined hr (pa_cons (pv 0) (pa_cons (pv 1) (pa_cons (pv 7) pa_nil)))))
        (pss_one (ps_if (pt_cmpR op_lt (pe_def D_price hr (pa_cons (pv 8) pa_nil)) (pe_def D_price hr (pa_cons (pv 6) pa_nil)) (nomark _)) (pss_one (ps_set (i := 6) nd rfl (Or.inl rfl) (pv 8))) pss_nil))))
      (pss_one (ps_ret (pv 6))))))), ?_⟩
    clear nd D_joined D_price
    rw [show start ["_law_rows_here", "_law_stretch", "_law_first", "_law_behind", "_law_free", "_law_many_here", "_law_best_here", "_law_gap", "_law_steps"] [.ref l, .ref t] = [some (.ref l), some (.ref t), none, none, none, none, none, none, none] from rfl]
    try dsimp only [cx_K, cx_K2]
    have iL_many : FldOk K CL "many" := ⟨T.clL, T.aL_many⟩
    have iL_rows : FldOk K CL "rows" := ⟨T.clL, T.aL_rows⟩
    have o_hl := Old.mk (M := []) hl nm0
    have o_ht := Old.mk (M := []) ht nm0
    have o_tp := OldP.mk tp
    have F : SH H [] H [] [] := SH.nil
    have sc : StrC rs f b fr A := ⟨side⟩
    obtain ⟨few, fsz, flt, _⟩ := side
    have zl : zs.length = rs.length := by rw [tp.1, rowsV_len]
    have al : A.length ≤ 40 := by rw [← flt]; exact Nat.le_trans (List.length_filter_le _ _) few
    have asz : ∀ r ∈ A, r.sz ≤ 240 := fun r hr => by rw [← flt] at hr; exact fsz r (List.mem_filter.mp hr).1
    have sdp : ∀ g, (jn f b g A).length ≤ 40 ∧ ∀ s ∈ jn f b g A, s.1.sz ≤ 240 := fun g => ⟨by rw [jn_len]; exact al, jn_szs asz⟩
    repeat k_meth
    refine comp_G (P := inV2 f b) (fvs := [some (.int f), some (.int b)]) hatC (TpA.e (rs := rowsV rs)) (by omega) rfl (fun i ys H' => TupsAt H' ys (((rowsV rs).take i).filter (inV2 f b))) (fun i ys H1 H2 s t => tups_st s t) TupsAt.nil (fun i q1 r H' R e1 s1 e2 kk => ?_) (fun i q1 r ys H' R e1 hp s1 e2 g kk => ?_) (fun i r ys H' e1 hp g => by rw [take_rows e1, List.filter_append, List.filter_cons_of_neg (by simp [hp]), List.filter_nil, List.append_nil]; exact g) fun wq wy wH n1 gw => ?_
    · clear F
      have F : SH H' [] H' [] [] := SH.nil
      obtain ⟨s, _, rfl⟩ := List.mem_map.mp (List.mem_of_getElem? e1)
      have o_e2 := Old.mk (M := []) e2 nm0
      have kk : ∀ H2, Same H' H2 → R (decide (f ≤ (s.st : Int)) && decide ((s.st : Int) < b)) H2 := kk
      repeat k_meth
      refine i_dec (fun h => ?_) (fun h => ?_)
      · repeat k_meth
        rw [decide_eq_true h, Bool.true_and] at kk
        exact kk _ (Same.refl _)
      · repeat k_meth
        rw [decide_eq_false h, Bool.false_and] at kk
        exact kk _ (Same.refl _)
    · repeat k_meth
      refine kk _ _ (Same.refl _) ?_
      rw [take_rows e1, List.filter_append, List.filter_cons_of_pos hp, List.filter_nil]
      exact TupsAt.snoc g e2
    rw [List.take_of_length_le (by rw [rowsV_len]; omega), filt_rows, flt] at gw
    replace F := F.newR n1 gw
    have wyl : wy.length = A.length := by rw [gw.1, rowsV_len]
    repeat k_meth
    rename List V => by0
    rename Addr => bq0
    rw [show ((wy.length : Int) + 1 - 1).toNat = A.length by omega]
    refine forR_by (fun i σ' H' => ∃ (o7 o8 : Option V) (bq : Addr) (bys : List V), σ' = [some (.ref l), some (.ref t), some (.int f), some (.int b), some (.int fr), some (.int (wy.length : Nat)), some (.ref bq), o7, o8] ∧ SH H [] H' [(bq, .lst bys)] [.tps bys (stepsV (jn f b (fm (fun g => pri (jn f b g A)) i) A))]) ⟨_, _, bq0, by0, rfl, F.sub SbC.s (by simp [fm])⟩ ?_ ?_
    · clear F
      rintro i σ' H' hi ⟨_, _, bq, bys, rfl, F⟩
      have hf := (fm_is (fun g => pri (jn f b g A)) i).le
      rw [show (1 : Int) + (i : Int) = ((i + 1 : Nat) : Int) by omega]
      have s1 := sdp (i + 1)
      have s2 := sdp (fm (fun g => pri (jn f b g A)) i)
      repeat k_meth
      refine i_dec (fun h => ?_) (fun h => ?_)
      · repeat k_meth
        have e : fm (fun g => pri (jn f b g A)) (i + 1) = i + 1 := by rw [fm, if_pos h]
        exact ⟨_, _, p_, ys_, rfl, by rw [e]; exact F.sub SbC.s (by simp)⟩
      · repeat k_meth
        have e : fm (fun g => pri (jn f b g A)) (i + 1) = fm (fun g => pri (jn f b g A)) i := by rw [fm, if_neg h]
        exact ⟨_, _, bq, bys, rfl, by rw [e]; exact F.sub SbC.s (by simp)⟩
    · clear F
      rintro σ' H' ⟨_, _, bq, bys, rfl, F⟩
      repeat k_meth
      exact k _ _ _ SH.nwC TpA.e
end
open M22 M82 M87
def bsW (w : S3) : List Stp := best w.1 w.2.1 w.2.2
def LJ (n : Nat) (rs : List Rw) (i : Nat) : List Stp := ((strB n 0 [] rs).take i).flatMap fun w => ml (bsW w)
def RG (n : Nat) (rs : List Rw) (i : Nat) : List Stp := ((strB n 0 [] rs).take i).flatMap fun w => mr (bsW w)
def PJ (n : Nat) (rs : List Rw) (i : Nat) : Int := (((strB n 0 [] rs).take i).map fun w => pri (bsW w)).sum
theorem allJ_F {p : Sp2 → Bool} (hp : ∀ r : Rw, p (r, (r.st : Int)) = false) (n : Nat) (rs : List Rw) : ∀ (f : Int) (A : List Rw), (allJ n f A rs).filter p = (strB n f A rs).flatMap fun w => (bsW w).filter p := by
  induction rs with
  | nil => intro f A; simp [allJ, strB, bsW]
  | cons r rs ih =>
    intro f A
    rw [allJ, strB]
    split
    · rw [List.filter_append, List.flatMap_cons, ← ih, List.filter_cons_of_neg (by rw [hp]; decide)]
      rfl
    · exact ih f _
theorem fm_pre {α β : Type} (f : α → List β) (l : List α) (i : Nat) : ((l.take i).flatMap f).length ≤ (l.flatMap f).length := by
  have := congrArg (fun l : List α => (l.flatMap f).length) (List.take_append_drop i l)
  simp only [List.flatMap_append, List.length_append] at this
  omega
theorem LJ_len (n : Nat) (rs : List Rw) (i : Nat) : (LJ n rs i).length ≤ rs.length := by
  have h := fm_pre (fun w => ml (bsW w)) (strB n 0 [] rs) i
  have e := allJ_F (p := fun s : Sp2 => decide (s.2 < (s.1.st : Int))) (fun r => by simp) n rs 0 []
  have a := List.length_filter_le (fun s : Sp2 => decide (s.2 < (s.1.st : Int))) (allJ n 0 [] rs)
  have b := Jof_len n rs
  unfold Jof at b
  rw [e] at a
  exact Nat.le_trans h (Nat.le_trans a (Nat.le_of_eq b))
theorem RG_len (n : Nat) (rs : List Rw) (i : Nat) : (RG n rs i).length ≤ rs.length := by
  have h := fm_pre (fun w => mr (bsW w)) (strB n 0 [] rs) i
  have e := allJ_F (p := fun s : Sp2 => decide ((s.1.st : Int) < s.2)) (fun r => by simp) n rs 0 []
  have a := List.length_filter_le (fun s : Sp2 => decide ((s.1.st : Int) < s.2)) (allJ n 0 [] rs)
  have b := Jof_len n rs
  unfold Jof at b
  rw [e] at a
  exact Nat.le_trans h (Nat.le_trans a (Nat.le_of_eq b))
theorem LJ_snoc {n : Nat} {rs : List Rw} {i : Nat} {w : S3} (h : (strB n 0 [] rs)[i]? = some w) : LJ n rs (i + 1) = LJ n rs i ++ ml (bsW w) := by unfold LJ; rw [take_snocR h, List.flatMap_append, List.flatMap_singleton]
theorem RG_snoc {n : Nat} {rs : List Rw} {i : Nat} {w : S3} (h : (strB n 0 [] rs)[i]? = some w) : RG n rs (i + 1) = RG n rs i ++ mr (bsW w) := by unfold RG; rw [take_snocR h, List.flatMap_append, List.flatMap_singleton]
theorem PJ_snoc {n : Nat} {rs : List Rw} {i : Nat} {w : S3} (h : (strB n 0 [] rs)[i]? = some w) : PJ n rs (i + 1) = PJ n rs i + pri (bsW w) := by unfold PJ; rw [take_snocR h, List.map_append, List.sum_append]; simp
theorem pri_fm (l : List S3) : (l.map fun w => pri (bsW w)).sum = ((l.flatMap fun w => mv (bsW w)).map fun s => (s.1.sz : Int)).sum := by
  induction l with
  | nil => rfl
  | cons w l ih => rw [List.map_cons, List.sum_cons, ih, List.flatMap_cons, List.map_append, List.sum_append]; rfl
theorem all_J {n : Nat} {rs : List Rw} {i : Nat} (h : (strB n 0 [] rs).length ≤ i) : LJ n rs i ++ (RG n rs i).reverse = ordJ (Jof n rs) ∧ PJ n rs i = pri (Jof n rs) := by
  have e1 := allJ_F (p := fun s : Sp2 => decide (s.2 < (s.1.st : Int))) (fun r => by simp) n rs 0 []
  have e2 := allJ_F (p := fun s : Sp2 => decide ((s.1.st : Int) < s.2)) (fun r => by simp) n rs 0 []
  unfold LJ RG PJ ordJ Jof pri
  rw [List.take_of_length_le h, allJ_B]
  refine ⟨?_, pri_fm _⟩
  show _ = (allJ n 0 [] rs).filter _ ++ ((allJ n 0 [] rs).filter _).reverse
  rw [e1, e2]
  rfl
def toMv (r : List V) : List V := [r.getD 0 .non, r.getD 3 .non]
theorem mv_lt (B : List Stp) : ((stepsV B).filter ltS).map toMv = movesV (ml B) := by
  rw [filt_lt]
  unfold stepsV movesV
  rw [List.map_map]
  rfl
theorem mv_gt (B : List Stp) : ((stepsV B).filter gtS).map toMv = movesV (mr B) := by
  rw [filt_gt]
  unfold stepsV movesV
  rw [List.map_map]
  rfl
theorem movesV_app (a b : List Stp) : movesV (a ++ b) = movesV a ++ movesV b := List.map_append ..
def sp_due : Sp := fun vs H Q _ => ∃ (l : Addr) (n : Nat) (zs : List V) (rs : List Rw), vs = [.int (n : Nat), .ref l] ∧ H l = some (.lst zs) ∧ TupsAt H zs (rowsV rs) ∧ (Lay n rs ∧ Asc rs ∧ n ≤ 240) ∧ ∀ p ys H1, New H H1 p (.lst ys) → TupsAt H1 ys (movesV (ordJ (Jof n rs))) → ∀ t H2, Same H1 H2 → H2 t = some (.tup [.int (pri (Jof n rs)), .ref p]) → Q (.ref t) H2
section
variable {l : Addr} {H : Hp} {Q : VK} {E : XK} {n : Nat} {zs : List V} {rs : List Rw}
instance go_due [h1 : Hat H l (.lst zs)] [t1 : TpA H zs (rowsV rs)] : Go (sp_due [.int (n : Nat), .ref l] H Q E) (Sd (Lay n rs ∧ Asc rs ∧ n ≤ 240) (∀ p ys H1, New H H1 p (.lst ys) → TupsAt H1 ys (movesV (ordJ (Jof n rs))) → ∀ t H2, Same H1 H2 → H2 t = some (.tup [.int (pri (Jof n rs)), .ref p]) → Q (.ref t) H2)) := ⟨fun s => ⟨l, n, zs, rs, rfl, h1.e, t1.e, s.1, s.2⟩⟩
end
theorem strG_at {n : Nat} {rs : List Rw} (ok : OkA 0 n rs) {i : Nat} {w : W3} (h : (strG n 0 0 rs)[i]? = some w) : ∃ x : S3, (strB n 0 [] rs)[i]? = some x ∧ w.1 = x.1 ∧ w.2.1 = x.2.1 ∧ w.2.2 = x.2.1 - x.1 - szs x.2.2 ∧ rs.filter (within x.1 x.2.1) = x.2.2 := by
  rw [← strF_G ok] at h
  obtain ⟨x, a, b, c, d, e, _⟩ := str_at ok h
  exact ⟨x, a, b, c, d, e⟩
section
variable {P : Program} {w : World} {K : PySem.W.Frag} {mg : Str → Option Value} {base : Heap} {c : Nat → Addr} {ct_Linit pt_Linit ct_order pt_order R CL : Addr}
theorem D_due (T : Txt K mg c R CL ct_Linit pt_Linit ct_order pt_order) : Def P w K mg base CX0 3 "_law_due" ["_law_many_here", "_law_rows_here"] sp_due := by
  have D_lstretches := D_lstretches (P := P) (w := w) (base := base) T
  have D_best := D_best (P := P) (w := w) (base := base) T
  have D_price := D_price (P := P) (w := w) (base := base) T
  refine def_of T.d_due sc_due (fun vs H Q E h => ?_) (fun _ _ _ _ _ _ us hl => match us, hl with | [_, _], _ => rfl) (fun f cdv A outer s H vs Q E hr h => ?_)
  · obtain ⟨l, n, zs, rs, rfl, _⟩ := h
    rfl
  · obtain ⟨l, n, zs, rs, rfl, hl, tp, side, k⟩ := h
    have nd := sc_due.nd
    refine ⟨_, (pss_cons (ps_set (i := 2) nd rfl (Or.inl rfl) pe_int)
      (pss_cons (ps_set (i := 3) nd rfl (Or.inl rfl) (pe_lstA pa_nil))
      (pss_cons (ps_set (i := 4) nd rfl (Or.inl rfl) (pe_lstA pa_nil))
      (pss_cons (ps_for PassesOwn.never rfl (pi_list (pe_def D_lstretches hr (pa_cons (pv 0) (pa_cons (pv 1) pa_nil)))) (pg_name (i := 5) nd rfl (Or.inl rfl)) (pss_cons (ps_set (i := 6) nd rfl (Or.inl rfl) (pe_def D_best hr (pa_cons (pv 1) (pa_cons (pv 5) pa_nil))))
        (pss_cons (ps_set (i := 2) nd rfl (Or.inl rfl) (pe_op op_add (pv 2) (pe_def D_price hr (pa_cons (pv 6) pa_nil))))
        (pss_cons (ps_set (i := 3) nd rfl (Or.inl rfl) (pe_op op_catA (pv 3) (pe_comp (N := ["_law_name", "_law_start", "_law_size", "_law_to"]) (nt := 4) (fr := []) (pi_list (pv 6)) (fun _ _ _ _ => (pg_tupK (K := K) (n := 4) rfl rfl (pgs_cons (pg_name (i := 0) (show (["_law_name", "_law_start", "_law_size", "_law_to"] : List Str).Nodup from by decide +kernel) rfl (Or.inl rfl)) (pgs_cons (pg_name (i := 1) (show (["_law_name", "_law_start", "_law_size", "_law_to"] : List Str).Nodup from by decide +kernel) rfl (Or.inl rfl)) (pgs_cons (pg_name (i := 2) (show (["_law_name", "_law_start", "_law_size", "_law_to"] : List Str).Nodup from by decide +kernel) rfl (Or.inl rfl)) (pgs_cons (pg_name (i := 3) (show (["_law_name", "_law_start", "_law_size", "_law_to"] : List Str).Nodup from by decide +kernel) rfl (Or.inl rfl)) pgs_nil)))))) (fun _ _ _ _ => pif_one (pt_cmpR op_lt (pv 3) (pv 1) (nomark _))) (fun _ _ _ _ => (pe_tupA (pa_cons (pv 0) (pa_cons (pv 3) pa_nil)))))))
        (pss_one (ps_set (i := 4) nd rfl (Or.inl rfl) (pe_op op_catA (pe_comp (N := ["_law_name", "_law_start", "_law_size", "_law_to"]) (nt := 4) (fr := []) (pi_rev rfl T.n_reversed (pa_cons (pv 6) pa_nil)) (fun _ _ _ _ => (pg_tupK (K := K) (n := 4) rfl rfl (pgs_cons (pg_name (i := 0) (show (["_law_name", "_law_start", "_law_size", "_law_to"] : List Str).Nodup from by decide +kernel) rfl (Or.inl rfl)) (pgs_cons (pg_name (i := 1) (show (["_law_name", "_law_start", "_law_size", "_law_to"] : List Str).Nodup from by decide +kernel) rfl (Or.inl rfl)) (pgs_cons (pg_name (i := 2) (show (["_law_name", "_law_start", "_law_size", "_law_to"] : List Str).Nodup from by decide +kernel) rfl (Or.inl rfl)) (pgs_cons (pg_name (i := 3) (show (["_law_name", "_law_start", "_law_size", "_law_to"] : List Str).Nodup from by decide +kernel) rfl (Or.inl rfl)) pgs_nil)))))) (fun _ _ _ _ => pif_one (pt_cmpR op_gt (pv 3) (pv 1) (nomark _))) (fun _ _ _ _ => (pe_tupA (pa_cons (pv 0) (pa_cons (pv 3) pa_nil))))) (pv 4))))))))
      (pss_one (ps_ret (pe_tupA (pa_cons (pv 2) (pa_cons (pe_op op_catA (pv 3) (pv 4)) pa_nil))))))))), ?_⟩
    clear nd D_lstretches D_best D_price
    rw [show start ["_law_many_here", "_law_rows_here", "_law_price_here", "_law_left", "_law_right", "_law_stretch", "_law_steps"] [.int (n : Nat), .ref l] = [some (.int (n : Nat)), some (.ref l), none, none, none, none, none] from rfl]
    try dsimp only [cx_K, cx_K2]
    have iL_many : FldOk K CL "many" := ⟨T.clL, T.aL_many⟩
    have iL_rows : FldOk K CL "rows" := ⟨T.clL, T.aL_rows⟩
    have o_hl := Old.mk (M := []) hl nm0
    have o_tp := OldP.mk tp
    have F : SH H [] H [] [] := SH.nil
    obtain ⟨ly, as, n240⟩ := side
    have ok := ok_of ly as
    have few := ly.few
    have sz240 : ∀ r ∈ rs, r.sz ≤ 240 := fun r hr => by have := (ly.good r hr).le; omega
    have sl := strG_len n rs 0 0
    repeat k_meth
    rename_i _ lf0 _ rt0
    rename List V => yw
    rename Addr => sw
    have wl : yw.length = (strG n 0 0 rs).length := by assumption
    refine forL_by (xs := yw) (fun i σ' H' => ∃ (o5 o6 : Option V) (lf rt : Addr) (yl yr : List V), σ' = [some (.int (n : Nat)), some (.ref l), some (.int (PJ n rs i)), some (.ref lf), some (.ref rt), o5, o6] ∧ yl.length = (LJ n rs i).length ∧ yr.length = (RG n rs i).length ∧ SH H [] H' [(lf, .lst yl), (rt, .lst yr), (sw, .lst yw)] [.tps yl (movesV (LJ n rs i)), .tps yr (movesV (RG n rs i).reverse), .tps yw (rows3 (strG n 0 0 rs))]) ⟨_, _, lf0, rt0, [], [], rfl, rfl, rfl, ((F.addP (ys := []) (rs := movesV []) TupsAt.nil).addP (ys := []) (rs := movesV []) TupsAt.nil).sub SbC.s (by simp [LJ, RG])⟩ ?_ ?_ ?_
    · clear F
      rintro i σ' H' _ ⟨_, _, lf, rt, yl, yr, rfl, ll, lr, F⟩
      exact SqA.e
    · clear F
      rintro i v σ' H' hv ⟨_, _, lf, rt, yl, yr, rfl, ll, lr, F⟩
      obtain ⟨w, q1, e1, rfl, e2⟩ := row3_at (H := H') (ws := strG n 0 0 rs) (F.tps (by simp)) hv
      replace F := F.addT e2
      obtain ⟨x3, e3, w1, w2, w3, flt⟩ := strG_at ok e1
      have a1 := LJ_len n rs i
      have a2 := LJ_len n rs (i + 1)
      have a3 := RG_len n rs i
      have a4 := RG_len n rs (i + 1)
      rw [LJ_snoc e3, List.length_append] at a2
      rw [RG_snoc e3, List.length_append] at a4
      rw [show row3 w = [V.int x3.1, V.int x3.2.1, V.int w.2.2] by rw [← w1, ← w2]] at F
      have sc : StrC rs x3.1 x3.2.1 w.2.2 x3.2.2 := ⟨few, sz240, flt, w3⟩
      have xl : x3.2.2.length ≤ 40 := by rw [← flt]; exact Nat.le_trans (List.length_filter_le _ _) few
      have xz : ∀ r ∈ x3.2.2, r.sz ≤ 240 := fun r hr => by rw [← flt] at hr; exact sz240 r (List.mem_filter.mp hr).1
      have bl : (best x3.1 x3.2.1 x3.2.2).length = x3.2.2.length := jn_len ..
      have sb : (best x3.1 x3.2.1 x3.2.2).length ≤ 40 ∧ ∀ s ∈ best x3.1 x3.2.1 x3.2.2, s.1.sz ≤ 240 := ⟨by omega, jn_szs xz⟩
      repeat k_meth
      rename List V => yb
      have ybl : yb.length = (best x3.1 x3.2.1 x3.2.2).length := by assumption
      refine comp_G4 (P := ltS) (fvs := []) items_list (fun H' s => s.seq (SqL.of hatC)) (TpA.e (rs := stepsV (best x3.1 x3.2.1 x3.2.2))) rfl (four _) (by first | omega | (rw [List.length_reverse]; omega)) rfl (fun i ys H' => TupsAt H' ys ((((stepsV (best x3.1 x3.2.1 x3.2.2)).take i).filter ltS).map toMv)) (fun i ys H1 H2 s t => tups_st s t) TupsAt.nil (fun i a b c d H1 R e1 s1 kk => ?_) (fun i a b c d ys H1 R e1 hp s1 g kk => ?_) (fun i r ys H1 e1 hp g => by rw [take_rows e1, List.filter_append, List.filter_cons_of_neg (by simp [hp]), List.filter_nil, List.append_nil]; exact g) fun qa ya Ha n1 g => ?_
      · clear F
        have F : SH H1 [] H1 [] [] := SH.nil
        obtain ⟨s, _, e⟩ := List.mem_map.mp (List.mem_of_getElem? e1)
        cases e
        have kk : ∀ H2, Same H1 H2 → R (decide (s.2 < (s.1.st : Int))) H2 := kk
        repeat k_meth
        exact kk _ (Same.refl _)
      · clear F
        have F : SH H1 [] H1 [] [] := SH.nil
        repeat k_meth
        refine kk _ _ F.sm ?_
        rw [take_rows e1, List.filter_append, List.filter_cons_of_pos hp, List.filter_nil, List.map_append]
        exact TupsAt.snoc (g.same F.sm) hatC
      rw [List.take_of_length_le (by first | (rw [stepsV_len]; omega) | (rw [stepsV_len, List.length_reverse, List.length_reverse]; omega)), mv_lt] at g
      replace F := F.newR n1 g
      have yal : ya.length = (ml (bsW x3)).length := by rw [g.1, movesV_len]; rfl
      have b1 : yl.length + ya.length ≤ sizeLine := by rw [sizeLine_eq]; omega
      repeat k_meth
      rename Addr => ca
      refine comp_G4 (P := gtS) (fvs := []) items_rev (fun H' s => s.seq (SqL.of hatC)) (show TupsAt _ yb.reverse (stepsV (best x3.1 x3.2.1 x3.2.2).reverse) from by unfold stepsV; rw [List.map_reverse]; exact (F.tps (ys := yb) (rs := stepsV (best x3.1 x3.2.1 x3.2.2)) (by simp)).rev) rfl (four _) (by first | omega | (rw [List.length_reverse]; omega)) rfl (fun i ys H' => TupsAt H' ys ((((stepsV (best x3.1 x3.2.1 x3.2.2).reverse).take i).filter gtS).map toMv)) (fun i ys H1 H2 s t => tups_st s t) TupsAt.nil (fun i a b c d H1 R e1 s1 kk => ?_) (fun i a b c d ys H1 R e1 hp s1 g kk => ?_) (fun i r ys H1 e1 hp g => by rw [take_rows e1, List.filter_append, List.filter_cons_of_neg (by simp [hp]), List.filter_nil, List.append_nil]; exact g) fun qb yb2 Hb n1 g => ?_
      · clear F
        have F : SH H1 [] H1 [] [] := SH.nil
        obtain ⟨s, _, e⟩ := List.mem_map.mp (List.mem_of_getElem? e1)
        cases e
        have kk : ∀ H2, Same H1 H2 → R (decide ((s.1.st : Int) < s.2)) H2 := kk
        repeat k_meth
        exact kk _ (Same.refl _)
      · clear F
        have F : SH H1 [] H1 [] [] := SH.nil
        repeat k_meth
        refine kk _ _ F.sm ?_
        rw [take_rows e1, List.filter_append, List.filter_cons_of_pos hp, List.filter_nil, List.map_append]
        exact TupsAt.snoc (g.same F.sm) hatC
      rw [List.take_of_length_le (by first | (rw [stepsV_len]; omega) | (rw [stepsV_len, List.length_reverse, List.length_reverse]; omega)), mv_gt, mr_rev] at g
      replace F := F.newR n1 g
      have ybl2 : yb2.length = (mr (bsW x3)).length := by rw [g.1, movesV_len, List.length_reverse]; rfl
      have b2 : yb2.length + yr.length ≤ sizeLine := by rw [sizeLine_eq]; omega
      repeat k_meth
      have t1 : TupsAt H_ (yl ++ ya) (movesV (LJ n rs (i + 1))) := by
        rw [LJ_snoc e3, movesV_app]
        exact (F.tps (ys := yl) (rs := movesV (LJ n rs i)) (by simp)).app (F.tps (ys := ya) (rs := movesV (ml (bsW x3))) (by simp [bsW]))
      have t2 : TupsAt H_ (yb2 ++ yr) (movesV (RG n rs (i + 1)).reverse) := by
        rw [RG_snoc e3, List.reverse_append, movesV_app]
        exact (F.tps (ys := yb2) (rs := movesV (mr (bsW x3)).reverse) (by simp [bsW])).app (F.tps (ys := yr) (rs := movesV (RG n rs i).reverse) (by simp))
      refine ⟨_, _, ca, p_, yl ++ ya, yb2 ++ yr, by rw [PJ_snoc e3]; rfl, by rw [LJ_snoc e3, List.length_append, List.length_append, ll, yal], by rw [RG_snoc e3, List.length_append, List.length_append, lr, ybl2, Nat.add_comm], ((F.addP t1).addP t2).sub SbC.s (by simp)⟩
    · clear F
      rintro σ' H' ⟨_, _, lf, rt, yl, yr, rfl, ll, lr, F⟩
      have aj := all_J (n := n) (rs := rs) (i := yw.length) (by rw [wl, ← strF_G ok, strF_B ok]; exact Nat.le_refl _)
      have c1 := LJ_len n rs yw.length
      have c2 := RG_len n rs yw.length
      have b2 : yl.length + yr.length ≤ sizeLine := by rw [sizeLine_eq]; omega
      rw [aj.2]
      repeat k_meth
      have t2 : TupsAt H_ (yl ++ yr) (movesV (ordJ (Jof n rs))) := by
        rw [← aj.1, movesV_app]
        exact (F.tps (ys := yl) (rs := movesV (LJ n rs yw.length)) (by simp)).app (F.tps (ys := yr) (rs := movesV (RG n rs yw.length).reverse) (by simp))
      exact k _ _ _ SH.nwC t2 _ _ (Same.refl _) hatC
end
open M22 M82 M87
section
variable {K : PySem.W.Frag} {H : Hp} {Q : VK} {p q : Addr} {ys zs : List V} {ws : List (Nat × Nat)} {rs : List Rw}
instance go_neV [h : Hat H p (.lst ys)] [h2 : Hat H q (.lst zs)] [t : TpA H ys (rowsV rs)] [t2 : TpA H zs (rowsV rs)] : Go (rNeD K (.ref p) (.ref q) H Q) (Q (.bl false) H) := ⟨w_neSame (rep_rows (SqL.of h.e) t.e (flat_V _)) (rep_rows (SqL.of h2.e) t2.e (flat_V _)) (Nat.le_trans (dep_rowsL _) (by decide))⟩
end
theorem ord_perm (L : List Sp2) : (ordJ L).Perm (mv L) := by
  have h : ∀ L : List Sp2, (ml L ++ mr L).Perm (mv L) := by
    intro L
    induction L with
    | nil => exact List.Perm.refl _
    | cons s L ih =>
      unfold ml mr mv at *
      by_cases q : s.2 < (s.1.st : Int)
      · rw [List.filter_cons_of_pos (by simpa using q), List.filter_cons_of_neg (by simp; omega), List.filter_cons_of_pos (by simp; omega)]
        exact ih.cons s
      · by_cases q2 : (s.1.st : Int) < s.2
        · rw [List.filter_cons_of_neg (by simpa using q), List.filter_cons_of_pos (by simpa using q2), List.filter_cons_of_pos (by simp; omega)]
          exact List.perm_middle.trans (ih.cons s)
        · rw [List.filter_cons_of_neg (by simpa using q), List.filter_cons_of_neg (by simpa using q2), List.filter_cons_of_neg (by simp; omega)]
          exact ih
  exact ((List.reverse_perm _).append_left _).trans (h L)
theorem Jof_nn {n : Nat} {rs : List Rw} (ok : OkA 0 n rs) : ChS n 0 (Jof n rs) ∧ ∀ s ∈ Jof n rs, 0 ≤ s.2 := by
  have h := allJ_ch ok rs [] [] 0 rfl (fun _ h => by cases h) (fun s _ => by omega) (by omega)
  exact ⟨h, fun s hs => (ChS.le h).2 s hs |>.1⟩
theorem Jof_pin (n : Nat) (rs : List Rw) : ∀ s ∈ Jof n rs, 0 < s.1.pn → s.2 = (s.1.st : Int) := allJ_pin n rs 0 [] (fun _ h => by cases h)
theorem mvs_eq {n : Nat} {rs : List Rw} (ok : OkA 0 n rs) : movesV (ordJ (Jof n rs)) = mvsV (tdyM (Jof n rs)) := by
  have h := tdy_told (Jof_nn ok).2
  have g : ∀ ss : List Sp2, movesV ss = (ss.map fun s => (s.1.nm, s.2)).map fun p : List Nat × Int => [V.str (tx p.1), V.int p.2] := fun ss => by unfold movesV; rw [List.map_map]; rfl
  rw [g, ← h, List.map_map]
  rfl
theorem tdy_ok {n : Nat} {rs : List Rw} (ly : Lay n rs) (as : Asc rs) : WkOk n rs (tdyM (Jof n rs)) ∧ ((wPrice rs (tdyM (Jof n rs)) : Nat) : Int) = pri (Jof n rs) := by
  have ok := ok_of ly as
  obtain ⟨ch, nn⟩ := Jof_nn ok
  have e := Jof_fst n rs
  have okJ : OkA 0 n ((Jof n rs).map (·.1)) := by rw [e]; exact ok
  have w := tdy_walk ch okJ (Jof_pin n rs)
  have pr := tdy_price ch okJ (Jof_pin n rs)
  rw [e] at w pr
  have told := tdy_told nn
  have hl : (tdyM (Jof n rs)).length = (ordJ (Jof n rs)).length := by have := congrArg List.length told; rwa [List.length_map, List.length_map] at this
  have ol := ordJ_len (Jof n rs)
  rw [Jof_len] at ol
  have nd := nms_nd ly
  refine ⟨⟨ly.few, by have := ly.few; omega, w.1, ?_, nd⟩, pr⟩
  have en : (tdyM (Jof n rs)).map (·.2.1) = (ordJ (Jof n rs)).map (·.1.nm) := by
    have := congrArg (List.map Prod.fst) told
    rw [List.map_map, List.map_map] at this
    exact this
  rw [en, ((ord_perm (Jof n rs)).map _).nodup_iff]
  refine List.Nodup.sublist (List.filter_sublist.map _) ?_
  rw [show (Jof n rs).map (fun s => s.1.nm) = ((Jof n rs).map (·.1)).map (·.nm) by rw [List.map_map]; rfl, e]
  exact nd
def movD (pr : Int) (ss : List Stp) : Dt := .tup [.int pr, .lst ((movesV ss).map rowDt)]
theorem rep_mov {K : PySem.W.Frag} {H : Hp} {t m : Addr} {ym : List V} {pr : Int} {ss : List Stp} (ht : H t = some (.tup [.int pr, .ref m])) (hm : H m = some (.lst ym)) (tp : TupsAt H ym (movesV ss)) : Rep K H (movD pr ss) (.ref t) := by
  have h := rep_rows (K := K) (SqL.of hm) tp (flat_M ss)
  unfold movD
  simp only [Rep, Reps] at h ⊢
  exact ⟨t, _, rfl, SqT.of ht, _, _, rfl, rfl, _, _, rfl, h, rfl⟩
theorem dep_mov (pr : Int) (ss : List Stp) : depD (movD pr ss) ≤ 100 := by
  have := dep_rowsL (movesV ss)
  unfold movD
  simp only [depD, depDs] at this ⊢
  omega
def sp_told (K : PySem.W.Frag) : Sp := fun vs H Q _ => ∃ (l t m : Addr) (n : Nat) (zs ym : List V) (rs : List Rw), vs = [.int (n : Nat), .ref l, .ref t] ∧ H l = some (.lst zs) ∧ TupsAt H zs (rowsV rs) ∧ H t = some (.tup [.int (pri (Jof n rs)), .ref m]) ∧ H m = some (.lst ym) ∧ TupsAt H ym (movesV (ordJ (Jof n rs))) ∧ (Lay n rs ∧ Asc rs ∧ n ≤ 240) ∧ ∀ H', Same H H' → Q (.bl true) H'
section
variable {K : PySem.W.Frag} {l t m t' m' : Addr} {H : Hp} {Q : VK} {E : XK} {n : Nat} {zs ym ym' : List V} {rs : List Rw} {pr : Int} {ss : List Stp}
instance go_told [h1 : Hat H l (.lst zs)] [t1 : TpA H zs (rowsV rs)] [h2 : Hat H t (.tup [.int (pri (Jof n rs)), .ref m])] [h3 : Hat H m (.lst ym)] [t3 : TpA H ym (movesV (ordJ (Jof n rs)))] : Go (sp_told K [.int (n : Nat), .ref l, .ref t] H Q E) (Sd (Lay n rs ∧ Asc rs ∧ n ≤ 240) (∀ H', Same H H' → Q (.bl true) H')) := ⟨fun s => ⟨l, t, m, n, zs, ym, rs, rfl, h1.e, t1.e, h2.e, h3.e, t3.e, s.1, s.2⟩⟩
end
section
variable {P : Program} {w : World} {K : PySem.W.Frag} {mg : Str → Option Value} {base : Heap} {c : Nat → Addr} {ct_Linit pt_Linit ct_order pt_order R CL : Addr}
theorem D_told (T : Txt K mg c R CL ct_Linit pt_Linit ct_order pt_order) : Def P w K mg base CX0 4 "_law_told" ["_law_many_here", "_law_rows_here", "_law_told_here"] (sp_told K) := by
  have D_walk := D_walk (P := P) (w := w) (base := base) T
  have D_due := D_due (P := P) (w := w) (base := base) T
  have D_lwhole := D_lwhole (P := P) (w := w) (base := base) T
  refine def_of T.d_told sc_told (fun vs H Q E h => ?_) (fun _ _ _ _ _ _ us hl => match us, hl with | [_, _, _], _ => rfl) (fun f cdv A outer s H vs Q E hr h => ?_)
  · obtain ⟨l, t, m, n, zs, ym, rs, rfl, _⟩ := h
    rfl
  · obtain ⟨l, t, m, n, zs, ym, rs, rfl, hl, tp, ht, hm, tm, side, k⟩ := h
    have nd := sc_told.nd
    refine ⟨_, (pss_cons (ps_if (PW.pt (pw_or (pt_not (pt_val (pe_callB call_isT rfl T.n_isinstance boot_isinstance (pa_cons (pv 2) (pa_cons (pe_ty (T := "tuple") rfl T.n_tuple boot_tuple) pa_nil))))) (pw_or (pt_cmpR op_ne (pe_callB call_lenN rfl T.n_len boot_len (pa_cons (pv 2) pa_nil)) pe_int (nomark _)) (pw_or1 (pt_not (pt_val (pe_def D_lwhole hr (pa_cons (pe_ix ix_tup (pv 2) pe_int (fun _ _ => rfl)) pa_nil)))))))) (pss_one (ps_ret pe_bl)) pss_nil)
      (pss_cons (ps_set (i := 3) nd rfl (Or.inl rfl) (pe_def D_walk hr (pa_cons (pv 0) (pa_cons (pv 1) (pa_cons (pe_ix ix_tup (pv 2) pe_int (fun _ _ => rfl)) pa_nil)))))
      (pss_cons (ps_if (PW.pt (pw_or (pt_cmpR op_isNN (pv 3) pe_non (nomark _)) (pw_or1 (pt_cmpR op_ne (pe_ix ix_tup (pv 3) pe_int (fun _ _ => rfl)) (pe_ix ix_tup (pv 2) pe_int (fun _ _ => rfl)) (nomark _))))) (pss_one (ps_ret pe_bl)) pss_nil)
      (pss_one (ps_ret (pe_cmpR (op_eq_dN hr) (pv 2) (pe_def D_due hr (pa_cons (pv 0) (pa_cons (pv 1) pa_nil))) (nomark _))))))), ?_⟩
    clear nd D_walk D_due D_lwhole
    rw [show start ["_law_many_here", "_law_rows_here", "_law_told_here", "_law_walk_here"] [.int (n : Nat), .ref l, .ref t] = [some (.int (n : Nat)), some (.ref l), some (.ref t), none] from rfl]
    try dsimp only [cx_K, cx_K2]
    have iL_many : FldOk K CL "many" := ⟨T.clL, T.aL_many⟩
    have iL_rows : FldOk K CL "rows" := ⟨T.clL, T.aL_rows⟩
    have o_hl := Old.mk (M := []) hl nm0
    have o_ht := Old.mk (M := []) ht nm0
    have o_hm := Old.mk (M := []) hm nm0
    have o_tp := OldP.mk tp
    have F : SH H [] H [] [] := SH.nil
    have sd1 := side
    obtain ⟨ly, as, n240⟩ := side
    have ok := ok_of ly as
    obtain ⟨wk, pe⟩ := tdy_ok ly as
    have tm2 := tm
    rw [mvs_eq ok] at tm2
    have o_tm2 := OldP.mk tm2
    repeat k_meth
    exact w_eqSame (rep_mov (F.sm _ _ ht) (F.sm _ _ hm) (tm.same F.sm)) (rep_mov hatC hatC TpA.e) (dep_mov _ _) (k _ F.sm)
end
open M22 M82 M87
def sp_law (P P2 : Addr) (K : PySem.W.Frag) : Sp := fun vs H Q _ => ∃ (a : Addr) (ns : List Int), vs = [.ref a] ∧ SqL K H a (ns.map V.int) ∧ ns.length ≤ 63 ∧ H P = some (.tbl #[]) ∧ a ≠ P ∧ H P2 = some (.tbl #[]) ∧ a ≠ P2 ∧ ∀ H', Q (.bl true) H'
theorem nm2 {a b x : Addr} (h1 : x ≠ a) (h2 : x ≠ b) : x ∉ [a, b] := fun z => by
  rcases List.mem_cons.mp z with z | z
  · exact h1 z
  · exact h2 (List.mem_singleton.mp z)
section
variable {P : Program} {w : World} {K : PySem.W.Frag} {mg : Str → Option Value} {base : Heap} {c : Nat → Addr} {ct_Linit pt_Linit ct_order pt_order R CL : Addr}
theorem ok_law (T : Txt K mg c R CL ct_Linit pt_Linit ct_order pt_order) (B : Bm mg base) {f : Addr} {fd : FuncData} (F : Fun K "law" "law" s_law f fd) : FnOk P w K mg base CX0 8 f fd ["_law_script"] (sp_law pt_Linit pt_order K) := by
  have D_box := D_box (P := P) (w := w) (base := base) T
  have D_many := D_many (P := P) (w := w) (base := base) T
  have D_rows := D_rows (P := P) (w := w) (base := base) T
  have MK_Linit := MK_Linit (P := P) (w := w) (base := base) T B
  have D_cell_at := D_cell_at (P := P) (w := w) (base := base) T
  have D_names := D_names (P := P) (w := w) (base := base) T
  have D_mixed := D_mixed (P := P) (w := w) (base := base) T
  have D_tidied := D_tidied (P := P) (w := w) (base := base) T B
  have D_most := D_most (P := P) (w := w) (base := base) T
  have D_told := D_told (P := P) (w := w) (base := base) T
  have MT_Lblocks := MT_Lblocks (P := P) (w := w) (base := base) T
  refine fnok_of F sc_law (fun vs H Q E h => ?_) (fun cdv A outer s H vs Q E hr h => ?_)
  · obtain ⟨a, ns, rfl, _⟩ := h
    rfl
  · obtain ⟨a, ns, rfl, hS, hl, hP, hne, hP2, hne2, k⟩ := h
    have nd := sc_law.nd
    refine ⟨_, (pss_cons (ps_for PassesOwn.never rfl (pi_range1 rfl T.n_range (pa_cons (pe_callB (call_maxN rfl) rfl T.n_max boot_max (pa_cons pe_int (pa_cons (pe_callB (call_minN rfl) rfl T.n_min boot_min (pa_cons (pe_callB call_lenN rfl T.n_len boot_len (pa_cons (pv 0) pa_nil)) (pa_cons pe_int pa_nil))) pa_nil))) pa_nil)) (pg_name (i := 1) nd rfl (Or.inl rfl)) (pss_cons (ps_set (i := 2) nd rfl (Or.inl rfl) (pe_def D_box hr (pa_cons (pe_def D_cell_at hr (pa_cons (pv 0) (pa_cons (pv 1) pa_nil))) pa_nil)))
        (pss_cons (ps_set (i := 3) nd rfl (Or.inl rfl) (pe_def D_many hr (pa_cons (pv 2) pa_nil)))
        (pss_cons (ps_set (i := 4) nd rfl (Or.inl rfl) (pe_def D_rows hr (pa_cons (pv 2) (pa_cons (pv 3) (pa_cons (pe_def D_names hr (pa_cons (pv 2) (pa_cons (pe_def D_most hr (pa_cons (pv 2) pa_nil)) pa_nil))) pa_nil)))))
        (pss_cons (ps_set (i := 5) nd rfl (Or.inl rfl) (pe_makB MK_Linit hr (pa_cons (pv 3) (pa_cons (pe_def D_mixed hr (pa_cons (pv 2) (pa_cons (pv 4) pa_nil))) pa_nil))))
        (pss_one (ps_for PassesOwn.never rfl (pi_range1 rfl T.n_range (pa_cons pe_int pa_nil)) (pg_name (i := 6) nd rfl (Or.inl rfl)) (pss_cons (ps_set (i := 7) nd rfl (Or.inl rfl) (pe_def D_tidied hr (pa_cons (pv 5) pa_nil)))
          (pss_cons (ps_if (PW.pt (pw_or (pt_not (pt_val (pe_def D_told hr (pa_cons (pv 3) (pa_cons (pv 4) (pa_cons (pv 7) pa_nil)))))) (pw_or1 (pt_cmpR (op_ne_dN hr) (pe_met0 (pv 5) T.clL MT_Lblocks hr) (pv 4) (nomark _))))) (pss_one (ps_ret pe_bl)) pss_nil)
          (pss_cons (ps_expr (pe_appendA (pe_ix ix_tup (pv 7) pe_int (fun _ _ => rfl)) (pe_tupA (pa_cons pe_str (pa_cons pe_int pa_nil)))))
          (pss_one (ps_asg (pe_tupA (pa_cons pe_str (pa_cons pe_int pa_nil))) (pg_sub (pe_ix ix_tup (pv 7) pe_int (fun _ _ => rfl)) pe_int set_listA)))))))))))))
      (pss_one (ps_ret pe_bl))), ?_⟩
    clear nd D_box D_many D_rows MK_Linit D_cell_at D_names D_mixed D_tidied D_most D_told MT_Lblocks
    rw [show start ["_law_script", "_law_k", "_law_well_here", "_law_many_here", "_law_rows_here", "_law_layout", "_law_turn", "_law_told_here"] [.ref a] = [some (.ref a), none, none, none, none, none, none, none] from rfl]
    try dsimp only [cx_K, cx_K2]
    have iL_many : FldOk K CL "many" := ⟨T.clL, T.aL_many⟩
    have iL_rows : FldOk K CL "rows" := ⟨T.clL, T.aL_rows⟩
    have tne := T.tne
    have F : SH H [pt_Linit, pt_order] H [(pt_Linit, .tbl #[]), (pt_order, .tbl #[])] [TabI lamPos lamQual #[], TabI lamPos2 lamQual2 #[]] := (((SH.nil.addM (List.mem_cons_of_mem _ List.mem_cons_self) hP2 rfl (by simp)).addM List.mem_cons_self hP rfl (by simp [Ne.symm tne])).addF (.inl rfl)).addF (.inl rfl)
    have o_hS := OldQ.mk (M := [pt_Linit, pt_order]) hS (nm2 hne hne2)
    repeat k_meth
    generalize (max 1 (min ((ns.map V.int).length : Int) 10)).toNat = N
    refine forR0_by (fun i σ' H' => ∃ (o1 o2 o3 o4 o5 o6 o7 : Option V) (ps po : Array Value), σ' = [some (.ref a), o1, o2, o3, o4, o5, o6, o7] ∧ SH H [pt_Linit, pt_order] H' [(pt_Linit, .tbl ps), (pt_order, .tbl po)] [TabI lamPos lamQual ps, TabI lamPos2 lamQual2 po]) ⟨_, _, _, _, _, _, _, #[], #[], rfl, F⟩ ?_ ?_
    · clear F
      rintro i σ' H' hi ⟨_, _, _, _, _, _, _, ps, po, rfl, F⟩
      repeat k_meth
      intro n h16 h240
      repeat k_meth
      intro m h40
      repeat k_meth
      intro nms nl nk nn
      have sd3 : 16 ≤ n ∧ n ≤ 240 ∧ nms.length ≤ 40 ∧ (∀ cs ∈ nms, NameOk cs) ∧ nms.Nodup := ⟨h16, h240, by omega, nk, nn⟩
      repeat k_meth
      intro rs ly as
      have few := ly.few
      repeat k_meth
      intro qs pm
      have la : LayA n qs rs := ⟨pm, ly, as⟩
      repeat k_meth
      intro ps2
      repeat k_meth
      rename_i wl _ _ _ _ _ _ _ _ _ _ _ _ _ _ _ _ _ _ _ rwA yr _ _ _ _ _ _ _ _ _ _
      rename List V => yz
      rename Addr => pz
      have sdl : Lay n rs ∧ Asc rs ∧ n ≤ 240 := ⟨ly, as, h240⟩
      have jl := ordJ_len (Jof n rs)
      rw [Jof_len] at jl
      rw [show (2 : Int).toNat = 2 from rfl]
      refine forR0_by (fun j σ' H' => ∃ (o6 o7 : Option V) (po : Array Value), σ' = [some (.ref a), some (.int (i : Nat)), some (.ref wl), some (.int (n : Nat)), some (.ref rwA), some (.ref x_), o6, o7] ∧ SH H [pt_Linit, pt_order] H' [(pt_order, .tbl po), (pz, .lst yz), (x_, .ins CL dx_ (lF n pz)), (rwA, .lst yr), (pt_Linit, .tbl ps2)] [TabI lamPos2 lamQual2 po, .tps yz (rowsV rs), .tps yr (rowsV rs), TabI lamPos lamQual ps2]) ⟨_, _, po, rfl, F.sub SbC.s (by simp)⟩ ?_ ?_
      · clear F
        rintro j σ' H' hj ⟨_, _, po, rfl, F⟩
        repeat k_meth
        have F1 : SH H [pt_Linit, pt_order] _ ([(pt_order, .tbl po)] ++ [(pz, .lst yz), (x_, .ins CL dx_ (lF n pz)), (rwA, .lst yr), (pt_Linit, .tbl ps2)]) _ := F
        refine ⟨x_, pz, dx_, n, yz, rs, po, rfl, (SH.cut F1 rfl).addF (F1.im (TabI lamPos2 lamQual2 po) (by simp)), SH.neC (F := F), SH.neC (F := F), hatC, hatC, TpA.e, sdl, fun t mA ym po' H2 G => ?_⟩
        have F2 := SH.over F1 G rfl
        clear F F1
        simp only [List.cons_append, List.nil_append] at F2
        have yml : ym.length ≤ 40 := by
          have := (G.tps (ys := ym) (rs := movesV (ordJ (Jof n rs))) (by simp)).1
          rw [movesV_len] at this
          omega
        have F : SH H [pt_Linit, pt_order] H2 _ _ := F2
        clear F2 G
        repeat k_meth
        exact ⟨_, _, po', rfl, F.sub SbC.s (by simp)⟩
      · clear F
        rintro σ' H' ⟨_, _, po, rfl, F⟩
        repeat k_meth
        exact ⟨_, _, _, _, _, _, _, ps2, po, rfl, F.sub SbC.s (by simp)⟩
    · clear F
      rintro σ' H' ⟨_, _, _, _, _, _, _, ps, po, rfl, F⟩
      repeat k_meth
      exact k _
end
end K87
namespace K87
open PySem L2 PyProof.Rows
abbrev LkH (K : PySem.W.Frag) (g : Addr) (m q : Str) (st : Stmt) (xd xn : Option Addr) (xs : Array (Option Value)) (xo xk xe xp xc xt : Value) : Prop := K.lookup g = some ⟨xo, xd, .func (PySem.W.fnOf m q (defArgs st) (defBody st) (defScope st) .none xk xe xp xn xc xt), xs⟩ ∧ PySem.W.codeIn K xc q = true ∧ PySem.W.keepIn K (.ref g) = true
abbrev DfH (K : PySem.W.Frag) (m : Str) (st : Stmt) : Prop := ∃ g xd xn xs xo xk xe xp xc xt, PySem.W.nsIn K mainGlobals m = some (some (.ref g)) ∧ LkH K g m m st xd xn xs xo xk xe xp xc xt
abbrev MeH (K : PySem.W.Frag) (C : Addr) (m q : Str) (st : Stmt) : Prop := ∃ g xd xn xs xo xk xe xp xc xt, PySem.W.findIn K (.ref C) m = some (some (.ref g)) ∧ PySem.W.isFn K (.ref g) = true ∧ LkH K g m q st xd xn xs xo xk xe xp xc xt
abbrev CdH (K : PySem.W.Frag) (C : Addr) (m q : Str) (st : Stmt) : Prop := ∃ g xd xn xs xo xk xe xp xc xt, PySem.W.specialIn K (.ref C) "__getattribute__" = some (some (.builtin "type.__getattribute__")) ∧ PySem.W.readsIn K C (.type "type") = true ∧ PySem.W.findCls K (.ref C) (.type "type") m = some (.val (.ref g)) ∧ LkH K g m q st xd xn xs xo xk xe xp xc xt
abbrev ClH (K : PySem.W.Frag) (C : Addr) : Prop := PySem.W.plainGet K C Str.empty = true ∧ PySem.W.hasDictIn K C = true ∧ PySem.W.plainOver K C = true ∧ PySem.W.findIn K (.ref C) "__setattr__" = some (some (.builtin "object.__setattr__")) ∧ PySem.W.makesIn K C = true ∧ PySem.W.keepIn K (.ref C) = true
section
variable {K : PySem.W.Frag} {h : Heap} {mg : Str → Option Value} {C : Addr} {m q : Str} {st : Stmt}
theorem DfH.has (d : DfH K m st) (X : K.In h) (G : h.Ns mainGlobals mg) : HasDef K mg m st := let ⟨_, _, _, _, _, _, _, _, _, _, a, l, c, k⟩ := d; HasDef.mk (PySem.W.mg_of X G a) l c k
theorem MeH.me (d : MeH K C m q st) : ∃ f, FnAt K m q st f ∧ Meth K C m f := let ⟨g, _, _, _, _, _, _, _, _, _, a, f, l, c, k⟩ := d; ⟨g, ⟨_, fun_mk (st := st) l c k⟩, ⟨a, f, k⟩⟩
theorem CdH.cd (d : CdH K C m q st) : ∃ f, FnAt K m q st f ∧ CMeth K C m f := let ⟨g, _, _, _, _, _, _, _, _, _, a, r, f, l, c, k⟩ := d; ⟨g, ⟨_, fun_mk (st := st) l c k⟩, ⟨a, r, f, by rfl, k⟩⟩
end
theorem all_mk {ct_Linit pt_Linit ct_order pt_order : Addr} {l : PySem.W.OpenLaw} {w : World} {K : PySem.W.Frag} {h : Heap} {mg : Str → Option Value} {fa g19_ g37_ : Addr} (X : K.In h) (G : h.Ns mainGlobals mg) (hfa : mg "law" = some (.ref fa))
    {R : Addr}
    (eR : PySem.W.nsIn K mainGlobals "RoomError" = some (some (.ref R)))
    (eh : PySem.W.specialIn K (.builtin "object.__class__") "__get__" = some (some (.builtin "getset_descriptor.__get__")))
    (et : PySem.W.takesIn K (.builtin "object.__class__") = some true)
    {od19_ an19_ : Option Addr} {sl19_ : Array (Option Value)} {oc19_ kV19_ dc19_ pm19_ ct19_ : Value}
    {od37_ an37_ : Option Addr} {sl37_ : Array (Option Value)} {oc37_ kV37_ dc37_ pm37_ cd37_ ct37_ : Value}
    (d0_ : DfH K "is_whole" s_is_whole)
    (d1_ : DfH K "is_from" s_is_from)
    (d2_ : DfH K "is_within" s_is_within)
    (d3_ : DfH K "is_many" s_is_many)
    (d4_ : DfH K "is_name" s_is_name)
    (d5_ : DfH K "end_of" s_end_of)
    (d6_ : DfH K "is_row" s_is_row)
    (d7_ : DfH K "cells_of" s_cells_of)
    (d8_ : DfH K "need_row" s_need_row)
    (d9_ : DfH K "need_rows" s_need_rows)
    (d10_ : DfH K "share_cells" s_share)
    (d11_ : DfH K "blocks_between" s_between)
    (d12_ : DfH K "free_between" s_freeb)
    (d13_ : DfH K "stretches_of" s_stretches)
    (d14_ : DfH K "steps_down" s_sdown)
    (d15_ : DfH K "steps_up" s_sup)
    (d16_ : DfH K "moves_of" s_moves)
    (d17_ : DfH K "cells_moved" s_cmoved)
    (d18_ : DfH K "cheapest_joining" s_cheapest)
    (a19_ : PySem.W.nsIn K mainGlobals "in_moving_order" = some (some (.ref g19_))) (l19_ : K.lookup g19_ = some ⟨oc19_, od19_, .func (PySem.W.fnOf "in_moving_order" "in_moving_order" (defArgs s_order) (defBody s_order) (defScope s_order) .none kV19_ dc19_ pm19_ an19_ (.ref ct_order) ct19_), sl19_⟩) (c19_ : PySem.W.codeIn K (.ref ct_order) "in_moving_order" = true) (k19_ : PySem.W.keepIn K (.ref g19_) = true) (tb_order : PySem.W.codeHdIn K ct_order pt_order = true) (tn_order : K.lookup pt_order = none)
    (d20_ : DfH K "tidied" s_tidied)
    (d21_ : DfH K "_law_cell" s_cell_at)
    (d22_ : DfH K "_law_well" s_box)
    (d23_ : DfH K "_law_draw" s_take)
    (d24_ : DfH K "_law_names" s_names)
    (d25_ : DfH K "_law_most" s_most)
    (d26_ : DfH K "_law_many" s_many)
    (d27_ : DfH K "_law_rows" s_rows)
    (d28_ : DfH K "_law_mixed" s_mixed)
    (d29_ : DfH K "_law_whole" s_lwhole)
    (d30_ : DfH K "_law_walk" s_walk)
    (d31_ : DfH K "_law_stretches" s_lstretches)
    (d32_ : DfH K "_law_joined" s_joined)
    (d33_ : DfH K "_law_price" s_price)
    (d34_ : DfH K "_law_best" s_best)
    (d35_ : DfH K "_law_due" s_due)
    (d36_ : DfH K "_law_told" s_told)
    (a37_ : PySem.W.nsIn K mainGlobals "law" = some (some (.ref g37_))) (l37_ : K.lookup g37_ = some ⟨oc37_, od37_, .func (PySem.W.fnOf "law" "law" (defArgs s_law) (defBody s_law) (defScope s_law) .none kV37_ dc37_ pm37_ an37_ cd37_ ct37_), sl37_⟩) (c37_ : PySem.W.codeIn K cd37_ "law" = true) (k37_ : PySem.W.keepIn K (.ref g37_) = true)
    (nb0 : PySem.W.nsIn K mainGlobals "isinstance" = some none)
    (nb1 : PySem.W.nsIn K mainGlobals "int" = some none)
    (nb2 : PySem.W.nsIn K mainGlobals "bool" = some none)
    (nb3 : PySem.W.nsIn K mainGlobals "str" = some none)
    (nb4 : PySem.W.nsIn K mainGlobals "list" = some none)
    (nb5 : PySem.W.nsIn K mainGlobals "tuple" = some none)
    (nb6 : PySem.W.nsIn K mainGlobals "len" = some none)
    (nb7 : PySem.W.nsIn K mainGlobals "all" = some none)
    (nb8 : PySem.W.nsIn K mainGlobals "range" = some none)
    (nb9 : PySem.W.nsIn K mainGlobals "sorted" = some none)
    (nb10 : PySem.W.nsIn K mainGlobals "max" = some none)
    (nb11 : PySem.W.nsIn K mainGlobals "min" = some none)
    (nb12 : PySem.W.nsIn K mainGlobals "reversed" = some none)
    (nb13 : PySem.W.nsIn K mainGlobals "sum" = some none)
    (nb14 : PySem.W.nsIn K mainGlobals "enumerate" = some none)
    {tk0 : Tok} (con0 : PySem.W.nsIn K mainGlobals "LETTERS" = some (some (.str LET tk0)))
    {tk1 : Tok} (con1 : PySem.W.nsIn K mainGlobals "NAME_SIGNS" = some (some (.str SGN tk1)))
    {tk2 : Tok} (con2 : PySem.W.nsIn K mainGlobals "MOST_SIGNS" = some (some (.int 8 tk2)))
    {tk3 : Tok} (con3 : PySem.W.nsIn K mainGlobals "FEWEST_CELLS" = some (some (.int 16 tk3)))
    {tk4 : Tok} (con4 : PySem.W.nsIn K mainGlobals "MOST_CELLS" = some (some (.int 240 tk4)))
    {tk5 : Tok} (con5 : PySem.W.nsIn K mainGlobals "MOST_BLOCKS" = some (some (.int 40 tk5)))
    (tne_ : pt_Linit ≠ pt_order)
    {nmR qR : Str} {NR : Addr} {bsR bmR : List Value} {hdR : Bool} {snR : List Str} {subR : List Value} {abR : Bool} {colR : Option Bool} {ddR : Option Addr} {k0R k1R k2R k3R k5R : Option Value} {newR : String}
    (zc : K.lookup R = some (excClassObj nmR qR R NR bsR bmR hdR snR subR abR colR ddR k0R k1R k2R k3R k5R newR)) (zt : PySem.W.typeIn K (.ref R) = some (.type "type")) (zm : PySem.W.mroIn K R (.type "BaseException") = some true)
    {CL g_Linit : Addr}
    (aCL : PySem.W.nsIn K mainGlobals "Layout" = some (some (.ref CL)))
    (cl_L : ClH K CL)
    (naL_many : PySem.W.findIn K (.ref CL) "many" = some none)
    (naL_rows : PySem.W.findIn K (.ref CL) "rows" = some none)
    {xd_Linit xn_Linit : Option Addr} {xs_Linit : Array (Option Value)} {xo_Linit xk_Linit xe_Linit xp_Linit xt_Linit : Value}
    (at_Linit : PySem.W.findIn K (.ref CL) "__init__" = some (some (.ref g_Linit))) (fn_Linit : PySem.W.isFn K (.ref g_Linit) = true)
    (lk_Linit : K.lookup g_Linit = some ⟨xo_Linit, xd_Linit, .func (PySem.W.fnOf "__init__" "Layout.__init__" (defArgs s_Linit) (defBody s_Linit) (defScope s_Linit) .none xk_Linit xe_Linit xp_Linit xn_Linit (.ref ct_Linit) xt_Linit), xs_Linit⟩) (cd_Linit : PySem.W.codeIn K (.ref ct_Linit) "Layout.__init__" = true) (kp_Linit : PySem.W.keepIn K (.ref g_Linit) = true) (tb_Linit : PySem.W.codeHdIn K ct_Linit pt_Linit = true) (tn_Linit : K.lookup pt_Linit = none)
    (h_Lblocks : MeH K CL "blocks" "Layout.blocks" s_Lblocks)
    : (∀ p ∈ [pt_order, pt_Linit], K.lookup p = none ∧ ∃ c, PySem.W.codeHdIn K c p = true) ∧ ∃ fd : FuncData, (∀ (s : Shared) (v : Value), BindsTo s fd ⟨[v], []⟩ [("_law_script", v)]) ∧ ∀ base : Heap, K.In base → base.Ns mainGlobals mg → Bm mg base → FnOk l.prog w K mg base CX0 8 fa fd ["_law_script"] (sp_law pt_Linit pt_order K) := by
  have e := hfa.symm.trans (PySem.W.mg_of X G a37_)
  cases e
  have T : Txt K mg (fun i => ([] : List Addr).getD i 0) R CL ct_Linit pt_Linit ct_order pt_order := {
    d_is_whole := d0_.has X G
    d_is_from := d1_.has X G
    d_is_within := d2_.has X G
    d_is_many := d3_.has X G
    d_is_name := d4_.has X G
    d_end_of := d5_.has X G
    d_is_row := d6_.has X G
    d_cells_of := d7_.has X G
    d_need_row := d8_.has X G
    d_need_rows := d9_.has X G
    d_share := d10_.has X G
    d_between := d11_.has X G
    d_freeb := d12_.has X G
    d_stretches := d13_.has X G
    d_sdown := d14_.has X G
    d_sup := d15_.has X G
    d_moves := d16_.has X G
    d_cmoved := d17_.has X G
    d_cheapest := d18_.has X G
    tab_order := tb_order
    d_order := ⟨_, _, fun_mk l19_ c19_ k19_, rfl, PySem.W.mg_of X G a19_⟩
    d_tidied := d20_.has X G
    d_cell_at := d21_.has X G
    d_box := d22_.has X G
    d_take := d23_.has X G
    d_names := d24_.has X G
    d_most := d25_.has X G
    d_many := d26_.has X G
    d_rows := d27_.has X G
    d_mixed := d28_.has X G
    d_lwhole := d29_.has X G
    d_walk := d30_.has X G
    d_lstretches := d31_.has X G
    d_joined := d32_.has X G
    d_price := d33_.has X G
    d_best := d34_.has X G
    d_due := d35_.has X G
    d_told := d36_.has X G
    n_isinstance := PySem.W.mg_none_of X G nb0
    n_int := PySem.W.mg_none_of X G nb1
    n_bool := PySem.W.mg_none_of X G nb2
    n_str := PySem.W.mg_none_of X G nb3
    n_list := PySem.W.mg_none_of X G nb4
    n_tuple := PySem.W.mg_none_of X G nb5
    n_len := PySem.W.mg_none_of X G nb6
    n_all := PySem.W.mg_none_of X G nb7
    n_range := PySem.W.mg_none_of X G nb8
    n_sorted := PySem.W.mg_none_of X G nb9
    n_max := PySem.W.mg_none_of X G nb10
    n_min := PySem.W.mg_none_of X G nb11
    n_reversed := PySem.W.mg_none_of X G nb12
    n_sum := PySem.W.mg_none_of X G nb13
    n_enumerate := PySem.W.mg_none_of X G nb14
    g_LETTERS := ⟨_, PySem.W.mg_of X G con0, ⟨_, rfl⟩⟩
    g_NAME_SIGNS := ⟨_, PySem.W.mg_of X G con1, ⟨_, rfl⟩⟩
    g_MOST_SIGNS := ⟨_, PySem.W.mg_of X G con2, ⟨_, rfl⟩⟩
    g_FEWEST_CELLS := ⟨_, PySem.W.mg_of X G con3, ⟨_, rfl⟩⟩
    g_MOST_CELLS := ⟨_, PySem.W.mg_of X G con4, ⟨_, rfl⟩⟩
    g_MOST_BLOCKS := ⟨_, PySem.W.mg_of X G con5, ⟨_, rfl⟩⟩
    tne := tne_
    g_R := PySem.W.mg_of X G eR
    c_R := by unfold PySem.W.clsIn; rw [zc]; rfl
    t_R := zt
    m_R := zm
    clL := ⟨cl_L.1, cl_L.2.1, cl_L.2.2.1, cl_L.2.2.2.1⟩
    gc_Layout := PySem.W.mg_of X G aCL
    aL_many := naL_many
    aL_rows := naL_rows
    tab_Linit := tb_Linit
    f_Linit := ⟨g_Linit, ⟨_, fun_mk (st := s_Linit) lk_Linit cd_Linit kp_Linit, rfl⟩, ⟨cl_L.2.2.2.2.1, at_Linit, fn_Linit, cl_L.2.2.2.2.2⟩⟩
    f_Lblocks := h_Lblocks.me }
  refine ⟨fun p hp => ?_, PySem.W.fnOf "law" "law" (defArgs s_law) (defBody s_law) (defScope s_law) .none kV37_ dc37_ pm37_ an37_ cd37_ ct37_, fun s v => .of_eq rfl, fun base _ _ Bb => ?_⟩
  · simp only [List.mem_cons, List.not_mem_nil, or_false] at hp
    rcases hp with rfl | rfl
    · exact ⟨tn_order, _, tb_order⟩
    · exact ⟨tn_Linit, _, tb_Linit⟩
  exact ok_law T Bb (fun_mk (st := s_law) l37_ c37_ k37_)
theorem walk {l : PySem.W.OpenLaw} {q : Program} {loose : List Str} {XP : (Str → Option Value) → Heap → Prop} {YP : World → Heap → Prop} {d : DefRec} {K : Params → PySem.W.Frag} {pt_Linit pt_order : Addr} (hn : l.most = some 63) (hdf : d.params.defaults = [])
    (hY : ∀ (w : World) (h : Heap), YP w h → (K w.params).In h ∧ ∀ p ∈ [pt_order, pt_Linit], h.get? p = some (PySem.W.tabObj #[]))
    (F : ∀ (w : World) (mg : Str → Option Value) (fa : Addr) (h : Heap), (K w.params).In h → h.Ns mainGlobals mg → mg d.name = some (.ref fa) → (∀ p ∈ [pt_order, pt_Linit], (K w.params).lookup p = none ∧ ∃ c, PySem.W.codeHdIn (K w.params) c p = true) ∧ 
      ∃ fd : FuncData, (∀ (s : Shared) (u : Value), BindsTo s fd ⟨[u], []⟩ [("_law_script", u)]) ∧ ∀ base : Heap, (K w.params).In base → base.Ns mainGlobals mg → Bm mg base → FnOk l.prog w (K w.params) mg base CX0 8 fa fd ["_law_script"] (sp_law pt_Linit pt_order (K w.params))) :
    PySem.W.WalkO q loose XP YP l.row.toRowW d [] (fun f vs => PySem.call f vs) :=
  L2.walk_ofT (ts := [pt_order, pt_Linit]) (n := 63) (k := 8) (x := "_law_script") (CX := fun _ => CX0) (sp := fun w => sp_law pt_Linit pt_order (K w.params)) hn (by decide) hdf ⟨rfl, by decide, by decide, rfl⟩ hY F (fun _ _ a ns hl hO hn hS => ⟨a, ns, rfl, hS, hl, hO.1 pt_Linit (by simp), (fun z => hn (by simp [z])), hO.1 pt_order (by simp), (fun z => hn (by simp [z])), fun _ => rfl⟩) fun _ _ _ _ _ z => z
end K87
namespace PySem.W.Fast
def tw12911065682585118975:Unit:=()
def tw15994766702529795244:Unit:=()
def tw17731203560026809204:Unit:=()
def tw10060446087098921717:Unit:=()
def tw10105604172855417530:Unit:=()
def tw10165526609742190728:Unit:=()
def tw1018206750213826353:Unit:=()
def tw10183269534133434471:Unit:=()
def tw10205056481396552149:Unit:=()
def tw10255582930382153714:Unit:=()
def tw10272339412522836746:Unit:=()
def tw10274707926250170101:Unit:=()
def tw10523141299651116685:Unit:=()
def tw1055860163287513152:Unit:=()
def tw10567451303707950247:Unit:=()
def tw10586535186559479816:Unit:=()
def tw10592402295675973877:Unit:=()
def tw10608770577816162549:Unit:=()
def tw10610789263744484826:Unit:=()
def tw10651281263379586825:Unit:=()
def tw10702189995546012506:Unit:=()
def tw10782085961020249980:Unit:=()
def tw10814221142502167944:Unit:=()
def tw10845285436855080699:Unit:=()
def tw1084865904737879691:Unit:=()
def tw10852190856151825683:Unit:=()
def tw10926409157234740802:Unit:=()
def tw10953080728710417407:Unit:=()
def tw1098471135866756260:Unit:=()
def tw10992674575078534940:Unit:=()
def tw11017648827304918805:Unit:=()
def tw11058197643558730239:Unit:=()
def tw11125633522901321995:Unit:=()
def tw11141926912591986781:Unit:=()
def tw11184604331001727312:Unit:=()
def tw1119208264217555311:Unit:=()
def tw11198876546671142476:Unit:=()
def tw11253012603000679842:Unit:=()
def tw11316907237384122092:Unit:=()
def tw11321746363645370417:Unit:=()
def tw11345896789004096232:Unit:=()
def tw11414701776447242007:Unit:=()
def tw11433064775876398912:Unit:=()
def tw11448309378797628405:Unit:=()
def tw11474405575202353866:Unit:=()
def tw11519312482328756585:Unit:=()
def tw11546763811221719385:Unit:=()
def tw11560633320663022597:Unit:=()
def tw11593273165290355439:Unit:=()
def tw1159533247945061725:Unit:=()
def tw11603741522546231162:Unit:=()
def tw11698712359415657958:Unit:=()
def tw11729629456886279817:Unit:=()
def tw11807911505790898480:Unit:=()
def tw11888390515745821518:Unit:=()
def tw11947247369033154443:Unit:=()
def tw12003132601643873235:Unit:=()
def tw12015274561215837217:Unit:=()
def tw12103654609781153782:Unit:=()
def tw12124151277222921308:Unit:=()
def tw12137504389755905165:Unit:=()
def tw12207808224264017770:Unit:=()
def tw12217992645063177729:Unit:=()
def tw12298163526252111365:Unit:=()
def tw12306068097752576478:Unit:=()
def tw12340607624054049799:Unit:=()
def tw12447568728548926601:Unit:=()
def tw1251924615757589152:Unit:=()
def tw12556259259182702927:Unit:=()
def tw12588124953538820719:Unit:=()
def tw12614891940890323117:Unit:=()
def tw1264653280979465974:Unit:=()
def tw12669915709109703696:Unit:=()
def tw12880098483677311224:Unit:=()
def tw12921112004064123808:Unit:=()
def tw12961258594633592756:Unit:=()
def tw12975496471430348270:Unit:=()
def tw13009567622401561263:Unit:=()
def tw13030434024926043455:Unit:=()
def tw1308344694137135904:Unit:=()
def tw13111434260748195732:Unit:=()
def tw13121674225944110337:Unit:=()
def tw13170705717340270546:Unit:=()
def tw13197448632412167447:Unit:=()
def tw13257398542659636207:Unit:=()
def tw13268430018901742382:Unit:=()
def tw13303940737838720462:Unit:=()
def tw13326666192574018942:Unit:=()
def tw1334291905135704900:Unit:=()
def tw13368596776213318237:Unit:=()
def tw13372814389278392527:Unit:=()
def tw13428285896599832125:Unit:=()
def tw13432248956566405778:Unit:=()
def tw13478281732302024802:Unit:=()
def tw1349312938000005164:Unit:=()
def tw13516925923969318657:Unit:=()
def tw1355997025796885912:Unit:=()
def tw13561442799062146411:Unit:=()
def tw13582404024617683248:Unit:=()
def tw13698807927551617277:Unit:=()
def tw13719677536759736043:Unit:=()
def tw13747230151401649190:Unit:=()
def tw13778057408028315513:Unit:=()
def tw13800082252651337636:Unit:=()
def tw13876070980839555558:Unit:=()
def tw13963939461213046366:Unit:=()
def tw13974299057759617912:Unit:=()
def tw1401260145746034406:Unit:=()
def tw14042618817621164599:Unit:=()
def tw14053905780087035242:Unit:=()
def tw1406083400783984081:Unit:=()
def tw14171880813229509800:Unit:=()
def tw14187761145152840138:Unit:=()
def tw14190315227940347240:Unit:=()
def tw14210387393535935803:Unit:=()
def tw14238921856035050249:Unit:=()
def tw14324947197440991478:Unit:=()
def tw14325600112096703694:Unit:=()
def tw1435009428006818922:Unit:=()
def tw1435460152236154340:Unit:=()
def tw14392471936068258669:Unit:=()
def tw14406253066002633129:Unit:=()
def tw14407357927812323229:Unit:=()
def tw14413352791847397488:Unit:=()
def tw14415773222136763604:Unit:=()
def tw14424397843044504874:Unit:=()
def tw14436148054490761313:Unit:=()
def tw14448858273747921798:Unit:=()
def tw1454728644863740265:Unit:=()
def tw14560991272973468907:Unit:=()
def tw14567228586633441398:Unit:=()
def tw14590113547800180401:Unit:=()
def tw145926835954742212:Unit:=()
def tw14610343560280361154:Unit:=()
def tw14630537049409100931:Unit:=()
def tw14651246682766958864:Unit:=()
def tw14677872428291643348:Unit:=()
def tw14695078670689011464:Unit:=()
def tw14721397517669261944:Unit:=()
def tw14745076410855596218:Unit:=()
def tw14750970666931094809:Unit:=()
def tw14762036765601903096:Unit:=()
def tw14783259407839963319:Unit:=()
def tw14844138137517835375:Unit:=()
def tw14852249510045929616:Unit:=()
def tw1488573558097544294:Unit:=()
def tw14899242798714276140:Unit:=()
def tw1490752319675368360:Unit:=()
def tw14920346649498076381:Unit:=()
def tw14951775879816727484:Unit:=()
def tw15009911829744380104:Unit:=()
def tw15068234657364234342:Unit:=()
def tw15072228722885439221:Unit:=()
def tw15098490352139490032:Unit:=()
def tw15105019757917979991:Unit:=()
def tw15108493398440530789:Unit:=()
def tw15135112941910537942:Unit:=()
def tw1522635062430251647:Unit:=()
def tw15248255762877642284:Unit:=()
def tw1529736142210371068:Unit:=()
def tw15307890001396768040:Unit:=()
def tw15334451753115101855:Unit:=()
def tw1533969842342206089:Unit:=()
def tw15352821300984550824:Unit:=()
def tw15369622684139225046:Unit:=()
def tw15390642233494176417:Unit:=()
def tw15410794974432900988:Unit:=()
def tw15487825953186652550:Unit:=()
def tw15502480771202127707:Unit:=()
def tw15563615164546614762:Unit:=()
def tw15626317920937084526:Unit:=()
def tw15646162671222046514:Unit:=()
def tw15653744459341596660:Unit:=()
def tw15686747099259101573:Unit:=()
def tw15692188258437597406:Unit:=()
def tw15714778607006510597:Unit:=()
def tw157434590268490756:Unit:=()
def tw15783570062969963082:Unit:=()
def tw15833242679597807230:Unit:=()
def tw15869141962532465733:Unit:=()
def tw15976180392502254625:Unit:=()
def tw15991382786742779445:Unit:=()
def tw16040695348816202798:Unit:=()
def tw16052700604880691225:Unit:=()
def tw16076833670405488591:Unit:=()
def tw16105051658275750502:Unit:=()
def tw16132892489389142948:Unit:=()
def tw16164452403021306463:Unit:=()
def tw16200656966167533834:Unit:=()
def tw16209563932312108692:Unit:=()
def tw1624905307267290609:Unit:=()
def tw16252777311667364537:Unit:=()
def tw16264675279176919591:Unit:=()
def tw16296844856353241387:Unit:=()
def tw16363456136227684515:Unit:=()
def tw16368683247110700563:Unit:=()
def tw16375529426292171656:Unit:=()
def tw16391596931830729097:Unit:=()
def tw16425619830128940688:Unit:=()
def tw1642629665976268974:Unit:=()
def tw16427640260666333132:Unit:=()
def tw16437599855639248316:Unit:=()
def tw1646236949231106446:Unit:=()
def tw1647458791307350436:Unit:=()
def tw16487245013677961728:Unit:=()
def tw16492333647559670603:Unit:=()
def tw16497286969201387711:Unit:=()
def tw1652089249629292255:Unit:=()
def tw16524396220857893868:Unit:=()
def tw16537157066326269961:Unit:=()
def tw16593659941561443648:Unit:=()
def tw16624323950895997776:Unit:=()
def tw16630495706264963299:Unit:=()
def tw16677470002306055128:Unit:=()
def tw16680490321855638951:Unit:=()
def tw16710486465832905076:Unit:=()
def tw16732663023281665919:Unit:=()
def tw16867535635970680622:Unit:=()
def tw16875260749030732653:Unit:=()
def tw16899286021779626967:Unit:=()
def tw16906288028632349366:Unit:=()
def tw1693633196186061218:Unit:=()
def tw16956421072398342071:Unit:=()
def tw16989767652303535885:Unit:=()
def tw1705239115937415859:Unit:=()
def tw1707808240485303563:Unit:=()
def tw17153421504479281481:Unit:=()
def tw17251867790782557365:Unit:=()
def tw17289778319457795285:Unit:=()
def tw17365029304863329801:Unit:=()
def tw17389361865256764794:Unit:=()
def tw17407041001439895818:Unit:=()
def tw17460350070477742974:Unit:=()
def tw17488561502972750299:Unit:=()
def tw1754090486629508521:Unit:=()
def tw17570115382044356180:Unit:=()
def tw17574833704032982164:Unit:=()
def tw1759528131022782994:Unit:=()
def tw17631996183010509877:Unit:=()
def tw17713480908719643201:Unit:=()
def tw17753284882524712361:Unit:=()
def tw17771413227597346266:Unit:=()
def tw177822765783660192:Unit:=()
def tw1778366232525644473:Unit:=()
def tw17799385313428230900:Unit:=()
def tw17803201234402489682:Unit:=()
def tw17816967041873228130:Unit:=()
def tw17974864951554761428:Unit:=()
def tw18001968998702185429:Unit:=()
def tw18004764979793426483:Unit:=()
def tw18020146771194294815:Unit:=()
def tw18053221859798412568:Unit:=()
def tw18089460641193606144:Unit:=()
def tw1810571005180245804:Unit:=()
def tw18148399295487185334:Unit:=()
def tw18162619074072692527:Unit:=()
def tw18169968666636747525:Unit:=()
def tw18198755893711438170:Unit:=()
def tw18200666842012748759:Unit:=()
def tw18214652604296305104:Unit:=()
def tw18238875992481190592:Unit:=()
def tw18267691783774452080:Unit:=()
def tw18340622730581448452:Unit:=()
def tw18351037750651786460:Unit:=()
def tw18371042913415657310:Unit:=()
def tw18400114782113869275:Unit:=()
def tw18423525041335204818:Unit:=()
def tw1851969588054018167:Unit:=()
def tw187992362994075662:Unit:=()
def tw1887256025518826570:Unit:=()
def tw1925080529602252391:Unit:=()
def tw1967291033539064881:Unit:=()
def tw1978922261663615470:Unit:=()
def tw1980491555989421569:Unit:=()
def tw1991084852140025868:Unit:=()
def tw2016332887214146095:Unit:=()
def tw2022231331694189896:Unit:=()
def tw2028677240685154309:Unit:=()
def tw2039621587607635184:Unit:=()
def tw2049700775999882630:Unit:=()
def tw2067353665843918425:Unit:=()
def tw2071233702773945830:Unit:=()
def tw2113691518589637585:Unit:=()
def tw2142284876318822644:Unit:=()
def tw2159960493582041073:Unit:=()
def tw2216702178327381488:Unit:=()
def tw2223849016234235921:Unit:=()
def tw2226689998778471453:Unit:=()
def tw2307650980553294063:Unit:=()
def tw2337349551394183639:Unit:=()
def tw2423239393173434775:Unit:=()
def tw2489914898245588153:Unit:=()
def tw2501268419005553129:Unit:=()
def tw2521859266462992519:Unit:=()
def tw2636583665542766924:Unit:=()
def tw2672434660524707729:Unit:=()
def tw2673012949909559108:Unit:=()
def tw2691783923400894915:Unit:=()
def tw2695894652637034774:Unit:=()
def tw2697555648741337730:Unit:=()
def tw2707813493841398616:Unit:=()
def tw2737179018039665684:Unit:=()
def tw2765011783240366058:Unit:=()
def tw2773335118218970217:Unit:=()
def tw2814246945974286912:Unit:=()
def tw2875944760651563583:Unit:=()
def tw2905049095677117124:Unit:=()
def tw2926427105086016713:Unit:=()
def tw3013203268204296365:Unit:=()
def tw3015103342458677824:Unit:=()
def tw3052071207363458683:Unit:=()
def tw3096883324805651872:Unit:=()
def tw3113671880649644681:Unit:=()
def tw3130110301914864057:Unit:=()
def tw3151593143982602982:Unit:=()
def tw320308027853091393:Unit:=()
def tw3264589747106138870:Unit:=()
def tw332667839694194643:Unit:=()
def tw3371956125069716319:Unit:=()
def tw341169817286845775:Unit:=()
def tw3433993687047832244:Unit:=()
def tw3530185895901399928:Unit:=()
def tw3543288043081596021:Unit:=()
def tw3577866735010441906:Unit:=()
def tw362147944694653896:Unit:=()
def tw3628620668689384555:Unit:=()
def tw3653448759560096065:Unit:=()
def tw374187080213563427:Unit:=()
def tw3763757244645221481:Unit:=()
def tw3783001883417946076:Unit:=()
def tw381784554570081410:Unit:=()
def tw3837117870114478209:Unit:=()
def tw4016691887744072929:Unit:=()
def tw4024046538205721730:Unit:=()
def tw4144307386009581194:Unit:=()
def tw4147386998511040169:Unit:=()
def tw4153702784602670970:Unit:=()
def tw4212105482473934322:Unit:=()
def tw4230292693693806421:Unit:=()
def tw4230872515963559928:Unit:=()
def tw4248254849283448742:Unit:=()
def tw4273616686248932982:Unit:=()
def tw429273794583523318:Unit:=()
def tw4322266584054177394:Unit:=()
def tw4410878161182422471:Unit:=()
def tw4411879625325837849:Unit:=()
def tw4414435967622883747:Unit:=()
def tw4497287275497976308:Unit:=()
def tw4519162934205873395:Unit:=()
def tw4537914727148848175:Unit:=()
def tw4545287154645671249:Unit:=()
def tw4564257001303948135:Unit:=()
def tw4665274027268146275:Unit:=()
def tw4675498961115823985:Unit:=()
def tw4679390367492623969:Unit:=()
def tw4721364743235793542:Unit:=()
def tw4756360734917451638:Unit:=()
def tw4783173865241840057:Unit:=()
def tw4796987730268732598:Unit:=()
def tw4853820503323964693:Unit:=()
def tw4970813079198600154:Unit:=()
def tw5020700075905934101:Unit:=()
def tw5041644544310359860:Unit:=()
def tw5053728471295989673:Unit:=()
def tw510653182053411926:Unit:=()
def tw5149428525809490926:Unit:=()
def tw5208634609418250232:Unit:=()
def tw5218010701903024425:Unit:=()
def tw5259227765780414835:Unit:=()
def tw5317229745807675768:Unit:=()
def tw5327401404661501746:Unit:=()
def tw5368954028082365179:Unit:=()
def tw5377012071208016001:Unit:=()
def tw5399866506035872467:Unit:=()
def tw5558240392431929675:Unit:=()
def tw5619012297417633271:Unit:=()
def tw5660759956758484632:Unit:=()
def tw5690728971576967759:Unit:=()
def tw5723841032406619452:Unit:=()
def tw5778106187173732847:Unit:=()
def tw5784413651891977484:Unit:=()
def tw5790606864847219887:Unit:=()
def tw579183106660641603:Unit:=()
def tw579407265770030298:Unit:=()
def tw5796102857118588442:Unit:=()
def tw5808055711847754591:Unit:=()
def tw5882636435394965859:Unit:=()
def tw5891045096371377071:Unit:=()
def tw5895739463374639441:Unit:=()
def tw5920944680134056651:Unit:=()
def tw5975131588188582125:Unit:=()
def tw5995052873149420651:Unit:=()
def tw5996883794430817649:Unit:=()
def tw6007555831871604201:Unit:=()
def tw6061082047861939679:Unit:=()
def tw6106480091947213798:Unit:=()
def tw6114049538858180896:Unit:=()
def tw6129530512733620224:Unit:=()
def tw615306164167589428:Unit:=()
def tw6156508961424208179:Unit:=()
def tw6202244613057581640:Unit:=()
def tw6222832755441578588:Unit:=()
def tw622908767826682236:Unit:=()
def tw623965959422693258:Unit:=()
def tw6246165723418121180:Unit:=()
def tw6261219923819431131:Unit:=()
def tw6365682589433722550:Unit:=()
def tw6371319314084255001:Unit:=()
def tw6383351053844098284:Unit:=()
def tw6390963619488723061:Unit:=()
def tw6448084290199780884:Unit:=()
def tw64674161932356645:Unit:=()
def tw6485463393842056171:Unit:=()
def tw6504377057341084376:Unit:=()
def tw6603020098180989860:Unit:=()
def tw6606753198766566904:Unit:=()
def tw6642774626784601668:Unit:=()
def tw6700550412615142212:Unit:=()
def tw6701766943760551012:Unit:=()
def tw6750562994377484369:Unit:=()
def tw6761483618468803907:Unit:=()
def tw6827666278698601225:Unit:=()
def tw6832478362834960501:Unit:=()
def tw6832894459935718646:Unit:=()
def tw6861397099145301837:Unit:=()
def tw6874974024573474736:Unit:=()
def tw6891301612284845613:Unit:=()
def tw6938529858296995217:Unit:=()
def tw6998476778143462144:Unit:=()
def tw7123456058136264160:Unit:=()
def tw7203134969804820575:Unit:=()
def tw7226692079501207073:Unit:=()
def tw7255586181086948388:Unit:=()
def tw726488015216027719:Unit:=()
def tw7327312762537224234:Unit:=()
def tw7347315665348672562:Unit:=()
def tw7374179316211054282:Unit:=()
def tw7461411689602048568:Unit:=()
def tw7472840554583727280:Unit:=()
def tw7473114033991384621:Unit:=()
def tw7477238140606222116:Unit:=()
def tw7505478348308762481:Unit:=()
def tw7539719736603856042:Unit:=()
def tw7555071750677038107:Unit:=()
def tw7718621682523270388:Unit:=()
def tw7737357643605798766:Unit:=()
def tw782180449725962519:Unit:=()
def tw7838340749352185781:Unit:=()
def tw7880237499957762428:Unit:=()
def tw7894098523551147641:Unit:=()
def tw7910279236923666984:Unit:=()
def tw7945428971047670306:Unit:=()
def tw7952094477598606785:Unit:=()
def tw797552440523580207:Unit:=()
def tw7996726891451766603:Unit:=()
def tw8039726769917392907:Unit:=()
def tw8053575651738098721:Unit:=()
def tw8091963166501592405:Unit:=()
def tw8094866914020013704:Unit:=()
def tw8124165971315149403:Unit:=()
def tw8125513467112045337:Unit:=()
def tw8141834267573279147:Unit:=()
def tw8200657973815249019:Unit:=()
def tw8270006203352539009:Unit:=()
def tw8435263731662307160:Unit:=()
def tw8464878941465157083:Unit:=()
def tw848830907318883700:Unit:=()
def tw8509159117407644802:Unit:=()
def tw8579226032364572719:Unit:=()
def tw8635302604590265951:Unit:=()
def tw8644014335184035871:Unit:=()
def tw8652787307766544055:Unit:=()
def tw866182889740331340:Unit:=()
def tw8679798151438754186:Unit:=()
def tw8723271509184798882:Unit:=()
def tw8736371311029439418:Unit:=()
def tw8744606107267966275:Unit:=()
def tw8787729752567330313:Unit:=()
def tw8854868429872029521:Unit:=()
def tw8885152057957313223:Unit:=()
def tw8911307773482773705:Unit:=()
def tw8936408753326830562:Unit:=()
def tw8941847084337576432:Unit:=()
def tw8949198682732171752:Unit:=()
def tw8953886271975725033:Unit:=()
def tw8998992640298589759:Unit:=()
def tw9042996738532966609:Unit:=()
def tw9141159314450917380:Unit:=()
def tw9172149799547617481:Unit:=()
def tw9195038530423768896:Unit:=()
def tw9196938515098581524:Unit:=()
def tw9255718353950561742:Unit:=()
def tw9320311096134943168:Unit:=()
def tw9416689940315765821:Unit:=()
def tw9453497916061152017:Unit:=()
def tw9453893032938867143:Unit:=()
def tw9482904678849694826:Unit:=()
def tw9547891917134201469:Unit:=()
def tw9581339619003255407:Unit:=()
def tw9597284368132982928:Unit:=()
def tw9684844108664019546:Unit:=()
def tw968711932904472828:Unit:=()
def tw9701242129657487630:Unit:=()
def tw9702762297918164936:Unit:=()
def tw9779351562091680788:Unit:=()
def tw9869919935396940986:Unit:=()
def tw9885854447745773582:Unit:=()
def tw9928278487320626496:Unit:=()
def tw9929042356891080907:Unit:=()
def tw9966348818888834009:Unit:=()
def tw9975123000659904343:Unit:=()
def tw10480283819004570980:Unit:=()
def tw106763234934091727:Unit:=()
def tw10794162629275039669:Unit:=()
def tw11227558807633085233:Unit:=()
def tw13327444930177745161:Unit:=()
def tw15477835980534154255:Unit:=()
def tw15548882694906018038:Unit:=()
def tw16598584887761847790:Unit:=()
def tw17476532475374092968:Unit:=()
def tw2387022477983537589:Unit:=()
def tw4838963347872914493:Unit:=()
def tw4905346568294066138:Unit:=()
def tw5649122416419630144:Unit:=()
def tw93476781875924141:Unit:=()
def tw10061704842927143532:Unit:=()
def tw10362357646815319127:Unit:=()
def tw10614434711265120117:Unit:=()
def tw12788236196377443558:Unit:=()
def tw15063884606853604030:Unit:=()
def tw15511470103618487821:Unit:=()
def tw16189875577662455027:Unit:=()
def tw16369692436518007714:Unit:=()
def tw1816235985206571876:Unit:=()
def tw2058690995947614871:Unit:=()
def tw2229606111121922664:Unit:=()
def tw3497438911977986591:Unit:=()
def tw4421185828195419389:Unit:=()
def tw7697699440129501490:Unit:=()
def tw8904133156785662848:Unit:=()
def tw15490918287959828153:Unit:=()
end PySem.W.Fast
open PySem PySem.W PyProof.Rows
set_option maxRecDepth 100000 in
set_option maxHeartbeats 0 in
theorem PySem.Challenge.cw_slideroom_k87_tidied_walked_holds : PySem.Challenge.rw_slideroom_k87_tidied_walked.Holds := by
  w_on; o_law; k_head; (case hw => w_witness2)
  k_fill
  refine K87.walk (l := PySem.Challenge.rw_slideroom_k87_tidied_walked) rfl rfl (fun w h Y => ⟨PySem.W.km_in_of Y, PySem.W.km_tabs_of Y⟩) ?F
  case F =>
    intro w mg fa h KX G hmg
    refine' K87.all_mk KX G hmg ?_ ?_ ?_ ?_ ?_ ?_ ?_ ?_ ?_ ?_ ?_ ?_ ?_ ?_ ?_ ?_ ?_ ?_ ?_ ?_ ?_ ?_ ?_ ?_ ?_ ?_ ?tb_order ?tn_order ?_ ?_ ?_ ?_ ?_ ?_ ?_ ?_ ?_ ?_ ?_ ?_ ?_ ?_ ?_ ?_ ?_ ?_ ?_ ?_ ?_ ?_ ?_ ?_ ?_ ?_ ?_ ?_ ?_ ?_ ?_ ?_ ?_ ?_ ?_ ?_ ?_ ?_ ?_ ?_ ?_ ?_ ?tne_ ?_ ?_ ?_ ?_ ?_ ?_ ?_ ?_ ?_ ?_ ?_ ?_ ?tb_Linit ?tn_Linit ?_
    all_goals try first
      | k_is
      | exact ⟨_, _, _, _, _, _, _, _, _, _, by k_is, by k_is, by k_is, by k_is⟩
      | exact ⟨_, _, _, _, _, _, _, _, _, _, by k_is, by k_is, by k_is, by k_is, by k_is⟩
      | exact ⟨_, _, _, _, _, _, _, _, _, _, by k_is, by k_is, by k_is, by k_is, by k_is, by k_is⟩
      | exact ⟨by k_is, by k_is, by k_is, by k_is, by k_is, by k_is⟩
    (case tb_Linit => kernel_rfl)
    (case tn_Linit => kernel_rfl)
    (case tb_order => kernel_rfl)
    (case tn_order => kernel_rfl)
    (case tne_ => decide)

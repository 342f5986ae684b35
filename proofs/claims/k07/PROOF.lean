import PyProof.Rows.All
import Wide.All
import OpenK.AllK
import Wide.FinOn
import Lean
import PyProof.EqAt
import PyProof.EqKinds
import PyProof.TupleCall
import PyProof.NeKinds
import PyProof.ExcInit
import PyProof.StationsW
import PyProof.ExcBaseAll.ValueError
import PyProof.ExcArgs
import KE.KIsAll
import PyProof.ReprRoads
import PyProof.CallFns
import PyProof.ExcClass3
import PyProof.StrBlock2
import PyProof.FitsInt
import PyProof.StrLawsRepr
import KE.KTryMore
import PyProof.RulesAs
import PySem.Challenge.RW_slideroom_k07_fractions
-- CHANGE: your row's module here, as the last of these rows
set_option Elab.async false
set_option linter.all false
set_option maxRecDepth 100000
namespace L2
open PySem PySem.Spec PyProof.Rows
/-- a key: an int or a str -/
abbrev Key := Sum Int Str
def keyIs : Key → Value → Bool
  | .inl k, v => Value.isInt k v
  | .inr x, v => Value.isStrOf x v
def keyH (w : World) : Key → Int
  | .inl k => hashInt k
  | .inr x => hashStr w x
theorem keyIs_shape : ∀ {k : Key} {v : Value}, keyIs k v = true → (∃ i t, k = Sum.inl i ∧ v = Value.int i t) ∨ (∃ x t, k = Sum.inr x ∧ v = Value.str x t)
  | .inl i, v, h => by
    obtain ⟨t, e⟩ := Value.isInt_shape (k := i) (v := v) h
    exact .inl ⟨i, t, rfl, e⟩
  | .inr x, v, h => by
    obtain ⟨t, e⟩ := Value.isStrOf_shape (x := x) (v := v) h
    exact .inr ⟨x, t, rfl, e⟩
theorem key_ll (a b : Int) : decide ((Sum.inl a : Key) = Sum.inl b) = (a == b) := by
  by_cases e : a = b
  · subst e; simp
  · have h : ¬ (Sum.inl a : Key) = Sum.inl b := fun q => e (Sum.inl.inj q)
    rw [decide_eq_false h]
    exact (beq_eq_false_iff_ne.mpr e).symm
theorem key_rr (a b : Str) : decide ((Sum.inr a : Key) = Sum.inr b) = decide (a = b) := by
  by_cases e : a = b
  · subst e; simp
  · have h : ¬ (Sum.inr a : Key) = Sum.inr b := fun q => e (Sum.inr.inj q)
    rw [decide_eq_false h, decide_eq_false e]
theorem key_lr (a : Int) (b : Str) : decide ((Sum.inl a : Key) = Sum.inr b) = false := decide_eq_false (fun q => nomatch q)
theorem key_rl (a : Str) (b : Int) : decide ((Sum.inr a : Key) = Sum.inl b) = false := decide_eq_false (fun q => nomatch q)
def mixKind (prog : Program) (w : World) : PySem.KeyKind prog w Key where
  is := keyIs
  hash := keyH w
  inj := fun v a b ha hb => by
    rcases keyIs_shape ha with ⟨i, t, rfl, rfl⟩ | ⟨x, t, rfl, rfl⟩
    · rcases keyIs_shape hb with ⟨j, u, rfl, e⟩ | ⟨y, u, rfl, e⟩
      · injection e with e1 _; rw [e1]
      · exact nomatch e
    · rcases keyIs_shape hb with ⟨j, u, rfl, e⟩ | ⟨y, u, rfl, e⟩
      · exact nomatch e
      · injection e with e1 _; rw [e1]
  byValue := fun k v h => by
    rcases keyIs_shape h with ⟨i, t, rfl, rfl⟩ | ⟨x, t, rfl, rfl⟩ <;> rfl
  pyHash := fun hv h => by
    rcases keyIs_shape hv with ⟨i, t, rfl, rfl⟩ | ⟨x, t, rfl, rfl⟩
    · exact wpAny_pyHash_int h
    · exact wpAny_pyHash_str h
  eqBool := fun hu hv h => by
    rcases keyIs_shape hu with ⟨i, t, rfl, rfl⟩ | ⟨x, t, rfl, rfl⟩
    · rcases keyIs_shape hv with ⟨j, u, rfl, rfl⟩ | ⟨y, u, rfl, rfl⟩
      · rw [key_ll] at h; exact wpAny_eqBool_int h
      · rw [key_lr] at h; exact SeqAt.EqAt.int_str i t y u _ _ _ _ h
    · rcases keyIs_shape hv with ⟨j, u, rfl, rfl⟩ | ⟨y, u, rfl, rfl⟩
      · rw [key_rl] at h; exact SeqAt.EqAt.str_int x t j u _ _ _ _ h
      · rw [key_rr] at h; exact wpAny_eqBool_str h
  «strs» := fun k x t v h => by
    rcases keyIs_shape h with ⟨i, u, rfl, e⟩ | ⟨y, u, rfl, e⟩
    · exact nomatch e
    · injection e with e1 _
      subst e1
      cases v <;> rfl
end L2
namespace L2
open PySem PySem.Spec PyProof.Rows
/-- a value, without the heap -/
inductive V where
  | non | bl (b : Bool) | int (i : Int) | str (x : Str) | byt (b : Array UInt8) | flt (b : UInt64) | ref (a : Addr) | ty (n : String)
  deriving DecidableEq
def RelV : V → Value → Prop
  | .non, u => u = Value.none
  | .bl b, u => u = Value.bool b
  | .int i, u => ∃ t, u = Value.int i t
  | .str x, u => ∃ t, u = Value.str x t
  | .byt b, u => ∃ t, u = Value.bytes b t
  | .flt b, u => ∃ t, u = Value.float b t
  | .ref a, u => u = Value.ref a
  | .ty n, u => u = Value.type n
abbrev Vals : List V → List Value → Prop := Paired RelV
theorem Vals.length {xs : List V} {us : List Value} (r : Vals xs us) : xs.length = us.length := Paired.length r
theorem Vals.get : ∀ {xs : List V} {us : List Value} {i : Nat} {x : V}, Vals xs us → xs[i]? = some x → ∃ u, us[i]? = some u ∧ RelV x u
  | _, _, _, _, .nil, e => by simp at e
  | _, _, 0, _, .cons r _, e => by simp at e; subst e; exact ⟨_, rfl, r⟩
  | _, _, i + 1, x, .cons _ t, e => by
    obtain ⟨u, h1, h2⟩ := Vals.get (i := i) (x := x) t (by simpa using e)
    exact ⟨u, by simpa using h1, h2⟩
theorem Vals.set {x : V} {u : Value} (r : RelV x u) : ∀ {xs : List V} {us : List Value} (i : Nat), Vals xs us → Vals (xs.set i x) (us.set i u)
  | _, _, _, .nil => .nil
  | _, _, 0, .cons _ t => .cons r t
  | _, _, i + 1, .cons q t => .cons q (Vals.set r i t)
theorem Vals.append : ∀ {xs ys : List V} {us ws : List Value}, Vals xs us → Vals ys ws → Vals (xs ++ ys) (us ++ ws)
  | _, _, _, _, .nil, s => s
  | _, _, _, _, .cons r t, s => .cons r (Vals.append t s)
theorem Vals.take : ∀ {xs : List V} {us : List Value} (n : Nat), Vals xs us → Vals (xs.take n) (us.take n)
  | _, _, 0, _ => .nil
  | _, _, _ + 1, .nil => .nil
  | _, _, n + 1, .cons r t => .cons r (Vals.take n t)
def RelO : Option V → Option Value → Prop
  | some v, some u => RelV v u
  | none, none => True
  | _, _ => False
def KV {κ : Type} : List (κ × V) → List (κ × Value) → Prop := Paired fun (p : κ × V) (q : κ × Value) => p.1 = q.1 ∧ RelV p.2 q.2
/-- a key of a dict (00_mix): an int or a text -/
def kV : Key → V
  | .inl i => .int i
  | .inr x => .str x
/-- what stands at a tracked address -/
inductive HO where
  /-- a list -/
  | lst (xs : List V)
  /-- a tuple (never changes) -/
  | tup (xs : List V)
  /-- a dict whose keys are ints and texts; one whose keys are tuples of ints and texts (the empty one is both) -/
  | dK (kvs : List (Key × V)) | dT (kvs : List (List Key × V))
  /-- a set of ints: its members, its size -/
  | set (S : Int → Bool) (n : Nat)
  /-- an instance of the class at C, its dict at dx, its attributes -/
  | ins (C dx : Addr) (fs : List (Str × V))
  /-- the dict of the instance at x -/
  | own (x : Addr)
  /-- the dict of an exception -/
  | xd (fs : List (Str × V))
  /-- a bound method, f of x -/
  | met (f x : Addr)
  /-- a range object lo, lo + 1, .. below hi -/
  | rng (lo hi : Int)
  /-- a thing that is known to the object (the script; a dict while a loop walks it): read, never written while it is so -/
  | frz (o : Obj) (u : HO)
  /-- a code object's table -/
  | tbl (ps : Array Value)
  /-- any other thing, by what is true of its one object (a def of one's own: SetO a S n := HO.ext fun h => ..) -/
  | ext (φ : Heap → Prop)
abbrev Hp := Addr → Option HO
def upd (H : Hp) (a : Addr) (o : HO) : Hp := fun b => if b = a then some o else H b
theorem upd_same {H : Hp} {a : Addr} {o : HO} : upd H a o a = some o := by unfold upd; rw [if_pos rfl]
theorem upd_ne {H : Hp} {a b : Addr} {o : HO} (h : b ≠ a) : upd H a o b = H b := by unfold upd; rw [if_neg h]
/-- two objects of different content stand apart -/
theorem ne_of {H : Hp} {a b : Addr} {o u : HO} (h : H a = some o) (h' : H b = some u) (d : o ≠ u) : a ≠ b := by
  intro e; subst e; rw [h] at h'; exact d (Option.some.inj h')
theorem ne_of_none {H : Hp} {a b : Addr} {o : HO} (h : H a = some o) (h' : H b = none) : a ≠ b := by
  intro e; subst e; rw [h] at h'; cases h'
section
variable (P : Program) (w : World)
def ObjOk (H : Hp) (h : Heap) (a : Addr) : HO → Prop
  | .lst xs => xs.length ≤ sizeLine ∧ ∃ (its : List Value) (n : Nat), Vals xs its ∧ h.get? a = some { cls := .type "list", data := .seq its.toArray n }
  | .tup xs => xs.length ≤ sizeLine ∧ ∃ its : List Value, Vals xs its ∧ IsTup h a its.toArray
  | .dK kvs => kvs.length ≤ sizeLine ∧ (a == sysModules) = false ∧ ∃ vs, KV kvs vs ∧ h.DictOf (mixKind P w) a vs
  | .dT kvs => kvs.length ≤ sizeLine ∧ (a == sysModules) = false ∧ ∃ xs : List (List Key × Addr × Value),
      Paired (fun (p : List Key × V) (q : List Key × Addr × Value) => p.1 = q.1 ∧ H q.2.1 = some (.tup (p.1.map kV)) ∧ RelV p.2 q.2.2) kvs xs ∧
      ∃ o es ep, h.get? a = some o ∧ o.ExactDict ∧ o.data = .dict es ep ∧ es.toList = xs.map (entryOfKey (tupleKind (mixKind P w))) ∧ (xs.map (·.1)).Nodup
  | .set S n => h.SetOf (intKind P w) a S n
  | .ins C dx fs => H dx = some (.own a) ∧ fs.length ≤ 1000 ∧ dx ≠ a ∧ h.get? a = some (PySem.W.instObj C dx) ∧
      ∃ mA, h.Ns1 dx mA ∧ (∀ f, RelO (fs.lookup f) (mA f)) ∧ PySem.Within mA (fs.map (·.1))
  | .own _ => ∃ o, h.get? a = some o
  | .xd fs => ∃ mA, h.Ns1 a mA ∧ ∀ f, RelO (fs.lookup f) (mA f)
  | .rng lo hi => ∃ t u v, h.get? a = some { cls := .type "range", data := .fields #[.int lo t, .int hi u, .int 1 v] }
  | .frz o u => h.get? a = some o ∧ ObjOk H h a u
  | .tbl ps => h.get? a = some { cls := .none, data := .fields ps }
  | .met f x => h.get? a = some (PySem.W.methodObj (.ref f) (.ref x))
  | .ext φ => φ h ∧ (∃ o, h.get? a = some o) ∧ ∀ h1 h2 : Heap, φ h1 → (∀ o, h1.get? a = some o → h2.get? a = some o) → φ h2
/-- the abstract heap is held -/
def HOk (H : Hp) (h : Heap) : Prop := ∀ a o, H a = some o → ObjOk P w H h a o
end
section
variable {P : Program} {w : World} {H H' : Hp} {h h' : Heap} {a : Addr} {o : HO}
theorem ObjOk.lt (x : ObjOk P w H h a o) : a < h.objs.size := by
  cases o with
  | lst xs => obtain ⟨_, _, _, _, e⟩ := x; exact Heap.lt_size e
  | tup xs => obtain ⟨_, _, _, p⟩ := x; exact p.lt
  | dK kvs => obtain ⟨_, _, _, _, o, _, _, e, _⟩ := x; exact Heap.lt_size e
  | dT kvs => obtain ⟨_, _, _, _, o, _, _, e, _⟩ := x; exact Heap.lt_size e
  | set S n => obtain ⟨o, _, _, _, e, _⟩ := x; exact Heap.lt_size e
  | ins C dx fs => obtain ⟨_, _, _, e, _⟩ := x; exact Heap.lt_size e
  | own y => obtain ⟨_, e⟩ := x; exact Heap.lt_size e
  | xd fs => obtain ⟨_, ⟨_, _, _, e, _⟩, _⟩ := x; exact Heap.lt_size e
  | rng lo hi => obtain ⟨_, _, _, e⟩ := x; exact Heap.lt_size e
  | frz ob u => obtain ⟨e, _⟩ := x; exact Heap.lt_size e
  | tbl ps => exact Heap.lt_size (show h.get? a = some _ from x)
  | met f y => exact Heap.lt_size (show h.get? a = some _ from x)
  | ext φ => obtain ⟨_, ⟨_, e⟩, _⟩ := x; exact Heap.lt_size e
theorem Paired.mapP {α β : Type} {F G : α → β → Prop} : ∀ {l₁ : List α} {l₂ : List β}, Paired F l₁ l₂ → (∀ a b, F a b → G a b) → Paired G l₁ l₂
  | _, _, .nil, _ => .nil
  | _, _, .cons r t, f => .cons (f _ _ r) (Paired.mapP t f)
/-- what an object's description leans on: its own object, its own dict, the tuples -/
theorem ObjOk.stay (x : ObjOk P w H h a o) (k : ∀ b u, (b = a ∨ H b = some (.own a)) → h.get? b = some u → h'.get? b = some u)
    (ho : ∀ b, H b = some (.own a) → H' b = some (.own a)) (ht : ∀ b xs, H b = some (.tup xs) → H' b = some (.tup xs)) : ObjOk P w H' h' a o := by
  induction o with
  | lst xs => obtain ⟨z, its, n, r, e⟩ := x; exact ⟨z, its, n, r, k _ _ (.inl rfl) e⟩
  | tup xs => obtain ⟨z, its, r, ob, e, c⟩ := x; exact ⟨z, its, r, ob, k _ _ (.inl rfl) e, c⟩
  | dK kvs => obtain ⟨z, y, vs, r, ob, es, ep, e, c⟩ := x; exact ⟨z, y, vs, r, ob, es, ep, k _ _ (.inl rfl) e, c⟩
  | dT kvs =>
    obtain ⟨z, y, xs, r, ob, es, ep, e, c⟩ := x
    exact ⟨z, y, xs, Paired.mapP r fun p q z => ⟨z.1, ht _ _ z.2.1, z.2.2⟩, ob, es, ep, k _ _ (.inl rfl) e, c⟩
  | set S n => obtain ⟨ob, es, ep, t, e, c⟩ := x; exact ⟨ob, es, ep, t, k _ _ (.inl rfl) e, c⟩
  | ins C dx fs =>
    obtain ⟨d, z, ne, e, mA, ⟨od, es, ep, e2, c⟩, r⟩ := x
    exact ⟨ho _ d, z, ne, k _ _ (.inl rfl) e, mA, ⟨od, es, ep, k _ _ (.inr d) e2, c⟩, r⟩
  | own y => obtain ⟨ob, e⟩ := x; exact ⟨ob, k _ _ (.inl rfl) e⟩
  | xd fs => obtain ⟨mA, ⟨od, es, ep, e, c⟩, r⟩ := x; exact ⟨mA, ⟨od, es, ep, k _ _ (.inl rfl) e, c⟩, r⟩
  | rng lo hi => obtain ⟨t, u, v, e⟩ := x; exact ⟨t, u, v, k _ _ (.inl rfl) e⟩
  | frz ob u ih => obtain ⟨e, q⟩ := x; exact ⟨k _ _ (.inl rfl) e, ih q⟩
  | tbl ps =>
    have e : h.get? a = some { cls := .none, data := .fields ps } := x
    show h'.get? a = some { cls := .none, data := .fields ps }
    exact k a _ (.inl rfl) e
  | met f y =>
    have e : h.get? a = some (PySem.W.methodObj (.ref f) (.ref y)) := x
    show h'.get? a = some (PySem.W.methodObj (.ref f) (.ref y))
    exact k a _ (.inl rfl) e
  | ext φ => obtain ⟨p, ⟨o, e⟩, st⟩ := x; exact ⟨st _ _ p fun o q => k _ _ (.inl rfl) q, ⟨o, k _ _ (.inl rfl) e⟩, st⟩
theorem HOk.lt (x : HOk P w H h) (e : H a = some o) : a < h.objs.size := (x a o e).lt
theorem HOk.fresh (x : HOk P w H h) (e : h.objs.size ≤ a) : H a = none := by
  cases q : H a with
  | none => rfl
  | some u => exact absurd (Nat.lt_of_lt_of_le (x.lt q) e) (Nat.lt_irrefl _)
/-- every object of the heap is kept -/
theorem HOk.kept (x : HOk P w H h) (k : ∀ b u, h.get? b = some u → h'.get? b = some u) : HOk P w H h' := fun a o e =>
  (x a o e).stay (fun b u _ q => k b u q) (fun _ q => q) fun _ _ q => q
/-- a new object is laid and tracked -/
theorem HOk.laid (x : HOk P w H h) (k : ∀ b u, h.get? b = some u → h'.get? b = some u) (hp : h.objs.size ≤ a) (new : ObjOk P w (upd H a o) h' a o) : HOk P w (upd H a o) h' := fun b u e => by
  have hn := x.fresh hp
  by_cases hb : b = a
  · subst hb; rw [upd_same] at e; cases e; exact new
  · rw [upd_ne hb] at e
    exact (x b u e).stay (fun c v _ q => k c v q) (fun c q => by rw [upd_ne (ne_of_none q hn)]; exact q) fun c xs q => by rw [upd_ne (ne_of_none q hn)]; exact q
end
/-- what may be read as u: it is u, or a known u -/
def Rd (H : Hp) (a : Addr) (u : HO) : Prop := H a = some u ∨ ∃ o, H a = some (.frz o u)
theorem Rd.of {H : Hp} {a : Addr} {u : HO} (h : H a = some u) : Rd H a u := .inl h
theorem Rd.ok {P : Program} {w : World} {H : Hp} {h : Heap} {a : Addr} {u : HO} (r : Rd H a u) (x : HOk P w H h) : ObjOk P w H h a u := by
  rcases r with r | ⟨o, r⟩
  · exact x a u r
  · obtain ⟨_, q⟩ := x a _ r
    exact q
/-- what may be written -/
def Mut : Option HO → Prop
  | some (.lst _) => True
  | some (.dK _) => True
  | some (.dT _) => True
  | some (.set _ _) => True
  | some (.ins _ _ _) => True
  | some (.ext _) => True
  | _ => False
section
variable {P : Program} {w : World} {H : Hp} {h h' : Heap} {x e : Addr} {o' : HO}
/-- the object at e is changed: x itself, or the dict of the instance x -/
theorem HOk.write (ok : HOk P w H h) (mu : Mut (H x)) (he : e = x ∨ H e = some (.own x)) (k : ∀ b u, b ≠ e → h.get? b = some u → h'.get? b = some u) (heo : ∃ u, h'.get? e = some u)
    (new : ObjOk P w (upd H x o') h' x o') : HOk P w (upd H x o') h' := fun b u q => by
  have nown : ∀ c y, H c = some (.own y) → c ≠ x := fun c y r z => by subst z; rw [r] at mu; exact mu
  have ntup : ∀ c xs, H c = some (.tup xs) → c ≠ x := fun c xs r z => by subst z; rw [r] at mu; exact mu
  by_cases hb : b = x
  · subst hb; rw [upd_same] at q; cases q; exact new
  · rw [upd_ne hb] at q
    by_cases hbe : b = e
    · have q' : H b = some (.own x) := by
        rcases he with z | z
        · exact absurd (hbe.trans z) hb
        · rw [hbe]; exact z
      rw [q] at q'; cases q'
      obtain ⟨v, hv⟩ := heo
      exact ⟨v, by rw [hbe]; exact hv⟩
    · refine (ok b u q).stay (fun c v hc r => k c v ?_ r) (fun c r => by rw [upd_ne (nown c b r)]; exact r) fun c xs r => by rw [upd_ne (ntup c xs r)]; exact r
      rcases hc with rfl | hc
      · exact hbe
      · rintro rfl
        rcases he with z | z
        · exact nown c b hc z
        · rw [hc] at z; cases z; exact hb rfl
end
structure Un (fs ex : List Addr) (H H' : Hp) (h h' : Heap) : Prop where
  keep : ∀ b o, h.get? b = some o → H b = none → b ∉ fs → b ∉ ex → h'.get? b = some o
  slot : ∀ b o, h.get? b = some o → H b = none → b ∈ fs → b ∉ ex → ∃ sl, h'.get? b = some { o with slots := sl }
  free : ∀ b o, h.get? b = some o → H b = none → b ∉ ex → H' b = none
  there : ∀ b o, h.get? b = some o → b ∉ ex → ∃ o', h'.get? b = some o'
  tups : ∀ b xs, H b = some (.tup xs) → H' b = some (.tup xs)
  frzs : ∀ b o u, H b = some (.frz o u) → H' b = some (.frz o u)
  tbls : ∀ b ps, H b = some (.tbl ps) → ∃ more, H' b = some (.tbl (ps ++ more))
section
variable {fs fs' ex ex' : List Addr} {H H1 H2 : Hp} {h h1 h2 h' : Heap} {a x e : Addr} {o : HO}
theorem Un.any (u : Un fs ex H H1 h h1) {b : Addr} {ob : Obj} (q : h.get? b = some ob) (n : H b = none) (hx : b ∉ ex) : ∃ sl, h1.get? b = some { ob with slots := sl } := by
  by_cases hb : b ∈ fs
  · exact u.slot b ob q n hb hx
  · exact ⟨ob.slots, u.keep b ob q n hb hx⟩
theorem Un.trans (a : Un fs ex H H1 h h1) (b : Un fs ex H1 H2 h1 h2) : Un fs ex H H2 h h2 where
  keep := fun c ob q n hc hx => b.keep c ob (a.keep c ob q n hc hx) (a.free c ob q n hx) hc hx
  slot := fun c ob q n hc hx => by
    obtain ⟨sl, e1⟩ := a.slot c ob q n hc hx
    obtain ⟨sl', e2⟩ := b.slot c _ e1 (a.free c ob q n hx) hc hx
    exact ⟨sl', e2⟩
  free := fun c ob q n hx => by
    obtain ⟨o', e1⟩ := a.there c ob q hx
    exact b.free c o' e1 (a.free c ob q n hx) hx
  there := fun c ob q hx => by
    obtain ⟨o', e1⟩ := a.there c ob q hx
    exact b.there c o' e1 hx
  tups := fun c xs q => b.tups c xs (a.tups c xs q)
  frzs := fun c ob xs q => b.frzs c ob xs (a.frzs c ob xs q)
  tbls := fun c ps q => by
    obtain ⟨m1, e1⟩ := a.tbls c ps q
    obtain ⟨m2, e2⟩ := b.tbls c _ e1
    exact ⟨m1 ++ m2, by rw [e2, Array.append_assoc]⟩
theorem Un.kept (k : ∀ b u, h.get? b = some u → h'.get? b = some u) : Un fs ex H H h h' :=
  ⟨fun b ob q _ _ _ => k b ob q, fun b ob q _ _ _ => ⟨ob.slots, k b ob q⟩, fun _ _ _ n _ => n, fun b ob q _ => ⟨ob, k b ob q⟩, fun _ _ q => q, fun _ _ _ q => q, fun _ ps q => ⟨#[], by rw [q]; simp⟩⟩
theorem Un.refl : Un fs ex H H h h := Un.kept fun _ _ q => q
theorem Un.laid (k : ∀ b u, h.get? b = some u → h'.get? b = some u) (hp : h.objs.size ≤ a) (hn : H a = none) : Un fs ex H (upd H a o) h h' where
  keep := fun b u q _ _ _ => k b u q
  slot := fun b u q _ _ _ => ⟨u.slots, k b u q⟩
  free := fun b u q n _ => by rw [upd_ne (Nat.ne_of_lt (Nat.lt_of_lt_of_le (Heap.lt_size q) hp))]; exact n
  there := fun b u q _ => ⟨u, k b u q⟩
  tups := fun b xs q => by rw [upd_ne (ne_of_none q hn)]; exact q
  frzs := fun b u xs q => by rw [upd_ne (ne_of_none q hn)]; exact q
  tbls := fun b ps q => ⟨#[], by rw [upd_ne (ne_of_none q hn), q]; simp⟩
theorem Un.write (mu : Mut (H x)) (he : e = x ∨ H e = some (.own x)) (k : ∀ b u, b ≠ e → h.get? b = some u → h'.get? b = some u) (heo : ∃ u, h'.get? e = some u) : Un fs ex H (upd H x o) h h' := by
  have hx : ∀ b, H b = none → b ≠ x := fun b n z => by subst z; rw [n] at mu; exact mu
  have hb : ∀ b, H b = none → b ≠ e := fun b n z => by
    subst z
    rcases he with r | r
    · exact hx b n r
    · rw [n] at r; cases r
  have hm : ∀ b u, H b = some u → ¬ Mut (some u) → b ≠ x := fun b u q nm z => by subst z; rw [q] at mu; exact nm mu
  refine ⟨fun b u q n _ _ => k b u (hb b n) q, fun b u q n _ _ => ⟨u.slots, k b u (hb b n) q⟩, fun b u q n _ => by rw [upd_ne (hx b n)]; exact n, fun b u q _ => ?_,
    fun b xs q => by rw [upd_ne (hm b _ q fun z => z)]; exact q, fun b u xs q => by rw [upd_ne (hm b _ q fun z => z)]; exact q, fun b ps q => ⟨#[], by rw [upd_ne (hm b _ q fun z => z), q]; simp⟩⟩
  by_cases hbe : b = e
  · subst hbe; exact heo
  · exact ⟨u, k b u hbe q⟩
theorem Un.mono (u : Un fs ex H H1 h h1) (hs : ∀ b ∈ fs, b ∈ fs') (hx : ∀ b ∈ ex, b ∈ ex') : Un fs' ex' H H1 h h1 :=
  ⟨fun b ob q n hb he => u.keep b ob q n (fun z => hb (hs b z)) fun z => he (hx b z), fun _ _ q n _ he => u.any q n fun z => he (hx _ z), fun b ob q n he => u.free b ob q n fun z => he (hx b z), fun b ob q he => u.there b ob q fun z => he (hx b z), u.tups, u.frzs, u.tbls⟩
end
def trk (h : Heap) (H : Hp) : List Addr := (List.range h.objs.size).filter fun a => (H a).isSome
def hidT (h : Heap) (H : Hp) : Heap := PySem.W.hideAll h (trk h H)
theorem hidT_size (h : Heap) (H : Hp) : (hidT h H).objs.size = h.objs.size := PySem.W.hideAll_size _ _
theorem hidT_get {h : Heap} {H : Hp} {b : Addr} {o : Obj} (e : h.get? b = some o) (n : H b = none) : (hidT h H).get? b = some o :=
  PySem.W.hideAll_get _ e fun hm => by
    have q : (H b).isSome = true := (List.mem_filter.mp hm).2
    rw [n] at q; simp at q
theorem of_hidT {h : Heap} {H : Hp} {b : Addr} {o : Obj} (e : (hidT h H).get? b = some o) : h.get? b = some o ∧ H b = none := by
  have e' : h.get? b = some o := PySem.W.of_hideAll (trk h H) e
  refine ⟨e', ?_⟩
  cases q : H b with
  | none => rfl
  | some x =>
    have hm : b ∈ trk h H := List.mem_filter.mpr ⟨List.mem_range.mpr (Heap.lt_size e'), by simp [q]⟩
    have z : (hidT h H).get? b = none := PySem.W.hideAll_none (trk h H) hm
    rw [z] at e; cases e
def allNews (g h : Heap) (L : Addr) : List (Addr × Obj) := (List.range h.objs.size).filterMap fun a => if a = L ∨ (g.get? a).isSome = true then none else (h.get? a).map fun o => (a, o)
def rest (g h : Heap) (L d : Addr) : List (Addr × Obj) := (allNews g h L).filter fun p => decide (p.1 ≠ d)
end L2
namespace L2
open PySem PySem.Spec PyProof.Rows
/-- the module's facts, over the base: the heap at the law's entry without what is tracked there -/
structure Mod (K : PySem.W.Frag) (mg : Str → Option Value) (base : Heap) : Prop where
  kin : K.In base
  glob : base.Ns mainGlobals mg
  blt : ∃ mb, base.Ns builtinsNs mb ∧ ∀ x : Str, x ≠ "__name__" → mb x = bootBuiltins x
  nolimit : base.NoLimit
/-- the context: a def's body (or a comprehension's block) running. base: fixed through the whole law; s₀, H₀: the entry; outer: the frames whose slots others may change (a def's callers); stack: all frames that run;
   ex: iterators that were made ahead of the entry and are walked here (a comprehension's); fn: the names whose cells were made at the entry (a def: all; a comprehension's block: its own); calm: not within an except suite; pn: pins that every state bears; xe: what is wanted of an exception that leaves the code -/
structure Cx where
  prog : Program
  w : World
  K : PySem.W.Frag
  mg : Str → Option Value
  base : Heap
  A : Around
  N : List Str
  s₀ : Shared
  H₀ : Hp
  env : Env
  outer : List Env
  stack : List Env
  ex : List Addr
  fn : Str → Bool
  calm : Bool
  pn : List (Addr × Obj)
  xe : Value → Shared → Prop
/-- the callers' frames -/
def frs (l : List Env) : List Addr := l.filterMap (·.frame)
abbrev Cx.fs (X : Cx) : List Addr := frs X.outer
def Vis (sc : Scope) (x : Str) : Prop := sc.names.lookup x = some .local ∨ sc.names.lookup x = some .cell ∨ sc.names.lookup x = some .free
def Loc (sc : Scope) (x : Str) : Prop := sc.names.lookup x = some .local ∨ sc.names.lookup x = some .cell
def Look (env : Env) (h : Heap) (m : Str → Option Value) (x : Str) (u : Value) : Prop :=
  (env.kindOf x = some .local ∧ m x = some u) ∨ ((env.kindOf x = some .cell ∨ env.kindOf x = some .free) ∧ ∃ c, env.cells.lookup x = some c ∧ h.IsCell c (some u))
structure Cx.Ok (X : Cx) : Prop where
  mod : Mod X.K X.mg X.base
  kind : X.env.scope.kind = .function
  glob : X.env.globals = mainGlobals
  blt : X.env.builtins = builtinsNs
  above : X.s₀.heap.objs.size ≤ X.env.locals
  inj : ∀ x y c, X.env.cells.lookup x = some c → X.env.cells.lookup y = some c → x = y
  has : ∀ x, (X.env.kindOf x = some .cell ∨ X.env.kindOf x = some .free) → ∃ c, X.env.cells.lookup x = some c
  cab : ∀ x c, X.fn x = true → X.env.cells.lookup x = some c → X.s₀.heap.objs.size ≤ c
  hd : X.calm = true → X.A.handled = none
  frames : X.A.frames = some X.stack
  stk : X.stack = X.outer ∨ (X.stack = X.env :: X.outer ∧ X.env.frame = some X.env.locals)
  exf : ∀ b ∈ X.ex, b ≠ X.env.locals ∧ ∀ x c, X.env.cells.lookup x = some c → c ≠ b
  bs : ∀ b o, X.base.get? b = some o → X.s₀.heap.get? b = some o ∧ X.H₀ b = none
  bsz : X.base.objs.size ≤ X.s₀.heap.objs.size
  noex : ∀ b o, X.base.get? b = some o → b ∉ X.ex
  exfs : ∀ b ∈ X.ex, b ∉ X.fs
  funs : X.s₀.heap.FunFrames X.base X.outer
  frf : ∀ b ∈ X.fs, X.H₀ b = none
structure Inv (X : Cx) (pins : List (Addr × Obj)) (σ : List (Option V)) (H : Hp) (s : Shared) : Prop where
  ok : X.Ok
  os : s.os = X.s₀.os
  bare : AllBare s.gens
  base : Un X.fs X.ex X.H₀ H X.s₀.heap s.heap
  loc : ∃ m, s.heap.Ns X.env.locals m ∧ ∀ (i : Nat) (x : Str) (v : V), X.N[i]? = some x → σ[i]? = some (some v) → Vis X.env.scope x → ∃ u, RelV v u ∧ Look X.env s.heap m x u
  cell : ∀ x c, X.env.cells.lookup x = some c → ∃ v, s.heap.IsCell c v
  free : H X.env.locals = none
  freeC : ∀ x c, X.env.cells.lookup x = some c → H c = none
  pin : ∀ p ∈ X.pn ++ pins, s.heap.get? p.1 = some p.2 ∧ H p.1 = none ∧ p.1 ≠ X.env.locals ∧ p.1 ∉ X.fs ∧ ∀ v, p.2.data ≠ .cell v
  hok : HOk X.prog X.w H s.heap
  len : σ.length = X.N.length
section
variable {X : Cx} {pins : List (Addr × Obj)} {σ : List (Option V)} {H H' : Hp} {s : Shared} {h' : Heap}
theorem Cx.Ok.nofr (ok : X.Ok) {b : Addr} {o : Obj} (e : X.base.get? b = some o) : b ∉ X.fs := fun hb => by
  have := (ok.funs.mem hb).1
  rw [e] at this; cases this
theorem Inv.bs (I : Inv X pins σ H s) : ∀ b o, X.base.get? b = some o → s.heap.get? b = some o ∧ H b = none := fun b o e =>
  ⟨I.base.keep b o (I.ok.bs b o e).1 (I.ok.bs b o e).2 (I.ok.nofr e) (I.ok.noex b o e), I.base.free b o (I.ok.bs b o e).1 (I.ok.bs b o e).2 (I.ok.noex b o e)⟩
theorem Inv.bk (I : Inv X pins σ H s) : ∀ b o, X.base.get? b = some o → s.heap.get? b = some o := fun b o e => (I.bs b o e).1
theorem Inv.mod (I : Inv X pins σ H s) : Mod X.K X.mg X.base := I.ok.mod
theorem Inv.kIn (I : Inv X pins σ H s) : X.K.In s.heap := I.ok.mod.kin.keeps I.bk
theorem Inv.nolimit (I : Inv X pins σ H s) : s.heap.NoLimit := I.ok.mod.nolimit.keeps I.bk
/-- the frame over the base: for OpenK's rules (K.In X.base is I.mod.kin) -/
theorem Inv.fr (I : Inv X pins σ H s) : ∃ m, Fr X.base X.env.locals s.heap m :=
  let ⟨m, hn, _⟩ := I.loc
  ⟨m, hn, I.bk, Nat.le_trans I.ok.bsz I.ok.above⟩
theorem Inv.lt (I : Inv X pins σ H s) : X.env.locals < s.heap.objs.size := let ⟨_, hn, _⟩ := I.loc; hn.lt
theorem Inv.sz (I : Inv X pins σ H s) : X.s₀.heap.objs.size ≤ s.heap.objs.size := Nat.le_trans I.ok.above (Nat.le_of_lt I.lt)
theorem Inv.nofs (I : Inv X pins σ H s) {a : Addr} (h : s.heap.objs.size ≤ a) : a ∉ X.fs := fun hb => by
  obtain ⟨_, o, ho, _⟩ := I.ok.funs.mem hb
  exact absurd (Nat.lt_of_lt_of_le (Heap.lt_size ho) (Nat.le_trans I.sz h)) (Nat.lt_irrefl _)
theorem Inv.cne (I : Inv X pins σ H s) : ∀ x c, X.env.cells.lookup x = some c → c ≠ X.env.locals := fun x c e z => by
  obtain ⟨v, o, ho, hd⟩ := I.cell x c e
  obtain ⟨m, ⟨o', es, ep, ho', hd', _⟩, _⟩ := I.loc
  rw [z, ho'] at ho; cases ho; rw [hd'] at hd; cases hd
theorem Inv.funs (I : Inv X pins σ H s) : s.heap.FunFrames X.base X.outer := by
  have all : ∀ (l : List Env), (∀ b ∈ frs l, b ∈ X.fs) → X.s₀.heap.FunFrames X.base l → s.heap.FunFrames X.base l := by
    intro l
    induction l with
    | nil => intro _ _; trivial
    | cons env r ih =>
      intro hs hl
      obtain ⟨hk, ⟨L, o, hf, hn, ho, hd⟩, hr⟩ := hl
      have hL : L ∈ X.fs := hs L (by unfold frs; rw [List.filterMap_cons, hf]; exact List.mem_cons_self)
      obtain ⟨sl, e⟩ := I.base.slot L o ho (I.ok.frf L hL) hL fun z => I.ok.exfs L z hL
      exact ⟨hk, ⟨L, _, hf, hn, e, hd⟩, ih (fun b hb => hs b (by unfold frs; rw [List.filterMap_cons, hf]; exact List.mem_cons_of_mem _ hb)) hr⟩
  exact all X.outer (fun _ hb => hb) I.ok.funs
/-- the frames that run, for a call -/
theorem Inv.stack (I : Inv X pins σ H s) : s.heap.FunFrames X.base X.stack := by
  rcases I.ok.stk with e | ⟨e, hf⟩
  · rw [e]; exact I.funs
  · rw [e]
    obtain ⟨m, hn, _⟩ := I.loc
    refine .cons (by rw [I.ok.kind]; decide) hf hn ?_ I.funs
    exact Heap.get?_none_of_le (Nat.le_trans I.ok.bsz I.ok.above)
theorem Inv.stkSub (I : Inv X pins σ H s) : ∀ b ∈ frs X.stack, b ∈ X.env.locals :: X.fs := fun b hb => by
  rcases I.ok.stk with e | ⟨e, hf⟩
  · rw [e] at hb; exact List.mem_cons_of_mem _ hb
  · rw [e] at hb
    unfold frs at hb
    rw [List.filterMap_cons, hf] at hb
    exact hb
theorem Inv.stkFree (I : Inv X pins σ H s) : ∀ b ∈ frs X.stack, H b = none := fun b hb => by
  rcases List.mem_cons.mp (I.stkSub b hb) with e | hb
  · rw [e]; exact I.free
  · obtain ⟨_, o, ho, _⟩ := I.ok.funs.mem hb
    exact I.base.free b o ho (I.ok.frf b hb) fun z => I.ok.exfs b z hb
/-- THE STEP: the untracked objects but the frame and the records at ch are kept (the callers' frames up to slots), the frame's map is kept, the new abstract heap is held -/
theorem Inv.step {g' : Array GenState} {t' : Nat} {d' : Drawn} {ch : List Addr} (I : Inv X pins σ H s)
    (hch : ∀ b ∈ ch, (b ∈ X.ex ∨ X.s₀.heap.objs.size ≤ b) ∧ b ≠ X.env.locals ∧ (∀ x c, X.env.cells.lookup x = some c → c ≠ b) ∧ ∀ p ∈ X.pn ++ pins, p.1 ≠ b)
    (keep : ∀ b o, b ≠ X.env.locals → b ∉ X.fs → b ∉ ch → s.heap.get? b = some o → H b = none → h'.get? b = some o)
    (slot : ∀ b o, b ≠ X.env.locals → b ∈ X.fs → b ∉ ch → s.heap.get? b = some o → H b = none → ∃ sl, h'.get? b = some { o with slots := sl }) (free : ∀ b o, b ∉ ch → s.heap.get? b = some o → H b = none → H' b = none)
    (there : ∀ b o, b ∉ ch → s.heap.get? b = some o → ∃ o', h'.get? b = some o')
    (tups : ∀ b xs, H b = some (.tup xs) → H' b = some (.tup xs)) (frzs : ∀ b o u, H b = some (.frz o u) → H' b = some (.frz o u)) (tbls : ∀ b ps, H b = some (.tbl ps) → ∃ more, H' b = some (.tbl (ps ++ more)))
    (ns : ∀ m, s.heap.Ns X.env.locals m → h'.Ns X.env.locals m) (hok : HOk X.prog X.w H' h') (hg : AllBare g') :
    Inv X pins σ H' { s with heap := h', gens := g', drawn := d', toks := t' } := by
  have neL : ∀ b o, X.s₀.heap.get? b = some o → b ≠ X.env.locals := fun b o e => Nat.ne_of_lt (Nat.lt_of_lt_of_le (Heap.lt_size e) I.ok.above)
  have neC : ∀ b o, X.s₀.heap.get? b = some o → b ∉ X.ex → b ∉ ch := fun b o e hx hb => by
    rcases (hch b hb).1 with z | z
    · exact hx z
    · exact absurd (Nat.lt_of_lt_of_le (Heap.lt_size e) z) (Nat.lt_irrefl _)
  have cellK : ∀ x c, X.env.cells.lookup x = some c → ∀ v, s.heap.IsCell c v → h'.IsCell c v := fun x c e v ⟨o, ho, hd⟩ => by
    have nch : c ∉ ch := fun z => (hch c z).2.2.1 x c e rfl
    by_cases hc : c ∈ X.fs
    · obtain ⟨sl, q⟩ := slot c o (I.cne x c e) hc nch ho (I.freeC x c e)
      exact ⟨_, q, hd⟩
    · exact ⟨o, keep c o (I.cne x c e) hc nch ho (I.freeC x c e), hd⟩
  refine ⟨I.ok, I.os, hg, ⟨fun b o e n hb hx => ?_, fun b o e n hb hx => ?_, fun b o e n hx => ?_, fun b o e hx => ?_, fun b xs e => tups b xs (I.base.tups b xs e), fun b o xs e => frzs b o xs (I.base.frzs b o xs e), fun b ps e => ?_⟩, ?_, fun x c e => ?_, ?_, fun x c e => ?_, fun p hp => ?_, hok, I.len⟩
  · exact keep b o (neL b o e) hb (neC b o e hx) (I.base.keep b o e n hb hx) (I.base.free b o e n hx)
  · obtain ⟨sl, e1⟩ := I.base.slot b o e n hb hx
    obtain ⟨sl', e2⟩ := slot b _ (neL b o e) hb (neC b o e hx) e1 (I.base.free b o e n hx)
    exact ⟨sl', e2⟩
  · obtain ⟨o', e1⟩ := I.base.there b o e hx
    exact free b o' (neC b o e hx) e1 (I.base.free b o e n hx)
  · obtain ⟨o', e1⟩ := I.base.there b o e hx
    exact there b o' (neC b o e hx) e1
  · obtain ⟨m1, e1⟩ := I.base.tbls b ps e
    obtain ⟨m2, e2⟩ := tbls b _ e1
    exact ⟨m1 ++ m2, by rw [e2, Array.append_assoc]⟩
  · obtain ⟨m, hn, hl⟩ := I.loc
    refine ⟨m, ns m hn, fun i x v e1 e2 e3 => ?_⟩
    obtain ⟨u, r, l⟩ := hl i x v e1 e2 e3
    refine ⟨u, r, ?_⟩
    rcases l with l | ⟨k, c, e, z⟩
    · exact .inl l
    · exact .inr ⟨k, c, e, cellK x c e _ z⟩
  · obtain ⟨v, z⟩ := I.cell x c e
    exact ⟨v, cellK x c e v z⟩
  · obtain ⟨m, ⟨o, _, _, ho, _⟩, _⟩ := I.loc
    exact free _ o (fun z => (hch _ z).2.1 rfl) ho I.free
  · obtain ⟨v, o, ho, hd⟩ := I.cell x c e
    exact free c o (fun z => (hch c z).2.2.1 x c e rfl) ho (I.freeC x c e)
  · obtain ⟨e, n, ne, nf, d⟩ := I.pin p hp
    have nch : p.1 ∉ ch := fun z => (hch p.1 z).2.2.2 p hp rfl
    exact ⟨keep p.1 p.2 ne nf nch e n, free p.1 p.2 nch e n, ne, nf, d⟩
/-- .. where the frame's own object is kept too -/
theorem Inv.un {t' : Nat} (I : Inv X pins σ H s) (u : Un X.fs [] H H' s.heap h') (hok : HOk X.prog X.w H' h') : Inv X pins σ H' { s with heap := h', toks := t' } := by
  obtain ⟨m, ⟨o, es, ep, ho, r⟩, _⟩ := id I.loc
  obtain ⟨sl, hL⟩ := u.any ho I.free (by simp)
  exact I.step (g' := s.gens) (d' := s.drawn) (ch := []) (fun _ z => nomatch z) (fun b o _ hb _ e n => u.keep b o e n hb (by simp)) (fun b o _ hb _ e n => u.slot b o e n hb (by simp)) (fun b o _ e n => u.free b o e n (by simp)) (fun b o _ e => u.there b o e (by simp)) u.tups u.frzs u.tbls (fun m' hm => by
    obtain ⟨o', es', ep', ho', r'⟩ := hm
    rw [ho] at ho'; cases ho'
    exact ⟨_, es', ep', hL, r'⟩) hok I.bare
/-- behind a call (or a comprehension's block): the slots of this frame may have changed too, the records at ch may have turned -/
theorem Inv.call {g' : Array GenState} {t' : Nat} {d' : Drawn} {ch : List Addr} (I : Inv X pins σ H s) (u : Un (frs X.stack) ch H H' s.heap h') (hok : HOk X.prog X.w H' h') (hg : AllBare g')
    (hch : ∀ b ∈ ch, (b ∈ X.ex ∨ X.s₀.heap.objs.size ≤ b) ∧ b ≠ X.env.locals ∧ (∀ x c, X.env.cells.lookup x = some c → c ≠ b) ∧ ∀ p ∈ X.pn ++ pins, p.1 ≠ b) :
    Inv X pins σ H' { s with heap := h', gens := g', drawn := d', toks := t' } := by
  obtain ⟨m, ⟨o, es, ep, ho, r⟩, _⟩ := id I.loc
  obtain ⟨sl, hL⟩ := u.any ho I.free fun z => (hch _ z).2.1 rfl
  exact I.step (ch := ch) hch (fun b o hL hb hc e n => u.keep b o e n (fun z => (List.mem_cons.mp (I.stkSub b z)).elim hL hb) hc) (fun b o _ _ hc e n => u.any e n hc) (fun b o hc e n => u.free b o e n hc) (fun b o hc e => u.there b o e hc) u.tups u.frzs u.tbls (fun m' hm => by
    obtain ⟨o', es', ep', ho', r'⟩ := hm
    rw [ho] at ho'; cases ho'
    exact ⟨_, es', ep', hL, r'⟩) hok hg
/-- an untracked record of ours (an iterator) has turned -/
theorem Inv.turned {t' : Nat} {it : Addr} (I : Inv X pins σ H s) (k : ∀ b o, b ≠ it → s.heap.get? b = some o → h'.get? b = some o) (hn : H it = none) (hL : it ≠ X.env.locals)
    (h1 : it ∈ X.ex ∨ X.s₀.heap.objs.size ≤ it) (h2 : ∀ x c, X.env.cells.lookup x = some c → c ≠ it) (h3 : ∀ p ∈ X.pn ++ pins, p.1 ≠ it) : Inv X pins σ H { s with heap := h', toks := t' } := by
  have nit : ∀ b u, H b = some u → b ≠ it := fun b u e z => by rw [z, hn] at e; cases e
  refine I.step (g' := s.gens) (d' := s.drawn) (ch := [it]) (fun b hb => ?_) (fun b o _ _ hc e _ => k b o (fun z => hc (by simp [z])) e) (fun b o _ _ hc e _ => ⟨o.slots, k b o (fun z => hc (by simp [z])) e⟩) (fun _ _ _ _ n => n)
    (fun b o hc e => ⟨o, k b o (fun z => hc (by simp [z])) e⟩) (fun _ _ e => e) (fun _ _ _ e => e) (fun b ps e => ⟨#[], by rw [e]; simp⟩) (fun m hm => ?_) (fun b u e => ?_) I.bare
  · have e : b = it := by simpa using hb
    subst e
    exact ⟨h1, hL, h2, h3⟩
  · obtain ⟨o, es, ep, ho, r⟩ := hm
    exact ⟨o, es, ep, k _ o (Ne.symm hL) ho, r⟩
  · refine (I.hok b u e).stay (fun c v hc q => k c v ?_ q) (fun _ q => q) fun _ _ q => q
    rcases hc with z | z
    · rw [z]; exact nit b u e
    · exact nit c _ z
theorem Inv.tok (I : Inv X pins σ H s) (t : Nat) : Inv X pins σ H { s with toks := t } := I.un (h' := s.heap) (t' := t) Un.refl I.hok
/-- all objects kept -/
theorem Inv.kept {t' : Nat} (I : Inv X pins σ H s) (k : ∀ b u, s.heap.get? b = some u → h'.get? b = some u) : Inv X pins σ H { s with heap := h', toks := t' } := I.un (Un.kept k) (I.hok.kept k)
/-- a new object laid and tracked -/
theorem Inv.laid {a : Addr} {o : HO} {t' : Nat} (I : Inv X pins σ H s) (k : ∀ b u, s.heap.get? b = some u → h'.get? b = some u) (hp : s.heap.objs.size ≤ a) (new : ObjOk X.prog X.w (upd H a o) h' a o) :
    Inv X pins σ (upd H a o) { s with heap := h', toks := t' } := I.un (Un.laid k hp (I.hok.fresh hp)) (I.hok.laid k hp new)
/-- an object written -/
theorem Inv.write {x e : Addr} {o : HO} {t' : Nat} (I : Inv X pins σ H s) (mu : Mut (H x)) (he : e = x ∨ H e = some (.own x)) (k : ∀ b u, b ≠ e → s.heap.get? b = some u → h'.get? b = some u) (heo : ∃ u, h'.get? e = some u)
    (new : ObjOk X.prog X.w (upd H x o) h' x o) : Inv X pins σ (upd H x o) { s with heap := h', toks := t' } := I.un (Un.write mu he k heo) (I.hok.write mu he k heo new)
theorem Inv.pins_of {pins' : List (Addr × Obj)} (I : Inv X pins σ H s) (h : ∀ p ∈ pins', s.heap.get? p.1 = some p.2 ∧ H p.1 = none ∧ p.1 ≠ X.env.locals ∧ p.1 ∉ X.fs ∧ ∀ v, p.2.data ≠ .cell v) : Inv X pins' σ H s :=
  ⟨I.ok, I.os, I.bare, I.base, I.loc, I.cell, I.free, I.freeC, fun p hp => (List.mem_append.mp hp).elim (fun z => I.pin p (List.mem_append_left _ z)) (h p), I.hok, I.len⟩
theorem nodup_ix {N : List Str} (hN : N.Nodup) {i j : Nat} {x : Str} (a : N[i]? = some x) (b : N[j]? = some x) : i = j := by
  obtain ⟨h1, e1⟩ := List.getElem?_eq_some_iff.mp a
  obtain ⟨h2, e2⟩ := List.getElem?_eq_some_iff.mp b
  exact (List.getElem_inj hN).mp (e1.trans e2.symm)
/-- a name is stored; what changed -/
theorem store_ok2 {M : Model} {A : Around} {E : Value → Shared → Prop} {i : Nat} {x : Str} {v : V} {u : Value} {Q : Unit → Shared → Prop} (I : Inv X pins σ H s) (hN : X.N.Nodup) (hi : X.N[i]? = some x) (hx : Loc X.env.scope x) (r : RelV v u)
    (h : ∀ s', Inv X pins (σ.set i (some v)) H s' → (∃ a, Heap.SameBut a s.heap s'.heap ∧ (a = X.env.locals ∨ X.env.cells.lookup x = some a)) → Q () s') (hf : X.fn x = true ∨ X.env.scope.names.lookup x = some .local := by first | exact .inl rfl | exact .inr rfl | assumption) : wpAny M A (storeName X.env x u) Q E s := by
  obtain ⟨m, hn, hl⟩ := id I.loc
  have hcls : (X.env.scope.kind == .class || (X.env.scope.kind == .module && X.env.locals != X.env.globals)) = false := by rw [I.ok.kind]; rfl
  have hiσ : i < σ.length := by rw [I.len]; exact (List.getElem?_eq_some_iff.mp hi).1
  have cne := I.cne
  have tracked : ∀ {a : Addr} {h' : Heap}, (∃ o, s.heap.get? a = some o ∧ H a = none) → Heap.SameBut a s.heap h' → HOk X.prog X.w H h' := fun {a h'} ha hs b ob e => by
    obtain ⟨_, _, hfree⟩ := ha
    refine (I.hok b ob e).stay (fun c w' hc q => (hs.2 c ?_).trans q) (fun _ q => q) fun _ _ q => q
    rintro rfl
    rcases hc with rfl | hc
    · rw [hfree] at e; cases e
    · rw [hfree] at hc; cases hc
  rcases hx with hk | hk
  · refine wpAny_storeName_local hk hn (fun h' hn' hs => ?_) hcls
    obtain ⟨oL, _, _, hoL, _⟩ := id hn
    refine h _ ⟨I.ok, I.os, I.bare, ⟨fun b o e n hb hx => ?_, fun b o e n hb hx => ?_, I.base.free, fun b o e hx => ?_, I.base.tups, I.base.frzs, I.base.tbls⟩, ⟨_, hn', fun j y v' e1 e2 e3 => ?_⟩, fun y c e => ?_, I.free, I.freeC, fun p hp => ?_, tracked ⟨oL, hoL, I.free⟩ hs, by simpa using I.len⟩ ⟨_, hs, .inl rfl⟩
    · exact (hs.2 b (Nat.ne_of_lt (Nat.lt_of_lt_of_le (Heap.lt_size e) I.ok.above))).trans (I.base.keep b o e n hb hx)
    · obtain ⟨sl, e1⟩ := I.base.slot b o e n hb hx
      exact ⟨sl, (hs.2 b (Nat.ne_of_lt (Nat.lt_of_lt_of_le (Heap.lt_size e) I.ok.above))).trans e1⟩
    · obtain ⟨o', e1⟩ := I.base.there b o e hx
      exact ⟨o', (hs.2 b (Nat.ne_of_lt (Nat.lt_of_lt_of_le (Heap.lt_size e) I.ok.above))).trans e1⟩
    · by_cases hj : j = i
      · subst hj
        rw [hi] at e1; cases e1
        rw [List.getElem?_set_self hiσ] at e2
        cases e2
        exact ⟨u, r, .inl ⟨hk, by simp⟩⟩
      · rw [List.getElem?_set_ne (Ne.symm hj)] at e2
        obtain ⟨u', r', q⟩ := hl j y v' e1 e2 e3
        refine ⟨u', r', ?_⟩
        rcases q with ⟨k, e⟩ | ⟨k, c, e, z⟩
        · refine .inl ⟨k, ?_⟩
          have : y ≠ x := fun e => hj (nodup_ix hN e1 (e ▸ hi))
          simp [this, e]
        · exact .inr ⟨k, c, e, z.sameBut hs (cne y c e)⟩
    · obtain ⟨w', z⟩ := I.cell y c e
      exact ⟨w', z.sameBut hs (cne y c e)⟩
    · obtain ⟨e, n, ne, nf, d⟩ := I.pin p hp
      exact ⟨(hs.2 p.1 ne).trans e, n, ne, nf, d⟩
  · have hfn : X.fn x = true := by
      rcases hf with z | z
      · exact z
      · rw [z] at hk; cases hk
    obtain ⟨c, hc⟩ := I.ok.has x (.inl hk)
    obtain ⟨w', z⟩ := I.cell x c hc
    refine wpAny_storeName_cell I.ok.kind hk hc z (fun h' hc' hs => ?_)
    obtain ⟨oc, hoc, hocd⟩ := id z
    refine h { s with heap := h' } ⟨I.ok, I.os, I.bare, ⟨fun b o e n hb hx => ?_, fun b o e n hb hx => ?_, I.base.free, fun b o e hx => ?_, I.base.tups, I.base.frzs, I.base.tbls⟩, ⟨m, hn.sameBut hs (Ne.symm (cne x c hc)), fun j y v' e1 e2 e3 => ?_⟩, fun y c' e => ?_, I.free, I.freeC, fun p hp => ?_, tracked ⟨oc, hoc, I.freeC x c hc⟩ hs, by simpa using I.len⟩ ⟨c, hs, .inr hc⟩
    · exact (hs.2 b (Nat.ne_of_lt (Nat.lt_of_lt_of_le (Heap.lt_size e) (I.ok.cab x c hfn hc)))).trans (I.base.keep b o e n hb hx)
    · obtain ⟨sl, e1⟩ := I.base.slot b o e n hb hx
      exact ⟨sl, (hs.2 b (Nat.ne_of_lt (Nat.lt_of_lt_of_le (Heap.lt_size e) (I.ok.cab x c hfn hc)))).trans e1⟩
    · obtain ⟨o', e1⟩ := I.base.there b o e hx
      exact ⟨o', (hs.2 b (Nat.ne_of_lt (Nat.lt_of_lt_of_le (Heap.lt_size e) (I.ok.cab x c hfn hc)))).trans e1⟩
    · by_cases hj : j = i
      · subst hj
        rw [hi] at e1; cases e1
        rw [List.getElem?_set_self hiσ] at e2
        cases e2
        exact ⟨u, r, .inr ⟨.inl hk, c, hc, hc'⟩⟩
      · rw [List.getElem?_set_ne (Ne.symm hj)] at e2
        obtain ⟨u', r', q⟩ := hl j y v' e1 e2 e3
        refine ⟨u', r', ?_⟩
        rcases q with q | ⟨k, c', e, z'⟩
        · exact .inl q
        · refine .inr ⟨k, c', e, z'.sameBut hs ?_⟩
          rintro rfl
          exact hj (nodup_ix hN e1 (I.ok.inj _ _ _ e hc ▸ hi))
    · by_cases hcc : c' = c
      · subst hcc; exact ⟨_, hc'⟩
      · obtain ⟨w2, z2⟩ := I.cell y c' e
        exact ⟨w2, z2.sameBut hs hcc⟩
    · obtain ⟨e, n, ne, nf, d⟩ := I.pin p hp
      refine ⟨(hs.2 p.1 ?_).trans e, n, ne, nf, d⟩
      intro q
      rw [q, hoc] at e
      have q' : oc = p.2 := Option.some.inj e
      exact d w' (by rw [← q']; exact hocd)
theorem store_ok {M : Model} {A : Around} {E : Value → Shared → Prop} {i : Nat} {x : Str} {v : V} {u : Value} {Q : Unit → Shared → Prop} (I : Inv X pins σ H s) (hN : X.N.Nodup) (hi : X.N[i]? = some x) (hx : Loc X.env.scope x) (r : RelV v u)
    (h : ∀ s', Inv X pins (σ.set i (some v)) H s' → Q () s') (hf : X.fn x = true ∨ X.env.scope.names.lookup x = some .local := by first | exact .inl rfl | exact .inr rfl | assumption) : wpAny M A (storeName X.env x u) Q E s :=
  store_ok2 I hN hi hx r (fun s' I' _ => h s' I') hf
/-- behind a call or a block, the state as it is -/
theorem Inv.call' {s' : Shared} {ch : List Addr} (I : Inv X pins σ H s) (ho : s'.os = s.os) (u : Un (frs X.stack) ch H H' s.heap s'.heap) (hok : HOk X.prog X.w H' s'.heap) (hg : AllBare s'.gens)
    (hch : ∀ b ∈ ch, (b ∈ X.ex ∨ X.s₀.heap.objs.size ≤ b) ∧ b ≠ X.env.locals ∧ (∀ x c, X.env.cells.lookup x = some c → c ≠ b) ∧ ∀ p ∈ X.pn ++ pins, p.1 ≠ b) : Inv X pins σ H' s' := by
  obtain ⟨h', g', d', t', o'⟩ := s'
  have e : o' = s.os := ho
  subst e
  exact I.call (g' := g') (t' := t') (d' := d') u hok hg hch
end
/-- an exception: its class, its own dict's address (where it has one), the abstract heap behind it -/
abbrev XK := Value → Option Addr → Hp → Prop
abbrev St := List (Option V)
abbrev VK := V → Hp → Prop
/-- an expression's reading; a test's; an argument list's -/
abbrev TE := St → Hp → VK → Prop
abbrev TT := St → Hp → (Bool → Hp → Prop) → Prop
abbrev TA := St → Hp → (List V → Hp → Prop) → Prop
/-- what is wanted behind a statement -/
structure Ends where
  nx : St → Hp → Prop
  rt : VK
  bk : St → Hp → Prop := fun _ _ => False
  ct : St → Hp → Prop := fun _ _ => False
abbrev TS := Ends → St → Hp → Prop
def EP (X : Cx) (pins : List (Addr × Obj)) (σ : St) (Q : VK) (u : Value) (s' : Shared) : Prop := ∃ v H', Inv X pins σ H' s' ∧ RelV v u ∧ Q v H'
def TP (X : Cx) (pins : List (Addr × Obj)) (σ : St) (Q : Bool → Hp → Prop) (b : Bool) (s' : Shared) : Prop := ∃ H', Inv X pins σ H' s' ∧ Q b H'
def AP (X : Cx) (pins : List (Addr × Obj)) (σ : St) (Q : List V → Hp → Prop) (us : List Value) (s' : Shared) : Prop := ∃ vs H', Inv X pins σ H' s' ∧ Vals vs us ∧ Q vs H'
def SP (X : Cx) (pins : List (Addr × Obj)) (D : Ends) (f : Flow) (s' : Shared) : Prop :=
  match f with
  | .next => ∃ σ' H', Inv X pins σ' H' s' ∧ D.nx σ' H'
  | .brk => ∃ σ' H', Inv X pins σ' H' s' ∧ D.bk σ' H'
  | .cont => ∃ σ' H', Inv X pins σ' H' s' ∧ D.ct σ' H'
  | .ret u => ∃ v σ' H', Inv X pins σ' H' s' ∧ RelV v u ∧ D.rt v H'
def PE (X : Cx) (e : Expr) (t : TE) : Prop :=
  ∀ (pins : List (Addr × Obj)) (s : Shared) (σ : St) (H : Hp) (Q : VK), Inv X pins σ H s → t σ H Q → wpAny (model X.prog X.w) X.A (eval e X.env) (EP X pins σ Q) X.xe s
def PT (X : Cx) (e : Expr) (t : TT) : Prop :=
  ∀ (pins : List (Addr × Obj)) (s : Shared) (σ : St) (H : Hp) (Q : Bool → Hp → Prop), Inv X pins σ H s → t σ H Q → wpAny (model X.prog X.w) X.A (isTrue e X.env (eval e X.env)) (TP X pins σ Q) X.xe s
/-- a test whatever its 'whole' is (and, or) -/
def PW (X : Cx) (e : Expr) (t : TT) : Prop :=
  ∀ (whole : Sem Value) (pins : List (Addr × Obj)) (s : Shared) (σ : St) (H : Hp) (Q : Bool → Hp → Prop), Inv X pins σ H s → t σ H Q → wpAny (model X.prog X.w) X.A (isTrue e X.env whole) (TP X pins σ Q) X.xe s
theorem PW.pt {X : Cx} {e : Expr} {t : TT} (h : PW X e t) : PT X e t := h _
/-- an argument list (no star), from the left -/
def PA (X : Cx) (es : List Expr) (t : TA) : Prop :=
  ∀ (pos : Pos) (pins : List (Addr × Obj)) (s : Shared) (σ : St) (H : Hp) (Q : List V → Hp → Prop), Inv X pins σ H s → t σ H Q → wpAny (model X.prog X.w) X.A (spliced (backTo pos (starEach es X.env))) (AP X pins σ Q) X.xe s
def PS (X : Cx) (st : Stmt) (t : TS) : Prop :=
  ∀ (pins : List (Addr × Obj)) (s : Shared) (σ : St) (H : Hp) (D : Ends), Inv X pins σ H s → t D σ H → wpAny (model X.prog X.w) X.A (exec st X.env) (SP X pins D) X.xe s
def PSs (X : Cx) (st : List Stmt) (t : TS) : Prop :=
  ∀ (pins : List (Addr × Obj)) (s : Shared) (σ : St) (H : Hp) (D : Ends), Inv X pins σ H s → t D σ H → wpAny (model X.prog X.w) X.A (execs st X.env) (SP X pins D) X.xe s
/-- weaken the end -/
theorem thn {α : Type} {t : Sem α} {Q Q' : α → Shared → Prop} {M : Model} {A : Around} {E : Value → Shared → Prop} {s : Shared} (h : wpAny M A t Q E s) (hQ : ∀ a s, Q a s → Q' a s) : wpAny M A t Q' E s := wpAny_mono h hQ fun _ _ x => x
end L2
namespace L2
open PySem PySem.Spec PyProof.Rows
section
variable {X : Cx}
def tVar (i : Nat) : TE := fun σ H Q => ∃ v, σ[i]? = some (some v) ∧ Q v H
def tC (v : V) : TE := fun _ H Q => Q v H
theorem pe_var {i : Nat} {x : Str} {pos : Pos} (hN : X.N[i]? = some x) (hv : Vis X.env.scope x) (hd : (x == ("__debug__" : Str)) = false := by decide) (hcd : (x == ("__classdict__" : Str)) = false := by decide) : PE X (.Name x pos) (tVar i) := by
  intro pins s σ H Q I h
  obtain ⟨v, e, h⟩ := h
  obtain ⟨m, hn, hl⟩ := I.loc
  obtain ⟨u, r, l⟩ := hl i x v hN e hv
  have fin : EP X pins σ Q u s := ⟨v, H, I, r, h⟩
  rcases l with ⟨hk, hm⟩ | ⟨hk, c, hc, hcell⟩
  · exact wpAny_Name (wpAny_loadName_local I.ok.kind hk hn hm fin) hd
  · rcases hk with hk | hk
    · exact wpAny_Name (wpAny_loadName_cell I.ok.kind hk hc hcell fin) hd
    · exact wpAny_Name (wpAny_loadName_free I.ok.kind hk hc hcell fin hcd) hd
theorem pe_int {i j pos} : PE X (.Constant (.int i) j pos) (tC (.int i)) := fun _ _ _ H _ I h => wpAny_Constant_int ⟨.int i, H, I.tok _, ⟨_, rfl⟩, h⟩
theorem pe_bl {b j pos} : PE X (.Constant (.bool b) j pos) (tC (.bl b)) := fun _ _ _ H _ I h => Constant_bool ⟨.bl b, H, I, rfl, h⟩
/-- a global name of the def -/
def Gl (X : Cx) (x : Str) : Prop := X.env.kindOf x = some .globalImplicit
theorem ld_glob {E : Value → Shared → Prop} {pins : List (Addr × Obj)} {s : Shared} {σ : St} {H : Hp} {x : Str} {u : Value} {pos : Pos} {Q : Value → Shared → Prop} (I : Inv X pins σ H s) (hg : Gl X x) (hm : X.mg x = some u) (h : Q u s)
    (hd : (x == ("__debug__" : Str)) = false := by decide) : wpAny (model X.prog X.w) X.A (eval (.Name x pos) X.env) Q E s :=
  Calls.Name_function_global I.ok.kind hg (Calls.loadGlobal_global (by rw [I.ok.glob]; exact I.mod.glob.keeps I.bk) hm h) hd
theorem ld_blt {E : Value → Shared → Prop} {pins : List (Addr × Obj)} {s : Shared} {σ : St} {H : Hp} {x : Str} {u : Value} {pos : Pos} {Q : Value → Shared → Prop} (I : Inv X pins σ H s) (hg : Gl X x) (hm : X.mg x = none) (hv : bootBuiltins x = some u) (h : Q u s)
    (hn : x ≠ "__name__" := by decide) (hd : (x == ("__debug__" : Str)) = false := by decide) : wpAny (model X.prog X.w) X.A (eval (.Name x pos) X.env) Q E s := by
  obtain ⟨mb, h1, h2⟩ := I.mod.blt
  exact Calls.Name_function_global I.ok.kind hg (Calls.loadGlobal_builtin (by rw [I.ok.glob]; exact I.mod.glob.keeps I.bk) hm (by rw [I.ok.blt]; exact h1.keeps I.bk) ((h2 x hn).trans hv) h) hd
theorem pe_bltn {x : Str} {v : V} {u : Value} {pos : Pos} (hg : Gl X x) (hm : X.mg x = none) (hv : bootBuiltins x = some u) (r : RelV v u) (hn : x ≠ "__name__" := by decide) (hd : (x == ("__debug__" : Str)) = false := by decide) : PE X (.Name x pos) (tC v) :=
  fun _ _ _ H _ I h => ld_blt I hg hm hv ⟨v, H, I, r, h⟩ hn hd
variable {a b : Expr} {ta tb : TE} {pos : Pos}
/-- a comparison as a value, as a test -/
def tB (t : TE) : TT := fun σ H Q => t σ H fun x H1 => ∃ c, x = .bl c ∧ Q c H1
/-- an expression whose value is a bool, as a test -/
theorem pt_val {e : Expr} {t : TE} (h : PE X e t) (he : ∀ whole, isTrue e X.env whole = (do let v ← whole; standAt e.pos; holding [v] (truthy v)) := by intro _; rfl) : PT X e (tB t) := by
  intro pins s σ H Q I hw
  refine isTrue_plain (thn (h pins s σ H _ I hw) fun v s1 ⟨x, H1, I1, r1, q1⟩ => ?_) (he _)
  obtain ⟨d, rfl, q⟩ := q1
  cases r1
  exact wpAny_truthy_bool ⟨H1, I1, q⟩
variable {tA tB' : TT} {rest : List Expr}
def tAnd (t u : TT) : TT := fun σ H Q => t σ H fun c H1 => if c = true then u σ H1 Q else Q false H1
def tOr (t u : TT) : TT := fun σ H Q => t σ H fun c H1 => if c = true then Q true H1 else u σ H1 Q
def tNot (t : TT) : TT := fun σ H Q => t σ H fun c H1 => Q (!c) H1
theorem pw_or1 (ha : PT X a tA) : PW X (.BoolOp .Or [a] pos) tA := by
  intro wh pins s σ H Q I h
  refine isTrue_or (thn (ha pins s σ H Q I h) fun c s1 e => ?_)
  cases c with
  | false => exact isTrue_or_nil e
  | true => exact e
theorem pw_or (ha : PT X a tA) (hb : PW X (.BoolOp .Or (b :: rest) pos) tB') : PW X (.BoolOp .Or (a :: b :: rest) pos) (tOr tA tB') := by
  intro wh pins s σ H Q I h
  refine isTrue_or (thn (ha pins s σ H _ I h) fun c s1 ⟨H1, I1, q1⟩ => ?_)
  cases c with
  | true => exact ⟨H1, I1, q1⟩
  | false => exact hb wh pins s1 σ H1 Q I1 q1
theorem pt_not (ha : PT X a tA) : PT X (.UnaryOp .Not a pos) (tNot tA) := by
  intro pins s σ H Q I h
  exact isTrue_not (ha pins s σ H (fun c H1 => Q (!c) H1) I h)
/-- .. as values (bools) -/
def tAndV (ta tb : TE) : TE := fun σ H Q => ta σ H fun x H1 => ∃ c, x = .bl c ∧ if c = true then tb σ H1 Q else Q (.bl false) H1
def tOrV (ta tb : TE) : TE := fun σ H Q => ta σ H fun x H1 => ∃ c, x = .bl c ∧ if c = true then Q (.bl true) H1 else tb σ H1 Q
def tNotV (ta : TE) : TE := fun σ H Q => ta σ H fun x H1 => ∃ c, x = .bl c ∧ Q (.bl (!c)) H1
theorem pe_one {op} {t : TE} (h : PE X a t) : PE X (.BoolOp op [a] pos) t := fun pins s σ H Q I hw => BoolOp_one (h pins s σ H Q I hw)
theorem pe_and (ha : PE X a ta) (hb : PE X (.BoolOp .And (b :: rest) pos) tb) : PE X (.BoolOp .And (a :: b :: rest) pos) (tAndV ta tb) := by
  intro pins s σ H Q I h
  refine BoolOp_and (thn (ha pins s σ H _ I h) fun v s1 ⟨x, H1, I1, r1, q1⟩ => ?_)
  obtain ⟨c, rfl, q1⟩ := q1
  cases r1
  refine wpAny_truthy_bool ?_
  cases c with
  | true => exact hb pins s1 σ H1 Q I1 q1
  | false => exact ⟨.bl false, H1, I1, rfl, q1⟩
theorem pe_not (ha : PE X a ta) : PE X (.UnaryOp .Not a pos) (tNotV ta) := by
  intro pins s σ H Q I h
  refine UnaryOp_ (thn (ha pins s σ H _ I h) fun v s1 ⟨x, H1, I1, r1, q1⟩ => ?_)
  obtain ⟨c, rfl, q1⟩ := q1
  cases r1
  exact not_of (wpAny_truthy_bool ⟨.bl (!c), H1, I1, rfl, q1⟩)
/-- a if t else b -/
def tIf (t : TT) (ta tb : TE) : TE := fun σ H Q => t σ H fun c H1 => if c = true then ta σ H1 Q else tb σ H1 Q
end
end L2
namespace L2
open PySem PySem.Spec PyProof.Rows
def SqL (K : PySem.W.Frag) (H : Hp) (a : Addr) (xs : List V) : Prop :=
  Rd H a (.lst xs) ∨
    ∃ (o : Obj) (its : Array Value) (n : Nat), K.lookup a = some o ∧ o.cls = .type "list" ∧ o.dict = none ∧ o.data = .seq its n ∧ its.size ≤ sizeLine ∧ Vals xs its.toList
def SqT (K : PySem.W.Frag) (H : Hp) (a : Addr) (xs : List V) : Prop :=
  Rd H a (.tup xs) ∨
    ∃ (o : Obj) (its : Array Value) (n : Nat), K.lookup a = some o ∧ o.cls = .type "tuple" ∧ o.data = .seq its n ∧ its.size ≤ sizeLine ∧ Vals xs its.toList
def absV : Value → Option V
  | .none => some .non
  | .bool b => some (.bl b)
  | .int i _ => some (.int i)
  | .str x _ => some (.str x)
  | .bytes b _ => some (.byt b)
  | .float b _ => some (.flt b)
  | .ref a => some (.ref a)
  | .type n => some (.ty n)
  | _ => none
theorem RelV.abs {x : V} {u : Value} (r : RelV x u) : absV u = some x := by
  cases x with
  | non => cases r; rfl
  | bl _ => cases r; rfl
  | int _ => obtain ⟨t, rfl⟩ := r; rfl
  | str _ => obtain ⟨t, rfl⟩ := r; rfl
  | byt _ => obtain ⟨t, rfl⟩ := r; rfl
  | flt _ => obtain ⟨t, rfl⟩ := r; rfl
  | ref _ => cases r; rfl
  | ty _ => cases r; rfl
theorem RelV.inj {x y : V} {u : Value} (r : RelV x u) (q : RelV y u) : x = y := Option.some.inj (r.abs.symm.trans q.abs)
theorem Vals.inj : ∀ {xs ys : List V} {us : List Value}, Vals xs us → Vals ys us → xs = ys
  | _, _, _, .nil, .nil => rfl
  | _, _, _, .cons r t, .cons r' t' => by rw [r.inj r', Vals.inj t t']
section
variable {X : Cx} {pins : List (Addr × Obj)} {σ : St} {H : Hp} {s : Shared} {a : Addr} {xs ys : List V}
theorem SqL.of {K : PySem.W.Frag} (h : H a = some (.lst xs)) : SqL K H a xs := .inl (.inl h)
theorem SqT.of {K : PySem.W.Frag} (h : H a = some (.tup xs)) : SqT K H a xs := .inl (.inl h)
theorem Inv.list (I : Inv X pins σ H s) (h : SqL X.K H a xs) : ∃ its : List Value, Vals xs its ∧ PlainL s.heap a its.toArray ∧ xs.length ≤ sizeLine := by
  rcases h with h | ⟨o, its, n, hk, hc, hd, hs, hz, r⟩
  · obtain ⟨z, its, n, r, e⟩ := h.ok I.hok
    exact ⟨its, r, ⟨_, n, e, rfl, rfl, rfl⟩, z⟩
  · refine ⟨its.toList, r, ⟨o, n, I.kIn a o hk, hc, hd, by simpa using hs⟩, ?_⟩
    have e := r.length
    simp only [Array.length_toList] at e
    omega
theorem Inv.tuple (I : Inv X pins σ H s) (h : SqT X.K H a xs) : ∃ its : List Value, Vals xs its ∧ IsTup s.heap a its.toArray ∧ xs.length ≤ sizeLine := by
  rcases h with h | ⟨o, its, n, hk, hc, hs, hz, r⟩
  · obtain ⟨z, its, r, p⟩ := h.ok I.hok
    exact ⟨its, r, p, z⟩
  · refine ⟨its.toList, r, ⟨o, I.kIn a o hk, hc, n, by simpa using hs⟩, ?_⟩
    have e := r.length
    simp only [Array.length_toList] at e
    omega
theorem Inv.list_inj (I : Inv X pins σ H s) (h : SqL X.K H a xs) (h' : SqL X.K H a ys) : xs = ys := by
  obtain ⟨its, r, ⟨o, n, e, _, _, d⟩, _⟩ := I.list h
  obtain ⟨its', r', ⟨o', n', e', _, _, d'⟩, _⟩ := I.list h'
  rw [e] at e'; cases e'
  rw [d] at d'
  injection d' with d1 _
  have : its = its' := by simpa using congrArg Array.toList d1
  subst this
  exact r.inj r'
theorem Inv.tuple_inj (I : Inv X pins σ H s) (h : SqT X.K H a xs) (h' : SqT X.K H a ys) : xs = ys := by
  obtain ⟨its, r, ⟨o, e, _, n, d⟩, _⟩ := I.tuple h
  obtain ⟨its', r', ⟨o', e', _, n', d'⟩, _⟩ := I.tuple h'
  rw [e] at e'; cases e'
  rw [d] at d'
  injection d' with d1 _
  have : its = its' := by simpa using congrArg Array.toList d1
  subst this
  exact r.inj r'
end
abbrev Cx.wish (X : Cx) (E : Value → Shared → Prop) : Cx := { X with xe := E }
/-- no exception leaves -/
abbrev Cx.nox (X : Cx) : Cx := X.wish fun _ _ => False
theorem Cx.Ok.wish {X : Cx} (ok : X.Ok) (E : Value → Shared → Prop) : (X.wish E).Ok :=
  ⟨ok.mod, ok.kind, ok.glob, ok.blt, ok.above, ok.inj, ok.has, ok.cab, ok.hd, ok.frames, ok.stk, ok.exf, ok.bs, ok.bsz, ok.noex, ok.exfs, ok.funs, ok.frf⟩
theorem Cx.Ok.unwish {X : Cx} {E : Value → Shared → Prop} (ok : (X.wish E).Ok) : X.Ok :=
  ⟨ok.mod, ok.kind, ok.glob, ok.blt, ok.above, ok.inj, ok.has, ok.cab, ok.hd, ok.frames, ok.stk, ok.exf, ok.bs, ok.bsz, ok.noex, ok.exfs, ok.funs, ok.frf⟩
section
variable {X : Cx} {pins : List (Addr × Obj)} {σ : St} {H : Hp} {s : Shared} {E : Value → Shared → Prop}
theorem Inv.wish (I : Inv X pins σ H s) (E : Value → Shared → Prop) : Inv (X.wish E) pins σ H s := ⟨I.ok.wish E, I.os, I.bare, I.base, I.loc, I.cell, I.free, I.freeC, I.pin, I.hok, I.len⟩
theorem Inv.unwish (I : Inv (X.wish E) pins σ H s) : Inv X pins σ H s := ⟨I.ok.unwish, I.os, I.bare, I.base, I.loc, I.cell, I.free, I.freeC, I.pin, I.hok, I.len⟩
theorem SP.unwish {D : Ends} {f : Flow} {s' : Shared} (h : SP (X.wish E) pins D f s') : SP X pins D f s' := by
  cases f with
  | next => obtain ⟨σ', H', I, q⟩ := h; exact ⟨σ', H', I.unwish, q⟩
  | brk => obtain ⟨σ', H', I, q⟩ := h; exact ⟨σ', H', I.unwish, q⟩
  | cont => obtain ⟨σ', H', I, q⟩ := h; exact ⟨σ', H', I.unwish, q⟩
  | ret u => obtain ⟨v, σ', H', I, r, q⟩ := h; exact ⟨v, σ', H', I.unwish, r, q⟩
theorem PE.nox {e : Expr} {t : TE} (h : PE X.nox e t) : PE X e t := fun pins s σ H Q I hw =>
  wpAny_mono (h pins s σ H Q (I.wish _) hw) (fun _ _ ⟨v, H', I', r, q⟩ => ⟨v, H', I'.unwish, r, q⟩) fun _ _ z => False.elim z
theorem PT.nox {e : Expr} {t : TT} (h : PT X.nox e t) : PT X e t := fun pins s σ H Q I hw =>
  wpAny_mono (h pins s σ H Q (I.wish _) hw) (fun _ _ ⟨H', I', q⟩ => ⟨H', I'.unwish, q⟩) fun _ _ z => False.elim z
theorem PSs.nox {st : List Stmt} {t : TS} (h : PSs X.nox st t) : PSs X st t := fun pins s σ H D I hw =>
  wpAny_mono (h pins s σ H D (I.wish _) hw) (fun _ _ q => q.unwish) fun _ _ z => False.elim z
end
section
variable {X : Cx} {st : Stmt} {rest : List Stmt} {t u : TS} {e : Expr} {te : TE} {pos : Pos}
def tNext : TS := fun D σ H => D.nx σ H
def tSeq (t u : TS) : TS := fun D σ H => t { D with nx := u D } σ H
theorem pss_nil : PSs X [] tNext := fun _ _ σ H _ I h => wpAny_execs_nil ⟨σ, H, I, h⟩
theorem pss_cons (h1 : PS X st t) (h2 : PSs X rest u) : PSs X (st :: rest) (tSeq t u) := by
  intro pins s σ H D I h
  refine wpAny_execs_cons (thn (h1 pins s σ H { D with nx := u D } I h) fun f s1 q => ?_)
  cases f with
  | next =>
    obtain ⟨σ', H', I', q⟩ := q
    exact h2 pins s1 σ' H' D I' q
  | ret v => exact q
  | brk => exact q
  | cont => exact q
theorem pss_one (h1 : PS X st t) : PSs X [st] t := by
  intro pins s σ H D I h
  refine wpAny_execs_cons (thn (h1 pins s σ H D I h) fun f s1 q => ?_)
  cases f with
  | next => exact wpAny_execs_nil q
  | ret v => exact q
  | brk => exact q
  | cont => exact q
/-- an expression whose value is dropped -/
def tDrop (te : TE) : TS := fun D σ H => te σ H fun _ H1 => D.nx σ H1
def tRet (te : TE) : TS := fun D σ H => te σ H D.rt
theorem ps_ret (he : PE X e te) : PS X (.Return (some e) pos) (tRet te) := by
  intro pins s σ H D I h
  exact wpAny_Return_some (thn (he pins s σ H _ I h) fun v s1 ⟨x, H1, I1, r1, q1⟩ => ⟨x, σ, H1, I1, r1, q1⟩)
def tIfS (c : TT) (t u : TS) : TS := fun D σ H => c σ H fun b H1 => if b = true then t D σ H1 else u D σ H1
theorem ps_if {c : Expr} {a b : List Stmt} {tc : TT} (hc : PT X c tc) (ha : PSs X a t) (hb : PSs X b u) : PS X (.If c a b pos) (tIfS tc t u) := by
  intro pins s σ H D I h
  refine wpAny_If (thn (hc pins s σ H _ I h) fun d s1 ⟨H1, I1, q1⟩ => ?_)
  cases d with
  | true => exact ha pins s1 σ H1 D I1 q1
  | false => exact hb pins s1 σ H1 D I1 q1
end
abbrev TG := V → St → Hp → (St → Hp → Prop) → Prop
def PG (X : Cx) (target : Expr) (t : TG) : Prop :=
  ∀ (pins : List (Addr × Obj)) (s : Shared) (σ : St) (H : Hp) (v : V) (u : Value) (Q : St → Hp → Prop), Inv X pins σ H s → RelV v u → t v σ H Q →
    wpAny (model X.prog X.w) X.A (assign target X.env u) (fun _ s' => ∃ σ' H', Inv X pins σ' H' s' ∧ Q σ' H') X.xe s
/-- o[i] = v, by values -/
abbrev TSet := V → V → V → Hp → (Hp → Prop) → Prop
def PSet (X : Cx) (t : TSet) : Prop :=
  ∀ (pins : List (Addr × Obj)) (s : Shared) (σ : St) (H : Hp) (o i v : V) (ov iv u : Value) (Q : Hp → Prop), Inv X pins σ H s → RelV o ov → RelV i iv → RelV v u → t o i v H Q →
    wpAny (model X.prog X.w) X.A (setItem ov iv u) (fun _ s' => ∃ H', Inv X pins σ H' s' ∧ Q H') X.xe s
section
variable {X : Cx} {pos : Pos}
def gName (i : Nat) : TG := fun v σ H Q => Q (σ.set i (some v)) H
theorem pg_name {i : Nat} {x : Str} (hN : X.N.Nodup) (hi : X.N[i]? = some x) (hx : Loc X.env.scope x) (hf : X.fn x = true ∨ X.env.scope.names.lookup x = some .local := by first | exact .inl rfl | exact .inr rfl | assumption) : PG X (.Name x pos) (gName i) := by
  intro pins s σ H v u Q I r h
  exact wpAny_assign_Name (store_ok I hN hi hx r (fun s' I' => ⟨_, H, I', h⟩) hf)
/-- o[i] = .. -/
def gSub (to ti : TE) (t : TSet) : TG := fun v σ H Q => to σ H fun o H1 => ti σ H1 fun i H2 => t o i v H2 fun H3 => Q σ H3
theorem pg_sub {o i : Expr} {to ti : TE} {t : TSet} (ho : PE X o to) (hi : PE X i ti) (hs : PSet X t)
    (ha : ∀ v, assign (.Subscript o i pos) X.env v = (do
      let ov ← holding [v] (eval o X.env)
      let iv ← holding [v, ov] (eval i X.env)
      standAt pos
      holding [v, ov, iv] (setItem ov iv v)
      release [v, ov, iv] []) := by intro _; rfl) : PG X (.Subscript o i pos) (gSub to ti t) := by
  intro pins s σ H v u Q I r h
  rw [ha]
  refine wpAny_bind (wpAny_holding (thn (ho pins s σ H _ I h) fun ov s1 ⟨x, H1, I1, r1, q1⟩ => ?_))
  refine wpAny_bind (wpAny_holding (thn (hi pins s1 σ H1 _ I1 q1) fun iv s2 ⟨y, H2, I2, r2, q2⟩ => ?_))
  refine wpAny_bind (wpAny_standAt (wpAny_bind (wpAny_holding (thn (hs pins s2 σ H2 x y v ov iv u _ I2 r1 r2 r q2) fun _ s3 ⟨H3, I3, q3⟩ => ?_))))
  exact wpAny_release ⟨σ, H3, I3, q3⟩
/-- target = value -/
def tAsg (te : TE) (g : TG) : TS := fun D σ H => te σ H fun x H1 => g x σ H1 D.nx
theorem ps_asg {tg e : Expr} {te : TE} {g : TG} (he : PE X e te) (hg : PG X tg g) (hs : swapsWithSole [tg] e pos.line X.env = pure false := by rfl) (hw : swappedStores [tg] e X.env = pure none := by rfl)
    (h1 : (assignEach [tg] X.env).map (·.2) = [assign tg X.env] := by rfl) : PS X (.Assign [tg] e pos) (tAsg te g) := by
  intro pins s σ H D I h
  refine wpAny_Assign_stores (thn (he pins s σ H _ I h) fun v s1 ⟨x, H1, I1, r1, q1⟩ => ?_) hs hw
  rw [h1]
  exact thn (hg pins s1 σ H1 x v _ I1 r1 q1) fun _ s2 q => q
/-- name = value -/
theorem ps_set {i : Nat} {x : Str} {e : Expr} {te : TE} {pos' : Pos} (hN : X.N.Nodup) (hi : X.N[i]? = some x) (hx : Loc X.env.scope x) (he : PE X e te) (hs : swapsWith e (some (.Name x pos')) pos.line X.env = pure false := by rfl) (hf : X.fn x = true ∨ X.env.scope.names.lookup x = some .local := by first | exact .inl rfl | exact .inr rfl | assumption) :
    PS X (.Assign [.Name x pos'] e pos) (tAsg te (gName i)) := by
  intro pins s σ H D I h
  refine wpAny_Assign_Name (thn (he pins s σ H _ I h) fun v s1 ⟨y, H1, I1, r1, q1⟩ => ?_) hs
  exact store_ok I1 hN hi hx r1 (fun s2 I2 => ⟨_, H1, I2, q1⟩) hf
/-- a, b = x, y with plain local names: stored from the right; the pair itself is not tracked (the opening rows as in PyProof/Rows/TupAssign.lean:23) -/
def tPar (i j : Nat) (ta : TA) : TS := fun D σ H => ta σ H fun vs H1 => ∃ v w, vs = [v, w] ∧ D.nx ((σ.set i (some v)).set j (some w)) H1
theorem ps_par {i j : Nat} {x y : Str} {a b : Expr} {ta : TA} {px py pt : Pos} {kt k2 pt2} (hc : X.calm = true) (hN : X.N.Nodup) (hi : X.N[i]? = some x) (hj : X.N[j]? = some y) (hij : i ≠ j)
    (hx : X.env.scope.names.lookup x = some .local) (hy : X.env.scope.names.lookup y = some .local) (ha : PA X [a, b] ta)
    (hw : swappedStores [.Tuple [.Name x px, .Name y py] kt pt] (.Tuple [a, b] k2 pt2) X.env = pure (some [x, y]))
    (hs : swapsWithSole [.Tuple [.Name x px, .Name y py] kt pt] (.Tuple [a, b] k2 pt2) pos.line X.env = pure false := by rfl) :
    PS X (.Assign [.Tuple [.Name x px, .Name y py] kt pt] (.Tuple [a, b] k2 pt2) pos) (tPar i j ta) := by
  intro pins s σ H D I h
  rw [exec_Assign_arm]
  refine wpAny_bind (wpAny_standAt ?_)
  rw [hs]
  refine wpAny_bind (wpAny_pure ?_)
  rw [if_neg (by decide)]
  refine wpAny_bind (Tuple_ (thn (ha _ pins s σ H _ I h) fun us s1 ⟨vs, H1, I1, r1, q1⟩ => ?_))
  obtain ⟨v, w, e1, q1⟩ := q1
  subst e1
  obtain ⟨u1, u2, rfl, rv, rw'⟩ : ∃ u1 u2, us = [u1, u2] ∧ RelV v u1 ∧ RelV w u2 := by
    cases r1 with
    | cons p q =>
      cases q with
      | cons p' q' =>
        cases q'
        exact ⟨_, _, rfl, p, p'⟩
  refine wpAny_newObj_type ?_ (by show 2 ≤ sizeLine; decide)
  have I2 : Inv X pins σ H1 { s1 with heap := s1.heap.push { cls := .type "tuple", data := .seq [u1, u2].toArray } } := I1.kept (t' := s1.toks) fun b o e => Heap.get?_push_of_some _ e
  rw [hw]
  refine wpAny_bind (wpAny_pure ?_)
  show wpAny (model X.prog X.w) X.A (do rule "assign.swapped-stores"; let items ← unpackItems (.ref s1.heap.objs.size) 2 none; assignInOrder [fun v => bindName X.env y v, fun v => bindName X.env x v] items.reverse; pure Flow.next) _ _ _
  refine wpAny_bind (wpAny_rule (wpAny_bind (unpackItems_tuple (items := #[u1, u2]) (I.ok.hd hc) (IsTup.new s1.heap _) fun h' hx' => ?_)))
  have I3 := I2.kept (h' := h') (t' := s1.toks) fun b o e => hx' b o (Nat.ne_of_lt (Heap.lt_size e)) e
  show wpAny _ _ (assignInOrder [fun v => bindName X.env y v, fun v => bindName X.env x v] [u2, u1] >>= fun _ => pure Flow.next) _ _ _
  refine wpAny_bind (assignInOrder_cons (wpAny_bindName (store_ok I3 hN hj (.inl hy) rw' (fun s2 I4 => ?_) (.inr hy))))
  refine assignInOrder_cons (wpAny_bindName (store_ok I4 hN hi (.inl hx) rv (fun s3 I5 => assignInOrder_nil (wpAny_pure ?_)) (.inr hx)))
  rw [List.set_comm _ _ (Ne.symm hij)] at I5
  exact ⟨_, H1, I5, q1⟩
end
section
variable {X : Cx} {pos : Pos}
/-- the invariant W with its measure -/
def tWhile (c : TT) (tb : TS) : TS := fun D σ H => ∃ W : Nat → St → Hp → Prop, (∃ m, W m σ H) ∧ ∀ m σ H, W m σ H →
  c σ H fun b H1 => if b = true then ∃ N : St → Hp → Prop, (∀ σ' H', N σ' H' → ∃ m', m' < m ∧ W m' σ' H') ∧ tb { D with nx := N, ct := N, bk := D.nx } σ H1 else D.nx σ H1
theorem ps_while {c : Expr} {body : List Stmt} {tc : TT} {tb : TS} (hp : PassesOwn (model X.prog X.w) X.A X.env X.xe) (hc : PT X c tc) (hb : PSs X body tb) : PS X (.While c body [] pos) (tWhile tc tb) := by
  intro pins s σ H D I h
  obtain ⟨W, ⟨m0, w0⟩, turn⟩ := h
  refine wpAny_While (codeAny_whileLoop (fun n s' => ∃ σ' H', Inv X pins σ' H' s' ∧ W n σ' H') ?_ m0 ⟨σ, H, I, w0⟩)
  rintro n s1 ⟨σ1, H1, I1, w1⟩
  refine wpAny_passesOwn hp (thn (hc pins s1 σ1 H1 _ I1 (turn n σ1 H1 w1)) fun b s2 ⟨H2, I2, q2⟩ => ?_)
  cases b with
  | true =>
    obtain ⟨N, hN, q2⟩ := q2
    rw [if_pos rfl]
    refine wpAny_passesOwn hp (thn (hb pins s2 σ1 H2 _ I2 q2) fun f s3 q3 => ?_)
    cases f with
    | next =>
      obtain ⟨σ3, H3, I3, n3⟩ := q3
      obtain ⟨m', hm, w3⟩ := hN σ3 H3 n3
      exact ⟨m', hm, σ3, H3, I3, w3⟩
    | cont =>
      obtain ⟨σ3, H3, I3, n3⟩ := q3
      obtain ⟨m', hm, w3⟩ := hN σ3 H3 n3
      exact ⟨m', hm, σ3, H3, I3, w3⟩
    | brk => exact q3
    | ret v => exact q3
  | false =>
    rw [if_neg Bool.false_ne_true]
    exact wpAny_execs_nil ⟨σ1, H2, I2, q2⟩
end
/-- at turn i: it yields x (the heap may grow), or it stops -/
structure It where
  go : Nat → Hp → Prop
  yld : Nat → Hp → V → Hp → Prop
  stop : Nat → Hp → Prop
/-- the iterator's own objects may turn: they are not the frame's, not pinned, younger than the entry (or a comprehension's own) -/
def FpOk (X : Cx) (pins : List (Addr × Obj)) (H : Hp) (b : Addr) : Prop :=
  H b = none ∧ b ≠ X.env.locals ∧ b ∉ X.fs ∧ (b ∈ X.ex ∨ X.s₀.heap.objs.size ≤ b) ∧ (∀ x c, X.env.cells.lookup x = some c → c ≠ b) ∧ ∀ p ∈ X.pn ++ pins, p.1 ≠ b
theorem Inv.fpOk {X : Cx} {pins : List (Addr × Obj)} {σ : St} {H H' : Hp} {s : Shared} {b : Addr} (I : Inv X pins σ H s) (hb : s.heap.objs.size ≤ b) (hn : H' b = none) : FpOk X pins H' b := by
  refine ⟨hn, Nat.ne_of_gt (Nat.lt_of_lt_of_le I.lt hb), I.nofs hb, .inr (Nat.le_trans I.sz hb), fun x c e z => ?_, fun p hp z => ?_⟩
  · obtain ⟨v, q⟩ := I.cell x c e
    exact absurd (Nat.lt_of_lt_of_le q.lt (by rw [z]; exact hb)) (Nat.lt_irrefl _)
  · exact absurd (Nat.lt_of_lt_of_le (Heap.lt_size (I.pin p hp).1) (by rw [z]; exact hb)) (Nat.lt_irrefl _)
structure Turn (P : Program) (w : World) (K : PySem.W.Frag) (tg : Expr) (J : It) (fp : List Addr) (it : Addr) (tn : Nat → Heap → Prop) : Prop where
  mem : it ∈ fp
  obj : ∀ i h, tn i h → ∀ b ∈ fp, ∃ o, h.get? b = some o ∧ ∀ v, o.data ≠ .cell v
  keep : ∀ i h h', tn i h → (∀ b ∈ fp, ∀ o, h.get? b = some o → h'.get? b = some o) → tn i h'
  item : ∀ (X : Cx), X.prog = P → X.w = w → X.K = K → X.calm = true → ∀ (i : Nat) (pins : List (Addr × Obj)) (s : Shared) (σ : St) (H : Hp) (E : Value → Shared → Prop), Inv X pins σ H s → (∀ b ∈ fp, FpOk X pins H b) → tn i s.heap → J.go i H →
    wpAny (model P w) X.A (pyNext (.ref it)) (fun r s1 => ∃ u, r = some u ∧
      wpAny (model P w) X.A (letOwnedTupleGo tg (.ref it) u) (fun _ s2 => ∃ x H', Inv X pins σ H' s2 ∧ RelV x u ∧ J.yld i H x H' ∧ tn (i + 1) s2.heap ∧ ∀ b ∈ fp, H' b = none) E s1) E s
  done : ∀ (X : Cx), X.prog = P → X.w = w → X.K = K → X.calm = true → ∀ (i : Nat) (pins : List (Addr × Obj)) (s : Shared) (σ : St) (H : Hp) (E : Value → Shared → Prop), Inv X pins σ H s → (∀ b ∈ fp, FpOk X pins H b) → tn i s.heap → J.stop i H →
    wpAny (model P w) X.A (pyNext (.ref it)) (fun r s1 => r = none ∧ Inv X pins σ H s1) E s
  self : ∀ (A : Around) (i : Nat) (s : Shared) (Q : Value → Shared → Prop) (E : Value → Shared → Prop), tn i s.heap → Q (.ref it) s → wpAny (model P w) A (pyIter (.ref it)) Q E s
abbrev TI := St → Hp → (It → Hp → Prop) → Prop
/-- an iterator has come -/
def PIE (X : Cx) (pins : List (Addr × Obj)) (σ : St) (tg : Expr) (R : It → Hp → Prop) (itv : Value) (s2 : Shared) : Prop :=
  ∃ (it : Addr) (fp : List Addr) (tn : Nat → Heap → Prop) (J : It) (H' : Hp), itv = .ref it ∧ Inv X pins σ H' s2 ∧ Turn X.prog X.w X.K tg J fp it tn ∧ tn 0 s2.heap ∧ (∀ b ∈ fp, FpOk X pins H' b) ∧ R J H'
def PI (X : Cx) (tg iter : Expr) (wi : TI) : Prop :=
  ∀ (pins : List (Addr × Obj)) (s : Shared) (σ : St) (H : Hp) (R : It → Hp → Prop), Inv X pins σ H s → wi σ H R →
    wpAny (model X.prog X.w) X.A (eval iter X.env) (fun v s1 => wpAny (model X.prog X.w) X.A (pyIter v) (PIE X pins σ tg R) X.xe s1) X.xe s
/-- the step ahead of the store is nothing for an iterator that keeps no tuple -/
theorem go_of {M : Model} {A : Around} {E : Value → Shared → Prop} {s : Shared} {tg : Expr} {it : Addr} {u : Value} {o : Obj} {n : String} {vs : Array Value} {Q : Unit → Shared → Prop} (ho : s.heap.get? it = some o) (hc : o.cls = .type n) (hd : o.data = .fields vs)
    (hn : ["enumerate", "zip", "dict_itemiterator", "dict_reverseitemiterator", "odict_iterator", "itertools.zip_longest", "itertools.pairwise"].contains n = false) (hQ : Q () s) : wpAny M A (letOwnedTupleGo tg (.ref it) u) Q E s := by
  unfold letOwnedTupleGo
  cases tg <;> first
    | exact wpAny_pure hQ
    | (cases u <;> first
        | exact wpAny_pure hQ
        | (refine wpAny_bind (wpAny_load ho ?_)
           rw [hc, hd]
           show wpAny M A (if (["enumerate", "zip", "dict_itemiterator", "dict_reverseitemiterator", "odict_iterator", "itertools.zip_longest", "itertools.pairwise"].contains n && vs[0]? == some (rawInt _)) = true then _ else _) Q E s
           rw [if_neg (by intro h; rw [hn, Bool.false_and] at h; cases h)]
           exact wpAny_pure hQ))
/-- lo, lo + 1, .. (n of them) -/
def Itr (lo : Int) (n : Nat) : It := ⟨fun i _ => i < n, fun i H x H' => H' = H ∧ x = .int (lo + i), fun i _ => n ≤ i⟩
theorem turn_range {P : Program} {w : World} {K : PySem.W.Frag} {tg : Expr} (it : Addr) (lo : Int) (n : Nat) : Turn P w K tg (Itr lo n) [it] it (fun i h => IsRangeIter h it (lo + (i : Nat) * 1) ((n : Int) - (i : Nat)) 1) where
  mem := by simp
  obj := fun i h st b hb => by
    have e : b = it := by simpa using hb
    subst e
    exact ⟨_, st, fun v z => by
      have z' : Data.fields _ = Data.cell v := z
      cases z'⟩
  keep := fun i h h' st k => k it (by simp) _ st
  item := by
    intro X hP hw hK hc i pins s σ H E I hf st hg
    subst hP hw hK
    obtain ⟨f0, f1, f2, f3, f4, f5⟩ := hf it (by simp)
    have W := Walks.range (prog := X.prog) (w := X.w) (I.ok.hd hc) it lo 1 n
    refine W.item i s _ _ hg st fun v h' tk hv st' kk => ?_
    obtain ⟨t, rfl⟩ := hv
    have I1 : Inv X pins σ H { s with heap := h', toks := tk } := I.turned (fun b o hb e => kk b o (by simpa using hb) e) f0 f1 f3 f4 f5
    refine ⟨_, rfl, go_of (s := { s with heap := h', toks := tk }) (n := "range_iterator") st' rfl rfl (by decide) ⟨.int (lo + i), H, I1, ⟨t, ?_⟩, ⟨rfl, rfl⟩, st', fun b hb => (hf b hb).1⟩⟩
    rw [Int.mul_one]
  done := by
    intro X hP hw hK hc i pins s σ H E I hf st hg
    subst hP hw hK
    obtain ⟨f0, f1, f2, f3, f4, f5⟩ := hf it (by simp)
    exact wpAny_pyNext_range_end (I.ok.hd hc) st (by have : n ≤ i := hg; omega) fun h' eb => ⟨rfl, I.turned (t' := s.toks) (fun b o hb e => eb b o hb e) f0 f1 f3 f4 f5⟩
  self := fun _ _ _ _ _ st h => wpAny_pyIter_rangeiter st h
end L2
namespace L2
open PySem PySem.Spec PyProof.Rows
section
variable {X : Cx} {tg : Expr}
/-- a range object just made, walked -/
theorem range_it {pins : List (Addr × Obj)} {σ : St} {H : Hp} {s : Shared} {R : It → Hp → Prop} {E : Value → Shared → Prop} {lo hi : Int} {t u v : Tok} {tk : Nat} (I : Inv X pins σ H s) (h1 : -(2 ^ 62) ≤ lo) (h2 : lo < 2 ^ 62) (h3 : -(2 ^ 62) ≤ hi) (h4 : hi < 2 ^ 62)
    (q : R (Itr lo (hi - lo).toNat) H) : wpAny (model X.prog X.w) X.A (pyIter (.ref s.heap.objs.size)) (PIE X pins σ tg R) E { s with heap := s.heap.push { cls := .type "range", data := .fields #[.int lo t, .int hi u, .int 1 v] }, toks := tk } := by
  refine wpAny_pyIter_range (IsRange.new ..) (small_one h1 h2 h3 h4) ?_
  have I1 : Inv X pins σ H { s with heap := s.heap.push { cls := .type "range", data := .fields #[.int lo t, .int hi u, .int 1 v] }, toks := tk } := I.kept fun b o e => Heap.get?_push_of_some _ e
  refine ⟨(s.heap.push { cls := .type "range", data := .fields #[.int lo t, .int hi u, .int 1 v] }).objs.size, [(s.heap.push { cls := .type "range", data := .fields #[.int lo t, .int hi u, .int 1 v] }).objs.size], _, _, H, rfl,
    I1.kept (t' := tk) fun b o e => Heap.get?_push_of_some _ e, turn_range _ lo (hi - lo).toNat, ?_, fun b hb => ?_, q⟩
  · have e1 : lo + ((0 : Nat) : Int) * 1 = lo := by simp
    have e2 : (((hi - lo).toNat : Nat) : Int) - ((0 : Nat) : Int) = Builtin.Range.rangeSize lo hi 1 := by rw [rangeSize_one]; split <;> omega
    show IsRangeIter _ _ (lo + ((0 : Nat) : Int) * 1) ((((hi - lo).toNat : Nat) : Int) - ((0 : Nat) : Int)) 1
    rw [e1, e2]
    exact Heap.get?_push_size _ rfl
  · have e : b = (s.heap.push { cls := .type "range", data := .fields #[.int lo t, .int hi u, .int 1 v] }).objs.size := by simpa using hb
    subst e
    exact I1.fpOk (Nat.le_refl _) (I1.hok.fresh (Nat.le_refl _))
def iRng1 (ta : TA) : TI := fun σ H R => ta σ H fun vs H1 => ∃ j : Int, vs = [.int j] ∧ -(2 ^ 62) ≤ j ∧ j < 2 ^ 62 ∧ R (Itr 0 j.toNat) H1
theorem pi_range1 {a : Expr} {ta : TA} {p pos : Pos} (hg : Gl X "range") (hm : X.mg "range" = none) (ha : PA X [a] ta) (hs : starEach [a] X.env = [(false, eval a X.env)] := by rfl) : PI X tg (.Call (.Name "range" p) [a] [] pos) (iRng1 ta) := by
  intro pins s σ H R I h
  refine Call_ (ld_blt I hg hm boot_range (PyProof.Rows.callWith_type1 (thn (ha pos pins s σ H _ I h) fun us s1 ⟨vs, H1, I1, r1, q1⟩ => ?_) hs rfl))
  obtain ⟨j, e, q1, q2, q⟩ := q1
  subst e
  cases r1 with
  | cons r rr =>
    cases rr
    obtain ⟨t, rfl⟩ := r
    exact call_range_1 (range_it I1 (by omega) (by omega) q1 q2 (by simpa using q))
/-- W: the invariant by the turn and a measure; N: what the body is to reach -/
def tFor (wi : TI) (g : TG) (tb : TS) : TS := fun D σ H => wi σ H fun J H1 => ∃ W : Nat → Nat → St → Hp → Prop, (∃ m, W 0 m σ H1) ∧ ∀ i m σ H, W i m σ H →
  (J.stop i H ∧ D.nx σ H) ∨ (J.go i H ∧ ∃ N : St → Hp → Prop, (∀ σ' H', N σ' H' → ∃ m', m' < m ∧ W (i + 1) m' σ' H') ∧ ∀ x H', J.yld i H x H' → g x σ H' fun σ2 H2 => tb { D with nx := N, ct := N, bk := D.nx } σ2 H2)
/-- the records at fp as they stand -/
def pinsAt (fp : List Addr) (h : Heap) : List (Addr × Obj) := fp.filterMap fun b => (h.get? b).map fun o => (b, o)
theorem mem_pinsAt {fp : List Addr} {h : Heap} {b : Addr} {o : Obj} (hb : b ∈ fp) (e : h.get? b = some o) : (b, o) ∈ pinsAt fp h := List.mem_filterMap.mpr ⟨b, hb, by rw [e]; rfl⟩
theorem of_pinsAt {fp : List Addr} {h : Heap} {p : Addr × Obj} (hp : p ∈ pinsAt fp h) : p.1 ∈ fp ∧ h.get? p.1 = some p.2 := by
  obtain ⟨b, hb, e⟩ := List.mem_filterMap.mp hp
  cases q : h.get? b with
  | none => rw [q] at e; cases e
  | some o =>
    rw [q] at e
    have e' : (b, o) = p := Option.some.inj e
    subst e'
    exact ⟨hb, q⟩
theorem Inv.pinned {pins : List (Addr × Obj)} {σ : St} {H : Hp} {s : Shared} {fp : List Addr} (I : Inv X pins σ H s) (hf : ∀ b ∈ fp, FpOk X pins H b) (ho : ∀ b ∈ fp, ∃ o, s.heap.get? b = some o ∧ ∀ v, o.data ≠ .cell v) : Inv X (pins ++ pinsAt fp s.heap) σ H s :=
  I.pins_of fun p hp => (List.mem_append.mp hp).elim (fun z => I.pin p (List.mem_append_right _ z)) fun z => by
    obtain ⟨hb, e⟩ := of_pinsAt z
    obtain ⟨f0, f1, f2, _⟩ := hf p.1 hb
    obtain ⟨o, e', d⟩ := ho p.1 hb
    rw [e] at e'; cases e'
    exact ⟨e, f0, f1, f2, d⟩
theorem Inv.unpinned {pins pl : List (Addr × Obj)} {σ : St} {H : Hp} {s : Shared} (I : Inv X (pins ++ pl) σ H s) : Inv X pins σ H s := I.pins_of fun p hp => I.pin p (List.mem_append_right _ (List.mem_append_left _ hp))
theorem ps_for {iter : Expr} {body : List Stmt} {wi : TI} {g : TG} {tb : TS} {pos : Pos} (hp : PassesOwn (model X.prog X.w) X.A X.env X.xe) (hc : X.calm = true) (hi : PI X tg iter wi) (hg : PG X tg g) (hb : PSs X body tb)
    (hs : ∀ x, foldedSetIterable iter X.env x = pure x := by intro _; rfl) : PS X (.For tg iter body [] pos) (tFor wi g tb) := by
  intro pins s σ H D I h
  refine wpAny_For (thn (hi pins s σ H _ I h) fun v s1 h1 => thn h1 fun itv s2 h2 => ?_) hs
  obtain ⟨it, fp, tn, J, H2, e, I2, T, st2, f2, W, ⟨m0, w0⟩, turn⟩ := h2
  subst e
  -- what stays true of the iterator's objects through the loop
  have stat : ∀ {H' : Hp}, (∀ b ∈ fp, H' b = none) → ∀ b ∈ fp, FpOk X pins H' b := fun hn b hb => ⟨hn b hb, (f2 b hb).2⟩
  refine codeAny_forLoop_any (fun n s' => ∃ i σ' H', Inv X pins σ' H' s' ∧ tn i s'.heap ∧ (∀ b ∈ fp, H' b = none) ∧ W i n σ' H') ?_ m0 ⟨0, σ, H2, I2, st2, fun b hb => (f2 b hb).1, w0⟩
  rintro n s3 ⟨i, σ3, H3, I3, st3, fr3, w3⟩
  rcases turn i n σ3 H3 w3 with ⟨stop, qn⟩ | ⟨go, N, hN, step⟩
  · refine wpAny_passesOwn hp (thn (T.done X rfl rfl rfl hc i pins s3 σ3 H3 X.xe I3 (stat fr3) st3 stop) fun r s4 ⟨hr, I4⟩ => ?_)
    subst hr
    exact wpAny_execs_nil ⟨σ3, H3, I4, qn⟩
  · refine wpAny_passesOwn hp (thn (T.item X rfl rfl rfl hc i pins s3 σ3 H3 X.xe I3 (stat fr3) st3 go) fun r s4 ⟨u, hr, h4⟩ => ?_)
    subst hr
    refine wpAny_passesOwn hp (thn h4 fun _ s5 ⟨x, H5, I5, r5, y5, st5, fr5⟩ => ?_)
    have I5' := I5.pinned (stat fr5) (T.obj _ _ st5)
    refine wpAny_passesOwn hp (thn (hg _ s5 σ3 H5 x u _ I5' r5 (step x H5 y5)) fun _ s6 ⟨σ6, H6, I6, q6⟩ => ?_)
    refine wpAny_passesOwn hp (thn (hb _ s6 σ6 H6 _ I6 q6) fun f s7 q7 => ?_)
    have again : ∀ {σ7 : St} {H7 : Hp}, Inv X (pins ++ pinsAt fp s5.heap) σ7 H7 s7 → N σ7 H7 → ∃ m, m < n ∧ ∃ i σ' H', Inv X pins σ' H' s7 ∧ tn i s7.heap ∧ (∀ b ∈ fp, H' b = none) ∧ W i m σ' H' := fun {σ7 H7} I7 n7 => by
      obtain ⟨m', hm, w7⟩ := hN σ7 H7 n7
      refine ⟨m', hm, i + 1, σ7, H7, I7.unpinned, T.keep _ _ _ st5 fun b hb o e => (I7.pin (b, o) (List.mem_append_right _ (List.mem_append_right _ (mem_pinsAt hb e)))).1, fun b hb => ?_, w7⟩
      obtain ⟨o, e, d⟩ := T.obj _ _ st5 b hb
      exact (I7.pin (b, o) (List.mem_append_right _ (List.mem_append_right _ (mem_pinsAt hb e)))).2.1
    cases f with
    | next => obtain ⟨σ7, H7, I7, n7⟩ := q7; exact again I7 n7
    | cont => obtain ⟨σ7, H7, I7, n7⟩ := q7; exact again I7 n7
    | brk => obtain ⟨σ7, H7, I7, q7⟩ := q7; exact ⟨σ7, H7, I7.unpinned, q7⟩
    | ret v => obtain ⟨x7, σ7, H7, I7, r7, q7⟩ := q7; exact ⟨x7, σ7, H7, I7.unpinned, r7, q7⟩
end
theorem for_range {lo : Int} {n : Nat} {g : TG} {tb : TS} {D : Ends} {σ : St} {H : Hp} (Pv : Nat → St → Hp → Prop) (h0 : Pv 0 σ H)
    (hs : ∀ i σ H, i < n → Pv i σ H → g (.int (lo + i)) σ H fun σ2 H2 => tb { D with nx := Pv (i + 1), ct := Pv (i + 1), bk := D.nx } σ2 H2) (hd : ∀ σ H, Pv n σ H → D.nx σ H) :
    ∃ W : Nat → Nat → St → Hp → Prop, (∃ m, W 0 m σ H) ∧ ∀ i m σ H, W i m σ H →
      ((Itr lo n).stop i H ∧ D.nx σ H) ∨ ((Itr lo n).go i H ∧ ∃ N : St → Hp → Prop, (∀ σ' H', N σ' H' → ∃ m', m' < m ∧ W (i + 1) m' σ' H') ∧ ∀ x H', (Itr lo n).yld i H x H' → g x σ H' fun σ2 H2 => tb { D with nx := N, ct := N, bk := D.nx } σ2 H2) := by
  refine ⟨fun i m σ H => m = n - i ∧ i ≤ n ∧ Pv i σ H, ⟨n, by simp, Nat.zero_le _, h0⟩, ?_⟩
  rintro i m σ H ⟨rfl, hi, p⟩
  by_cases hlt : i < n
  · refine .inr ⟨hlt, Pv (i + 1), fun σ' H' p' => ⟨n - (i + 1), by omega, rfl, hlt, p'⟩, fun x H' y => ?_⟩
    obtain ⟨e, y⟩ := y
    subst e y
    exact hs i σ _ hlt p
  · have e : i = n := by omega
    subst e
    exact .inl ⟨Nat.le_refl _, hd σ H p⟩
/-- while, by a word and a measure of the state -/
theorem while_by {c : TT} {tb : TS} {D : Ends} {σ : St} {H : Hp} (Pv : St → Hp → Prop) (μ : St → Hp → Nat) (h0 : Pv σ H)
    (hs : ∀ σ H, Pv σ H → c σ H fun b H1 => if b = true then tb { D with nx := fun σ' H' => Pv σ' H' ∧ μ σ' H' < μ σ H, ct := fun σ' H' => Pv σ' H' ∧ μ σ' H' < μ σ H, bk := D.nx } σ H1 else D.nx σ H1)
    (mono : ∀ σ H Q Q', (∀ b H1, Q b H1 → Q' b H1) → c σ H Q → c σ H Q') : tWhile c tb D σ H := by
  refine ⟨fun m σ H => m = μ σ H ∧ Pv σ H, ⟨_, rfl, h0⟩, ?_⟩
  rintro m σ H ⟨rfl, p⟩
  refine mono σ H _ _ (fun b H1 q => ?_) (hs σ H p)
  cases b with
  | true => exact ⟨_, fun σ' H' ⟨p', l⟩ => ⟨_, l, rfl, p'⟩, q⟩
  | false => exact q
end L2
namespace L2
open PySem PySem.Spec PyProof.Rows
abbrev R2 := V → V → Hp → VK → Prop
/-- a two-place operation on values: f is binaryOp op, inplaceOp op or compareOp op -/
def OpR (X : Cx) (f : Value → Value → Sem Value) (r : R2) : Prop :=
  ∀ (pins : List (Addr × Obj)) (s : Shared) (σ : St) (H : Hp) (x y : V) (v u : Value) (Q : VK), Inv X pins σ H s → RelV x v → RelV y u → r x y H Q →
    wpAny (model X.prog X.w) X.A (f v u) (EP X pins σ Q) X.xe s
/-- a call of a value that is known (a builtin, a type) with values -/
def CallR (X : Cx) (f : Value) (r : List V → Hp → VK → Prop) : Prop :=
  ∀ (pins : List (Addr × Obj)) (s : Shared) (σ : St) (H : Hp) (xs : List V) (us : List Value) (Q : VK), Inv X pins σ H s → Vals xs us → r xs H Q →
    wpAny (model X.prog X.w) X.A (call f us) (EP X pins σ Q) X.xe s
def tOp (r : R2) (ta tb : TE) : TE := fun σ H Q => ta σ H fun x H1 => tb σ H1 fun y H2 => r x y H2 Q
def tUn (r : V → Hp → VK → Prop) (ta : TE) : TE := fun σ H Q => ta σ H fun x H1 => r x H1 Q
/-- ints in, under C, and a value out -/
def rI (C : Int → Int → Prop) (g : Int → Int → V) : R2 := fun x y H Q => ∃ i j, x = .int i ∧ y = .int j ∧ C i j ∧ Q (g i j) H
def rI0 (g : Int → Int → V) : R2 := fun x y H Q => ∃ i j, x = .int i ∧ y = .int j ∧ Q (g i j) H
def rU (g : Int → V) : V → Hp → VK → Prop := fun x H Q => ∃ i, x = .int i ∧ Q (g i) H
section
variable {X : Cx} {a b c : Expr} {ta tb tc : TE} {pos : Pos}
theorem binT (ha : PE X a ta) (hb : PE X b tb) {pins : List (Addr × Obj)} {s : Shared} {σ : St} {H : Hp} {R : V → V → Hp → Prop} (I : Inv X pins σ H s)
    (h : ta σ H fun x H1 => tb σ H1 fun y H2 => R x y H2) {Q : Value → Shared → Prop} {f : Value → Value → Sem Value}
    (hf : ∀ v u s2 x y H2, Inv X pins σ H2 s2 → RelV x v → RelV y u → R x y H2 → wpAny (model X.prog X.w) X.A (f v u) Q X.xe s2) :
    wpAny (model X.prog X.w) X.A (eval a X.env) (fun v s₁ => wpAny (model X.prog X.w) X.A (eval b X.env) (fun u s₂ => wpAny (model X.prog X.w) X.A (f v u) Q X.xe s₂) X.xe s₁) X.xe s := by
  refine thn (ha pins s σ H _ I h) fun v s1 ⟨x, H1, I1, r1, q1⟩ => ?_
  refine thn (hb pins s1 σ H1 _ I1 q1) fun u s2 ⟨y, H2, I2, r2, q2⟩ => ?_
  exact hf v u s2 x y H2 I2 r1 r2 q2
theorem pe_op {op : Operator} {r : R2} (ho : OpR X (binaryOp op) r) (ha : PE X a ta) (hb : PE X b tb) : PE X (.BinOp a op b pos) (tOp r ta tb) := by
  intro pins s σ H Q I h
  exact wpAny_BinOp (binT ha hb I h fun v u s2 x y H2 I2 rx ry q => ho pins s2 σ H2 x y v u Q I2 rx ry q)
theorem opI {f : Value → Value → Sem Value} {C : Int → Int → Prop} {g : Int → Int → Int}
    (rule : ∀ (i j : Int) (t u : Tok) (s : Shared) (Q : Value → Shared → Prop) (E : Value → Shared → Prop), C i j → Q (.int (g i j) s.toks) { s with toks := s.toks + 1 } → wpAny (model X.prog X.w) X.A (f (.int i t) (.int j u)) Q E s) :
    OpR X f (rI C fun i j => .int (g i j)) := by
  intro pins s σ H x y v u Q I rx ry h
  obtain ⟨i, j, rfl, rfl, hc, q⟩ := h
  obtain ⟨t, rfl⟩ := rx
  obtain ⟨t', rfl⟩ := ry
  exact rule i j t t' s _ _ hc ⟨.int (g i j), H, I.tok _, ⟨_, rfl⟩, q⟩
theorem opI0 {f : Value → Value → Sem Value} {g : Int → Int → Int}
    (rule : ∀ (i j : Int) (t u : Tok) (s : Shared) (Q : Value → Shared → Prop) (E : Value → Shared → Prop), Q (.int (g i j) s.toks) { s with toks := s.toks + 1 } → wpAny (model X.prog X.w) X.A (f (.int i t) (.int j u)) Q E s) :
    OpR X f (rI0 fun i j => .int (g i j)) := by
  intro pins s σ H x y v u Q I rx ry h
  obtain ⟨i, j, rfl, rfl, q⟩ := h
  obtain ⟨t, rfl⟩ := rx
  obtain ⟨t', rfl⟩ := ry
  exact rule i j t t' s _ _ ⟨.int (g i j), H, I.tok _, ⟨_, rfl⟩, q⟩
theorem opB0 {f : Value → Value → Sem Value} {g : Int → Int → Bool}
    (rule : ∀ (i j : Int) (t u : Tok) (s : Shared) (Q : Value → Shared → Prop) (E : Value → Shared → Prop), Q (.bool (g i j)) s → wpAny (model X.prog X.w) X.A (f (.int i t) (.int j u)) Q E s) :
    OpR X f (rI0 fun i j => .bl (g i j)) := by
  intro pins s σ H x y v u Q I rx ry h
  obtain ⟨i, j, rfl, rfl, q⟩ := h
  obtain ⟨t, rfl⟩ := rx
  obtain ⟨t', rfl⟩ := ry
  exact rule i j t t' s _ _ ⟨.bl (g i j), H, I, rfl, q⟩
def CDiv (i j : Int) : Prop := 0 < j ∧ j < 1073741824
def CPow (i j : Int) : Prop := 0 ≤ j ∧ j ≤ 1000000 ∧ i.natAbs < 2 ^ 64
def CMul (i j : Int) : Prop := (-(2 ^ 64) < i ∧ i < 2 ^ 64) ∨ (-(2 ^ 64) < j ∧ j < 2 ^ 64)
theorem CMul.ok {i j : Int} (h : CMul i j) : IntMulOk i j := by
  rcases h with ⟨h1, h2⟩ | ⟨h1, h2⟩
  · exact .of_left (intBits_le_64 h1 h2)
  · exact .of_right (intBits_le_64 h1 h2)
theorem op_add : OpR X (binaryOp .Add) (rI0 fun i j => .int (i + j)) := opI0 fun _ _ _ _ _ _ _ q => add_int q
theorem op_sub : OpR X (binaryOp .Sub) (rI0 fun i j => .int (i - j)) := opI0 fun _ _ _ _ _ _ _ q => sub_int q
theorem op_mul : OpR X (binaryOp .Mult) (rI CMul fun i j => .int (i * j)) := opI fun _ _ _ _ _ _ _ hc q => mul_int q hc.ok
/-- % by a positive divisor of any size -/
theorem op_mod : OpR X (binaryOp .Mod) (rI (fun _ j => 0 < j) fun i j => .int (i % j)) := opI fun i j _ _ _ _ _ hc q => by
  have h1 : (0 : Int) < j := hc
  exact mod_int' (by omega) (by rw [Int.fmod_eq_emod_of_nonneg i (by omega)]; exact q)
theorem op_pow : OpR X (binaryOp .Pow) (rI CPow fun i j => .int (i ^ j.toNat)) := opI fun _ _ _ _ _ _ _ hc q => pow_int_small hc.1 hc.2.1 hc.2.2 q
end
/-- the scalars that == tells apart as data does -/
def scal : V → V → Bool
  | .non, .non => true | .non, .int _ => true | .int _, .non => true | .non, .bl _ => true | .bl _, .non => true | .non, .str _ => true | .str _, .non => true
  | .int _, .int _ => true | .bl _, .bl _ => true | .str _, .str _ => true | .byt _, .byt _ => true
  | .int _, .str _ => true | .str _, .int _ => true | .bl _, .str _ => true | .str _, .bl _ => true
  | _, _ => false
def rEq : R2 := fun x y H Q => scal x y = true ∧ Q (.bl (decide (x = y))) H
def rNe : R2 := fun x y H Q => scal x y = true ∧ Q (.bl (!decide (x = y))) H
theorem dec_int {i j : Int} : decide (V.int i = V.int j) = (i == j) := by
  rw [Bool.eq_iff_iff]
  simp
theorem dec_bl {i j : Bool} : decide (V.bl i = V.bl j) = (i == j) := by
  rw [Bool.eq_iff_iff]
  simp
theorem dec_str {i j : Str} : decide (V.str i = V.str j) = (i == j) := by
  rw [Bool.eq_iff_iff]
  simp
theorem dec_byt {i j : Array UInt8} : decide (V.byt i = V.byt j) = (i.toList == j.toList) := by
  rw [Bool.eq_iff_iff]
  cases i
  cases j
  simp
section
variable {X : Cx} {a b c : Expr} {ta tb tc : TE} {pos : Pos}
theorem fin_bl {pins : List (Addr × Obj)} {σ : St} {H : Hp} {s : Shared} {Q : VK} {k k' : Bool} (I : Inv X pins σ H s) (q : Q (.bl k) H) (e : k = k') : EP X pins σ Q (.bool k') s := by
  subst e
  exact ⟨.bl k, H, I, rfl, q⟩
theorem op_eq : OpR X (compareOp .Eq) rEq := by
  intro pins s σ H x y v u Q I rx ry h
  obtain ⟨hs, q⟩ := h
  cases x with
  | non =>
    cases rx
    cases y with
    | non => cases ry; exact PySem.EqNone.eq_none_none (fin_bl I q (by simp))
    | bl j => cases ry; exact PySem.EqNone.eq_none_bool (fin_bl I q (by simp))
    | int j => obtain ⟨t', rfl⟩ := ry; exact PySem.EqNone.eq_none_int (fin_bl I q (by simp))
    | str j => obtain ⟨t', rfl⟩ := ry; exact PySem.EqNone.eq_none_str (fin_bl I q (by simp))
    | _ => exact absurd (show false = true from hs) Bool.false_ne_true
  | bl i =>
    cases rx
    cases y with
    | non => cases ry; exact PySem.EqNone.eq_bool_none (fin_bl I q (by simp))
    | bl j => cases ry; exact eq_bool (fin_bl I q dec_bl)
    | str j => obtain ⟨t', rfl⟩ := ry; exact PySem.EqMixed.eq_bool_str (fin_bl I q (by simp))
    | _ => exact absurd (show false = true from hs) Bool.false_ne_true
  | int i =>
    obtain ⟨t, rfl⟩ := rx
    cases y with
    | non => cases ry; exact PySem.EqNone.eq_int_none (fin_bl I q (by simp))
    | int j => obtain ⟨t', rfl⟩ := ry; exact eq_int (fin_bl I q dec_int)
    | str j => obtain ⟨t', rfl⟩ := ry; exact PySem.EqMixed.eq_int_str (fin_bl I q (by simp))
    | _ => exact absurd (show false = true from hs) Bool.false_ne_true
  | str i =>
    obtain ⟨t, rfl⟩ := rx
    cases y with
    | non => cases ry; exact PySem.EqNone.eq_str_none (fin_bl I q (by simp))
    | bl j => cases ry; exact PySem.EqMixed.eq_str_bool (fin_bl I q (by simp))
    | int j => obtain ⟨t', rfl⟩ := ry; exact PySem.EqMixed.eq_str_int (fin_bl I q (by simp))
    | str j => obtain ⟨t', rfl⟩ := ry; exact eq_str (fin_bl I q dec_str)
    | _ => exact absurd (show false = true from hs) Bool.false_ne_true
  | byt i =>
    obtain ⟨t, rfl⟩ := rx
    cases y with
    | byt j => obtain ⟨t', rfl⟩ := ry; exact PySem.W.eq_bytes (fin_bl I q dec_byt)
    | _ => exact absurd (show false = true from hs) Bool.false_ne_true
  | _ => cases y <;> exact absurd (show false = true from hs) Bool.false_ne_true
theorem op_ne : OpR X (compareOp .NotEq) rNe := by
  intro pins s σ H x y v u Q I rx ry h
  obtain ⟨hs, q⟩ := h
  cases x with
  | non =>
    cases rx
    cases y with
    | non => cases ry; exact PySem.EqNone.ne_none_none (fin_bl I q (by simp))
    | bl j => cases ry; exact PySem.EqNone.ne_none_bool (fin_bl I q (by simp))
    | int j => obtain ⟨t', rfl⟩ := ry; exact PySem.EqNone.ne_none_int (fin_bl I q (by simp))
    | str j => obtain ⟨t', rfl⟩ := ry; exact PySem.EqNone.ne_none_str (fin_bl I q (by simp))
    | _ => exact absurd (show false = true from hs) Bool.false_ne_true
  | bl i =>
    cases rx
    cases y with
    | non => cases ry; exact PySem.EqNone.ne_bool_none (fin_bl I q (by simp))
    | bl j => cases ry; exact ne_bool (fin_bl I q (congrArg not dec_bl))
    | str j => obtain ⟨t', rfl⟩ := ry; exact PySem.EqMixed.ne_bool_str (fin_bl I q (by simp))
    | _ => exact absurd (show false = true from hs) Bool.false_ne_true
  | int i =>
    obtain ⟨t, rfl⟩ := rx
    cases y with
    | non => cases ry; exact PySem.EqNone.ne_int_none (fin_bl I q (by simp))
    | int j => obtain ⟨t', rfl⟩ := ry; exact ne_int (fin_bl I q (congrArg not dec_int))
    | str j => obtain ⟨t', rfl⟩ := ry; exact PySem.EqMixed.ne_int_str (fin_bl I q (by simp))
    | _ => exact absurd (show false = true from hs) Bool.false_ne_true
  | str i =>
    obtain ⟨t, rfl⟩ := rx
    cases y with
    | non => cases ry; exact PySem.EqNone.ne_str_none (fin_bl I q (by simp))
    | bl j => cases ry; exact PySem.EqMixed.ne_str_bool (fin_bl I q (by simp))
    | int j => obtain ⟨t', rfl⟩ := ry; exact PySem.EqMixed.ne_str_int (fin_bl I q (by simp))
    | str j => obtain ⟨t', rfl⟩ := ry; exact ne_str (fin_bl I q (congrArg not dec_str))
    | _ => exact absurd (show false = true from hs) Bool.false_ne_true
  | byt i =>
    obtain ⟨t, rfl⟩ := rx
    cases y with
    | byt j => obtain ⟨t', rfl⟩ := ry; exact PySem.W.ne_bytes (fin_bl I q (congrArg not dec_byt))
    | _ => exact absurd (show false = true from hs) Bool.false_ne_true
  | _ => cases y <;> exact absurd (show false = true from hs) Bool.false_ne_true
theorem op_lt : OpR X (compareOp .Lt) (rI0 fun i j => .bl (decide (i < j))) := opB0 fun _ _ _ _ _ _ _ q => lt_int q
theorem op_gt : OpR X (compareOp .Gt) (rI0 fun i j => .bl (decide (j < i))) := opB0 fun _ _ _ _ _ _ _ q => gt_int q
theorem op_ge : OpR X (compareOp .GtE) (rI0 fun i j => .bl (decide (j ≤ i))) := opB0 fun _ _ _ _ _ _ _ q => ge_int q
/-- two rules for one operation: by cases -/
theorem OpR.or {f : Value → Value → Sem Value} {r r' : R2} (h : OpR X f r) (h' : OpR X f r') : OpR X f (fun x y H Q => r x y H Q ∨ r' x y H Q) := by
  intro pins s σ H x y v u Q I rx ry q
  rcases q with q | q
  · exact h pins s σ H x y v u Q I rx ry q
  · exact h' pins s σ H x y v u Q I rx ry q
theorem nomark (b : Expr) {op : CmpOp} (h : op ≠ .In := by decide) (h2 : op ≠ .NotIn := by decide) : behindInMarks op b = false := by
  have e1 : (op == CmpOp.In) = false := by cases op <;> first | rfl | exact absurd rfl h
  have e2 : (op == CmpOp.NotIn) = false := by cases op <;> first | rfl | exact absurd rfl h2
  cases b <;> simp [behindInMarks, e1, e2]
/-- a comparison as a value; hm: nomark b, or (for in, not in) by with_unfolding_all rfl -/
theorem pe_cmpR {op : CmpOp} {r : R2} (ho : OpR X (compareOp op) r) (ha : PE X a ta) (hb : PE X b tb) (hm : behindInMarks op b = false) : PE X (.Compare a [op] [b] pos) (tOp r ta tb) := by
  intro pins s σ H Q I h
  exact wpAny_Compare1 (binT ha hb I h fun v u s2 x y H2 I2 rx ry q => ho pins s2 σ H2 x y v u Q I2 rx ry q) hm
/-- a reading of a value as a test -/
def tTest (t : TE) : TT := fun σ H Q => t σ H fun x H' => ∃ k, x = .bl k ∧ Q k H'
theorem pt_cmpR {op : CmpOp} {r : R2} (ho : OpR X (compareOp op) r) (ha : PE X a ta) (hb : PE X b tb) (hm : behindInMarks op b = false) : PT X (.Compare a [op] [b] pos) (tTest (tOp r ta tb)) := by
  intro pins s σ H Q I h
  refine wpAny_isTrue_Compare1 (thn (ha pins s σ H _ I h) fun v s1 ⟨x, H1, I1, r1, q1⟩ => thn (hb pins s1 σ H1 _ I1 q1) fun u s2 ⟨y, H2, I2, r2, q2⟩ =>
    thn (ho pins s2 σ H2 x y v u _ I2 r1 r2 q2) fun c s3 ⟨z, H3, I3, r3, k, e, q3⟩ => ?_) hm
  subst e
  cases r3
  exact wpAny_truthy_bool ⟨H3, I3, q3⟩
/-- a op1 b op2 c -/
def tChain (r r' : R2) (ta tb tc : TE) : TE := fun σ H Q => ta σ H fun x H1 => tb σ H1 fun y H2 => r x y H2 fun z H3 => ∃ k, z = .bl k ∧
  (if k = true then tc σ H3 fun w' H4 => r' y w' H4 Q else Q (.bl false) H3)
/-- a value's truth by the abstract heap -/
def TruV (K : PySem.W.Frag) (x : V) (H : Hp) (k : Bool) : Prop :=
  match x with
  | .non => k = false
  | .bl b => k = b
  | .int i => k = (i != 0)
  | .str y => y.length ≤ sizeLine ∧ k = ((y.length : Int) != 0)
  | .byt y => y.size ≤ sizeLine ∧ k = ((y.size : Int) != 0)
  | .ref p => (∃ xs, SqL K H p xs ∧ k = !xs.isEmpty) ∨ (∃ xs, SqT K H p xs ∧ k = !xs.isEmpty) ∨ ∃ kvs, H p = some (.dK kvs) ∧ k = !kvs.isEmpty
  | _ => False
theorem line63 : (sizeLine : Nat) < 2 ^ 63 := by rw [sizeLine_eq]; decide
theorem vals1 {x : V} {us : List Value} (r : Vals [x] us) : ∃ u, us = [u] ∧ RelV x u := by
  cases r with
  | cons r1 r2 => cases r2; exact ⟨_, rfl, r1⟩
theorem vals2 {x y : V} {us : List Value} (r : Vals [x, y] us) : ∃ u w', us = [u, w'] ∧ RelV x u ∧ RelV y w' := by
  cases r with
  | cons r1 r2 =>
    cases r2 with
    | cons r3 r4 => cases r4; exact ⟨_, _, rfl, r1, r3⟩
theorem call_max2 (hc : X.calm = true) : CallR X (.builtin "max") (fun xs H Q => ∃ i j, xs = [.int i, .int j] ∧ Q (.int (if j > i then j else i)) H) := by
  intro pins s σ H xs us Q I r h
  obtain ⟨i, j, rfl, q⟩ := h
  obtain ⟨u, w', rfl, ⟨t, rfl⟩, ⟨t', rfl⟩⟩ := vals2 r
  refine max_two_ints (I.ok.hd hc) fun h' tk k => ⟨_, H, I.kept k, ?_, q⟩
  by_cases hj : j > i
  · rw [if_pos hj, if_pos hj]; exact ⟨_, rfl⟩
  · rw [if_neg hj, if_neg hj]; exact ⟨_, rfl⟩
theorem call_min2 (hc : X.calm = true) : CallR X (.builtin "min") (fun xs H Q => ∃ i j, xs = [.int i, .int j] ∧ Q (.int (if j < i then j else i)) H) := by
  intro pins s σ H xs us Q I r h
  obtain ⟨i, j, rfl, q⟩ := h
  obtain ⟨u, w', rfl, ⟨t, rfl⟩, ⟨t', rfl⟩⟩ := vals2 r
  refine min_two_ints (I.ok.hd hc) fun h' tk k => ⟨_, H, I.kept k, ?_, q⟩
  by_cases hj : j < i
  · rw [if_pos hj, if_pos hj]; exact ⟨_, rfl⟩
  · rw [if_neg hj, if_neg hj]; exact ⟨_, rfl⟩
/-- len of a str, a bytes, a list, a tuple -/
def LenV (K : PySem.W.Frag) (x : V) (H : Hp) (n : Nat) : Prop :=
  match x with
  | .str y => y.length ≤ sizeLine ∧ n = y.length
  | .byt y => y.size ≤ sizeLine ∧ n = y.size
  | .ref p => (∃ xs, SqL K H p xs ∧ n = xs.length) ∨ ∃ xs, SqT K H p xs ∧ n = xs.length
  | _ => False
theorem call_len : CallR X (.builtin "len") (fun xs H Q => ∃ x n, xs = [x] ∧ LenV X.K x H n ∧ Q (.int n) H) := by
  intro pins s σ H xs us Q I r h
  obtain ⟨x, n, rfl, e, q⟩ := h
  obtain ⟨u, rfl, rx⟩ := vals1 r
  have hl := line63
  have hs : sizeLine = 16777216 := sizeLine_eq
  cases x with
  | str y =>
    obtain ⟨t, rfl⟩ := rx
    obtain ⟨hy, e'⟩ : y.length ≤ sizeLine ∧ n = y.length := e
    subst e'
    exact len_str (by omega) ⟨.int _, H, I.tok _, ⟨_, rfl⟩, q⟩
  | byt y =>
    obtain ⟨t, rfl⟩ := rx
    obtain ⟨hy, e'⟩ : y.size ≤ sizeLine ∧ n = y.size := e
    subst e'
    exact PySem.W.len_bytes (by omega) ⟨.int _, H, I.tok _, ⟨_, rfl⟩, q⟩
  | ref p =>
    cases rx
    have e' : (∃ xs, SqL X.K H p xs ∧ n = xs.length) ∨ ∃ xs, SqT X.K H p xs ∧ n = xs.length := e
    rcases e' with ⟨xs, hx, e'⟩ | ⟨xs, hx, e'⟩
    · subst e'
      obtain ⟨its, r', pl, hz⟩ := I.list hx
      have hlen := r'.length
      exact Calls.call_len_list pl.isList (by simp only [List.size_toArray]; omega) ⟨.int xs.length, H, I.tok _, ⟨_, by simp only [List.size_toArray]; rw [hlen]⟩, q⟩
    · subst e'
      obtain ⟨its, r', pl, hz⟩ := I.tuple hx
      have hlen := r'.length
      exact len_tuple pl (by simp only [List.size_toArray]; omega) ⟨.int xs.length, H, I.tok _, ⟨_, by simp only [List.size_toArray]; rw [hlen]⟩, q⟩
  | _ => exact (show False from e).elim
end
end L2
namespace L2
open PySem PySem.Spec PyProof.Rows
structure ObjM (h : Heap) (x dx C : Addr) (mA : Str → Option Value) : Prop where
  obj : h.get? x = some (PySem.W.instObj C dx)
  ns : h.Ns1 dx mA
  ne : dx ≠ x
theorem lookIn_ns {h : Heap} {dx : Addr} {mA : Str → Option Value} (n : h.Ns1 dx mA) : ∃ od, h.get? dx = some od ∧ ∀ name, PySem.W.lookIn name od = some (mA name) := by
  obtain ⟨o, es, ep, ho, hd, hk, _, hm⟩ := n
  refine ⟨o, ho, fun name => ?_⟩
  have e := hm name
  unfold nsFind findBy at e
  rw [← Array.find?_toList] at e
  unfold PySem.W.lookIn
  rw [hd]
  dsimp only
  split
  · rename_i y q
    rw [q] at e
    exact congrArg some e
  · rename_i q
    rw [q] at e
    have a : es.toList.any (·.refKey) = false := by
      rw [List.any_eq_false]
      intro y hy
      obtain ⟨z, t, hkey⟩ := hk y (Array.mem_toList_iff.mp hy)
      simp [DictEntry.refKey, hkey]
    have a' : ¬ es.toList.any (·.refKey) = true := by rw [a]; exact Bool.false_ne_true
    rw [if_neg a']
    exact congrArg some e
theorem ObjM.look {h : Heap} {x dx C : Addr} {mA : Str → Option Value} (I : ObjM h x dx C mA) : ∃ od, PySem.W.InstAt h x (PySem.W.instObj C dx) C (some od) ∧ ∀ name, PySem.W.lookIn name od = some (mA name) :=
  let ⟨od, ho, hl⟩ := lookIn_ns I.ns
  ⟨od, ⟨I.obj, rfl, rfl, ho⟩, hl⟩
section
variable {prog : Program} {w : World} {A : Around} {E : Value → Shared → Prop} {s : Shared} {K : PySem.W.Frag} {x dx C f : Addr} {mA : Str → Option Value} {name : Str} {v : Value}
end
section
variable {P : Program} {w : World} {H H' : Hp} {h h' : Heap} {a C dx : Addr} {fs fs' : List (Str × V)}
theorem ins_get (hok : HOk P w H h) (e : H a = some (.ins C dx fs)) : ∃ mA, ObjM h a dx C mA ∧ (∀ f, RelO (fs.lookup f) (mA f)) ∧ PySem.Within mA (fs.map (·.1)) ∧ fs.length ≤ 1000 ∧ H dx = some (.own a) := by
  obtain ⟨d, z, ne, ob, mA, n, r, q⟩ := (show ObjOk P w H h a (.ins C dx fs) from hok a _ e)
  exact ⟨mA, ⟨ob, n, ne⟩, r, q, z, d⟩
end
structure Cls (K : PySem.W.Frag) (C : Addr) : Prop where
  pg : PySem.W.plainGet K C Str.empty = true
  hd : PySem.W.hasDictIn K C = true
  po : PySem.W.plainOver K C = true
  sa : PySem.W.findIn K (.ref C) "__setattr__" = some (some (.builtin "object.__setattr__"))
theorem Cls.get {K : PySem.W.Frag} {C : Addr} (c : Cls K C) (f : Str) : PySem.W.plainGet K C f = true := c.pg
/-- a method: a plain def of the class or of one above it -/
structure Meth (K : PySem.W.Frag) (C : Addr) (m : Str) (f : Addr) : Prop where
  at_ : PySem.W.findIn K (.ref C) m = some (some (.ref f))
  fn : PySem.W.isFn K (.ref f) = true
  kp : PySem.W.keepIn K (.ref f) = true
section
variable {X : Cx} {pins : List (Addr × Obj)} {σ : St} {H : Hp} {s : Shared} {a C dx : Addr} {fs : List (Str × V)} {f : Str} {v : V} {A : Around} {E : Value → Shared → Prop}
/-- a new instance, tracked, without attributes -/
theorem Inv.made (I : Inv X pins σ H s) : Inv X pins σ (upd (upd H s.heap.objs.size (.own (s.heap.objs.size + 1))) (s.heap.objs.size + 1) (.ins C s.heap.objs.size []))
    { s with heap := (s.heap.push PySem.W.emptyDict).push (PySem.W.instObj C s.heap.objs.size) } := by
  have e1 : (s.heap.push PySem.W.emptyDict).get? s.heap.objs.size = some PySem.W.emptyDict := Heap.get?_push_size s.heap rfl
  have e2 : ((s.heap.push PySem.W.emptyDict).push (PySem.W.instObj C s.heap.objs.size)).get? (s.heap.objs.size + 1) = some (PySem.W.instObj C s.heap.objs.size) := by
    have := Heap.get?_push_size (s.heap.push PySem.W.emptyDict) (o := PySem.W.instObj C s.heap.objs.size) rfl
    rwa [Heap.size_push] at this
  have e3 : (s.heap.push PySem.W.emptyDict).Ns s.heap.objs.size (fun _ => none) := ⟨PySem.W.emptyDict, #[], _, e1, rfl, (fun e he => absurd he (by simp)), fun _ => rfl⟩
  have I1 := I.laid (a := s.heap.objs.size) (o := .own (s.heap.objs.size + 1)) (h' := s.heap.push PySem.W.emptyDict) (t' := s.toks) (fun b u q => Heap.get?_push_of_some _ q) (Nat.le_refl _) ⟨_, e1⟩
  refine I1.laid (a := s.heap.objs.size + 1) (o := .ins C s.heap.objs.size []) (t' := s.toks) (fun b u q => Heap.get?_push_of_some _ q) (Nat.le_of_eq (Heap.size_push _ _)) ?_
  have ne : s.heap.objs.size ≠ s.heap.objs.size + 1 := Nat.ne_of_lt (Nat.lt_succ_self _)
  refine ⟨by rw [upd_ne ne, upd_same], Nat.zero_le _, ne, e2, fun _ => none, (Heap.Ns1.of_empty e3).at fun o q => Heap.get?_push_of_some _ q, fun _ => True.intro, fun y hy => absurd rfl hy⟩
end
section
variable {X : Cx} {o e value : Expr} {f : Str} {pos pos' tpos : Pos} {ta tv : TE}
end
section
variable {X : Cx} {pins : List (Addr × Obj)} {σ : St} {H : Hp} {s : Shared} {A : Around} {E : Value → Shared → Prop} {Q : Value → Shared → Prop} {c : Value} {b : Bool}
/-- the type of a value, as the fragment's deciders take it; for an instance its class -/
inductive TyOf (K : PySem.W.Frag) (H : Hp) : V → Value → Prop where
  | non : TyOf K H .non (.type "NoneType")
  | bl (x : Bool) : TyOf K H (.bl x) (.type "bool")
  | int (i : Int) : TyOf K H (.int i) (.type "int")
  | str (x : Str) : TyOf K H (.str x) (.type "str")
  | flt (x : UInt64) : TyOf K H (.flt x) (.type "float")
  | lst {a : Addr} {xs : List V} (e : H a = some (.lst xs)) : TyOf K H (.ref a) (.type "list")
  | frz {a : Addr} {o : Obj} {xs : List V} (e : H a = some (.frz o (.lst xs))) : TyOf K H (.ref a) (.type "list")
  | tup {a : Addr} {xs : List V} (e : H a = some (.tup xs)) : TyOf K H (.ref a) (.type "tuple")
  | dK {a : Addr} {kvs : List (Key × V)} (e : H a = some (.dK kvs)) : TyOf K H (.ref a) (.type "dict")
  | dT {a : Addr} {kvs : List (List Key × V)} (e : H a = some (.dT kvs)) : TyOf K H (.ref a) (.type "dict")
  | ins {a C dx : Addr} {fs : List (Str × V)} (e : H a = some (.ins C dx fs)) (cl : Cls K C) (ha : PySem.W.findIn K (.ref C) "__class__" = some (some (.builtin "object.__class__")))
      (hn : PySem.W.specialIn K (.builtin "object.__class__") "__get__" = some (some (.builtin "getset_descriptor.__get__"))) (htk : PySem.W.takesIn K (.builtin "object.__class__") = some true)
      (hm : PySem.W.mroIn K C (.type "object") = some true) : TyOf K H (.ref a) (.ref C)
/-- isinstance(x, c) for one class c, a built-in or an own one: kitOne's answer -/
theorem isinst_ok {x : V} {u t : Value} (I : Inv X pins σ H s) (rx : RelV x u) (ty : TyOf X.K H x t) (e : PySem.W.kitOne X.K t c = some b) (h : ∀ tk, Q (.bool b) { s with toks := tk }) :
    wpAny (model X.prog X.w) A (call (.builtin "isinstance") [u, c]) Q E s := by
  cases ty with
  | non => cases (show u = Value.none from rx); exact PySem.W.kia_one PySem.W.kitx_none I.kIn True.intro e (fun z => nomatch z) h
  | bl y => cases (show u = Value.bool y from rx); exact PySem.W.kia_one PySem.W.kitx_bool I.kIn True.intro e (fun z => nomatch z) h
  | int i => obtain ⟨t, q⟩ := (show ∃ t, u = Value.int i t from rx); cases q; exact PySem.W.kia_one PySem.W.kitx_int I.kIn True.intro e (fun z => nomatch z) h
  | str y => obtain ⟨t, q⟩ := (show ∃ t, u = Value.str y t from rx); cases q; exact PySem.W.kia_one PySem.W.kitx_str I.kIn True.intro e (fun z => nomatch z) h
  | flt y => obtain ⟨t, q⟩ := (show ∃ t, u = Value.float y t from rx); cases q; exact PySem.W.kia_one PySem.W.kitx_float I.kIn True.intro e (fun z => nomatch z) h
  | @lst a xs ea =>
    cases (show u = Value.ref a from rx)
    obtain ⟨_, _, n, _, h1⟩ := (show ObjOk X.prog X.w H s.heap a (.lst xs) from I.hok a _ ea)
    exact PySem.W.kia_one PySem.W.kitx_list I.kIn ⟨_, h1, rfl⟩ e (fun z => nomatch z) h
  | @frz a ob xs ea =>
    cases (show u = Value.ref a from rx)
    obtain ⟨_, _, _, n, _, h1⟩ := (show ObjOk X.prog X.w H s.heap a (.frz ob (.lst xs)) from I.hok a _ ea)
    exact PySem.W.kia_one PySem.W.kitx_list I.kIn ⟨_, h1, rfl⟩ e (fun z => nomatch z) h
  | @tup a xs ea =>
    cases (show u = Value.ref a from rx)
    obtain ⟨_, _, _, p⟩ := (show ObjOk X.prog X.w H s.heap a (.tup xs) from I.hok a _ ea)
    obtain ⟨o, h1, h2, _⟩ := p
    exact PySem.W.kia_one PySem.W.kitx_tuple I.kIn ⟨o, h1, h2⟩ e (fun z => nomatch z) h
  | @dK a kvs ea =>
    cases (show u = Value.ref a from rx)
    obtain ⟨_, _, vs, _, p⟩ := (show ObjOk X.prog X.w H s.heap a (.dK kvs) from I.hok a _ ea)
    obtain ⟨o, es, ep, h1, h2, _⟩ := p
    exact PySem.W.kia_one PySem.W.kitx_dict I.kIn ⟨o, h1, h2.1⟩ e (fun z => nomatch z) h
  | @dT a kvs ea =>
    cases (show u = Value.ref a from rx)
    obtain ⟨_, _, xs, _, o, es, ep, h1, h2, _⟩ := (show ObjOk X.prog X.w H s.heap a (.dT kvs) from I.hok a _ ea)
    exact PySem.W.kia_one PySem.W.kitx_dict I.kIn ⟨o, h1, h2.1⟩ e (fun z => nomatch z) h
  | @ins a C dx fs ea cl ha hn htk hm =>
    cases (show u = Value.ref a from rx)
    obtain ⟨mA, O, _⟩ := ins_get I.hok ea
    obtain ⟨od, J, _⟩ := O.look
    exact PySem.W.kia_one (PySem.W.kitx_own (cl.get _) cl.hd ha hn htk hm) I.kIn J e (fun z => nomatch z) h
end
end L2
namespace L2
open PySem PySem.Spec PyProof.Rows
structure Room (k : Nat) (A : Around) : Prop where
  hd : A.handled = none
  dp : A.depth + 3 * k + 5 < recursionLimit
  un : A.units + 16 * k + 200 < cLine
  gd : A.guards = some []
theorem Room.mono {j k : Nat} {A : Around} (r : Room k A) (h : j ≤ k) : Room j A := ⟨r.hd, by have := r.dp; omega, by have := r.un; omega, r.gd⟩
theorem Room.deeper {k : Nat} {A : Around} (r : Room (k + 1) A) (env : Env) : Room k (A.deeper env) :=
  ⟨r.hd, by have := r.dp; show A.depth + 1 + 3 * k + 5 < _; omega, by have := r.un; show A.units + 3 + 16 * k + 200 < _; omega, r.gd⟩
theorem Room.in1 {k : Nat} {A : Around} (r : Room (k + 1) A) : Room k A.in1 :=
  ⟨r.hd, by have := r.dp; show A.depth + 3 * k + 5 < _; omega, by have := r.un; show A.units + 1 + 16 * k + 200 < _; omega, r.gd⟩
theorem Room.depth {k : Nat} {A : Around} (r : Room k A) : A.depth < recursionLimit := by have := r.dp; omega
theorem Room.units {k : Nat} {A : Around} (r : Room k A) : A.units + 64 < cLine := by have := r.un; omega
def tNil : TA := fun _ H Q => Q [] H
def tCons (ta : TE) (tr : TA) : TA := fun σ H Q => ta σ H fun x H1 => tr σ H1 fun xs H2 => Q (x :: xs) H2
section
variable {X : Cx} {e : Expr} {es : List Expr} {te : TE} {t : TA} {pos : Pos}
theorem pa_nil : PA X [] tNil := fun _ _ _ _ H Q I h => Calls.spliced_nil ⟨[], H, I, .nil, h⟩
theorem pa_cons (ha : PE X e te) (hr : PA X es t) (hs : starEach (e :: es) X.env = (false, eval e X.env) :: starEach es X.env := by rfl) : PA X (e :: es) (tCons te t) := by
  intro pos pins s σ H Q I h
  rw [hs]
  show wpAny _ _ (spliced ((false, eval e X.env) :: backTo pos (starEach es X.env))) _ _ s
  refine Calls.spliced_cons (thn (ha pins s σ H _ I h) fun u s1 ⟨x, H1, I1, r1, q1⟩ => ?_)
  exact thn (hr pos pins s1 σ H1 _ I1 q1) fun us s2 ⟨xs, H2, I2, r2, q2⟩ => ⟨x :: xs, H2, I2, .cons r1 r2, q2⟩
end
/-- a def's promise: the bound arguments in the parameters' order, the heap, the wanted end, the wanted exception -/
abbrev Sp := List V → Hp → VK → XK → Prop
/-- how an exception lies behind a call (file 08 gives it): the callers' frames, abstract heap and state ahead of the call, the wish, the exception, the state -/
abbrev CXT := List Env → Hp → Shared → XK → Value → Shared → Prop
/-- the state at a call -/
structure Env0 (P : Program) (w : World) (K : PySem.W.Frag) (mg : Str → Option Value) (base : Heap) (A : Around) (outer : List Env) (s : Shared) (H : Hp) : Prop where
  frames : A.frames = some outer
  mod : Mod K mg base
  bs : ∀ b o, base.get? b = some o → s.heap.get? b = some o ∧ H b = none
  bsz : base.objs.size ≤ s.heap.objs.size
  funs : s.heap.FunFrames base outer
  frf : ∀ b ∈ frs outer, H b = none
  hok : HOk P w H s.heap
  bare : AllBare s.gens
/-- a call's end -/
def CE (outer : List Env) (P : Program) (w : World) (H : Hp) (s : Shared) (Q : VK) (u : Value) (s' : Shared) : Prop :=
  ∃ v H', s'.os = s.os ∧ AllBare s'.gens ∧ Un (frs outer) [] H H' s.heap s'.heap ∧ HOk P w H' s'.heap ∧ RelV v u ∧ Q v H'
def CR (CX : CXT) (outer : List Env) (P : Program) (w : World) (H : Hp) (s : Shared) (Q : VK) (E : XK) (r : Result) (s' : Shared) : Prop :=
  match r with
  | .ok (.ret u) => CE outer P w H s Q u s'
  | .ok _ => False
  | .error e => CX outer H s E e s'
structure FnOk (P : Program) (w : World) (K : PySem.W.Frag) (mg : Str → Option Value) (base : Heap) (CX : CXT) (k : Nat) (f : Addr) (fd : FuncData) (ps : List Str) (sp : Sp) : Prop where
  len : ∀ vs H Q E, sp vs H Q E → vs.length = ps.length
  run : ∀ (A : Around) (outer : List Env) (s : Shared) (H : Hp) (args : Args) (us : List Value) (vs : List V) (Q : VK) (E : XK), Room k A → Env0 P w K mg base A outer s H → BindsTo s fd args (ps.zip us) → Vals vs us → sp vs H Q E →
    codeAny (model P w) A (.call (.ref f) args) (CR CX outer P w H s Q E) s
theorem FnOk.mono {P : Program} {w : World} {K : PySem.W.Frag} {mg : Str → Option Value} {base : Heap} {CX : CXT} {j k : Nat} {f : Addr} {fd : FuncData} {ps : List Str} {sp : Sp} (F : FnOk P w K mg base CX j f fd ps sp) (h : j ≤ k) :
    FnOk P w K mg base CX k f fd ps sp := ⟨F.len, fun A outer s H args us vs Q E hr => F.run A outer s H args us vs Q E (hr.mono h)⟩
theorem Env0.in1 {P : Program} {w : World} {K : PySem.W.Frag} {mg : Str → Option Value} {base : Heap} {A : Around} {outer : List Env} {s : Shared} {H : Hp} (e : Env0 P w K mg base A outer s H) :
    Env0 P w K mg base A.in1 outer s H := ⟨e.frames, e.mod, e.bs, e.bsz, e.funs, e.frf, e.hok, e.bare⟩
section
variable {X : Cx} {pins : List (Addr × Obj)} {σ : St} {H : Hp} {s s' : Shared}
/-- from a body: what a callee wants -/
theorem Inv.env0 (I : Inv X pins σ H s) : Env0 X.prog X.w X.K X.mg X.base X.A X.stack s H :=
  ⟨I.ok.frames, I.ok.mod, I.bs, Nat.le_trans I.ok.bsz I.sz, I.stack, I.stkFree, I.hok, I.bare⟩
/-- behind a call -/
theorem Inv.after {Q : VK} {u : Value} (I : Inv X pins σ H s) (h : CE X.stack X.prog X.w H s Q u s') : EP X pins σ Q u s' := by
  obtain ⟨v, H', os, bare, un, hok, r, q⟩ := h
  obtain ⟨hh, g, d, t, os'⟩ := s'
  obtain rfl : os' = s.os := os
  exact ⟨v, H', I.call (h' := hh) (g' := g) (d' := d) (t' := t) (ch := []) un hok bare (fun b z => absurd z (by simp)), r, q⟩
end
/-- f(..): the written arguments, then the defaults dvs; E: what is wanted of an exception -/
def tCall (sp : Sp) (dvs : List V) (E : XK) (t : TA) : TE := fun σ H Q => t σ H fun vs H1 => sp (vs ++ dvs) H1 Q E
/-- how the parameters are bound: us the positional arguments, kw the keywords' values by name, ds the defaults that fill up -/
def Binds (K : PySem.W.Frag) (fd : FuncData) (ps : List Str) (ds : List Value) : Prop :=
  ∀ (s : Shared) (us : List Value), K.In s.heap → (us ++ ds).length = ps.length → BindsTo s fd ⟨us, []⟩ (ps.zip (us ++ ds))
/-- every parameter is given -/
theorem Binds.all {K : PySem.W.Frag} {fd : FuncData} {ps : List Str} (h : ∀ us : List Value, us.length = ps.length → bindArgs fd ⟨us, []⟩ = pure (ps.zip us)) : Binds K fd ps [] := fun s us _ hl => by
  rw [List.append_nil] at hl ⊢
  exact .of_eq (h us hl)
/-- an exception of a callee reaches what this body wants of exceptions -/
def Passes (CX : CXT) (X : Cx) (E : XK) : Prop := ∀ (pins : List (Addr × Obj)) (σ : St) (H : Hp) (s : Shared) (e : Value) (s' : Shared), Inv X pins σ H s → CX X.stack H s E e s' → X.xe e s'
section
variable {X : Cx} {CX : CXT} {k : Nat} {f C : Addr} {fd : FuncData} {ps : List Str} {sp : Sp} {dvs : List V} {ds : List Value} {E : XK} {x m : Str} {p pos apos : Pos} {e o : Expr} {es : List Expr} {ta : TE} {t : TA}
/-- the callee runs -/
theorem run_fn {pins : List (Addr × Obj)} {σ : St} {H : Hp} {s : Shared} {Q : VK} {us : List Value} {vs : List V} (F : FnOk X.prog X.w X.K X.mg X.base CX k f fd ps sp) (hr : Room k X.A) (hb : Binds X.K fd ps ds) (hd : Vals dvs ds) (hx : Passes CX X E)
    (I : Inv X pins σ H s) (r : Vals vs us) (h : sp (vs ++ dvs) H Q E) : wpAny (model X.prog X.w) X.A (call (.ref f) us) (EP X pins σ Q) X.xe s := by
  have r2 : Vals (vs ++ dvs) (us ++ ds) := r.append hd
  have hl : (us ++ ds).length = ps.length := by rw [← r2.length]; exact F.len _ _ _ _ h
  refine wpAny_call (codeAny_mono (F.run X.A X.stack s H ⟨us, []⟩ (us ++ ds) (vs ++ dvs) Q E hr I.env0 (hb s us I.kIn hl) r2 h) fun r s' hq => ?_)
  cases r with
  | error e => exact hx pins σ H s e s' I hq
  | ok fl =>
    cases fl with
    | ret u => exact I.after hq
    | next => exact False.elim hq
    | brk => exact False.elim hq
    | cont => exact False.elim hq
theorem pe_call (F : FnOk X.prog X.w X.K X.mg X.base CX k f fd ps sp) (hr : Room k X.A) (hg : Gl X x) (hm : X.mg x = some (.ref f)) (hk : PySem.W.keepIn X.K (.ref f) = true) (hb : Binds X.K fd ps ds) (hd : Vals dvs ds) (hx : Passes CX X E)
    (ha : PA X (e :: es) t) (hdb : (x == ("__debug__" : Str)) = false := by decide) (he : starEach (e :: es) X.env = (false, eval e X.env) :: starEach es X.env := by rfl) (hpl : (backTo pos (starEach es X.env)).any (·.1) = false := by rfl) :
    PE X (.Call (.Name x p) (e :: es) [] pos) (tCall sp dvs E t) := by
  intro pins s σ H Q I h
  refine wpAny_Call_Name_kw (ld_glob I hg hm ?_ hdb)
  refine PySem.W.callWith_K (h₀ := X.base) I.ok.mod.kin hk (thn (ha pos pins s σ H _ I h) fun us s1 ⟨vs, H1, I1, r, q⟩ => ⟨I1.kIn, ?_⟩) he hpl
  exact run_fn F hr hb hd hx I1 r q
end
section
variable {X : Cx} {CX : CXT} {k : Nat} {f C : Addr} {fd : FuncData} {ps ks : List Str} {sp : Sp} {E : XK} {x m : Str} {p pos apos kpos : Pos} {e o : Expr} {es : List Expr} {kws : List Keyword} {te ta : TE} {t tk : TA} {nm : Option Str}
variable {g : List Value → List Value → List Value} {gV : List V → List V → List V}
end
/-- names: the parameters first -/
structure FnScope (N P : List Str) (sc : Scope) : Prop where
  kind : sc.kind = .function
  co : sc.isCoroutine = false
  gen : sc.isGenerator = false
  nd : N.Nodup
  pre : N.take P.length = P
  par : ∀ x ∈ P, sc.names.lookup x = some .local ∨ sc.names.lookup x = some .cell
  nofree : ∀ y ∈ sc.names, y.2 ≠ .free
theorem bindL_out {kindOf : Str → Option NameKind} {x : Str} : ∀ {binds : List (Str × Value)} {m : Str → Option Value}, (∀ v, (x, v) ∉ binds) → bindL kindOf binds m x = m x
  | [], _, _ => rfl
  | (n, v) :: r, m, h => by
    unfold bindL
    rw [bindL_out fun w hw => h w (List.mem_cons_of_mem _ hw)]
    split
    · have : x ≠ n := by rintro rfl; exact h v List.mem_cons_self
      simp [this]
    · rfl
theorem bindC_out {kindOf : Str → Option NameKind} {x : Str} : ∀ {binds : List (Str × Value)} {m : Str → Option Value}, (∀ v, (x, v) ∉ binds) → bindC kindOf binds m x = m x
  | [], _, _ => rfl
  | (n, v) :: r, m, h => by
    unfold bindC
    rw [bindC_out fun w hw => h w (List.mem_cons_of_mem _ hw)]
    split
    · rfl
    · have : x ≠ n := by rintro rfl; exact h v List.mem_cons_self
      simp [this]
theorem bindL_get {kindOf : Str → Option NameKind} {x : Str} {v : Value} : ∀ {P : List Str} {vs : List Value} {i : Nat} {m : Str → Option Value}, P.Nodup → P[i]? = some x → vs[i]? = some v → kindOf x = some .local →
    bindL kindOf (P.zip vs) m x = some v
  | [], _, _, _, _, h, _, _ => by simp at h
  | _ :: _, [], _, _, _, _, h, _ => by simp at h
  | p :: P, w :: vs, 0, m, nd, h1, h2, hk => by
    simp at h1 h2; subst h1; subst h2
    show bindL kindOf ((p, w) :: P.zip vs) m p = _
    unfold bindL
    rw [bindL_out fun v hv => (List.nodup_cons.mp nd).1 (List.of_mem_zip hv).1, if_pos hk]
    simp
  | p :: P, w :: vs, i + 1, m, nd, h1, h2, hk => by
    show bindL kindOf ((p, w) :: P.zip vs) m x = _
    unfold bindL
    exact bindL_get (i := i) (List.nodup_cons.mp nd).2 (by simpa using h1) (by simpa using h2) hk
theorem bindC_get {kindOf : Str → Option NameKind} {x : Str} {v : Value} : ∀ {P : List Str} {vs : List Value} {i : Nat} {m : Str → Option Value}, P.Nodup → P[i]? = some x → vs[i]? = some v → kindOf x ≠ some .local →
    bindC kindOf (P.zip vs) m x = some v
  | [], _, _, _, _, h, _, _ => by simp at h
  | _ :: _, [], _, _, _, _, h, _ => by simp at h
  | p :: P, w :: vs, 0, m, nd, h1, h2, hk => by
    simp at h1 h2; subst h1; subst h2
    show bindC kindOf ((p, w) :: P.zip vs) m p = _
    unfold bindC
    rw [bindC_out fun v hv => (List.nodup_cons.mp nd).1 (List.of_mem_zip hv).1, if_neg hk]
    simp
  | p :: P, w :: vs, i + 1, m, nd, h1, h2, hk => by
    show bindC kindOf ((p, w) :: P.zip vs) m x = _
    unfold bindC
    exact bindC_get (i := i) (List.nodup_cons.mp nd).2 (by simpa using h1) (by simpa using h2) hk
/-- the names' values at the entry -/
def start (N : List Str) (vs : List V) : St := vs.map some ++ List.replicate (N.length - vs.length) none
/-- the context of a def's body, at its entry; an exception leaves the frame, then lies as CX says -/
def cxOf (CX : CXT) (P : Program) (w : World) (K : PySem.W.Frag) (mg : Str → Option Value) (base : Heap) (N : List Str) (qual : Str) (scope : Scope) (f : Addr) (cd : Value) (A : Around) (outer : List Env) (s : Shared) (H : Hp) (E : XK) : Cx where
  prog := P
  w := w
  K := K
  mg := mg
  base := base
  A := A.deeper (envOfC qual scope s.heap.objs.size f cd)
  N := N
  s₀ := s
  H₀ := H
  env := envOfC qual scope s.heap.objs.size f cd
  outer := outer
  stack := envOfC qual scope s.heap.objs.size f cd :: outer
  ex := []
  calm := true
  fn := fun _ => true
  pn := []
  xe := fun e s' => wpAny (model P w) (A.deeper (envOfC qual scope s.heap.objs.size f cd)) (leaving (envOfC qual scope s.heap.objs.size f cd) e) (fun _ s'' => CX outer H s E e s'') (fun e' s'' => CX outer H s E e' s'') s'
theorem cell_has {sc : Scope} {n : Nat} {x : Str} (h : sc.names.lookup x = some .cell) : ∃ c, (cellsFrom n sc.names []).lookup x = some c := by
  have q := PySem.W.cellsFrom_some sc.names n [] (.inl h)
  exact Option.isSome_iff_exists.mp q
theorem inv_start {CX : CXT} {P : Program} {w : World} {K : PySem.W.Frag} {mg : Str → Option Value} {base : Heap} {N ps : List Str} {qual : Str} {scope : Scope} {f : Addr} {cd : Value} {A : Around} {outer : List Env} {s s1 : Shared} {H : Hp} {E : XK} {us : List Value} {vs : List V}
    (S : FnScope N ps scope) (hd : A.handled = none) (e0 : Env0 P w K mg base A outer s H) (hl : vs.length = ps.length) (r : Vals vs us)
    (x : InCallC s s.heap.objs.size (bindL (envOfC qual scope s.heap.objs.size f cd).kindOf (ps.zip us) fun _ => none) (cellsFrom (s.heap.objs.size + 1) scope.names []) (bindC (envOfC qual scope s.heap.objs.size f cd).kindOf (ps.zip us) fun _ => none) s1) :
    Inv (cxOf CX P w K mg base N qual scope f cd A outer s H E) [] (start N vs) H s1 := by
  have hpl : ps.length ≤ N.length := by have := congrArg List.length S.pre; rw [List.length_take] at this; omega
  obtain ⟨h1, tk, rfl, hk⟩ := x.done
  have noA : ∀ b : Addr, b ∉ (cxOf CX P w K mg base N qual scope f cd A outer s H E).ex := fun b z => absurd (show b ∈ ([] : List Addr) from z) (by simp)
  refine ⟨⟨e0.mod, S.kind, rfl, rfl, Nat.le_refl _, fun y z c h1 h2 => ?_, fun y hy => ?_, fun y c _ h => ?_, fun _ => hd, Around.frames_deeper e0.frames, .inr ⟨rfl, rfl⟩, fun b z => absurd z (noA b), e0.bs, e0.bsz, fun b _ _ => noA b, fun b z => absurd z (noA b), e0.funs, e0.frf⟩,
    rfl, e0.bare, Un.kept hk, ⟨_, x.toInCall.ns, fun i y v h1 h2 h3 => ?_⟩, fun y c h => ⟨_, x.cell y c h⟩, e0.hok.fresh (Nat.le_refl _), fun y c h => ?_, fun p hp => absurd (show p ∈ ([] : List (Addr × Obj)) from hp) (by simp), e0.hok.kept hk, ?_⟩
  · exact name_of_addr x.apart (PySem.mem_of_lookup h1) (PySem.mem_of_lookup h2)
  · have hy : scope.names.lookup y = some .cell ∨ scope.names.lookup y = some .free := hy
    rcases hy with hy | hy
    · exact cell_has hy
    · exact absurd rfl (S.nofree _ (PySem.mem_of_lookup hy))
  · exact Nat.le_of_lt (x.above y c (PySem.mem_of_lookup h))
  · have hi : i < vs.length := by
      unfold start at h2
      by_cases hi : i < vs.length
      · exact hi
      · rw [List.getElem?_append_right (by simpa using hi)] at h2
        rw [List.getElem?_replicate] at h2
        split at h2 <;> cases h2
    have ha : vs[i]? = some v := by
      unfold start at h2
      rw [List.getElem?_append_left (by simpa using hi), List.getElem?_map] at h2
      cases e : vs[i]? with
      | none => rw [e] at h2; cases h2
      | some a => rw [e] at h2; cases h2; rfl
    obtain ⟨u, hu, rv⟩ := r.get ha
    have hp : ps[i]? = some y := by
      rw [← S.pre, List.getElem?_take_of_lt (by omega)]; exact h1
    have ndP : ps.Nodup := by rw [← S.pre]; exact S.nd.sublist (List.take_sublist _ _)
    refine ⟨u, rv, ?_⟩
    rcases S.par y (List.mem_of_getElem? hp) with k | k
    · exact .inl ⟨k, bindL_get ndP hp hu k⟩
    · obtain ⟨c, e⟩ := cell_has (n := s.heap.objs.size + 1) k
      refine .inr ⟨.inl k, c, e, ?_⟩
      have q := x.cell y c e
      rw [bindC_get ndP hp hu (by show scope.names.lookup y ≠ _; rw [k]; decide)] at q
      exact q
  · exact e0.hok.fresh (Nat.le_of_lt (x.above y c (PySem.mem_of_lookup h)))
  · unfold start
    show _ = N.length
    rw [List.length_append, List.length_map, List.length_replicate]
    omega
/-- THE RULE: a def (or a method) of the text, by its body. The body's reading t is chosen for each entry; it is run at the parameters' values -/
theorem fn_of {CX : CXT} {P : Program} {w : World} {K : PySem.W.Frag} {mg : Str → Option Value} {base : Heap} {k : Nat} {f : Addr} {name qual : Str} {params : Arguments} {body : List Stmt} {scope : Scope} {dV kV doc pm cdv ct oc : Value} {an od : Option Addr}
    {osl : Array (Option Value)} {N ps : List Str} {sp : Sp} (lk : K.lookup f = some ⟨oc, od, .func (PySem.W.fnOf name qual params body scope dV kV doc pm an cdv ct), osl⟩) (hcd : PySem.W.codeIn K cdv qual = true) (S : FnScope N ps scope)
    (len : ∀ vs H Q E, sp vs H Q E → vs.length = ps.length)
    (hbody : ∀ (A : Around) (outer : List Env) (s : Shared) (H : Hp) (vs : List V) (Q : VK) (E : XK), Room k (A.deeper (envOfC qual scope s.heap.objs.size f cdv)) → sp vs H Q E →
      ∃ t, PSs (cxOf CX P w K mg base N qual scope f cdv A outer s H E) body t ∧ t { nx := fun _ H' => Q .non H', rt := Q } (start N vs) H) :
    FnOk P w K mg base CX (k + 1) f (PySem.W.fnOf name qual params body scope dV kV doc pm an cdv ct) ps sp := by
  refine ⟨len, fun A outer s H args us vs Q E hr e0 hb r hsp => ?_⟩
  have hl := len _ _ _ _ hsp
  have KX : K.In s.heap := e0.mod.kin.keeps fun b o e => (e0.bs b o e).1
  have lim : s.heap.NoLimit := e0.mod.nolimit.keeps fun b o e => (e0.bs b o e).1
  have hkind : ∀ y ∈ ps.zip us, scope.names.lookup y.1 = some .local ∨ (scope.names.lookup y.1 = some .cell ∧ ((cellsFrom (s.heap.objs.size + 1) scope.names []).lookup y.1).isSome = true) := fun ⟨n, v⟩ hy => by
    rcases S.par n (List.of_mem_zip hy).1 with q | q
    · exact .inl q
    · exact .inr ⟨q, PySem.W.cellsFrom_some _ _ _ (.inl q)⟩
  refine codeAny_call_function hr.depth (KX _ _ lk) rfl S.co S.gen rfl (PySem.W.codeRec_of KX hcd) (hb _ _ _ _ ?_)
  refine wpAny_newFunctionEnv_cells S.kind hkind fun env he s1 x => ?_
  subst he
  refine ⟨lim.keeps x.toInCall.keep, codeAny_func ?_⟩
  obtain ⟨t, ht, hq⟩ := hbody A outer s H vs Q E (hr.deeper _) hsp
  have I : Inv (cxOf CX P w K mg base N qual scope f cdv A outer s H E) [] (start N vs) H s1 := inv_start S hr.hd e0 hl r x
  refine wpAny_mono (ht [] s1 (start N vs) H _ I hq) (fun fl s' hs => ?_) fun e s' hs => hs
  have fin : ∀ {σ' : St} {H' : Hp} {v : V} {u : Value}, Inv (cxOf CX P w K mg base N qual scope f cdv A outer s H E) [] σ' H' s' → RelV v u → Q v H' → CE outer P w H s Q u s' :=
    fun {σ' H' v u} J rv q => ⟨v, H', J.os, J.bare, J.base, J.hok, rv, q⟩
  cases fl with
  | ret u =>
    obtain ⟨v, σ', H', J, rv, q⟩ := hs
    exact fin J rv q
  | next =>
    obtain ⟨σ', H', J, q⟩ := hs
    exact fin (v := V.non) (u := Value.none) J rfl q
  | brk =>
    obtain ⟨_, _, _, q⟩ := hs
    exact False.elim q
  | cont =>
    obtain ⟨_, _, _, q⟩ := hs
    exact False.elim q
end L2
namespace L2
open PySem PySem.Spec PyProof.Rows
section
variable {X : Cx} {x : Str} {p pos : Pos} {e : Expr} {es : List Expr} {t : TA} {id T : String} {r : List V → Hp → VK → Prop}
def tCB (r : List V → Hp → VK → Prop) (t : TA) : TE := fun σ H Q => t σ H fun vs H1 => r vs H1 Q
/-- f(e, ..), f a built-in function -/
theorem pe_callB (hc : CallR X (.builtin id) r) (hg : Gl X x) (hm : X.mg x = none) (hv : bootBuiltins x = some (.builtin id)) (ha : PA X (e :: es) t) (hn : x ≠ "__name__" := by decide) (hdb : (x == ("__debug__" : Str)) = false := by decide)
    (he : starEach (e :: es) X.env = (false, eval e X.env) :: starEach es X.env := by rfl) (hpl : (backTo pos (starEach es X.env)).any (·.1) = false := by rfl) : PE X (.Call (.Name x p) (e :: es) [] pos) (tCB r t) := by
  intro pins s σ H Q I h
  refine wpAny_Call_Name_kw (ld_blt I hg hm hv ?_ hn hdb)
  exact PyProof.Rows.callWith_builtin1 (thn (ha pos pins s σ H _ I h) fun us s1 ⟨vs, H1, I1, r1, q1⟩ => hc pins s1 σ H1 vs us Q I1 r1 q1) he hpl
end
end L2
namespace HT
open PySem PyProof.Rows
section
open PySem.SeqAt
open PySem.AutoSeq1 (wpAny_loadPart')
open PySem.MeetsSeq PySem.MeetsSeq2 PySem.MeetsSeq3
end
section
variable {prog : Program} {w : World} {A : Around} {E : Value → Shared → Prop} {s : Shared}
end
end HT
namespace L2
open PySem PySem.Spec PyProof.Rows
abbrev TO := St → Hp → (Option Int → Hp → Prop) → Prop
def tNoPart : TO := fun _ H Q => Q none H
def tPart (t : TE) : TO := fun σ H Q => t σ H fun x H1 => ∃ i, x = .int i ∧ Q (some i) H1
section
variable {X : Cx} {e : Expr} {te : TE} {lo hi : Option Expr} {tl th : TO} {pos p2 : Pos}
/-- what a slice of a value is, by values: the slice object stands at sl -/
def SlR (X : Cx) (r : V → Option Int → Option Int → Hp → VK → Prop) : Prop :=
  ∀ (pins : List (Addr × Obj)) (s : Shared) (σ : St) (H : Hp) (x : V) (v vl vu : Value) (lo hi : Option Int) (sl : Addr) (Q : VK), Inv X pins σ H s → RelV x v → s.heap.IsSliceOf sl vl vu .none → IsPart vl lo → IsPart vu hi → r x lo hi H Q →
    ∃ T id, typeLookup (.type T) "__getitem__" = pure (some (.builtin id)) ∧ s.TypeIs v T ∧ wpAny (model X.prog X.w) X.A (getItem v (.ref sl)) (EP X pins σ Q) X.xe s
theorem SlR.or {r r' : V → Option Int → Option Int → Hp → VK → Prop} (h : SlR X r) (h' : SlR X r') : SlR X (fun x lo hi H Q => r x lo hi H Q ∨ r' x lo hi H Q) := by
  intro pins s σ H x v vl vu lo hi sl Q I rx hs pl pu q
  rcases q with q | q
  · exact h pins s σ H x v vl vu lo hi sl Q I rx hs pl pu q
  · exact h' pins s σ H x v vl vu lo hi sl Q I rx hs pl pu q
def tSl (r : V → Option Int → Option Int → Hp → VK → Prop) (te : TE) (tl th : TO) : TE := fun σ H Q => te σ H fun x H1 => tl σ H1 fun l H2 => th σ H2 fun u H3 => r x l u H3 Q
end
end L2
namespace L2
open PySem PySem.Spec PyProof.Rows
/-- the place that an index of any sign means -/
def ixN (n : Nat) (i : Int) : Option Nat := if 0 ≤ i then (if i < n then some i.toNat else none) else if -(n : Int) ≤ i then some (i + n).toNat else none
def atI {α : Type} (xs : List α) (i : Int) : Option α := (ixN xs.length i).bind fun j => xs[j]?
theorem ixN_seq {n : Nat} {i : Int} {j : Nat} (h : ixN n i = some j) : seqIndex? i n = some j ∧ j < n ∧ -(n : Int) ≤ i ∧ i < n := by
  unfold ixN at h
  by_cases h0 : 0 ≤ i
  · rw [if_pos h0] at h
    by_cases h1 : i < n
    · rw [if_pos h1] at h
      have e : i.toNat = j := Option.some.inj h
      exact ⟨by rw [seqIndex_of h0 h1, e], by omega, by omega, h1⟩
    · rw [if_neg h1] at h; cases h
  · rw [if_neg h0] at h
    by_cases h1 : -(n : Int) ≤ i
    · rw [if_pos h1] at h
      have e : (i + n).toNat = j := Option.some.inj h
      exact ⟨by rw [seqIndex_neg (by omega) h1, e], by omega, h1, by omega⟩
    · rw [if_neg h1] at h; cases h
theorem atI_get {α : Type} {xs : List α} {i : Int} {v : α} (h : atI xs i = some v) : ∃ j, seqIndex? i xs.length = some j ∧ xs[j]? = some v ∧ j < xs.length ∧ -(xs.length : Int) ≤ i ∧ i < xs.length := by
  unfold atI at h
  cases e : ixN xs.length i with
  | none => rw [e] at h; cases h
  | some j =>
    rw [e] at h
    obtain ⟨h1, h2, h3, h4⟩ := ixN_seq e
    exact ⟨j, h1, h, h2, h3, h4⟩
theorem atI_nat {α : Type} {xs : List α} {j : Nat} {v : α} (h : xs[j]? = some v) : atI xs (j : Int) = some v := by
  have hj : j < xs.length := (List.getElem?_eq_some_iff.mp h).1
  have e : ixN xs.length (j : Int) = some j := by
    unfold ixN
    rw [if_pos (by omega), if_pos (by omega)]; simp
  unfold atI; rw [e]; exact h
/-- what stands as an index of a plain subscript -/
def PlainIx (b : Expr) : Prop := ∀ o i, subscripted b false o i = operate [o, i] (getItem o i)
/-- a subscript by values -/
def IxR (X : Cx) (r : R2) : Prop :=
  ∀ (value slice : Expr) (pins : List (Addr × Obj)) (s : Shared) (σ : St) (H : Hp) (x y : V) (v u : Value) (Q : VK), Inv X pins σ H s → RelV x v → RelV y u → r x y H Q →
    subscripted slice false v u = operate [v, u] (getItem v u) → wpAny (model X.prog X.w) X.A (subscriptTail value slice v u) (EP X pins σ Q) X.xe s
/-- a call of a builtin's method by values: the receiver, the arguments -/
def MtR (X : Cx) (id : String) (r : V → List V → Hp → VK → Prop) : Prop :=
  ∀ (pins : List (Addr × Obj)) (s : Shared) (σ : St) (H : Hp) (x : V) (xs : List V) (v : Value) (us : List Value) (Q : VK), Inv X pins σ H s → RelV x v → Vals xs us → r x xs H Q →
    wpAny (model X.prog X.w) X.A (call (.builtin id) (v :: us)) (EP X pins σ Q) X.xe s
section
variable {X : Cx} {a b : Expr} {ta tb : TE} {pos : Pos}
theorem IxR.or {r r' : R2} (h : IxR X r) (h' : IxR X r') : IxR X (fun x y H Q => r x y H Q ∨ r' x y H Q) := by
  intro value slice pins s σ H x y v u Q I rx ry q hs
  rcases q with q | q
  · exact h value slice pins s σ H x y v u Q I rx ry q hs
  · exact h' value slice pins s σ H x y v u Q I rx ry q hs
theorem MtR.or {id : String} {r r' : V → List V → Hp → VK → Prop} (h : MtR X id r) (h' : MtR X id r') : MtR X id (fun x xs H Q => r x xs H Q ∨ r' x xs H Q) := by
  intro pins s σ H x xs v us Q I rx rs q
  rcases q with q | q
  · exact h pins s σ H x xs v us Q I rx rs q
  · exact h' pins s σ H x xs v us Q I rx rs q
/-- a[b] -/
theorem pe_ix {r : R2} (hr : IxR X r) (ha : PE X a ta) (hb : PE X b tb) (hs : PlainIx b) : PE X (.Subscript a b pos) (tOp r ta tb) := by
  intro pins s σ H Q I h
  exact Subscript_ (binT ha hb I h fun v u s2 x y H2 I2 rx ry q => hr a b pins s2 σ H2 x y v u Q I2 rx ry q (hs _ _))
def rIxL (K : PySem.W.Frag) : R2 := fun x y H Q => ∃ p xs i v, x = .ref p ∧ y = .int i ∧ SqL K H p xs ∧ atI xs i = some v ∧ Q v H
def rIxT (K : PySem.W.Frag) : R2 := fun x y H Q => ∃ p xs i v, x = .ref p ∧ y = .int i ∧ SqT K H p xs ∧ atI xs i = some v ∧ Q v H
theorem ix_list : IxR X (rIxL X.K) := by
  intro value slice pins s σ H x y v u Q I rx ry h hs
  obtain ⟨p, xs, i, z, rfl, rfl, hq, he, q⟩ := h
  cases rx
  obtain ⟨t, rfl⟩ := ry
  obtain ⟨its, r, pl, hz⟩ := I.list hq
  obtain ⟨j, h1, h2, h3, h4, h5⟩ := atI_get he
  obtain ⟨w, ew, rw'⟩ := r.get h2
  have hl := r.length
  have hn := line63
  have fin : EP X pins σ Q w s := ⟨z, H, I, rw', q⟩
  by_cases h0 : 0 ≤ i
  · have hj : i.toNat = j := by
      rw [seqIndex_of h0 h5] at h1
      exact Option.some.inj h1
    exact item_listR pl.isList h0 (by omega) (by rw [hj]; simpa using ew) fin hs
  · have hj : (i + (its.toArray.size : Int)).toNat = j := by
      rw [seqIndex_neg (by omega) h4] at h1
      rw [List.size_toArray, ← hl]
      exact Option.some.inj h1
    exact subscriptTail_builtinR (x := w) pl.isList.typeIs slot_list_getitem.lookup
      (wpAny_getItem_list_neg (Q := fun r s' => r = w ∧ EP X pins σ Q r s') pl.isList (by omega) (by rw [List.size_toArray] <;> omega) (by omega) (by rw [hj]; simpa using ew) ⟨rfl, fin⟩) hs
theorem ix_tup : IxR X (rIxT X.K) := by
  intro value slice pins s σ H x y v u Q I rx ry h hs
  obtain ⟨p, xs, i, z, rfl, rfl, hq, he, q⟩ := h
  cases rx
  obtain ⟨t, rfl⟩ := ry
  obtain ⟨its, r, pl, hz⟩ := I.tuple hq
  obtain ⟨j, h1, h2, h3, h4, h5⟩ := atI_get he
  obtain ⟨w, ew, rw'⟩ := r.get h2
  have hl := r.length
  have hn := line63
  have fin : EP X pins σ Q w s := ⟨z, H, I, rw', q⟩
  exact subscriptTail_builtinR (x := w) pl.typeIs slot_tuple_getitem.lookup
    (getItem_tuple (j := j) (Q := fun r s' => r = w ∧ EP X pins σ Q r s') pl (by omega) (by omega) (by rw [List.size_toArray, ← hl]; exact h1) (by simpa using ew) ⟨rfl, fin⟩) hs
/-- the list's object behind a store -/
theorem mapSeq_set (its : List Value) (n j : Nat) (u : Value) : Obj.mapSeq (·.setIfInBounds j u) { cls := .type "list", data := .seq its.toArray n } = { cls := .type "list", data := .seq (its.set j u).toArray n } := by
  simp [Obj.mapSeq]
theorem Inv.lst {pins : List (Addr × Obj)} {σ : St} {H : Hp} {s : Shared} {p : Addr} {xs : List V} (I : Inv X pins σ H s) (h : H p = some (.lst xs)) :
    ∃ (its : List Value) (n : Nat), Vals xs its ∧ s.heap.get? p = some { cls := .type "list", data := .seq its.toArray n } ∧ xs.length ≤ sizeLine := by
  obtain ⟨z, its, n, r, e⟩ := I.hok p _ h
  exact ⟨its, n, r, e, z⟩
/-- the list at p is written by an update of its object -/
theorem Inv.lstUpd {pins : List (Addr × Obj)} {σ : St} {H : Hp} {s : Shared} {p : Addr} {xs ys : List V} {its its' : List Value} {n n' : Nat} {f : Obj → Obj} (I : Inv X pins σ H s) (h : H p = some (.lst xs))
    (ho : s.heap.get? p = some { cls := .type "list", data := .seq its.toArray n }) (hf : f { cls := .type "list", data := .seq its.toArray n } = { cls := .type "list", data := .seq its'.toArray n' }) (r : Vals ys its') (hz : ys.length ≤ sizeLine) (t : Nat) :
    Inv X pins σ (upd H p (.lst ys)) { s with heap := s.heap.update p f, toks := t } := by
  have e : (s.heap.update p f).get? p = some { cls := .type "list", data := .seq its'.toArray n' } := by
    rw [Heap.get?_update_self f ho (by rw [hf] <;> rfl), hf]
  refine I.write (x := p) (e := p) (by rw [h]; trivial) (.inl rfl) (fun b u hb q => (Heap.get?_update_other _ _ (Ne.symm hb)).trans q) ⟨_, e⟩ ?_
  exact ⟨hz, its', n', r, e⟩
def rSetL : V → V → V → Hp → (Hp → Prop) → Prop := fun o i v H Q => ∃ p xs k j, o = .ref p ∧ i = .int k ∧ H p = some (.lst xs) ∧ ixN xs.length k = some j ∧ Q (upd H p (.lst (xs.set j v)))
theorem set_list : PSet X rSetL := by
  intro pins s σ H o i v ov iv u Q I ro ri rv h
  obtain ⟨p, xs, k, j, rfl, rfl, hp, hj, q⟩ := h
  cases ro
  obtain ⟨t, rfl⟩ := ri
  obtain ⟨its, n, r, ho, hz⟩ := I.lst hp
  obtain ⟨h1, h2, h3, h4⟩ := ixN_seq hj
  have hl := r.length
  have hn := line63
  have I' : Inv X pins σ (upd H p (.lst (xs.set j v))) { s with heap := s.heap.update p (Obj.mapSeq (·.setIfInBounds j u)) } :=
    I.lstUpd hp ho (mapSeq_set its n j u) (r.set rv j) (by rw [List.length_set]; exact hz) s.toks
  by_cases h0 : 0 ≤ k
  · have hk : k.toNat = j := by
      rw [seqIndex_of h0 h4] at h1
      exact Option.some.inj h1
    exact PySem.W.ki_setAt ho h0 (by omega) (by rw [List.size_toArray, ← hl]; exact h4) (by rw [hk]; exact ⟨_, I', q⟩)
  · have hk : (k + (its.toArray.size : Int)).toNat = j := by
      rw [seqIndex_neg (by omega) h3] at h1
      rw [List.size_toArray, ← hl]
      exact Option.some.inj h1
    exact PySem.W.ki_setBack ho (by omega) (by rw [List.size_toArray, ← hl]; exact h3) (by omega) (by rw [hk]; exact ⟨_, I', q⟩)
theorem CallR.or {f : Value} {r r' : List V → Hp → VK → Prop} (h : CallR X f r) (h' : CallR X f r') : CallR X f (fun xs H Q => r xs H Q ∨ r' xs H Q) := by
  intro pins s σ H xs us Q I rs q
  rcases q with q | q
  · exact h pins s σ H xs us Q I rs q
  · exact h' pins s σ H xs us Q I rs q
/-- the value is of that builtin type -/
def tyV (K : PySem.W.Frag) (T : String) (x : V) (H : Hp) : Prop := match x with
  | .str _ => T = "str"
  | .int _ => T = "int"
  | .ref p => (T = "list" ∧ ∃ xs, SqL K H p xs) ∨ (T = "tuple" ∧ ∃ o, K.lookup p = some o ∧ o.cls = .type "tuple" ∧ o.dict = none) ∨
      (T = "dict" ∧ ((∃ kvs, H p = some (.dK kvs)) ∨ ∃ kvs, H p = some (.dT kvs))) ∨ (T = "set" ∧ ∃ S n, H p = some (.set S n))
  | _ => False
def tBM0 (K : PySem.W.Frag) (T : String) (r : V → List V → Hp → VK → Prop) (to : TE) : TE := fun σ H Q => to σ H fun x H1 => tyV K T x H1 ∧ r x [] H1 Q
def tBM (K : PySem.W.Frag) (T : String) (r : V → List V → Hp → VK → Prop) (to : TE) (t : TA) : TE := fun σ H Q => to σ H fun x H1 => tyV K T x H1 ∧ t σ H1 fun xs H2 => r x xs H2 Q
variable {o e : Expr} {es : List Expr} {to : TE} {t : TA} {name : Str} {apos cpos : Pos} {T id : String} {r : V → List V → Hp → VK → Prop}
end
end L2
namespace L2
open PySem PySem.Spec PyProof.Rows
def MtM (X : Cx) (id : String) (r : V → List V → Hp → VK → Prop) : Prop :=
  ∀ (pins : List (Addr × Obj)) (s : Shared) (σ : St) (H : Hp) (x : V) (xs : List V) (v : Value) (us : List Value) (Q : VK), Inv X pins σ H s → RelV x v → Vals xs us → r x xs H Q →
    wpAny (model X.prog X.w) X.A (call (.builtin id) (v :: us)) (EP X pins σ Q) X.xe s
theorem Vals.one : ∀ {x : V} {us : List Value}, Vals [x] us → ∃ u, us = [u] ∧ RelV x u
  | _, _, .cons r .nil => ⟨_, rfl, r⟩
theorem Vals.two : ∀ {x y : V} {us : List Value}, Vals [x, y] us → ∃ u v, us = [u, v] ∧ RelV x u ∧ RelV y v
  | _, _, _, .cons r (.cons q .nil) => ⟨_, _, rfl, r, q⟩
theorem Vals.zero : ∀ {us : List Value}, Vals [] us → us = []
  | _, .nil => rfl
theorem Vals.reverse {xs : List V} {us : List Value} (h : Vals xs us) : Vals xs.reverse us.reverse := by
  induction h with
  | nil => exact .nil
  | cons r t ih => rw [List.reverse_cons, List.reverse_cons]; exact Vals.append ih (.cons r .nil)
section
variable {X : Cx} {pins : List (Addr × Obj)} {σ : St} {H : Hp} {s : Shared} {l b : Addr} {xs ys zs : List V}
theorem Inv.lset {its its' : List Value} {n : Nat} {f : Array Value → Array Value} {t' : Nat} (I : Inv X pins σ H s) (hH : H l = some (.lst xs))
    (e : s.heap.get? l = some { cls := .type "list", data := .seq its.toArray n }) (hf : f its.toArray = its'.toArray) (hv : Vals ys its') (hz : ys.length ≤ sizeLine) :
    Inv X pins σ (upd H l (.lst ys)) { s with heap := s.heap.update l (Obj.mapSeq f), toks := t' } := by
  have q := PySem.IsL.update e f
  rw [hf] at q
  refine I.write (x := l) (e := l) (by rw [hH]; exact trivial) (.inl rfl) (fun b' u hb hu => (Heap.get?_update_other s.heap (Obj.mapSeq f) (Ne.symm hb)).trans hu) ⟨_, q⟩ ?_
  exact ⟨hz, its', _, hv, q⟩
theorem Inv.lnew {its : List Value} {t' : Nat} (I : Inv X pins σ H s) (hv : Vals ys its) (hz : ys.length ≤ sizeLine) :
    Inv X pins σ (upd H s.heap.objs.size (.lst ys)) { s with heap := s.heap.push { cls := .type "list", data := .seq its.toArray }, toks := t' } :=
  I.laid (fun _ _ q => Heap.get?_push_of_some _ q) (Nat.le_refl _) ⟨hz, its, 0, hv, Heap.get?_push_size _ rfl⟩
theorem Inv.fresh (I : Inv X pins σ H s) : H s.heap.objs.size = none := I.hok.fresh (Nat.le_refl _)
theorem Inv.lstM (I : Inv X pins σ H s) (hH : H l = some (.lst xs)) : xs.length ≤ sizeLine ∧ ∃ (its : List Value) (n : Nat), Vals xs its ∧ xs.length = its.length ∧ s.heap.get? l = some { cls := .type "list", data := .seq its.toArray n } := by
  obtain ⟨z, its, n, r, e⟩ := I.hok l _ hH
  exact ⟨z, its, n, r, r.length, e⟩
end
section
variable {X : Cx}
def rAppend : V → List V → Hp → VK → Prop := fun x vs H Q => ∃ l xs y, x = .ref l ∧ vs = [y] ∧ H l = some (.lst xs) ∧ xs.length < sizeLine ∧ Q .non (upd H l (.lst (xs ++ [y])))
theorem mt_append : MtM X "list.append" rAppend := by
  intro pins s σ H x vs v us Q I rx rv h
  obtain ⟨l, xs, y, rfl, rfl, hH, hz, q⟩ := h
  cases rx
  obtain ⟨u, rfl, ru⟩ := rv.one
  obtain ⟨z, its, n, r, hl, e⟩ := I.lstM hH
  refine call_meets F.slot_list_append ⟨_, e, rfl⟩ F.entry_list_append (F.args_list_append_2 _ _) (PySem.list_append l its.toArray n u (by rw [List.size_toArray]; omega)) ⟨e, ?_⟩
  refine ⟨.non, _, I.lset (its' := its ++ [u]) hH e (by simp) (r.append (.cons ru .nil)) ?_, rfl, q⟩
  rw [List.length_append, List.length_singleton]
  omega
def rCat : R2 := fun x y H Q => ∃ l b xs zs, x = .ref l ∧ y = .ref b ∧ H l = some (.lst xs) ∧ H b = some (.lst zs) ∧ xs.length + zs.length ≤ sizeLine ∧ ∀ p, H p = none → Q (.ref p) (upd H p (.lst (xs ++ zs)))
theorem op_cat : OpR X (binaryOp .Add) rCat := by
  intro pins s σ H x y v u Q I rx ry h
  obtain ⟨l, b, xs, zs, rfl, rfl, hH, hB, hz, q⟩ := h
  cases rx
  cases ry
  obtain ⟨z, its, n, r, hl, e⟩ := I.lstM hH
  obtain ⟨z2, its2, n2, r2, hl2, e2⟩ := I.lstM hB
  refine PySem.P.add_list e e2 ?_ (by rw [List.size_toArray, List.size_toArray]; omega)
  have ea : its.toArray ++ its2.toArray = (its ++ its2).toArray := by simp
  rw [ea]
  exact ⟨.ref _, _, I.lnew (t' := s.toks) (r.append r2) (by rw [List.length_append]; omega), rfl, q _ I.fresh⟩
end
section
variable {prog : Program} {w : World} {A : Around} {E : Value → Shared → Prop} {s : Shared}
end
section
variable {X : Cx}
end
end L2
namespace Att
open PySem PySem.W PySem.Calls PyProof.Rows
theorem ints_of_wellAll {P : Params} {h : Heap} : ∀ (ns : List Int) (vs : List Value), WellAll P h vs (ns.map WData.int) → IntsAre vs ns := by
  intro ns
  induction ns with
  | nil =>
    intro vs w
    rw [List.map_nil] at w
    cases w
    exact .nil
  | cons n ns ih =>
    intro vs w
    rw [List.map_cons] at w
    cases w with
    | cons a b =>
      cases a
      exact .cons _ _ (ih _ b)
theorem script_of {l : OpenLaw} {n : Nat} (hn : l.most = some n) {P : Params} {h : Heap} {args : List WData} {vals : List Value}
    (hpre : l.row.toRowW.claim.pre args = true) (hwl : WellAll P h vals args) :
    ∃ a vs ns, vals = [Value.ref a] ∧ args = [WData.list (ns.map WData.int)] ∧ h.get? a = some { cls := .type "list", data := .seq vs.toArray } ∧ IntsAre vs ns ∧ ns.length ≤ n := by
  have hsh : WShape.hasAll [] args [.list .int] = true := (pre_splitW hpre).1
  have hc : l.pre.holds [] { args := args } = true := (pre_splitW hpre).2
  obtain ⟨d, r, rfl, h1, h2⟩ := hasAllW_cons hsh
  obtain rfl := hasAllW_nil h2
  obtain ⟨xs, rfl, h3⟩ := hasW_list h1
  obtain ⟨ns, rfl⟩ := items_int h3
  have hlen : ns.length ≤ n := by
    unfold OpenLaw.pre at hc
    have h4 : (WTm.not (.lt (.lit (.int (n : Int))) (.len (.arg 0)))).holds [] { args := [.list (ns.map .int)] } = true := by
      have h4 := (holds_andW hc).1
      rw [hn] at h4
      exact h4
    have h5 := condW_of h4 (w_not (w_lt w_lit (w_len_list (w_arg rfl))))
    rw [List.length_map] at h5
    refine Nat.le_of_not_lt fun q => ?_
    have q' : (n : Int) < ((ns.length : Nat) : Int) := by omega
    first
      | (rw [decide_eq_true q'] at h5; exact absurd h5 (by decide))
      | (simp at h5; omega)
  cases hwl with
  | cons w1 w2 =>
    cases w2
    cases w1 with
    | list ho hall => exact ⟨_, _, ns, rfl, rfl, ho, ints_of_wellAll ns _ hall, hlen⟩
theorem post_true (l : OpenLaw) (args : List WData) : l.row.toRowW.claim.post args (.bool true) args = true :=
  postW_of (r := l.row.toRowW) (X := (true == true))
    (show WShape.has [] (.bool true) .bool = true by first | rfl | decide | simp [WShape.has, WShape.arms, WShape.armsAll])
    (show (WTm.eq .res (.lit (.bool true))).value [] { args := args, res := some (.bool true), after := args } = some (.bool (true == true)) from w_eq_bool (w_res rfl) w_lit) rfl
/-- the same from a codeAny of the CALL (for a layer whose function contracts speak of calls) -/
theorem attach_call {l : OpenLaw} {n : Nat} {q : Program} {loose : List Str} {XP : (Str → Option Value) → Heap → Prop} {YP : World → Heap → Prop} {d : DefRec}
    (hn : l.most = some n) (hdf : d.params.defaults = [])
    (call : ∀ (w : World) (s₀ s₁ : Shared) (mg mb : Str → Option Value) (fa : Addr) (o : Obj) (pm cd doc : Value) (a : Addr) (vs : List Value) (ns : List Int),
      Ground q loose [] XP w s₀ mg mb s₁.heap → YP w s₁.heap →
      s₁.heap.get? fa = some o → o.data = .func (docDef d.name d.params d.body d.scope pm cd doc) → s₁.heap.CodeRec cd d.name → mg d.name = some (.ref fa) →
      s₁.heap.get? a = some { cls := .type "list", data := .seq vs.toArray } → IntsAre vs ns → ns.length ≤ n → s₁.gens = #[] →
      codeAny (model l.prog w) callerA (.call (.ref fa) ⟨[.ref a], []⟩) (fun r s' => r = .ok (.ret (.bool true)) ∧ OldK s₁.heap s'.heap ∧ s'.os = s₁.os ∧ AllBare s'.gens) s₁) :
    WalkO q loose XP YP l.row.toRowW d [] (fun f vs => PySem.call f vs) := by
  intro w s₀ s₁ mg mb G Y fa o pm cd doc dV kV ho hd hcd hD hmg hg args vals as hpre hlay hrd hwl hlo
  obtain rfl : dV = .none := Dflts.none hD hdf
  obtain rfl : kV = .none := Dflts.noKw hD
  obtain ⟨a, vs, ns, rfl, rfl, hobj, hints, hlen⟩ := script_of hn hpre hwl
  refine enter_call (codeAny_mono (call w s₀ s₁ mg mb fa o pm cd doc a vs ns G Y ho (fd_plain hd) hcd hmg hobj hints hlen hg) fun r s' hq => ?_)
  obtain ⟨rfl, h2, h3, h4⟩ := hq
  exact ⟨.inl ⟨.bool true, .bool true, [], rfl, fun _ => rfl, .bool true, post_true l _, fun _ => ⟨List.Pairwise.nil, fun _ hm => (nomatch hm)⟩⟩, h2, h3, h4⟩
section
variable {prog : Program} {w : World} {A : Around} {E : Value → Shared → Prop} {s : Shared} {K : Frag}
end
end Att
namespace L2
open PySem PySem.Spec PyProof.Rows
theorem vals_ints : ∀ {vs : List Value} {ns : List Int}, IntsAre vs ns → Vals (ns.map V.int) vs
  | _, _, .nil => .nil
  | _, _, .cons n t h => .cons ⟨t, rfl⟩ (vals_ints h)
/-- nothing is tracked but the script, known to the object (or it is an object of the module) -/
def Only (H : Hp) : Prop := ∀ b, H b = none ∨ ∃ o xs, H b = some (.frz o (.lst xs))
/-- THE HEAD: the law's promise, at the heap behind the top. F, the promise of the law's def, may use that base is part of the heap (so K.In base, base.Ns mainGlobals mg stand in Mod) -/
theorem law_call {P : Program} {w : World} {K : PySem.W.Frag} {mg mb : Str → Option Value} {CX : CXT} {k : Nat} {fa a : Addr} {fd : FuncData} {x : Str} {sp : Sp} {s₁ : Shared} {vs : List Value} {ns : List Int}
    (KX : K.In s₁.heap) (hns : s₁.heap.Ns mainGlobals mg) (hb : s₁.heap.Ns builtinsNs mb) (hbb : ∀ x : Str, x ≠ "__name__" → mb x = bootBuiltins x) (hlim : s₁.heap.NoLimit) (hg : s₁.gens = #[])
    (ha : s₁.heap.get? a = some { cls := .type "list", data := .seq vs.toArray }) (hi : IntsAre vs ns) (hl : ns.length ≤ sizeLine) (hr : Room k callerA)
    (F : ∀ base : Heap, K.In base → base.Ns mainGlobals mg → FnOk P w K mg base CX k fa fd [x] sp) (hbind : ∀ (s : Shared) (u : Value), BindsTo s fd ⟨[u], []⟩ [(x, u)])
    (hsp : ∀ H : Hp, Only H → SqL K H a (ns.map V.int) → sp [.ref a] H (fun v _ => v = .bl true) fun _ _ _ => False)
    (hCX : ∀ H e s', CX [] H s₁ (fun _ _ _ => False) e s' → False) :
    codeAny (model P w) callerA (.call (.ref fa) ⟨[.ref a], []⟩) (fun r s' => r = .ok (.ret (.bool true)) ∧ OldK s₁.heap s'.heap ∧ s'.os = s₁.os ∧ AllBare s'.gens) s₁ := by
  have rv := vals_ints hi
  have lenV := hi.length
  -- from an abstract heap in which nothing but the script may be tracked
  have core : ∀ H : Hp, Only H → SqL K H a (ns.map V.int) → HOk P w H s₁.heap → (∀ b, H b ≠ none → b = a) → (H a ≠ none → K.lookup a = none) →
      codeAny (model P w) callerA (.call (.ref fa) ⟨[.ref a], []⟩) (fun r s' => r = .ok (.ret (.bool true)) ∧ OldK s₁.heap s'.heap ∧ s'.os = s₁.os ∧ AllBare s'.gens) s₁ := by
    intro H hO hS hok hA hK
    have base_of : ∀ {b : Addr} {o : Obj}, s₁.heap.get? b = some o → H b = none → (hidT s₁.heap H).get? b = some o := fun e n => hidT_get e n
    have noA : ∀ {b : Addr} {o : Obj} {es : Array DictEntry} {ep : Nat}, s₁.heap.get? b = some o → o.data = .dict es ep → H b = none := fun {b o es ep} e d => by
      cases q : H b with
      | none => rfl
      | some u =>
        have e' : b = a := hA b (by rw [q]; simp)
        subst e'
        rw [ha] at e; cases e
        have d' : Data.seq vs.toArray _ = Data.dict es ep := d
        cases d'
    have nsK : ∀ {b : Addr} {m : Str → Option Value}, s₁.heap.Ns b m → (hidT s₁.heap H).Ns b m := fun {b m} ⟨o, es, ep, e, d, r⟩ => ⟨o, es, ep, base_of e (noA e d), d, r⟩
    have hKb : K.In (hidT s₁.heap H) := fun b o e => base_of (KX b o e) (by
      cases q : H b with
      | none => rfl
      | some u =>
        have e' : b = a := hA b (by rw [q]; simp)
        subst e'
        rw [hK (by rw [q]; simp)] at e; cases e)
    have hM : Mod K mg (hidT s₁.heap H) := ⟨hKb, nsK hns, ⟨mb, nsK hb, hbb⟩, let ⟨mc, h1, h2⟩ := hlim; ⟨mc, nsK h1, h2⟩⟩
    have e0 : Env0 P w K mg (hidT s₁.heap H) callerA [] s₁ H := ⟨rfl, hM, fun b o e => of_hidT e, Nat.le_of_eq (hidT_size _ _), trivial, fun b hb => absurd (show b ∈ ([] : List Addr) from hb) (by simp), hok, .of_eq hg⟩
    refine codeAny_mono ((F _ hKb (nsK hns)).run callerA [] s₁ H ⟨[.ref a], []⟩ [.ref a] [.ref a] _ _ hr e0 (hbind s₁ (.ref a)) (.cons rfl .nil) (hsp H hO hS)) fun r s' h => ?_
    cases r with
    | error e => exact (hCX H e s' h).elim
    | ok fl =>
      cases fl with
      | next => exact False.elim h
      | brk => exact False.elim h
      | cont => exact False.elim h
      | ret u =>
        obtain ⟨v, H', os, bare, un, hok', r', q⟩ := h
        have q' : v = .bl true := q
        subst q'
        obtain rfl : u = Value.bool true := r'
        refine ⟨rfl, OldK.of_keep fun b o e => ?_, os, bare⟩
        cases q : H b with
        | none => exact un.keep b o e q (by intro z; exact absurd (show b ∈ ([] : List Addr) from z) (by simp)) (by simp)
        | some u =>
          rcases hO b with z | ⟨ob, xs, z⟩
          · rw [q] at z; cases z
          · have z2 := un.frzs b ob _ z
            obtain ⟨e1, _⟩ := hok b _ z
            obtain ⟨e2, _⟩ := hok' b _ z2
            rw [e] at e1; cases e1
            exact e2
  cases hk : K.lookup a with
  | some o =>
    -- the script is one of the module's own objects
    have e := KX a o hk
    rw [ha] at e
    cases e
    refine core (fun _ => none) (fun _ => .inl rfl) (.inr ⟨_, vs.toArray, _, hk, rfl, rfl, rfl, by rw [List.size_toArray, lenV]; exact hl, by simpa using rv⟩) (fun b u z => by have z' : (none : Option HO) = some u := z; cases z') (fun b z => absurd rfl z) fun z => absurd rfl z
  | none =>
    refine core (fun b => if b = a then some (.frz { cls := .type "list", data := .seq vs.toArray } (.lst (ns.map V.int))) else none) (fun b => ?_) (.inl (.inr ⟨{ cls := .type "list", data := .seq vs.toArray }, if_pos rfl⟩)) (fun b u z => ?_) (fun b z => ?_) fun _ => hk
    · by_cases hb : b = a
      · exact .inr ⟨_, _, if_pos hb⟩
      · exact .inl (if_neg hb)
    · by_cases hb : b = a
      · have z' := (if_pos hb).symm.trans z
        cases z'
        subst hb
        exact ⟨ha, by rw [List.length_map]; exact hl, vs, _, rv, ha⟩
      · have z' := (if_neg hb).symm.trans z
        cases z'
    · by_cases hb : b = a
      · exact hb
      · exact absurd (if_neg hb) z
end L2
namespace L2
open PySem PySem.Spec PyProof.Rows
/-- the goal that k_head leaves (case hc), from the law's promise. F gives the function object fd (K's own) once, then the promise over every base -/
theorem walk_of {l : PySem.W.OpenLaw} {n k : Nat} {q : Program} {loose : List Str} {XP : (Str → Option Value) → Heap → Prop} {YP : World → Heap → Prop} {d : DefRec} {K : Params → PySem.W.Frag} {CX : World → CXT} {sp : World → Sp} {x : Str}
    (hn : l.most = some n) (hn2 : n ≤ sizeLine) (hdf : d.params.defaults = []) (hr : Room k callerA)
    (hY : ∀ (w : World) (h : Heap), YP w h → (K w.params).In h)
    (F : ∀ (w : World) (mg : Str → Option Value) (fa : Addr) (h : Heap), (K w.params).In h → h.Ns mainGlobals mg → mg d.name = some (.ref fa) →
      ∃ fd : FuncData, (∀ (s : Shared) (u : Value), BindsTo s fd ⟨[u], []⟩ [(x, u)]) ∧
        ∀ base : Heap, (K w.params).In base → base.Ns mainGlobals mg → FnOk l.prog w (K w.params) mg base (CX w) k fa fd [x] (sp w))
    (hsp : ∀ (w : World) (H : Hp) (a : Addr) (ns : List Int), ns.length ≤ n → Only H → SqL (K w.params) H a (ns.map V.int) → sp w [.ref a] H (fun v _ => v = .bl true) fun _ _ _ => False)
    (hCX : ∀ (w : World) (H : Hp) (s : Shared) (e : Value) (s' : Shared), CX w [] H s (fun _ _ _ => False) e s' → False) :
    PySem.W.WalkO q loose XP YP l.row.toRowW d [] (fun f vs => PySem.call f vs) := by
  refine Att.attach_call hn hdf fun w s₀ s₁ mg mb fa o pm cd doc a vs ns G Y ho hd hcd hmg hobj hints hlen hg => ?_
  have KX := hY w _ Y
  obtain ⟨fd, hb, hF⟩ := F w mg fa _ KX G.T.g hmg
  exact law_call KX G.T.g G.T.b G.T.builtins G.T.nolimit hg hobj hints (Nat.le_trans hlen hn2) hr hF hb (fun H hO hS => hsp w H a ns hlen hO hS) fun H e s' => hCX w H s₁ e s'
end L2
namespace L2
open PySem PySem.Spec PyProof.Rows
def defArgs (s : Stmt) : Arguments := match s with
  | .FunctionDef _ a _ _ _ _ _ _ _ _ => a
  | _ => { posonlyargs := [], args := [], vararg := none, kwonlyargs := [], kw_defaults := [], kwarg := none, defaults := [] }
def defBody (s : Stmt) : List Stmt := match s with
  | .FunctionDef _ _ b _ _ _ _ _ _ _ => b
  | _ => []
def defScope (s : Stmt) : Scope := match s with
  | .FunctionDef _ _ _ _ _ _ sc _ _ _ => sc
  | _ => { kind := .function, names := [], isGenerator := false, isCoroutine := false }
abbrev CX0 : CXT := fun _ _ _ _ _ _ => False
abbrev E0 : XK := fun _ _ _ => False
theorem pass0 {X : Cx} : Passes CX0 X E0 := fun _ _ _ _ _ _ _ h => h.elim
structure Fun (K : PySem.W.Frag) (x qual : Str) (st : Stmt) (f : Addr) (fd : FuncData) : Prop where
  ex : ∃ (oc : Value) (od : Option Addr) (kV doc pm : Value) (an : Option Addr) (cdv ct : Value) (osl : Array (Option Value)),
    fd = PySem.W.fnOf x qual (defArgs st) (defBody st) (defScope st) .none kV doc pm an cdv ct ∧ K.lookup f = some ⟨oc, od, .func fd, osl⟩ ∧ PySem.W.codeIn K cdv qual = true
  kp : PySem.W.keepIn K (.ref f) = true
section
variable {P : Program} {w : World} {K : PySem.W.Frag} {mg : Str → Option Value} {base : Heap}
/-- THE RULE for a def: its body as a term of rules, and the reading of that term -/
theorem Fun.ok {x qual : Str} {st : Stmt} {f : Addr} {fd : FuncData} {N ps : List Str} {k : Nat} {sp : Sp} (F : Fun K x qual st f fd) (S : FnScope N ps (defScope st)) (len : ∀ vs H Q E, sp vs H Q E → vs.length = ps.length)
    (hbody : ∀ (cdv : Value) (A : Around) (outer : List Env) (s : Shared) (H : Hp) (vs : List V) (Q : VK) (E : XK), Room k (A.deeper (envOfC qual (defScope st) s.heap.objs.size f cdv)) → sp vs H Q E →
      ∃ t, PSs (cxOf CX0 P w K mg base N qual (defScope st) f cdv A outer s H E).nox (defBody st) t ∧ t { nx := fun _ H' => Q .non H', rt := Q } (start N vs) H) : FnOk P w K mg base CX0 (k + 1) f fd ps sp := by
  obtain ⟨oc, od, kV, doc, pm, an, cdv, ct, osl, rfl, lk, hcd⟩ := F.ex
  refine fn_of lk hcd S len fun A outer s H vs Q E hr hsp => ?_
  obtain ⟨t, h, q⟩ := hbody cdv A outer s H vs Q E hr hsp
  exact ⟨t, h.nox, q⟩
/-- how its arguments bind (no defaults): h is «fun _ _ _ _ _ _ us hl => match us, hl with | [_, _], _ => rfl», one _ a parameter -/
theorem Fun.binds {x qual : Str} {st : Stmt} {f : Addr} {fd : FuncData} {ps : List Str} (F : Fun K x qual st f fd)
    (h : ∀ (kV doc pm : Value) (an : Option Addr) (cdv ct : Value) (us : List Value), us.length = ps.length → bindArgs (PySem.W.fnOf x qual (defArgs st) (defBody st) (defScope st) .none kV doc pm an cdv ct) ⟨us, []⟩ = pure (ps.zip us)) : Binds K fd ps [] := by
  obtain ⟨oc, od, kV, doc, pm, an, cdv, ct, osl, rfl, lk, hcd⟩ := F.ex
  exact .all (h kV doc pm an cdv ct)
theorem fun_mk {x qual : Str} {st : Stmt} {f : Addr} {oc : Value} {od an : Option Addr} {osl : Array (Option Value)} {kV doc pm cdv ct : Value} (l : K.lookup f = some ⟨oc, od, .func (PySem.W.fnOf x qual (defArgs st) (defBody st) (defScope st) .none kV doc pm an cdv ct), osl⟩)
    (c : PySem.W.codeIn K cdv qual = true) (k : PySem.W.keepIn K (.ref f) = true) : Fun K x qual st f (PySem.W.fnOf x qual (defArgs st) (defBody st) (defScope st) .none kV doc pm an cdv ct) := ⟨⟨oc, od, kV, doc, pm, an, cdv, ct, osl, rfl, l, c⟩, k⟩
end
section
variable {X : Cx}
theorem pv (i : Nat) {x : Str} {pos : Pos} (hN : X.N[i]? = some x := by rfl) (hv : Vis X.env.scope x := by first | exact Or.inl rfl | exact Or.inr (Or.inl rfl) | exact Or.inr (Or.inr rfl)) (hd : (x == ("__debug__" : Str)) = false := by decide)
    (hcd : (x == ("__classdict__" : Str)) = false := by decide) : PE X (.Name x pos) (tVar i) := pe_var hN hv hd hcd
end
theorem iteF {A B : Prop} (h : B) : if false = true then A else B := by
  rw [if_neg Bool.false_ne_true]
  exact h
theorem iteT {A B : Prop} (h : A) : if true = true then A else B := by
  rw [if_pos rfl]
  exact h
/-- all that was tracked is as it was -/
def Same (H H' : Hp) : Prop := ∀ b o, H b = some o → H' b = some o
theorem Same.refl (H : Hp) : Same H H := fun _ _ h => h
theorem Same.trans {H H1 H2 : Hp} (a : Same H H1) (b : Same H1 H2) : Same H H2 := fun c o h => b c o (a c o h)
theorem Same.free {H H' : Hp} (e : Same H H') {l : Addr} (h : H' l = Option.none) : H l = Option.none := by
  cases q : H l with
  | none => rfl
  | some o =>
    rw [e l o q] at h
    cases h
theorem Same.seq {K : PySem.W.Frag} {H H' : Hp} {a : Addr} {xs : List V} (e : Same H H') (h : SqL K H a xs) : SqL K H' a xs := by
  rcases h with (h | ⟨o, h⟩) | h
  · exact .inl (.inl (e _ _ h))
  · exact .inl (.inr ⟨o, e _ _ h⟩)
  · exact .inr h
end L2
namespace L2
open PySem PySem.Spec PyProof.Rows
section
variable {κ : Type} [DecidableEq κ]
def valV (kvs : List (κ × V)) (k : κ) : Option V := (kvs.find? fun kv => decide (kv.1 = k)).map (·.2)
/-- in its place, or at the end -/
def putK (kvs : List (κ × V)) (k : κ) (v : V) : List (κ × V) :=
  if (kvs.any fun kv => decide (kv.1 = k)) = true then kvs.map (fun kv => if kv.1 = k then (kv.1, v) else kv) else kvs ++ [(k, v)]
theorem RelO.getD {o : Option V} {u : Option Value} {d : V} {d' : Value} (r : RelO o u) (rd : RelV d d') : RelV (o.getD d) (u.getD d') := by
  cases o with
  | none => cases u with
    | none => exact rd
    | some _ => exact (show False from r).elim
  | some _ => cases u with
    | none => exact (show False from r).elim
    | some _ => exact r
theorem KV.any {kvs : List (κ × V)} {vs : List (κ × Value)} (r : KV kvs vs) (k : κ) : (kvs.any fun kv => decide (kv.1 = k)) = vs.any fun kv => decide (kv.1 = k) := by
  unfold KV at r
  induction r with
  | nil => rfl
  | cons h t ih => rw [List.any_cons, List.any_cons, ih, h.1]
theorem KV.keys {kvs : List (κ × V)} {vs : List (κ × Value)} (r : KV kvs vs) : kvs.map (·.1) = vs.map (·.1) := by
  unfold KV at r
  induction r with
  | nil => rfl
  | cons h t ih => rw [List.map_cons, List.map_cons, ih, h.1]
theorem KV.length {kvs : List (κ × V)} {vs : List (κ × Value)} (r : KV kvs vs) : kvs.length = vs.length := Paired.length r
end
/-- raw entries of a dict with tuple keys -/
abbrev KT (H : Hp) : List (List Key × V) → List (List Key × Addr × Value) → Prop := Paired fun p q => p.1 = q.1 ∧ H q.2.1 = some (.tup (p.1.map kV)) ∧ RelV p.2 q.2.2
theorem KT.keeps {H H' : Hp} {kvs : List (List Key × V)} {xs : List (List Key × Addr × Value)} (r : KT H kvs xs) (ht : ∀ b ys, H b = some (.tup ys) → H' b = some (.tup ys)) : KT H' kvs xs :=
  Paired.mapP r fun _ _ z => ⟨z.1, ht _ _ z.2.1, z.2.2⟩
section
variable {P : Program} {w : World} {H : Hp} {h : Heap} {a : Addr}
end
/-- what the dict at a holds at the key y -/
def DGet (H : Hp) (a : Addr) (y : V) (r : Option V) : Prop :=
  (∃ kvs k, Rd H a (.dK kvs) ∧ y = kV k ∧ r = valV kvs k) ∨ ∃ kvs k b, Rd H a (.dT kvs) ∧ y = .ref b ∧ H b = some (.tup (k.map kV)) ∧ r = valV kvs k
/-- the heap behind a[y] = v -/
def DPut (H : Hp) (a : Addr) (y v : V) (H' : Hp) : Prop :=
  (∃ kvs k, H a = some (.dK kvs) ∧ y = kV k ∧ kvs.length < sizeLine ∧ H' = upd H a (.dK (putK kvs k v))) ∨
  ∃ kvs k b, H a = some (.dT kvs) ∧ y = .ref b ∧ H b = some (.tup (k.map kV)) ∧ kvs.length < sizeLine ∧ H' = upd H a (.dT (putK kvs k v))
theorem DGet.k {H : Hp} {a : Addr} {kvs : List (Key × V)} {k : Key} (e : H a = some (.dK kvs)) : DGet H a (kV k) (valV kvs k) := .inl ⟨kvs, k, .inl e, rfl, rfl⟩
theorem DGet.t {H : Hp} {a b : Addr} {kvs : List (List Key × V)} {k : List Key} (e : H a = some (.dT kvs)) (eb : H b = some (.tup (k.map kV))) : DGet H a (.ref b) (valV kvs k) := .inr ⟨kvs, k, b, .inl e, rfl, eb, rfl⟩
theorem DPut.k {H : Hp} {a : Addr} {kvs : List (Key × V)} {k : Key} {v : V} (e : H a = some (.dK kvs)) (hl : kvs.length < sizeLine) : DPut H a (kV k) v (upd H a (.dK (putK kvs k v))) := .inl ⟨kvs, k, e, rfl, hl, rfl⟩
theorem DPut.t {H : Hp} {a b : Addr} {kvs : List (List Key × V)} {k : List Key} {v : V} (e : H a = some (.dT kvs)) (eb : H b = some (.tup (k.map kV))) (hl : kvs.length < sizeLine) :
    DPut H a (.ref b) v (upd H a (.dT (putK kvs k v))) := .inr ⟨kvs, k, b, e, rfl, eb, hl, rfl⟩
section
variable {X : Cx} {pins : List (Addr × Obj)} {σ : St} {H : Hp} {s : Shared} {a : Addr} {y v : V} {u r : Value} {o : Option V} {A : Around} {E : Value → Shared → Prop}
end
section
variable {X : Cx} {pins : List (Addr × Obj)} {σ : St} {H : Hp} {s : Shared} {a : Addr} {kvs : List (Key × V)} {k : Key} {u : Value} {A : Around} {E : Value → Shared → Prop}
end
/-- y in d, y not in d -/
def tDIn (ty td : TE) : TE := fun σ H Q => ty σ H fun y H1 => td σ H1 fun x H2 => ∃ a o, x = .ref a ∧ DGet H2 a y o ∧ Q (.bl o.isSome) H2
/-- d[y] = v -/
def sDPut (td ty tv : TE) : TS := fun D σ H => tv σ H fun v H1 => td σ H1 fun x H2 => ty σ H2 fun y H3 => ∃ a H4, x = .ref a ∧ DPut H3 a y v H4 ∧ D.nx σ H4
section
variable {X : Cx} {o i e value : Expr} {pos pos' tpos : Pos} {td ty tv : TE}
end
section
variable {X : Cx} {pos : Pos}
end
section
variable {X : Cx} {pins : List (Addr × Obj)} {σ : St} {H : Hp} {s : Shared} {a : Addr} {y d : V} {u r : Value} {o : Option V} {A : Around} {E : Value → Shared → Prop}
end
section
variable {X : Cx} {o e f : Expr} {apos cpos : Pos} {td ty tx : TE}
end
section
variable {X : Cx} {pins : List (Addr × Obj)} {σ : St} {H : Hp} {s : Shared} {a : Addr} {kvs : List (Key × V)} {A : Around} {E : Value → Shared → Prop}
end
section
variable {X : Cx} {pins : List (Addr × Obj)} {σ : St} {H : Hp} {s : Shared} {a : Addr} {y : V} {u : Value} {A : Around} {E : Value → Shared → Prop}
end
end L2
namespace L2
open PySem PySem.Spec PyProof.Rows
section
variable {X : Cx}
end
section
variable {κ : Type} [DecidableEq κ]
end
end L2
set_option Elab.async false
set_option linter.all false
set_option maxRecDepth 100000
set_option maxHeartbeats 4000000
namespace L2
open PySem PySem.Spec PyProof.Rows
section
variable {P : Program} {w : World} {K : PySem.W.Frag} {mg : Str → Option Value} {base : Heap} {CX : CXT} {x : Str} {ps : List Str} {sp : Sp} {j k : Nat}
structure Def (P : Program) (w : World) (K : PySem.W.Frag) (mg : Str → Option Value) (base : Heap) (CX : CXT) (k : Nat) (x : Str) (ps : List Str) (sp : Sp) : Prop where
  ex : ∃ (f : Addr) (fd : FuncData), FnOk P w K mg base CX k f fd ps sp ∧ mg x = some (.ref f) ∧ PySem.W.keepIn K (.ref f) = true ∧ Binds K fd ps []
theorem Def.mono (D : Def P w K mg base CX j x ps sp) (h : j ≤ k) : Def P w K mg base CX k x ps sp :=
  let ⟨f, fd, F, a, b, c⟩ := D.ex
  ⟨f, fd, F.mono h, a, b, c⟩
def HasDef (K : PySem.W.Frag) (mg : Str → Option Value) (x : Str) (st : Stmt) : Prop := ∃ (f : Addr) (fd : FuncData), Fun K x x st f fd ∧ mg x = some (.ref f)
theorem HasDef.mk {st : Stmt} {f : Addr} {oc : Value} {od an : Option Addr} {osl : Array (Option Value)} {kV doc pm cdv ct : Value} (m : mg x = some (.ref f))
    (l : K.lookup f = some ⟨oc, od, .func (PySem.W.fnOf x x (defArgs st) (defBody st) (defScope st) .none kV doc pm an cdv ct), osl⟩)
    (c : PySem.W.codeIn K cdv x = true) (k : PySem.W.keepIn K (.ref f) = true) : HasDef K mg x st := ⟨f, _, fun_mk l c k, m⟩
/-- THE RULE for a def from which no exception leaves, whatever CX -/
theorem def_of {st : Stmt} {N : List Str} (h : HasDef K mg x st) (S : FnScope N ps (defScope st)) (len : ∀ vs H Q E, sp vs H Q E → vs.length = ps.length)
    (hb : ∀ (kV doc pm : Value) (an : Option Addr) (cdv ct : Value) (us : List Value), us.length = ps.length → bindArgs (PySem.W.fnOf x x (defArgs st) (defBody st) (defScope st) .none kV doc pm an cdv ct) ⟨us, []⟩ = pure (ps.zip us))
    (hbody : ∀ (f : Addr) (cdv : Value) (A : Around) (outer : List Env) (s : Shared) (H : Hp) (vs : List V) (Q : VK) (E : XK), Room k (A.deeper (envOfC x (defScope st) s.heap.objs.size f cdv)) → sp vs H Q E →
      ∃ t, PSs (cxOf CX P w K mg base N x (defScope st) f cdv A outer s H E).nox (defBody st) t ∧ t { nx := fun _ H' => Q .non H', rt := Q } (start N vs) H) : Def P w K mg base CX (k + 1) x ps sp := by
  obtain ⟨f, fd, F, m⟩ := h
  refine ⟨f, fd, ?_, m, F.kp, F.binds hb⟩
  obtain ⟨oc, od, kV, doc, pm, an, cdv, ct, osl, rfl, lk, hcd⟩ := F.ex
  refine fn_of lk hcd S len fun A outer s H vs Q E hr hsp => ?_
  obtain ⟨t, h, q⟩ := hbody f cdv A outer s H vs Q E hr hsp
  exact ⟨t, h.nox, q⟩
end
section
variable {X : Cx} {CX : CXT} {k m : Nat} {x : Str} {ps : List Str} {sp : Sp} {E : XK} {p pos : Pos} {e : Expr} {es : List Expr} {t : TA}
theorem pe_def (D : Def X.prog X.w X.K X.mg X.base CX k x ps sp) (hr : Room m X.A) (ha : PA X (e :: es) t) (hk : k ≤ m := by decide) (hx : Passes CX X E := by exact pass0) (hg : Gl X x := by rfl)
    (hdb : (x == ("__debug__" : Str)) = false := by decide) (he : starEach (e :: es) X.env = (false, eval e X.env) :: starEach es X.env := by rfl) (hpl : (backTo pos (starEach es X.env)).any (·.1) = false := by rfl) :
    PE X (.Call (.Name x p) (e :: es) [] pos) (tCall sp [] E t) := by
  obtain ⟨f, fd, F, hm, kp, b⟩ := D.ex
  exact pe_call F (hr.mono hk) hg hm kp b .nil hx ha hdb he hpl
end
section
variable {X : Cx} {T : String} {pos : Pos}
theorem pe_ty {x : Str} (hg : Gl X x) (hm : X.mg x = none) (hv : bootBuiltins x = some (.type T)) (hn : x ≠ "__name__" := by decide) (hd : (x == ("__debug__" : Str)) = false := by decide) : PE X (.Name x pos) (tC (.ty T)) :=
  pe_bltn hg hm hv rfl hn hd
/-- the answer of isinstance for a class that is a value -/
def clsIs (K : PySem.W.Frag) (t : Value) : V → Option Bool
  | .ty T => PySem.W.kitOne K t (.type T)
  | .ref C => PySem.W.kitOne K t (.ref C)
  | _ => none
theorem call_isinstance : CallR X (.builtin "isinstance") (fun xs H Q => ∃ x c t b, xs = [x, c] ∧ TyOf X.K H x t ∧ clsIs X.K t c = some b ∧ Q (.bl b) H) := by
  intro pins s σ H xs us Q I r h
  obtain ⟨x, c, t, b, rfl, ty, e, q⟩ := h
  obtain ⟨u, v, rfl, ru, rv⟩ := vals2 r
  cases c with
  | ty T =>
    obtain rfl : v = Value.type T := rv
    exact isinst_ok I ru ty e fun tk => ⟨.bl b, H, I.tok _, rfl, q⟩
  | ref C =>
    obtain rfl : v = Value.ref C := rv
    exact isinst_ok I ru ty e fun tk => ⟨.bl b, H, I.tok _, rfl, q⟩
  | _ => cases e
end
section
variable {X : Cx}
end
section
variable {X : Cx}
section
variable {P : Program} {w : World} {K : PySem.W.Frag} {tg : Expr}
end
end
end L2
set_option Elab.async false
set_option linter.all false
set_option maxRecDepth 100000
set_option maxHeartbeats 4000000
namespace L2
open PySem PySem.Spec PyProof.Rows
def closOf (env : Env) : List (Str × NameKind) → Option (List (Str × Addr))
  | [] => some []
  | (n, k) :: r => if k = .free then (env.cells.lookup n).bind fun c => (closOf env r).map fun cl => cl ++ [(n, c)] else closOf env r
theorem closOf_lookup {env : Env} : ∀ {names : List (Str × NameKind)} {cl : List (Str × Addr)}, closOf env names = some cl → ∀ x c, cl.lookup x = some c → env.cells.lookup x = some c
  | [], cl, h, x, c, e => by
    cases (Option.some.inj h)
    cases e
  | (n, k) :: r, cl, h, x, c, e => by
    unfold closOf at h
    by_cases hk : k = .free
    · rw [if_pos hk] at h
      cases hc : env.cells.lookup n with
      | none => rw [hc] at h; cases h
      | some c' =>
        rw [hc] at h
        have h : (closOf env r).map (fun cl => cl ++ [(n, c')]) = some cl := h
        cases hr : closOf env r with
        | none => rw [hr] at h; cases h
        | some cl' =>
          rw [hr] at h
          have h : cl' ++ [(n, c')] = cl := Option.some.inj h
          subst h
          rw [List.lookup_append] at e
          cases h2 : cl'.lookup x with
          | some c2 =>
            rw [h2] at e
            have e : c2 = c := by simpa using e
            subst e
            exact closOf_lookup hr x c2 h2
          | none =>
            rw [h2] at e
            have e : List.lookup x [(n, c')] = some c := by simpa using e
            by_cases hx : x = n
            · subst hx
              have : c' = c := by simpa using e
              subst this
              exact hc
            · have hb : (x == n) = false := by simpa using hx
              simp [List.lookup_cons, hb] at e
    · rw [if_neg hk] at h
      exact closOf_lookup h x c e
theorem closureFor_go {env : Env} : ∀ (names : List (Str × NameKind)) (acc cl : List (Str × Addr)), closOf env names = some cl →
    (forIn (m := Sem) names acc fun x c => if x.2 == NameKind.free then (do let a ← cellOf env x.1; pure (ForInStep.yield ((x.1, a) :: c))) else pure (ForInStep.yield c)) = pure (cl ++ acc)
  | [], acc, cl, h => by
    cases (Option.some.inj h)
    rfl
  | (n, k) :: r, acc, cl, h => by
    unfold closOf at h
    rw [List.forIn_cons]
    by_cases hk : k = .free
    · rw [if_pos hk] at h
      cases hc : env.cells.lookup n with
      | none => rw [hc] at h; cases h
      | some c' =>
        rw [hc] at h
        have h : (closOf env r).map (fun cl => cl ++ [(n, c')]) = some cl := h
        cases hr : closOf env r with
        | none => rw [hr] at h; cases h
        | some cl' =>
          rw [hr] at h
          have h : cl' ++ [(n, c')] = cl := Option.some.inj h
          subst h
          have hb : (k == NameKind.free) = true := by simpa using hk
          have := closureFor_go r ((n, c') :: acc) cl' hr
          have ec : cellOf env n = pure c' := by unfold cellOf; rw [hc]
          simp only [hb, if_true, ec, pure_bind, bind_assoc]
          rw [this]
          simp
    · rw [if_neg hk] at h
      have hb : (k == NameKind.free) = false := by simpa using hk
      have := closureFor_go r acc cl h
      simp only [hb, Bool.false_eq_true, if_false, pure_bind]
      exact this
theorem closureFor_of {env : Env} {scope : Scope} {cl : List (Str × Addr)} (h : closOf env scope.names = some cl) : closureFor scope env = pure cl := by
  have := closureFor_go scope.names [] cl h
  rw [List.append_nil] at this
  have key : closureFor scope env = (forIn (m := Sem) scope.names ([] : List (Str × Addr)) fun x c => if x.2 == NameKind.free then (do let a ← cellOf env x.1; pure (ForInStep.yield ((x.1, a) :: c))) else pure (ForInStep.yield c)) >>= fun cs => pure cs := by
    unfold closureFor
    rfl
  rw [key, this]
  rfl
theorem comp_loop {prog : Program} {w : World} {A : Around} {R : Result → Shared → Prop} {s : Shared} {elt target iter : Expr} {ifs : List Expr} {scope : Scope} {pos : Pos} {it acc : Value} {env : Env} (I : Nat → Shared → Prop)
    (turn : ∀ n s, I n s → wpAny (model prog w) A (pyNext it) (fun r s₁ => match r with
      | none => R (.ok .next) s₁
      | some v => wpAny (model prog w) A (letOwnedTupleGo target it v) (fun _ s₀ => wpAny (model prog w) A (assign target env v) (fun _ s₂ =>
          wpAny (model prog w) A (forIn ifs true fun c r => if r = true then do let ok ← isTrue c env (eval c env); pure (ForInStep.yield ok) else pure (ForInStep.yield r)) (fun ok s₃ =>
            if ok = true then wpAny (model prog w) A (eval elt env) (fun x s₄ =>
              wpAny (model prog w) A (call (.builtin "list.append") [acc, x]) (fun _ s₅ => ∃ m, m < n ∧ I m s₅) (fun _ _ => False) s₄) (fun _ _ => False) s₃
            else ∃ m, m < n ∧ I m s₃) (fun _ _ => False) s₂) (fun _ _ => False) s₀) (fun _ _ => False) s₁) (fun _ _ => False) s)
    (n : Nat) (h : I n s) :
    codeAny (model prog w) A (.compLoop (.ListComp elt [⟨target, iter, ifs, 0⟩] scope pos) 0 it acc env) R s := by
  refine codeAny_loop rfl I (fun n s hI => ?_) n h
  show wpAny _ A ((compTurn (.ListComp elt [⟨target, iter, ifs, 0⟩] scope pos) 0 it acc env).onRaise (fun x => do noteFrame x env; theTreesLotGoes x)) _ _ s
  refine wpAny_noted ?_
  rw [compTurn_list]
  refine wpAny_bind (wpAny_standAt (wpAny_bind (wpAny_mono (turn n s hI) (fun r s₁ h₁ => ?_) fun _ _ h' => h'.elim)))
  cases r with
  | none => exact wpAny_pure h₁
  | some v =>
    refine wpAny_bind (wpAny_mono h₁ (fun _ s₀ h₀ => ?_) fun _ _ h' => h'.elim)
    refine wpAny_bind (wpAny_mono h₀ (fun _ s₂ h₂ => wpAny_bind (wpAny_mono h₂ (fun ok s₃ h₃ => ?_) fun _ _ h' => h'.elim)) fun _ _ h' => h'.elim)
    cases ok with
    | false => exact wpAny_pure ⟨rfl, h₃⟩
    | true =>
      exact wpAny_bind (wpAny_bind (wpAny_mono h₃ (fun x s₄ h₄ => wpAny_bind (wpAny_mono h₄ (fun _ s₅ h₅ => wpAny_pure (wpAny_pure ⟨rfl, h₅⟩)) fun _ _ h' => h'.elim)) fun _ _ h' => h'.elim))
/-- the context of a comprehension's block: its own frame at C, the names N, the closure cl; entered at s, H; fp: the iterator's objects -/
def cxComp (X : Cx) (N : List Str) (scope : Scope) (cl : List (Str × Addr)) (pins : List (Addr × Obj)) (s : Shared) (H : Hp) (fp : List Addr) : Cx where
  prog := X.prog
  w := X.w
  K := X.K
  mg := X.mg
  base := X.base
  A := X.A
  N := N
  s₀ := s
  H₀ := H
  env := compEnvC scope cl s.heap.objs.size X.env
  outer := X.stack
  stack := X.stack
  ex := fp
  fn := fun _ => false
  calm := X.calm
  pn := X.pn ++ pins
  xe := fun _ _ => False
/-- the values of the block's names at its entry: nt of its own, none yet; then those of the block around, by their places there -/
def compStart0 (nt : Nat) (fr : List Nat) (σ : St) : St := List.replicate nt none ++ fr.map fun i => (σ[i]?).getD none
/-- how the block's names N stand to the names of the code around: nt own ones, then free ones, the i-th of which is the fr i-th there -/
structure CompNames (X : Cx) (N : List Str) (nt : Nat) (fr : List Nat) (scope : Scope) (cl : List (Str × Addr)) : Prop where
  len : N.length = nt + fr.length
  free : ∀ (j : Nat) (i : Nat) (x : Str), fr[j]? = some i → N[nt + j]? = some x → X.N[i]? = some x ∧ (∃ c, cl.lookup x = some c) ∧ (X.env.kindOf x = some .cell ∨ X.env.kindOf x = some .free) ∧
    ((relabel scope X.env).names.lookup x = some .cell ∨ (relabel scope X.env).names.lookup x = some .free)
  cells : ∀ x c, cl.lookup x = some c → X.env.cells.lookup x = some c
  has : ∀ x, ((relabel scope X.env).names.lookup x = some .cell ∨ (relabel scope X.env).names.lookup x = some .free) → ∃ c, cl.lookup x = some c
  kind : scope.kind = .function
theorem Vis_of_cell {X : Cx} {x : Str} (h : X.env.kindOf x = some .cell ∨ X.env.kindOf x = some .free) : Vis X.env.scope x := by
  rcases h with h | h
  · exact .inr (.inl h)
  · exact .inr (.inr h)
section
variable {X : Cx} {N : List Str} {nt : Nat} {fr : List Nat} {scope : Scope} {cl : List (Str × Addr)} {pins : List (Addr × Obj)} {σ : St} {H : Hp} {s : Shared} {fp : List Addr}
theorem comp_ok (I : Inv X pins σ H s) (cn : CompNames X N nt fr scope cl) (hf : ∀ b ∈ fp, FpOk X pins H b) (ho : ∀ b ∈ fp, b < s.heap.objs.size) : (cxComp X N scope cl pins s H fp).Ok where
  mod := I.mod
  kind := cn.kind
  glob := I.ok.glob
  blt := I.ok.blt
  above := Nat.le_refl _
  inj := fun x y c h1 h2 => I.ok.inj x y c (cn.cells x c h1) (cn.cells y c h2)
  has := fun x hx => cn.has x hx
  cab := fun x c h _ => by cases (show false = true from h)
  hd := I.ok.hd
  frames := I.ok.frames
  stk := .inl rfl
  exf := fun b hb => ⟨Nat.ne_of_lt (ho b hb), fun x c e => (hf b hb).2.2.2.2.1 x c (cn.cells x c e)⟩
  bs := I.bs
  bsz := Nat.le_trans I.ok.bsz I.sz
  noex := fun b o e hb => by
    rcases (hf b hb).2.2.2.1 with z | z
    · exact I.ok.noex b o e z
    · exact absurd (Nat.lt_of_lt_of_le (Heap.lt_size e) (Nat.le_trans I.ok.bsz z)) (Nat.lt_irrefl _)
  exfs := fun b hb z => (List.mem_cons.mp (I.stkSub b z)).elim (fun e => (hf b hb).2.1 e) fun e => (hf b hb).2.2.1 e
  funs := I.stack
  frf := I.stkFree
theorem comp_inv {h4 : Heap} {t' : Nat} (I : Inv X pins σ H s) (cn : CompNames X N nt fr scope cl) (hf : ∀ b ∈ fp, FpOk X pins H b) (ho : ∀ b ∈ fp, b < s.heap.objs.size)
    (k : ∀ b o, s.heap.get? b = some o → h4.get? b = some o) (hns : ∃ m, h4.Ns s.heap.objs.size m) : Inv (cxComp X N scope cl pins s H fp) [] (compStart0 nt fr σ) H { s with heap := h4, toks := t' } := by
  have ck : ∀ {c : Addr} {v : Option Value}, s.heap.IsCell c v → h4.IsCell c v := fun ⟨o, e, d⟩ => ⟨o, k _ o e, d⟩
  refine ⟨comp_ok I cn hf ho, rfl, I.bare, Un.kept k, ?_, fun x c e => ?_, ?_, fun x c e => ?_, fun p hp => ?_, I.hok.kept k, ?_⟩
  · obtain ⟨m, hm⟩ := hns
    refine ⟨m, hm, fun i x v e1 e2 _ => ?_⟩
    have e2 : (compStart0 nt fr σ)[i]? = some (some v) := e2
    have e1 : N[i]? = some x := e1
    unfold compStart0 at e2
    by_cases hi : i < nt
    · rw [List.getElem?_append_left (by simpa using hi), List.getElem?_replicate, if_pos hi] at e2
      cases e2
    · obtain ⟨j, rfl⟩ : ∃ j, i = nt + j := ⟨i - nt, by omega⟩
      rw [List.getElem?_append_right (by simp), List.length_replicate, Nat.add_sub_cancel_left, List.getElem?_map] at e2
      cases hj : fr[j]? with
      | none => rw [hj] at e2; cases e2
      | some i' =>
        rw [hj] at e2
        have e2 : (σ[i']?).getD none = some v := Option.some.inj e2
        have e3 : σ[i']? = some (some v) := by
          cases q : σ[i']? with
          | none => rw [q] at e2; cases e2
          | some o => rw [q] at e2; rw [show o = some v from e2]
        obtain ⟨hN, ⟨c, hc⟩, hk, hk'⟩ := cn.free j i' x hj e1
        obtain ⟨m0, _, hl⟩ := I.loc
        obtain ⟨u, r, l⟩ := hl i' x v hN e3 (Vis_of_cell hk)
        refine ⟨u, r, .inr ⟨hk', c, hc, ?_⟩⟩
        rcases l with ⟨hl', _⟩ | ⟨_, c', hc', hcell⟩
        · rcases hk with z | z <;> (rw [hl'] at z; cases z)
        · have hcc := cn.cells x c hc
          rw [hc'] at hcc; cases hcc
          exact ck hcell
  · obtain ⟨v, hv⟩ := I.cell x c (cn.cells x c e)
    exact ⟨v, ck hv⟩
  · exact I.hok.fresh (Nat.le_refl _)
  · exact I.freeC x c (cn.cells x c e)
  · have hp : p ∈ (X.pn ++ pins) ++ [] := hp
    rw [List.append_nil] at hp
    obtain ⟨e, n, ne, nf, d⟩ := I.pin p hp
    exact ⟨k p.1 p.2 e, n, Nat.ne_of_lt (Heap.lt_size e), fun z => (List.mem_cons.mp (I.stkSub p.1 z)).elim ne nf, d⟩
  · show (compStart0 nt fr σ).length = N.length
    unfold compStart0
    rw [cn.len, List.length_append, List.length_replicate, List.length_map]
/-- behind the block -/
theorem comp_back {H' : Hp} {s1 s' : Shared} {h' : Heap} {σ' : St} (I : Inv X pins σ H s) (hsz : s.heap.objs.size ≤ s1.heap.objs.size) (hos : s1.os = s.os) {H1 : Hp} (hH : Un (frs X.stack) fp H H1 s.heap s1.heap)
    (hf : ∀ b ∈ fp, FpOk X pins H b)
    (J : Inv (cxComp X N scope cl pins s1 H1 fp) [] σ' H' s') (sb : Heap.SameBut s1.heap.objs.size s'.heap h') : Inv X pins σ H' { s' with heap := h' } := by
  have u : Un (frs X.stack) fp H H' s.heap s'.heap := hH.trans J.base
  have lt : ∀ b o, s.heap.get? b = some o → b ≠ s1.heap.objs.size := fun b o e => Nat.ne_of_lt (Nat.lt_of_lt_of_le (Heap.lt_size e) hsz)
  have kk : ∀ b o, b ≠ s1.heap.objs.size → s'.heap.get? b = some o → h'.get? b = some o := fun b o hb e => sb.extBut b o hb e
  have u' : Un (frs X.stack) fp H H' s.heap h' := ⟨fun b o e n hb hx => kk b o (lt b o e) (u.keep b o e n hb hx), fun b o e n hb hx => let ⟨sl, z⟩ := u.slot b o e n hb hx; ⟨sl, kk b _ (lt b o e) z⟩, u.free,
    fun b o e hx => let ⟨o', z⟩ := u.there b o e hx; ⟨o', kk b o' (lt b o e) z⟩, u.tups, u.frzs, u.tbls⟩
  have nC : H' s1.heap.objs.size = none := J.free
  refine I.call' (s' := { s' with heap := h' }) (ch := fp) (J.os.trans hos) u' (fun a o e => ?_) J.bare fun b hb => ⟨(hf b hb).2.2.2.1, (hf b hb).2.1, (hf b hb).2.2.2.2.1, (hf b hb).2.2.2.2.2⟩
  refine (J.hok a o e).stay (fun b v hb q => kk b v ?_ q) (fun _ q => q) fun _ _ q => q
  rcases hb with z | z
  · rintro rfl
    rw [← z, nC] at e; cases e
  · rintro rfl
    rw [nC] at z; cases z
end
def freeB (X : Cx) (N : List Str) (nt : Nat) (scope : Scope) : List Nat → Nat → Bool
  | [], _ => true
  | i :: r, j => (match N[nt + j]? with
    | some x => decide (X.N[i]? = some x) && decide (scope.names.lookup x = some .free) && (decide (X.env.kindOf x = some .cell) || decide (X.env.kindOf x = some .free))
    | none => false) && freeB X N nt scope r (j + 1)
theorem freeB_at {X : Cx} {N : List Str} {nt : Nat} {scope : Scope} : ∀ {fr : List Nat} {k : Nat}, freeB X N nt scope fr k = true → ∀ (j i : Nat) (x : Str), fr[j]? = some i → N[nt + (k + j)]? = some x →
    X.N[i]? = some x ∧ scope.names.lookup x = some .free ∧ (X.env.kindOf x = some .cell ∨ X.env.kindOf x = some .free)
  | [], _, _, j, i, x, e, _ => by simp at e
  | i0 :: r, k, h, j, i, x, e1, e2 => by
    unfold freeB at h
    rw [Bool.and_eq_true] at h
    obtain ⟨h1, h2⟩ := h
    cases j with
    | zero =>
      have e1 : i0 = i := by simpa using e1
      subst e1
      rw [Nat.add_zero] at e2
      rw [e2] at h1
      simp only [Bool.and_eq_true, Bool.or_eq_true, decide_eq_true_eq] at h1
      exact ⟨h1.1.1, h1.1.2, h1.2⟩
    | succ j =>
      exact freeB_at h2 j i x (by simpa using e1) (by rw [show nt + (k + 1 + j) = nt + (k + (j + 1)) by omega]; exact e2)
theorem lookup_relabel {env : Env} : ∀ {names : List (Str × NameKind)} {x : Str} {k' : NameKind},
    (names.map fun (n, k) => if (k == NameKind.free && env.scope.kind == .function && env.kindOf n == some .cell) then (n, NameKind.cell) else (n, k)).lookup x = some k' →
    ∃ k, names.lookup x = some k ∧ (k = k' ∨ (k = .free ∧ k' = .cell))
  | [], _, _, h => by simp at h
  | (n, k) :: r, x, k', h => by
    have h : List.lookup x ((if (k == NameKind.free && env.scope.kind == .function && env.kindOf n == some .cell) = true then (n, NameKind.cell) else (n, k)) :: r.map _) = some k' := h
    cases hx : x == n with
    | true =>
      by_cases hc : (k == NameKind.free && env.scope.kind == .function && env.kindOf n == some .cell) = true
      · rw [if_pos hc] at h
        simp only [List.lookup_cons, hx] at h
        have hk : k = .free := by
          simp only [Bool.and_eq_true, beq_iff_eq] at hc
          exact hc.1.1
        exact ⟨k, by simp [List.lookup_cons, hx], .inr ⟨hk, (Option.some.inj h).symm⟩⟩
      · rw [if_neg hc] at h
        simp only [List.lookup_cons, hx] at h
        exact ⟨k, by simp [List.lookup_cons, hx], .inl (Option.some.inj h)⟩
    | false =>
      have h2 : List.lookup x (r.map fun (n, k) => if (k == NameKind.free && env.scope.kind == .function && env.kindOf n == some .cell) then (n, NameKind.cell) else (n, k)) = some k' := by
        by_cases hc : (k == NameKind.free && env.scope.kind == .function && env.kindOf n == some .cell) = true
        · rw [if_pos hc] at h; simpa only [List.lookup_cons, hx] using h
        · rw [if_neg hc] at h; simpa only [List.lookup_cons, hx] using h
      obtain ⟨k2, e2, o2⟩ := lookup_relabel h2
      exact ⟨k2, by simp only [List.lookup_cons, hx]; exact e2, o2⟩
theorem relabel_free {env : Env} : ∀ {names : List (Str × NameKind)} {x : Str}, names.lookup x = some .free →
    (names.map fun (n, k) => if (k == NameKind.free && env.scope.kind == .function && env.kindOf n == some .cell) then (n, NameKind.cell) else (n, k)).lookup x = some .cell ∨
    (names.map fun (n, k) => if (k == NameKind.free && env.scope.kind == .function && env.kindOf n == some .cell) then (n, NameKind.cell) else (n, k)).lookup x = some .free
  | [], _, h => by simp at h
  | (n, k) :: r, x, h => by
    show List.lookup x ((if (k == NameKind.free && env.scope.kind == .function && env.kindOf n == some .cell) = true then (n, NameKind.cell) else (n, k)) :: r.map _) = some .cell ∨ List.lookup x ((if (k == NameKind.free && env.scope.kind == .function && env.kindOf n == some .cell) = true then (n, NameKind.cell) else (n, k)) :: r.map _) = some .free
    cases hx : x == n with
    | true =>
      simp only [List.lookup_cons, hx] at h
      cases h
      by_cases hc : (NameKind.free == NameKind.free && env.scope.kind == .function && env.kindOf n == some .cell) = true
      · rw [if_pos hc]; left; simp [List.lookup_cons, hx]
      · rw [if_neg hc]; right; simp [List.lookup_cons, hx]
    | false =>
      simp only [List.lookup_cons, hx] at h
      have ih := relabel_free (env := env) h
      by_cases hc : (k == NameKind.free && env.scope.kind == .function && env.kindOf n == some .cell) = true
      · rw [if_pos hc]; simpa only [List.lookup_cons, hx] using ih
      · rw [if_neg hc]; simpa only [List.lookup_cons, hx] using ih
theorem closOf_has {env : Env} : ∀ {names : List (Str × NameKind)} {cl : List (Str × Addr)}, closOf env names = some cl → ∀ x, names.lookup x = some .free → ∃ c, cl.lookup x = some c
  | [], _, _, x, e => by simp at e
  | (n, k) :: r, cl, h, x, e => by
    unfold closOf at h
    by_cases hk : k = .free
    · rw [if_pos hk] at h
      cases hc : env.cells.lookup n with
      | none => rw [hc] at h; cases h
      | some c' =>
        rw [hc] at h
        have h : (closOf env r).map (fun cl => cl ++ [(n, c')]) = some cl := h
        cases hr : closOf env r with
        | none => rw [hr] at h; cases h
        | some cl' =>
          rw [hr] at h
          have h : cl' ++ [(n, c')] = cl := Option.some.inj h
          subst h
          rw [List.lookup_append]
          cases h2 : cl'.lookup x with
          | some c2 => exact ⟨c2, by simp⟩
          | none =>
            cases hx : x == n with
            | true => exact ⟨c', by simp [List.lookup_cons, hx]⟩
            | false =>
              simp only [List.lookup_cons, hx] at e
              obtain ⟨c3, e3⟩ := closOf_has hr x e
              rw [h2] at e3; cases e3
    · rw [if_neg hk] at h
      cases hx : x == n with
      | true =>
        simp only [List.lookup_cons, hx] at e
        exact absurd (Option.some.inj e) hk
      | false =>
        simp only [List.lookup_cons, hx] at e
        exact closOf_has h x e
theorem CompNames.of {X : Cx} {N : List Str} {nt : Nat} {fr : List Nat} {scope : Scope} {cl : List (Str × Addr)} (hcl : closOf X.env scope.names = some cl) (hlen : N.length = nt + fr.length) (hB : freeB X N nt scope fr 0 = true)
    (hcell : ∀ y ∈ scope.names, y.2 ≠ .cell) (hkind : scope.kind = .function) : CompNames X N nt fr scope cl where
  len := hlen
  free := fun j i x e1 e2 => by
    obtain ⟨h1, h2, h3⟩ := freeB_at hB j i x e1 (by rw [Nat.zero_add]; exact e2)
    exact ⟨h1, closOf_has hcl x h2, h3, relabel_free h2⟩
  cells := closOf_lookup hcl
  has := fun x hx => by
    have : scope.names.lookup x = some .free := by
      rcases hx with hx | hx
      · obtain ⟨k, e, o⟩ := lookup_relabel (names := scope.names) (env := X.env) hx
        rcases o with rfl | ⟨rfl, _⟩
        · exact absurd rfl (hcell _ (PySem.mem_of_lookup e))
        · exact e
      · obtain ⟨k, e, o⟩ := lookup_relabel (names := scope.names) (env := X.env) hx
        rcases o with rfl | ⟨rfl, _⟩
        · exact e
        · exact e
    exact closOf_has hcl x this
  kind := hkind
def PIf (X : Cx) (ifs : List Expr) (t : TT) : Prop :=
  ∀ (pins : List (Addr × Obj)) (s : Shared) (σ : St) (H : Hp) (Q : Bool → Hp → Prop), Inv X pins σ H s → t σ H Q →
    wpAny (model X.prog X.w) X.A (forIn ifs true fun c r => if r = true then do let ok ← isTrue c X.env (eval c X.env); pure (ForInStep.yield ok) else pure (ForInStep.yield r)) (TP X pins σ Q) X.xe s
def tTrue : TT := fun _ H Q => Q true H
theorem pif_nil {X : Cx} : PIf X [] tTrue := fun _ _ _ H _ I h => wpAny_pure ⟨H, I, h⟩
/-- W: turn, measure, the block's names, the list so far, the heap -/
def CompGoal (J : It) (nt : Nat) (fr : List Nat) (g : TG) (c : TT) (te : TE) (σ : St) (H1 : Hp) (Q : VK) (acc : Addr) : Prop :=
  ∃ W : Nat → Nat → St → List V → Hp → Prop, (∃ m, W 0 m (compStart0 nt fr σ) [] (upd H1 acc (.lst []))) ∧ ∀ i m σ' ys H', W i m σ' ys H' → H' acc = some (.lst ys) ∧
    ((J.stop i H' ∧ Q (.ref acc) H') ∨ (J.go i H' ∧ ∀ x H2, J.yld i H' x H2 → g x σ' H2 fun σ2 H3 => c σ2 H3 fun b H4 => if b = true then
      te σ2 H4 fun y H5 => ys.length < sizeLine ∧ H5 acc = some (.lst ys) ∧ ∃ m', m' < m ∧ W (i + 1) m' σ2 (ys ++ [y]) (upd H5 acc (.lst (ys ++ [y])))
      else ∃ m', m' < m ∧ W (i + 1) m' σ2 ys H4))
def tComp (wi : TI) (nt : Nat) (fr : List Nat) (g : TG) (c : TT) (te : TE) : TE := fun σ H Q => wi σ H fun J H1 => ∀ acc, H1 acc = none → CompGoal J nt fr g c te σ H1 Q acc
section
variable {X : Cx} {target iter elt : Expr} {ifs : List Expr} {scope : Scope} {pos : Pos} {N : List Str} {nt : Nat} {fr : List Nat} {cl : List (Str × Addr)} {wi : TI} {g : TG} {c : TT} {te : TE}
theorem comp_fp {pins : List (Addr × Obj)} {σ : St} {H H1 : Hp} {s : Shared} {fp : List Addr} (I : Inv X pins σ H s) (cn : CompNames X N nt fr scope cl) (hf : ∀ b ∈ fp, FpOk X pins H b) (ho : ∀ b ∈ fp, b < s.heap.objs.size) {H' : Hp} (hn : ∀ b ∈ fp, H' b = none) :
    ∀ b ∈ fp, FpOk (cxComp X N scope cl pins s H1 fp) [] H' b := fun b hb =>
  ⟨hn b hb, Nat.ne_of_lt (ho b hb), fun z => (List.mem_cons.mp (I.stkSub b z)).elim (hf b hb).2.1 (hf b hb).2.2.1, .inl hb, fun x c e => (hf b hb).2.2.2.2.1 x c (cn.cells x c e), fun p hp => (hf b hb).2.2.2.2.2 p (by
    have hp : p ∈ (X.pn ++ pins) ++ [] := hp
    rw [List.append_nil] at hp
    exact hp)⟩
/-- the block, from the iterator on -/
theorem comp_block {pins : List (Addr × Obj)} {σ : St} {s : Shared} {Q : VK} {itv : Value} {RR : Value → Addr → Result → Shared → Prop} {E : Value → Shared → Prop}
    (hc : X.calm = true) (cn : CompNames X N nt fr scope cl) (hcell : ∀ y ∈ scope.names, y.2 ≠ .cell)
    (hg : ∀ pins s H fp, PG (cxComp X N scope cl pins s H fp) target g) (hif : ∀ pins s H fp, PIf (cxComp X N scope cl pins s H fp) ifs c) (he : ∀ pins s H fp, PE (cxComp X N scope cl pins s H fp) elt te)
    (h : PIE X pins σ target (fun J H1 => ∀ acc, H1 acc = none → CompGoal J nt fr g c te σ H1 Q acc) itv s)
    (hRR : ∀ (acc C : Addr) (s' : Shared) (H' : Hp), (∃ m, s'.heap.Ns C m) → Inv X pins σ H' s' → FpOk X pins H' C → Q (.ref acc) H' → RR (.ref acc) C (.ok .next) s') :
    wpAny (model X.prog X.w) X.A (newList []) (fun acc s₃ => wpAny (model X.prog X.w) X.A (newFunctionEnv scope X.env.globals cl [] X.env.qual none .none (some X.env)) (fun cenv s₄ =>
      codeAny (model X.prog X.w) X.A (.compStart (.ListComp elt [⟨target, iter, ifs, 0⟩] scope pos) 0 itv acc { cenv with scope := relabel scope X.env }) (RR acc cenv.locals) s₄) E s₃) E s := by
  obtain ⟨it, fp, tn, J, H2, e, I2, T, st2, f2, R⟩ := h
  subst e
  have fo : ∀ b ∈ fp, b < s.heap.objs.size := fun b hb => let ⟨o, e, _⟩ := T.obj 0 _ st2 b hb; Heap.lt_size e
  refine wpAny_newObj_type (wpAny_newFunctionEnv hcell (by intro y hy; simp at hy) (fun h₁ hns₁ hsb₁ => ?_) cn.kind)
  dsimp only at hns₁ hsb₁ ⊢
  have ha : H2 s.heap.objs.size = none := I2.hok.fresh (Nat.le_refl _)
  have I3 : Inv X pins σ (upd H2 s.heap.objs.size (.lst [])) { s with heap := s.heap.push { cls := .type "list", data := .seq ([] : List Value).toArray } } :=
    I2.laid (t' := s.toks) (fun b u e => Heap.get?_push_of_some _ e) (Nat.le_refl _) ⟨Nat.zero_le _, [], 0, .nil, Heap.get?_push_size _ rfl⟩
  generalize hs3 : ({ s with heap := s.heap.push { cls := .type "list", data := .seq ([] : List Value).toArray } } : Shared) = s3 at I3
  have hh3 : s3.heap = s.heap.push { cls := .type "list", data := .seq ([] : List Value).toArray } := by rw [← hs3]
  have hsz : s3.heap.objs.size = s.heap.objs.size + 1 := by rw [hh3, Heap.size_push]
  have fne : ∀ b ∈ fp, b ≠ s.heap.objs.size := fun b hb => Nat.ne_of_lt (fo b hb)
  have f3 : ∀ b ∈ fp, FpOk X pins (upd H2 s.heap.objs.size (.lst [])) b := fun b hb => ⟨by rw [upd_ne (fne b hb)]; exact (f2 b hb).1, (f2 b hb).2⟩
  have fo3 : ∀ b ∈ fp, b < s3.heap.objs.size := fun b hb => by rw [hsz]; exact Nat.lt_succ_of_lt (fo b hb)
  have k3 : ∀ b o, s3.heap.get? b = some o → h₁.get? b = some o := fun b o e => hsb₁.extBut b o (by rw [← hh3]; exact Nat.ne_of_lt (Heap.lt_size e)) (by rw [← hh3]; exact Heap.get?_push_of_some _ e)
  have hns : ∃ m, h₁.Ns s3.heap.objs.size m := ⟨_, by rw [hh3]; exact hns₁⟩
  have I4 : Inv (cxComp X N scope cl pins s3 (upd H2 s.heap.objs.size (.lst [])) fp) [] (compStart0 nt fr σ) (upd H2 s.heap.objs.size (.lst [])) { s3 with heap := h₁, toks := s3.toks + ([] : List (Str × Value)).length } := comp_inv I3 cn f3 fo3 k3 hns
  have st4 : tn 0 h₁ := T.keep 0 _ _ st2 fun b hb o e => k3 b o (by rw [hh3]; exact Heap.get?_push_of_some _ e)
  obtain ⟨W, ⟨m0, w0⟩, turn⟩ := R s.heap.objs.size ha
  have stat : ∀ {H' : Hp}, (∀ b ∈ fp, H' b = none) → ∀ b ∈ fp, FpOk (cxComp X N scope cl pins s3 (upd H2 s.heap.objs.size (.lst [])) fp) [] H' b := fun hn => comp_fp I3 cn f3 fo3 hn
  have hH : Un (frs X.stack) fp H2 (upd H2 s.heap.objs.size (.lst [])) s.heap s3.heap := by
    rw [hh3]
    exact Un.laid (fun b u e => Heap.get?_push_of_some _ e) (Nat.le_refl _) ha
  have back : ∀ {σ' : St} {H' : Hp} {s' : Shared} {h' : Heap}, Inv (cxComp X N scope cl pins s3 (upd H2 s.heap.objs.size (.lst [])) fp) [] σ' H' s' → Heap.SameBut s3.heap.objs.size s'.heap h' → Inv X pins σ H' { s' with heap := h' } := fun J' sb =>
    comp_back I2 (by rw [hsz]; exact Nat.le_succ _) (by rw [← hs3]) hH f2 J' sb
  have loop : codeAny (model X.prog X.w) X.A (.compLoop (.ListComp elt [⟨target, iter, ifs, 0⟩] scope pos) 0 (.ref it) (.ref s.heap.objs.size) (compEnvC scope cl s3.heap.objs.size X.env)) (RR (.ref s.heap.objs.size) s3.heap.objs.size)
      { s3 with heap := h₁, toks := s3.toks + ([] : List (Str × Value)).length } := by
    refine comp_loop (fun n s' => ∃ i σ' ys H', Inv (cxComp X N scope cl pins s3 (upd H2 s.heap.objs.size (.lst [])) fp) [] σ' H' s' ∧ tn i s'.heap ∧ (∀ b ∈ fp, H' b = none) ∧ W i n σ' ys H') ?_ m0
      ⟨0, _, [], _, I4, st4, fun b hb => (f3 b hb).1, w0⟩
    rintro n s5 ⟨i, σ5, ys, H5, I5, st5, fr5, w5⟩
    obtain ⟨hacc, step⟩ := turn i n σ5 ys H5 w5
    rcases step with ⟨stop, q⟩ | ⟨go, step⟩
    · refine thn (T.done (cxComp X N scope cl pins s3 (upd H2 s.heap.objs.size (.lst [])) fp) rfl rfl rfl hc i [] s5 σ5 H5 (fun _ _ => False) I5 (stat fr5) st5 stop) fun r s6 ⟨hr, I6⟩ => ?_
      subst hr
      obtain ⟨m, hm, _⟩ := I6.loc
      exact hRR _ _ s6 H5 ⟨m, hm⟩ (back I6 (Heap.SameBut.refl _ _)) (I2.fpOk (by rw [hsz]; exact Nat.le_succ _) I6.free) q
    · refine thn (T.item (cxComp X N scope cl pins s3 (upd H2 s.heap.objs.size (.lst [])) fp) rfl rfl rfl hc i [] s5 σ5 H5 (fun _ _ => False) I5 (stat fr5) st5 go) fun r s6 ⟨u, hr, h6⟩ => ?_
      subst hr
      refine thn h6 fun _ s7 ⟨x, H7, I7, r7, y7, st7, fr7⟩ => ?_
      have I7' := I7.pinned (stat fr7) (T.obj _ _ st7)
      refine thn (hg pins s3 _ fp _ s7 σ5 H7 x u _ I7' r7 (step x H7 y7)) fun _ s8 ⟨σ8, H8, I8, q8⟩ => ?_
      have keepT : ∀ {σ' : St} {H' : Hp} {s' : Shared}, Inv (cxComp X N scope cl pins s3 (upd H2 s.heap.objs.size (.lst [])) fp) ([] ++ pinsAt fp s7.heap) σ' H' s' → tn (i + 1) s'.heap ∧ ∀ b ∈ fp, H' b = none := fun {σ' H' s'} I' =>
        ⟨T.keep _ _ _ st7 fun b hb o e => (I'.pin (b, o) (List.mem_append_right _ (List.mem_append_right _ (mem_pinsAt hb e)))).1, fun b hb => by
          obtain ⟨o, e, d⟩ := T.obj _ _ st7 b hb
          exact (I'.pin (b, o) (List.mem_append_right _ (List.mem_append_right _ (mem_pinsAt hb e)))).2.1⟩
      refine thn (hif pins s3 _ fp _ s8 σ8 H8 _ I8 q8) fun ok s9 ⟨H9, I9, q9⟩ => ?_
      cases ok with
      | false =>
        have q9 : ∃ m', m' < n ∧ W (i + 1) m' σ8 ys H9 := q9
        obtain ⟨m', hm, w9⟩ := q9
        exact ⟨m', hm, i + 1, σ8, ys, H9, I9.unpinned, (keepT I9).1, (keepT I9).2, w9⟩
      | true =>
        rw [if_pos rfl]
        refine thn (he pins s3 _ fp _ s9 σ8 H9 _ I9 q9) fun z s10 ⟨y, H10, I10, r10, hz, ha10, m', hm, w10⟩ => ?_
        refine thn (mt_append _ s10 σ8 H10 (.ref s.heap.objs.size) [y] (.ref s.heap.objs.size) [z] (fun v H' => v = .non ∧ H' = upd H10 s.heap.objs.size (.lst (ys ++ [y]))) I10 rfl (.cons r10 .nil) ⟨_, ys, y, rfl, rfl, ha10, hz, rfl, rfl⟩) fun v s11 ⟨_, H11, I11, _, _, e11⟩ => ?_
        subst e11
        exact ⟨m', hm, i + 1, σ8, ys ++ [y], _, I11.unpinned, (keepT I11).1, (keepT I11).2, w10⟩
  have fin : codeAny (model X.prog X.w) X.A (.compStart (.ListComp elt [⟨target, iter, ifs, 0⟩] scope pos) 0 (.ref it) (.ref s.heap.objs.size) (compEnvC scope cl s3.heap.objs.size X.env)) (RR (.ref s.heap.objs.size) s3.heap.objs.size)
      { s3 with heap := h₁, toks := s3.toks + ([] : List (Str × Value)).length } :=
    codeAny_compStart_list loop (T.self _ 0 _ _ _ st4 loop)
  rw [← hs3] at fin
  exact fin
/-- name = [..] on one line: the store comes ahead of the block's end -/
theorem ps_setc {i : Nat} {y : Str} {py spos : Pos} (hN : X.N.Nodup) (hyi : X.N[i]? = some y) (hy : Loc X.env.scope y) (hi : PI X target iter wi) (hg : ∀ pins s H fp, PG (cxComp X N scope cl pins s H fp) target g) (hif : ∀ pins s H fp, PIf (cxComp X N scope cl pins s H fp) ifs c) (he : ∀ pins s H fp, PE (cxComp X N scope cl pins s H fp) elt te)
    (hsw : swapsWith (.ListComp elt [⟨target, iter, ifs, 0⟩] scope pos) (some (.Name y py)) spos.line X.env = pure true := by rfl)
    (hc : X.calm = true := by rfl) (hcl : closOf X.env scope.names = some cl := by rfl) (hlen : N.length = nt + fr.length := by rfl) (hB : freeB X N nt scope fr 0 = true := by rfl)
    (hcell : ∀ y ∈ scope.names, y.2 ≠ .cell := by decide +kernel) (hkind : scope.kind = .function := by rfl) (hnames : ∀ y ∈ scope.names, y.2 = .local → scope.names.lookup y.1 = some .local := by decide +kernel)
    (hs : ∀ x, foldedSetIterable iter X.env x = pure x := by intro _; rfl) (hf : X.fn y = true ∨ X.env.scope.names.lookup y = some .local := by first | exact .inl rfl | exact .inr rfl | assumption) :
    PS X (.Assign [.Name y py] (.ListComp elt [⟨target, iter, ifs, 0⟩] scope pos) spos) (tAsg (tComp wi nt fr g c te) (gName i)) := by
  intro pins s σ H D I h
  rw [exec_Assign_Name_used _ _ _ _ hsw]
  refine wpAny_bind (wpAny_standAt (wpAny_bind ?_))
  show wpAny _ X.A (do let _ ← comprehension (.ListComp elt [⟨target, iter, ifs, 0⟩] scope pos) scope X.env _ (newList []) false (eval iter X.env) (some (assign (.Name y py) X.env))) _ _ s
  refine wpAny_bind (wpAny_mono (wpAny_comprehension_free (use := some (assign (.Name y py) X.env)) (Q := fun _ s' => SP X pins D .next s') rfl hs (closureFor_of hcl) hkind hnames (thn (hi pins s σ H _ I h) fun xv s1 h1 => thn h1 fun itv s2 h2 => ?_)) (fun _ s' hq => wpAny_pure (wpAny_pure hq)) fun _ _ e => e)
  refine comp_block (Q := fun x H1 => gName i x σ H1 D.nx) (RR := fun acc C => compPost (model X.prog X.w) X.A X.xe (some (assign (.Name y py) X.env)) (fun _ s' => SP X pins D .next s') acc C) hc (CompNames.of hcl hlen hB hcell hkind) hcell hg hif he h2 fun acc C s' H' ⟨m, hm⟩ hI hF hq => ?_
  show wpAny _ X.A (assign (.Name y py) X.env (.ref acc)) _ _ _
  refine wpAny_assign_Name (store_ok2 hI hN hyi hy (v := .ref acc) rfl (fun s3 I3 ⟨a, sb, ha⟩ => ?_) hf)
  have hne : C ≠ a := by
    rcases ha with rfl | ha
    · exact hF.2.1
    · exact fun z => hF.2.2.2.2.1 y a ha z.symm
  refine ⟨m, hm.sameBut sb hne, fun h' sb' => ⟨_, H', I3.turned (t' := s3.toks) (fun b o hb e => sb'.extBut b o hb e) hF.1 hF.2.1 hF.2.2.2.1 hF.2.2.2.2.1 hF.2.2.2.2.2, hq⟩⟩
end
structure ItemsOf (J : It) (xs : List V) (L : Hp → Prop) : Prop where
  go : ∀ i H, L H → i < xs.length → J.go i H
  yld : ∀ i H x H', L H → i < xs.length → J.yld i H x H' → H' = H ∧ xs[i]? = some x
  stop : ∀ H, L H → J.stop xs.length H
def rangeV (lo : Int) (n : Nat) : List V := (List.range n).map fun i : Nat => V.int (lo + (i : Int))
theorem items_range {lo : Int} {n : Nat} : ItemsOf (Itr lo n) (rangeV lo n) (fun _ => True) :=
  ⟨fun i H _ hi => by show i < n; simpa [rangeV] using hi, fun i H x H' _ hi y => ⟨y.1, by
    have hi : i < n := by simpa [rangeV] using hi
    rw [y.2]; simp [rangeV, hi]⟩, fun H _ => by show n ≤ _; simp [rangeV]⟩
/-- what stands between two turns: Pv (turn, the list so far, the heap); nt own names, the others are fvs -/
def CompW (xs : List V) (nt : Nat) (fvs : St) (Pv : Nat → List V → Hp → Prop) : Nat → Nat → St → List V → Hp → Prop := fun i m σ' ys H' =>
  m = xs.length - i ∧ i ≤ xs.length ∧ Pv i ys H' ∧ ∃ tv : List (Option V), tv.length = nt ∧ σ' = tv ++ fvs
theorem CompW.next {xs : List V} {nt : Nat} {fvs : St} {Pv : Nat → List V → Hp → Prop} {i : Nat} {tv : List (Option V)} {ys : List V} {H : Hp} (hi : i < xs.length) (p : Pv (i + 1) ys H) (ht : tv.length = nt) :
    ∃ m', m' < xs.length - i ∧ CompW xs nt fvs Pv (i + 1) m' (tv ++ fvs) ys H := ⟨xs.length - (i + 1), by omega, rfl, hi, p, tv, ht, rfl⟩
/-- a comprehension by its word -/
theorem comp_by {J : It} {xs : List V} {L : Hp → Prop} {σ : St} {H1 : Hp} {nt : Nat} {fr : List Nat} {g : TG} {c : TT} {te : TE} {Q : VK} {acc : Addr} (it : ItemsOf J xs L) (Pv : Nat → List V → Hp → Prop)
    (h0 : Pv 0 [] (upd H1 acc (.lst []))) (hL : ∀ i ys H', i ≤ xs.length → Pv i ys H' → L H' ∧ H' acc = some (.lst ys))
    (turn : ∀ i x tv ys H', xs[i]? = some x → i < xs.length → Pv i ys H' → tv.length = nt → g x (tv ++ fr.map fun i => (σ[i]?).getD none) H' fun σ2 H3 =>
      c σ2 H3 fun b H4 => if b = true then te σ2 H4 fun y H5 => ys.length < sizeLine ∧ H5 acc = some (.lst ys) ∧ ∃ m', m' < xs.length - i ∧ CompW xs nt (fr.map fun i => (σ[i]?).getD none) Pv (i + 1) m' σ2 (ys ++ [y]) (upd H5 acc (.lst (ys ++ [y])))
        else ∃ m', m' < xs.length - i ∧ CompW xs nt (fr.map fun i => (σ[i]?).getD none) Pv (i + 1) m' σ2 ys H4)
    (hd : ∀ ys H', Pv xs.length ys H' → Q (.ref acc) H') : CompGoal J nt fr g c te σ H1 Q acc := by
  refine ⟨CompW xs nt (fr.map fun i => (σ[i]?).getD none) Pv, ⟨xs.length, by simp, Nat.zero_le _, h0, List.replicate nt none, by simp, rfl⟩, ?_⟩
  rintro i m σ' ys H' ⟨rfl, hi, p, tv, htv, rfl⟩
  obtain ⟨l, ha⟩ := hL i ys H' hi p
  refine ⟨ha, ?_⟩
  by_cases hlt : i < xs.length
  · refine .inr ⟨it.go i H' l hlt, fun x H2 y => ?_⟩
    obtain ⟨rfl, hx⟩ := it.yld i H' x H2 l hlt y
    exact turn i x tv ys H2 hx hlt p htv
  · have e : i = xs.length := by omega
    subst e
    exact .inl ⟨it.stop H' l, hd ys H' p⟩
end L2
set_option Elab.async false
set_option linter.all false
set_option maxRecDepth 100000
set_option maxHeartbeats 4000000
namespace L2
open PySem PySem.Spec PyProof.Rows PySem.SeqAt
inductive Dt where
  | non | bl (b : Bool) | int (i : Int) | str (x : Str) | lst (xs : List Dt) | tup (xs : List Dt)
mutual
def Rep (K : PySem.W.Frag) (H : Hp) : Dt → V → Prop
  | .non, v => v = .non
  | .bl b, v => v = .bl b
  | .int i, v => v = .int i
  | .str x, v => v = .str x
  | .lst ds, v => ∃ p xs, v = .ref p ∧ SqL K H p xs ∧ Reps K H ds xs
  | .tup ds, v => ∃ p xs, v = .ref p ∧ SqT K H p xs ∧ Reps K H ds xs
def Reps (K : PySem.W.Frag) (H : Hp) : List Dt → List V → Prop
  | [], xs => xs = []
  | d :: ds, xs => ∃ x r, xs = x :: r ∧ Rep K H d x ∧ Reps K H ds r
end
mutual
def eqDt : Dt → Dt → Bool
  | .non, .non => true
  | .bl a, .bl b => a == b
  | .bl a, .int b => (if a then 1 else 0) == b
  | .int a, .bl b => a == (if b then 1 else 0)
  | .int a, .int b => a == b
  | .str a, .str b => a == b
  | .lst xs, .lst ys => eqDts xs ys
  | .tup xs, .tup ys => eqDts xs ys
  | _, _ => false
def eqDts : List Dt → List Dt → Bool
  | [], [] => true
  | x :: xs, y :: ys => eqDt x y && eqDts xs ys
  | _, _ => false
end
mutual
def depD : Dt → Nat
  | .lst xs => depDs xs + 1
  | .tup xs => depDs xs + 1
  | _ => 0
def depDs : List Dt → Nat
  | [] => 0
  | x :: xs => max (depD x) (depDs xs)
end
theorem Reps.length {K : PySem.W.Frag} {H : Hp} : ∀ {ds : List Dt} {xs : List V}, Reps K H ds xs → ds.length = xs.length
  | [], xs, h => by rw [show xs = [] from by simpa [Reps] using h]; rfl
  | d :: ds, xs, h => by
    obtain ⟨x, r, rfl, _, h2⟩ : ∃ x r, xs = x :: r ∧ Rep K H d x ∧ Reps K H ds r := by simpa [Reps] using h
    simp [Reps.length h2]
theorem Reps.get {K : PySem.W.Frag} {H : Hp} : ∀ {ds : List Dt} {xs : List V} {j : Nat} {d : Dt}, Reps K H ds xs → ds[j]? = some d → ∃ x, xs[j]? = some x ∧ Rep K H d x
  | [], _, _, _, _, e => by simp at e
  | d0 :: ds, xs, j, d, h, e => by
    obtain ⟨x, r, rfl, h1, h2⟩ : ∃ x r, xs = x :: r ∧ Rep K H d0 x ∧ Reps K H ds r := by simpa [Reps] using h
    cases j with
    | zero =>
      have e : d0 = d := by simpa using e
      subst e
      exact ⟨x, rfl, h1⟩
    | succ j =>
      obtain ⟨y, e1, e2⟩ := Reps.get (j := j) h2 (by simpa using e)
      exact ⟨y, by simpa using e1, e2⟩
theorem depDs_get : ∀ {ds : List Dt} {j : Nat} {d : Dt}, ds[j]? = some d → depD d ≤ depDs ds
  | [], _, _, e => by simp at e
  | d0 :: ds, j, d, e => by
    cases j with
    | zero =>
      have e : d0 = d := by simpa using e
      subst e
      simp only [depDs]; omega
    | succ j =>
      have := depDs_get (ds := ds) (j := j) (d := d) (by simpa using e)
      simp only [depDs]; omega
theorem eqDts_all : ∀ (ds es : List Dt), ds.length = es.length → ((List.range ds.length).all fun j => eqDt (ds.getD j .non) (es.getD j .non)) = eqDts ds es
  | [], [], _ => rfl
  | [], _ :: _, h => by simp at h
  | _ :: _, [], h => by simp at h
  | d :: ds, e :: es, h => by
    have h : ds.length = es.length := by simpa using h
    rw [List.length_cons, List.range_succ_eq_map, List.all_cons, List.all_map]
    have := eqDts_all ds es h
    simp only [eqDts]
    rw [← this]
    rfl
theorem eqDts_length : ∀ (ds es : List Dt), ds.length ≠ es.length → eqDts ds es = false
  | [], [], h => by simp at h
  | [], _ :: _, _ => rfl
  | _ :: _, [], _ => rfl
  | d :: ds, e :: es, h => by
    have h : ds.length ≠ es.length := fun z => h (by simp [z])
    simp only [eqDts, eqDts_length ds es h, Bool.and_false]
mutual
theorem eqDt_refl : ∀ d : Dt, eqDt d d = true
  | .non => rfl
  | .bl b => by simp [eqDt]
  | .int i => by simp [eqDt]
  | .str x => by simp [eqDt]
  | .lst xs => by simp only [eqDt]; exact eqDts_refl xs
  | .tup xs => by simp only [eqDt]; exact eqDts_refl xs
theorem eqDts_refl : ∀ ds : List Dt, eqDts ds ds = true
  | [] => rfl
  | d :: ds => by simp only [eqDts, eqDt_refl d, eqDts_refl ds, Bool.and_true]
end
section
variable {X : Cx} {pins : List (Addr × Obj)} {σ : St} {H : Hp} {s : Shared}
theorem lst_not_tup {a : Addr} {xs ys : List V} (I : Inv X pins σ H s) (h : SqL X.K H a xs) (h' : SqT X.K H a ys) : False := by
  obtain ⟨its, _, pl, _⟩ := I.list h
  obtain ⟨its', _, pt, _⟩ := I.tuple h'
  obtain ⟨o, n, e, c, _, _⟩ := pl
  obtain ⟨o', e', c', _⟩ := pt
  rw [e] at e'; cases e'
  rw [c] at c'
  exact absurd c' (by decide)
mutual
theorem rep_inj (I : Inv X pins σ H s) : ∀ (d d' : Dt) (v : V), Rep X.K H d v → Rep X.K H d' v → d = d'
  | .non, d', v, h, h' => by
    have h : v = .non := by simpa [Rep] using h
    subst h
    cases d' <;> simp [Rep] at h' <;> rfl
  | .bl b, d', v, h, h' => by
    have h : v = .bl b := by simpa [Rep] using h
    subst h
    cases d' <;> simp [Rep] at h'
    rw [h']
  | .int b, d', v, h, h' => by
    have h : v = .int b := by simpa [Rep] using h
    subst h
    cases d' <;> simp [Rep] at h'
    rw [h']
  | .str b, d', v, h, h' => by
    have h : v = .str b := by simpa [Rep] using h
    subst h
    cases d' <;> simp [Rep] at h'
    rw [h']
  | .lst ds, d', v, h, h' => by
    obtain ⟨p, xs, rfl, hq, hr⟩ : ∃ p xs, v = .ref p ∧ SqL X.K H p xs ∧ Reps X.K H ds xs := by simpa only [Rep] using h
    cases d' with
    | lst es =>
      obtain ⟨p', ys, e, hq', hr'⟩ : ∃ p' ys, V.ref p = .ref p' ∧ SqL X.K H p' ys ∧ Reps X.K H es ys := by simpa only [Rep] using h'
      cases e
      rw [I.list_inj hq' hq] at hr'
      rw [reps_inj I ds es xs hr hr']
    | tup es =>
      obtain ⟨p', ys, e, hq', hr'⟩ : ∃ p' ys, V.ref p = .ref p' ∧ SqT X.K H p' ys ∧ Reps X.K H es ys := by simpa only [Rep] using h'
      cases e
      exact (lst_not_tup I hq hq').elim
    | _ => simp [Rep] at h'
  | .tup ds, d', v, h, h' => by
    obtain ⟨p, xs, rfl, hq, hr⟩ : ∃ p xs, v = .ref p ∧ SqT X.K H p xs ∧ Reps X.K H ds xs := by simpa only [Rep] using h
    cases d' with
    | tup es =>
      obtain ⟨p', ys, e, hq', hr'⟩ : ∃ p' ys, V.ref p = .ref p' ∧ SqT X.K H p' ys ∧ Reps X.K H es ys := by simpa only [Rep] using h'
      cases e
      rw [I.tuple_inj hq' hq] at hr'
      rw [reps_inj I ds es xs hr hr']
    | lst es =>
      obtain ⟨p', ys, e, hq', hr'⟩ : ∃ p' ys, V.ref p = .ref p' ∧ SqL X.K H p' ys ∧ Reps X.K H es ys := by simpa only [Rep] using h'
      cases e
      exact (lst_not_tup I hq' hq).elim
    | _ => simp [Rep] at h'
theorem reps_inj (I : Inv X pins σ H s) : ∀ (ds es : List Dt) (xs : List V), Reps X.K H ds xs → Reps X.K H es xs → ds = es
  | [], es, xs, h, h' => by
    have h : xs = [] := by simpa [Reps] using h
    subst h
    cases es with
    | nil => rfl
    | cons e es => simp [Reps] at h'
  | d :: ds, es, xs, h, h' => by
    obtain ⟨x, r, rfl, h1, h2⟩ : ∃ x r, xs = x :: r ∧ Rep X.K H d x ∧ Reps X.K H ds r := by simpa only [Reps] using h
    cases es with
    | nil => simp [Reps] at h'
    | cons e es =>
      obtain ⟨x', r', e', h1', h2'⟩ : ∃ x' r', x :: r = x' :: r' ∧ Rep X.K H e x' ∧ Reps X.K H es r' := by simpa only [Reps] using h'
      cases e'
      rw [rep_inj I d e x h1 h1', reps_inj I ds es r h2 h2']
end
/-- the two answers, for == and for !=, and eqBool -/
structure Eq3 (A : Around) (s : Shared) (u v : Value) (b : Bool) : Prop where
  eq : EqAt A s u v b
  rc : RcAt A s u v b
  ne : RcNeAt A s u v (!b)
theorem items_eq (I : Inv X pins σ H s) {n : Nat} {A : Around} (ih : ∀ (d d' : Dt) (x y : V) (u v : Value), depD d ≤ n → Rep X.K H d x → Rep X.K H d' y → RelV x u → RelV y v → Eq3 A.in1 s u v (eqDt d d'))
    {ds es : List Dt} {xs ys : List V} {us vs : List Value} (hd : depDs ds ≤ n) (hx : Reps X.K H ds xs) (hy : Reps X.K H es ys) (ru : Vals xs us) (rv : Vals ys vs) :
    ∀ j (h1 : j < us.toArray.size) (h2 : j < vs.toArray.size), EqAt A.in1 s us.toArray[j] vs.toArray[j] (eqDt (ds.getD j .non) (es.getD j .non)) := by
  intro j h1 h2
  have l1 : j < ds.length := by rw [hx.length, ru.length]; simpa using h1
  have l2 : j < es.length := by rw [hy.length, rv.length]; simpa using h2
  have e1 : ds[j]? = some ds[j] := by simp [l1]
  have e2 : es[j]? = some es[j] := by simp [l2]
  obtain ⟨x, ex, rx⟩ := hx.get e1
  obtain ⟨y, ey, ry⟩ := hy.get e2
  obtain ⟨u, eu, qu⟩ := ru.get ex
  obtain ⟨v, ev, qv⟩ := rv.get ey
  have h1' : j < us.length := by simpa using h1
  have h2' : j < vs.length := by simpa using h2
  have z1 : us.toArray[j] = u := by
    have : us[j]? = some us[j] := by simp [h1']
    rw [this] at eu
    simpa using eu
  have z2 : vs.toArray[j] = v := by
    have : vs[j]? = some vs[j] := by simp [h2']
    rw [this] at ev
    simpa using ev
  rw [z1, z2]
  have g1 : ds.getD j .non = ds[j] := by simp [List.getD, l1]
  have g2 : es.getD j .non = es[j] := by simp [List.getD, l2]
  rw [g1, g2]
  exact (ih _ _ x y u v (Nat.le_trans (depDs_get e1) hd) rx ry qu qv).eq
theorem eq3_lists (I : Inv X pins σ H s) {n : Nat} {A : Around} (hu : A.units < cLine) (ih : ∀ (d d' : Dt) (x y : V) (u v : Value), depD d ≤ n → Rep X.K H d x → Rep X.K H d' y → RelV x u → RelV y v → Eq3 A.in1 s u v (eqDt d d'))
    {ds es : List Dt} {p q : Addr} (hd : depDs ds ≤ n) (hp : Rep X.K H (.lst ds) (.ref p)) (hq : Rep X.K H (.lst es) (.ref q)) : Eq3 A s (.ref p) (.ref q) (eqDts ds es) := by
  obtain ⟨p', xs, e, lx, hx⟩ : ∃ p' xs, V.ref p = .ref p' ∧ SqL X.K H p' xs ∧ Reps X.K H ds xs := by simpa only [Rep] using hp
  cases e
  obtain ⟨q', ys, e, ly, hy⟩ : ∃ q' ys, V.ref q = .ref q' ∧ SqL X.K H q' ys ∧ Reps X.K H es ys := by simpa only [Rep] using hq
  cases e
  obtain ⟨us, ru, pu, _⟩ := I.list lx
  obtain ⟨vs, rv, pv', _⟩ := I.list ly
  have both : RcAt A s (.ref p) (.ref q) (eqDts ds es) ∧ RcNeAt A s (.ref p) (.ref q) (!eqDts ds es) := by
    by_cases hl : ds.length = es.length
    · have hsz : us.toArray.size = vs.toArray.size := by simp [← ru.length, ← rv.length, ← hx.length, ← hy.length, hl]
      have hz : us.toArray.size = ds.length := by simp [← ru.length, ← hx.length]
      have a := RcAt.lists pu.isList pv'.isList hsz hu (items_eq I ih hd hx hy ru rv)
      have b := RcNeAt.lists pu.isList pv'.isList hsz hu (items_eq I ih hd hx hy ru rv)
      rw [hz, eqDts_all ds es hl] at a b
      exact ⟨a, b⟩
    · have hsz : (us.toArray.size != vs.toArray.size) = true := by simp [← ru.length, ← rv.length, ← hx.length, ← hy.length, hl]
      rw [eqDts_length ds es hl]
      exact ⟨RcAt.lists_lengths pu.isList pv'.isList hsz hu, RcNeAt.lists_lengths pu.isList pv'.isList hsz hu⟩
  refine ⟨?_, both.1, both.2⟩
  by_cases hpq : p = q
  · subst hpq
    have : ds = es := by
      rw [I.list_inj ly lx] at hy
      exact reps_inj I ds es xs hx hy
    subst this
    rw [eqDts_refl]
    exact EqAt.same _
  · exact EqAt.of_refs hpq both.1
theorem eq3_tups (I : Inv X pins σ H s) {n : Nat} {A : Around} (hu : A.units < cLine) (ih : ∀ (d d' : Dt) (x y : V) (u v : Value), depD d ≤ n → Rep X.K H d x → Rep X.K H d' y → RelV x u → RelV y v → Eq3 A.in1 s u v (eqDt d d'))
    {ds es : List Dt} {p q : Addr} (hd : depDs ds ≤ n) (hp : Rep X.K H (.tup ds) (.ref p)) (hq : Rep X.K H (.tup es) (.ref q)) : Eq3 A s (.ref p) (.ref q) (eqDts ds es) := by
  obtain ⟨p', xs, e, lx, hx⟩ : ∃ p' xs, V.ref p = .ref p' ∧ SqT X.K H p' xs ∧ Reps X.K H ds xs := by simpa only [Rep] using hp
  cases e
  obtain ⟨q', ys, e, ly, hy⟩ : ∃ q' ys, V.ref q = .ref q' ∧ SqT X.K H q' ys ∧ Reps X.K H es ys := by simpa only [Rep] using hq
  cases e
  obtain ⟨us, ru, pu, _⟩ := I.tuple lx
  obtain ⟨vs, rv, pv', _⟩ := I.tuple ly
  have hz : us.toArray.size = ds.length := by simp [← ru.length, ← hx.length]
  have hz' : vs.toArray.size = es.length := by simp [← rv.length, ← hy.length]
  have key : ((List.range (min us.toArray.size vs.toArray.size)).all (fun j => eqDt (ds.getD j .non) (es.getD j .non)) && us.toArray.size == vs.toArray.size) = eqDts ds es := by
    rw [hz, hz']
    by_cases hl : ds.length = es.length
    · rw [← hl, Nat.min_self, eqDts_all ds es hl]; simp
    · rw [eqDts_length ds es hl]; simp [hl]
  have a := RcAt.tuples pu pv' hu (items_eq I ih hd hx hy ru rv)
  have b := RcNeAt.tuples pu pv' hu (items_eq I ih hd hx hy ru rv)
  rw [key] at a b
  refine ⟨?_, a, b⟩
  by_cases hpq : p = q
  · subst hpq
    have : ds = es := by
      rw [I.tuple_inj ly lx] at hy
      exact reps_inj I ds es xs hx hy
    subst this
    rw [eqDts_refl]
    exact EqAt.same _
  · exact EqAt.of_refs hpq a
end
section
variable {X : Cx} {pins : List (Addr × Obj)} {σ : St} {H : Hp} {s : Shared}
theorem rep_ref_l {ds : List Dt} {x : V} (h : Rep X.K H (.lst ds) x) : ∃ p xs, x = .ref p ∧ SqL X.K H p xs := by
  obtain ⟨p, xs, e, l, _⟩ : ∃ p xs, x = .ref p ∧ SqL X.K H p xs ∧ Reps X.K H ds xs := by simpa only [Rep] using h
  exact ⟨p, xs, e, l⟩
theorem rep_ref_t {ds : List Dt} {x : V} (h : Rep X.K H (.tup ds) x) : ∃ p xs, x = .ref p ∧ SqT X.K H p xs := by
  obtain ⟨p, xs, e, l, _⟩ : ∃ p xs, x = .ref p ∧ SqT X.K H p xs ∧ Reps X.K H ds xs := by simpa only [Rep] using h
  exact ⟨p, xs, e, l⟩
theorem eq3_step (I : Inv X pins σ H s) {n : Nat} {A : Around} (ih : ∀ (d d' : Dt) (x y : V) (u v : Value), depD d < n → Rep X.K H d x → Rep X.K H d' y → RelV x u → RelV y v → Eq3 A.in1 s u v (eqDt d d'))
    {d d' : Dt} {x y : V} {u v : Value} (hu : A.units + n < cLine) (hd : depD d ≤ n) (hx : Rep X.K H d x) (hy : Rep X.K H d' y) (rx : RelV x u) (ry : RelV y v) : Eq3 A s u v (eqDt d d') := by
  have hu0 : A.units < cLine := by omega
  cases d with
  | non =>
    have e : x = V.non := by simpa [Rep] using hx
    subst e
    cases rx
    cases d' with
    | non =>
      have e : y = V.non := by simpa [Rep] using hy
      subst e
      cases ry
      exact ⟨(EqAt.same _), RcAt.none_none , RcNeAt.none_none ⟩
    | bl b =>
      have e : y = V.bl b := by simpa [Rep] using hy
      subst e
      cases ry
      exact ⟨(EqAt.none_bool b), RcAt.none_bool b, RcNeAt.none_bool b⟩
    | int b =>
      have e : y = V.int b := by simpa [Rep] using hy
      subst e
      obtain ⟨u, rfl⟩ := ry
      exact ⟨(EqAt.none_int b u), RcAt.none_int b u, RcNeAt.none_int b u⟩
    | str b =>
      have e : y = V.str b := by simpa [Rep] using hy
      subst e
      obtain ⟨u, rfl⟩ := ry
      exact ⟨(EqAt.none_str b u), RcAt.none_str b u, RcNeAt.none_str b u⟩
    | lst b =>
      obtain ⟨pW, xsW, rfl, lW⟩ := rep_ref_l hy
      cases ry
      obtain ⟨itW, _, plW, _⟩ := I.list lW
      exact ⟨EqAt.none_list  plW.isList hu0, RcAt.none_list  plW.isList hu0, RcNeAt.none_list  plW.isList hu0⟩
    | tup b =>
      obtain ⟨pW, xsW, rfl, lW⟩ := rep_ref_t hy
      cases ry
      obtain ⟨itW, _, plW, _⟩ := I.tuple lW
      exact ⟨EqAt.none_tuple  plW hu0, RcAt.none_tuple  plW hu0, RcNeAt.none_tuple  plW hu0⟩
  | bl a =>
    have e : x = V.bl a := by simpa [Rep] using hx
    subst e
    cases rx
    cases d' with
    | non =>
      have e : y = V.non := by simpa [Rep] using hy
      subst e
      cases ry
      exact ⟨(EqAt.bool_none a), RcAt.bool_none a, RcNeAt.bool_none a⟩
    | bl b =>
      have e : y = V.bl b := by simpa [Rep] using hy
      subst e
      cases ry
      exact ⟨(EqAt.bool_bool a b), RcAt.bool_bool a b, RcNeAt.bool_bool a b⟩
    | int b =>
      have e : y = V.int b := by simpa [Rep] using hy
      subst e
      obtain ⟨u, rfl⟩ := ry
      exact ⟨(EqAt.bool_int a b u), RcAt.bool_int a b u, RcNeAt.bool_int a b u⟩
    | str b =>
      have e : y = V.str b := by simpa [Rep] using hy
      subst e
      obtain ⟨u, rfl⟩ := ry
      exact ⟨(EqAt.bool_str a b u), RcAt.bool_str a b u, RcNeAt.bool_str a b u⟩
    | lst b =>
      obtain ⟨pW, xsW, rfl, lW⟩ := rep_ref_l hy
      cases ry
      obtain ⟨itW, _, plW, _⟩ := I.list lW
      exact ⟨EqAt.bool_list a plW.isList hu0, RcAt.bool_list a plW.isList hu0, RcNeAt.bool_list a plW.isList hu0⟩
    | tup b =>
      obtain ⟨pW, xsW, rfl, lW⟩ := rep_ref_t hy
      cases ry
      obtain ⟨itW, _, plW, _⟩ := I.tuple lW
      exact ⟨EqAt.bool_tuple a plW hu0, RcAt.bool_tuple a plW hu0, RcNeAt.bool_tuple a plW hu0⟩
  | int a =>
    have e : x = V.int a := by simpa [Rep] using hx
    subst e
    obtain ⟨t, rfl⟩ := rx
    cases d' with
    | non =>
      have e : y = V.non := by simpa [Rep] using hy
      subst e
      cases ry
      exact ⟨(EqAt.int_none a t), RcAt.int_none a t, RcNeAt.int_none a t⟩
    | bl b =>
      have e : y = V.bl b := by simpa [Rep] using hy
      subst e
      cases ry
      exact ⟨(EqAt.int_bool a t b), RcAt.int_bool a t b, RcNeAt.int_bool a t b⟩
    | int b =>
      have e : y = V.int b := by simpa [Rep] using hy
      subst e
      obtain ⟨u, rfl⟩ := ry
      exact ⟨(EqAt.int_int a t b u), RcAt.int_int a t b u, RcNeAt.int_int a t b u⟩
    | str b =>
      have e : y = V.str b := by simpa [Rep] using hy
      subst e
      obtain ⟨u, rfl⟩ := ry
      exact ⟨(EqAt.int_str a t b u), RcAt.int_str a t b u, RcNeAt.int_str a t b u⟩
    | lst b =>
      obtain ⟨pW, xsW, rfl, lW⟩ := rep_ref_l hy
      cases ry
      obtain ⟨itW, _, plW, _⟩ := I.list lW
      exact ⟨EqAt.int_list a t plW.isList hu0, RcAt.int_list a t plW.isList hu0, RcNeAt.int_list a t plW.isList hu0⟩
    | tup b =>
      obtain ⟨pW, xsW, rfl, lW⟩ := rep_ref_t hy
      cases ry
      obtain ⟨itW, _, plW, _⟩ := I.tuple lW
      exact ⟨EqAt.int_tuple a t plW hu0, RcAt.int_tuple a t plW hu0, RcNeAt.int_tuple a t plW hu0⟩
  | str a =>
    have e : x = V.str a := by simpa [Rep] using hx
    subst e
    obtain ⟨t, rfl⟩ := rx
    cases d' with
    | non =>
      have e : y = V.non := by simpa [Rep] using hy
      subst e
      cases ry
      exact ⟨(EqAt.str_none a t), RcAt.str_none a t, RcNeAt.str_none a t⟩
    | bl b =>
      have e : y = V.bl b := by simpa [Rep] using hy
      subst e
      cases ry
      exact ⟨(EqAt.str_bool a t b), RcAt.str_bool a t b, RcNeAt.str_bool a t b⟩
    | int b =>
      have e : y = V.int b := by simpa [Rep] using hy
      subst e
      obtain ⟨u, rfl⟩ := ry
      exact ⟨(EqAt.str_int a t b u), RcAt.str_int a t b u, RcNeAt.str_int a t b u⟩
    | str b =>
      have e : y = V.str b := by simpa [Rep] using hy
      subst e
      obtain ⟨u, rfl⟩ := ry
      exact ⟨(EqAt.str_str a t b u), RcAt.str_str a t b u, RcNeAt.str_str a t b u⟩
    | lst b =>
      obtain ⟨pW, xsW, rfl, lW⟩ := rep_ref_l hy
      cases ry
      obtain ⟨itW, _, plW, _⟩ := I.list lW
      exact ⟨EqAt.str_list a t plW.isList hu0, RcAt.str_list a t plW.isList hu0, RcNeAt.str_list a t plW.isList hu0⟩
    | tup b =>
      obtain ⟨pW, xsW, rfl, lW⟩ := rep_ref_t hy
      cases ry
      obtain ⟨itW, _, plW, _⟩ := I.tuple lW
      exact ⟨EqAt.str_tuple a t plW hu0, RcAt.str_tuple a t plW hu0, RcNeAt.str_tuple a t plW hu0⟩
  | lst a =>
    obtain ⟨pU, xsU, rfl, lU⟩ := rep_ref_l hx
    cases rx
    obtain ⟨itU, _, plU, _⟩ := I.list lU
    cases d' with
    | non =>
      have e : y = V.non := by simpa [Rep] using hy
      subst e
      cases ry
      exact ⟨EqAt.list_none  plU.isList hu0, RcAt.list_none  plU.isList hu0, RcNeAt.list_none  plU.isList hu0⟩
    | bl b =>
      have e : y = V.bl b := by simpa [Rep] using hy
      subst e
      cases ry
      exact ⟨EqAt.list_bool b plU.isList hu0, RcAt.list_bool b plU.isList hu0, RcNeAt.list_bool b plU.isList hu0⟩
    | int b =>
      have e : y = V.int b := by simpa [Rep] using hy
      subst e
      obtain ⟨u, rfl⟩ := ry
      exact ⟨EqAt.list_int b u plU.isList hu0, RcAt.list_int b u plU.isList hu0, RcNeAt.list_int b u plU.isList hu0⟩
    | str b =>
      have e : y = V.str b := by simpa [Rep] using hy
      subst e
      obtain ⟨u, rfl⟩ := ry
      exact ⟨EqAt.list_str b u plU.isList hu0, RcAt.list_str b u plU.isList hu0, RcNeAt.list_str b u plU.isList hu0⟩
    | lst b =>
      obtain ⟨pW, xsW, rfl, lW⟩ := rep_ref_l hy
      cases ry
      obtain ⟨itW, _, plW, _⟩ := I.list lW
      have hd : depDs a + 1 ≤ n := by simpa only [depD] using hd
      exact eq3_lists I (n := n - 1) hu0 (fun d d' x y u v h => ih d d' x y u v (by omega)) (by omega) hx hy
    | tup b =>
      obtain ⟨pW, xsW, rfl, lW⟩ := rep_ref_t hy
      cases ry
      obtain ⟨itW, _, plW, _⟩ := I.tuple lW
      exact ⟨EqAt.list_tuple plU.isList plW hu0, RcAt.list_tuple plU.isList plW hu0, RcNeAt.list_tuple plU.isList plW hu0⟩
  | tup a =>
    obtain ⟨pU, xsU, rfl, lU⟩ := rep_ref_t hx
    cases rx
    obtain ⟨itU, _, plU, _⟩ := I.tuple lU
    cases d' with
    | non =>
      have e : y = V.non := by simpa [Rep] using hy
      subst e
      cases ry
      exact ⟨EqAt.tuple_none  plU hu0, RcAt.tuple_none  plU hu0, RcNeAt.tuple_none  plU hu0⟩
    | bl b =>
      have e : y = V.bl b := by simpa [Rep] using hy
      subst e
      cases ry
      exact ⟨EqAt.tuple_bool b plU hu0, RcAt.tuple_bool b plU hu0, RcNeAt.tuple_bool b plU hu0⟩
    | int b =>
      have e : y = V.int b := by simpa [Rep] using hy
      subst e
      obtain ⟨u, rfl⟩ := ry
      exact ⟨EqAt.tuple_int b u plU hu0, RcAt.tuple_int b u plU hu0, RcNeAt.tuple_int b u plU hu0⟩
    | str b =>
      have e : y = V.str b := by simpa [Rep] using hy
      subst e
      obtain ⟨u, rfl⟩ := ry
      exact ⟨EqAt.tuple_str b u plU hu0, RcAt.tuple_str b u plU hu0, RcNeAt.tuple_str b u plU hu0⟩
    | lst b =>
      obtain ⟨pW, xsW, rfl, lW⟩ := rep_ref_l hy
      cases ry
      obtain ⟨itW, _, plW, _⟩ := I.list lW
      exact ⟨EqAt.tuple_list plU plW.isList hu0, RcAt.tuple_list plU plW.isList hu0, RcNeAt.tuple_list plU plW.isList hu0⟩
    | tup b =>
      obtain ⟨pW, xsW, rfl, lW⟩ := rep_ref_t hy
      cases ry
      obtain ⟨itW, _, plW, _⟩ := I.tuple lW
      have hd : depDs a + 1 ≤ n := by simpa only [depD] using hd
      exact eq3_tups I (n := n - 1) hu0 (fun d d' x y u v h => ih d d' x y u v (by omega)) (by omega) hx hy
end
section
variable {X : Cx} {pins : List (Addr × Obj)} {σ : St} {H : Hp} {s : Shared}
theorem eq3 (I : Inv X pins σ H s) : ∀ (n : Nat) (A : Around) (d d' : Dt) (x y : V) (u v : Value), A.units + n < cLine → depD d ≤ n → Rep X.K H d x → Rep X.K H d' y → RelV x u → RelV y v → Eq3 A s u v (eqDt d d') := by
  intro n
  induction n with
  | zero => exact fun A d d' x y u v hu hd hx hy rx ry => eq3_step I (n := 0) (fun _ _ _ _ _ _ h => absurd h (Nat.not_lt_zero _)) hu hd hx hy rx ry
  | succ n ih => exact fun A d d' x y u v hu hd hx hy rx ry => eq3_step I (n := n + 1) (fun d d' x y u v h hx hy rx ry => ih A.in1 d d' x y u v (by show A.units + 1 + n < cLine; omega) (Nat.le_of_lt_succ h) hx hy rx ry) hu hd hx hy rx ry
end
section
variable {X : Cx}
theorem op_ne_d {k : Nat} (hr : Room k X.A) : OpR X (compareOp .NotEq) (fun x y H Q => ∃ d d', Rep X.K H d x ∧ Rep X.K H d' y ∧ depD d ≤ 100 ∧ Q (.bl (!eqDt d d')) H) := by
  intro pins s σ H x y v u Q I rx ry h
  obtain ⟨d, d', h1, h2, hd, q⟩ := h
  exact (eq3 I 100 X.A d d' x y v u (by have := hr.un; omega) hd h1 h2 rx ry).ne X.prog X.w X.xe _ ⟨.bl _, H, I, rfl, q⟩
end
end L2
set_option Elab.async false
set_option linter.all false
set_option maxRecDepth 100000
set_option maxHeartbeats 4000000
namespace L2
open PySem PySem.Spec PyProof.Rows
def isW : V → Bool
  | .int _ => true
  | _ => false
def isIB : V → Bool
  | .int _ => true
  | .bl _ => true
  | _ => false
def isB : V → Bool
  | .bl _ => true
  | _ => false
theorem isW_eq (x : V) : isW x = (isIB x && !isB x) := by cases x <;> rfl
section
variable {K : PySem.W.Frag} {H H' : Hp} {x : V} {n : String}
theorem bt_int (h : TyOf K H x (.type n)) : clsIs K (.type n) (.ty "int") = some (isIB x) := by cases h <;> rfl
theorem bt_bool (h : TyOf K H x (.type n)) : clsIs K (.type n) (.ty "bool") = some (isB x) := by cases h <;> rfl
theorem bt_tuple (h : TyOf K H x (.type n)) : clsIs K (.type n) (.ty "tuple") = some (n == "tuple") := by cases h <;> rfl
theorem TyOf.same {t : Value} (e : Same H H') (h : TyOf K H x t) : TyOf K H' x t := by
  cases h with
  | non => exact .non
  | bl b => exact .bl b
  | int i => exact .int i
  | str y => exact .str y
  | flt y => exact .flt y
  | lst q => exact .lst (e _ _ q)
  | frz q => exact .frz (e _ _ q)
  | tup q => exact .tup (e _ _ q)
  | dK q => exact .dK (e _ _ q)
  | dT q => exact .dT (e _ _ q)
  | ins q c a b d m => exact .ins (e _ _ q) c a b d m
end
theorem atI_0 {α : Type} {c : α} {cs : List α} : atI (c :: cs) (0 : Int) = some c := atI_nat (j := 0) rfl
theorem atI_lt {α : Type} {xs : List α} {i : Int} (h0 : 0 ≤ i) (h1 : i < xs.length) : ∃ v, atI xs i = some v ∧ v ∈ xs := by
  obtain ⟨j, rfl⟩ : ∃ j : Nat, i = (j : Int) := ⟨i.toNat, by omega⟩
  have hj : j < xs.length := by omega
  exact ⟨xs[j], atI_nat (by simp [hj]), List.getElem_mem hj⟩
theorem Same.new {H : Hp} {p : Addr} {o : HO} (h : H p = none) : Same H (upd H p o) := fun b u e => by
  rw [upd_ne (ne_of_none e h)]
  exact e
theorem Same.tup {K : PySem.W.Frag} {H H' : Hp} {a : Addr} {xs : List V} (e : Same H H') (h : SqT K H a xs) : SqT K H' a xs := by
  rcases h with (h | ⟨o, h⟩) | h
  · exact .inl (.inl (e _ _ h))
  · exact .inl (.inr ⟨o, e _ _ h⟩)
  · exact .inr h
/-- all but the object at p is as it was -/
def Off (p : Addr) (H H' : Hp) : Prop := ∀ b, b ≠ p → H' b = H b
theorem Off.refl (p : Addr) (H : Hp) : Off p H H := fun _ _ => rfl
theorem Off.trans {p : Addr} {H H1 H2 : Hp} (a : Off p H H1) (b : Off p H1 H2) : Off p H H2 := fun c h => (b c h).trans (a c h)
theorem Off.upd {p : Addr} {H : Hp} {o : HO} : Off p H (upd H p o) := fun _ h => upd_ne h
theorem Off.seq {K : PySem.W.Frag} {p a : Addr} {H H' : Hp} {xs : List V} (e : Off p H H') (ne : a ≠ p) (h : SqL K H a xs) : SqL K H' a xs := by
  rcases h with (h | ⟨o, h⟩) | h
  · exact .inl (.inl (by rw [e a ne]; exact h))
  · exact .inl (.inr ⟨o, by rw [e a ne]; exact h⟩)
  · exact .inr h
theorem small_line {n : Nat} (h : n ≤ 1000000) : n ≤ sizeLine := Nat.le_trans h (by decide)
end L2
namespace L2
open PySem PySem.Spec PyProof.Rows
/-- as def_of, for a function that is known by its address (the law's own) -/
theorem fnok_of {P : Program} {w : World} {K : PySem.W.Frag} {mg : Str → Option Value} {base : Heap} {CX : CXT} {x : Str} {ps : List Str} {sp : Sp} {k : Nat} {st : Stmt} {N : List Str} {f : Addr} {fd : FuncData}
    (F : Fun K x x st f fd) (S : FnScope N ps (defScope st)) (len : ∀ vs H Q E, sp vs H Q E → vs.length = ps.length)
    (hbody : ∀ (cdv : Value) (A : Around) (outer : List Env) (s : Shared) (H : Hp) (vs : List V) (Q : VK) (E : XK), Room k (A.deeper (envOfC x (defScope st) s.heap.objs.size f cdv)) → sp vs H Q E →
      ∃ t, PSs (cxOf CX P w K mg base N x (defScope st) f cdv A outer s H E).nox (defBody st) t ∧ t { nx := fun _ H' => Q .non H', rt := Q } (start N vs) H) : FnOk P w K mg base CX (k + 1) f fd ps sp := by
  obtain ⟨oc, od, kV, doc, pm, an, cdv, ct, osl, rfl, lk, hcd⟩ := F.ex
  refine fn_of lk hcd S len fun A outer s H vs Q E hr hsp => ?_
  obtain ⟨t, h, q⟩ := hbody cdv A outer s H vs Q E hr hsp
  exact ⟨t, h.nox, q⟩
end L2
set_option Elab.async false
set_option linter.all false
set_option maxRecDepth 100000
set_option maxHeartbeats 4000000
namespace L2
open PySem PySem.Spec PyProof.Rows
/-- what is asked of the built-in class under which own exception classes stand, bm being what stands above the class itself (own classes too) -/
structure ExcF (B newId initId : String) (bm : List Value) : Prop where
  call : ExcCallFacts B newId initId
  split : splitId newId = some (B, "__new__")
  kind : builtinKind newId = some .builtinFn
  row : Manifest.signature? newId = some ⟨.any, B, B, .cls, [⟨"args", .varPos, false⟩, ⟨"kwargs", .varKw, false⟩]⟩
  hasB : bm.contains (.type B) = true
  hasE : bm.contains (.type "BaseException") = true
  noA : bm.contains (.type "AttributeError") = false
  noN : bm.contains (.type "NameError") = false
  canon : Manifest.canonical newId = Manifest.canonical "BaseException.__new__"
theorem ExcF.under {B newId initId : String} {bm : List Value} (F : ExcF B newId initId bm) (R : Addr) : ExcF B newId initId (.ref R :: bm) :=
  ⟨F.call, F.split, F.kind, F.row, by rw [List.contains_cons, F.hasB, Bool.or_true], by rw [List.contains_cons, F.hasE, Bool.or_true], by rw [List.contains_cons, F.noA]; rfl, by rw [List.contains_cons, F.noN]; rfl, F.canon⟩
section
variable {prog : Program} {w : World} {M : Model} {A : Around} {E : Value → Shared → Prop} {R : Result → Shared → Prop} {h : Heap} {g : Array GenState} {d : Drawn} {t : Nat} {os : OsState}
variable {nm q : Str} {C N : Addr} {bs bm : List Value} {hdct : Bool} {sn : List Str} {sub : List Value} {ab : Bool} {col : Option Bool} {dd : Option Addr} {k0 k1 k2 k3 k5 : Option Value} {B newId initId : String}
theorem ExcF.has (F : ExcF B newId initId bm) : (Value.ref C :: bm).contains (.type B) = true := by rw [List.contains_cons, F.hasB, Bool.or_true]
end
end L2
set_option Elab.async false
set_option linter.all false
set_option maxRecDepth 100000
set_option maxHeartbeats 4000000
namespace L2
open PySem PySem.Spec PyProof.Rows
section
variable {prog : Program} {w : World} {A : Around} {E : Value → Shared → Prop} {s : Shared} {K : PySem.W.Frag} {e C : Addr} {oe : Obj} {vs : Array Value} {name : Str} {v : Value}
end
end L2
set_option Elab.async false
set_option linter.all false
set_option maxRecDepth 100000
set_option maxHeartbeats 4000000
namespace L2
open PySem PySem.Spec PyProof.Rows
/-- an exception of the class at C that was made and not raised yet; dx: its dict, once it has one -/
def excO (e C : Addr) (dx : Option Addr) : HO := .ext fun h => ∃ t sl, h.get? e = some { cls := .ref C, dict := dx, data := .fields #[.ref t, .none, .none, .none, .bool false, .none], slots := sl }
/-- its dict -/
def dctO (dx : Addr) (fs : List (Str × V)) : HO := .ext fun h => ∃ mA, h.Ns1 dx mA ∧ (∀ f, RelO (fs.lookup f) (mA f)) ∧ PySem.Within mA (fs.map (·.1)) ∧ fs.length ≤ 100
section
variable {P : Program} {w : World} {H : Hp} {h : Heap} {e C dx : Addr}
end
section
variable {X : Cx} {CX : CXT} {k m : Nat} {f C : Addr} {fd : FuncData} {ps : List Str} {sp : Sp} {E : XK} {x : Str} {p pos : Pos} {e : Expr} {es : List Expr} {t : TA} {bm : List Value}
/-- what of the text reading its fields asks -/
structure ExcG (K : PySem.W.Frag) (C : Addr) : Prop where
  ga : PySem.W.findIn K (.ref C) "__getattribute__" = some (some (.builtin "BaseException.__getattribute__"))
  gb : PySem.W.findIn K (.ref C) "__getattr__" = some none
  mb : PySem.W.mroIn K C (.type "BaseException") = some true
  hd : PySem.W.hasDictIn K C = true
end
end L2
set_option Elab.async false
set_option linter.all false
set_option maxRecDepth 100000
set_option maxHeartbeats 4000000
namespace L2
open PySem PySem.Spec PyProof.Rows
section
variable {M : Model} {A : Around} {E : Value → Shared → Prop} {s : Shared} {base : Heap} {env : Env} {outer : List Env} {L e : Addr} {oe : Obj} {vs : Array Value}
end
end L2
set_option Elab.async false
set_option linter.all false
set_option maxRecDepth 100000
set_option maxHeartbeats 4000000
namespace L2
open PySem PySem.Spec PyProof.Rows
/-- an exception of the class at C in flight, made since the heap had n objects; dx: its dict -/
def Flown (n : Nat) (h : Heap) (a C : Addr) (dx : Option Addr) (H : Hp) : Prop :=
  ∃ oe vs T oT ts, h.get? a = some oe ∧ oe.cls = .ref C ∧ oe.dict = dx ∧ oe.data = .fields vs ∧ vs[1]? = some (.ref T) ∧ T ≠ a ∧ h.get? T = some oT ∧ oT.data = .fields ts ∧ ts[3]? = some .none ∧ H a = none ∧ H T = none ∧ n ≤ a ∧ n ≤ T
def CX1 (P : Program) (w : World) : CXT := fun outer H s E ev s' =>
  ∃ a C dx H', ev = .ref a ∧ s'.os = s.os ∧ AllBare s'.gens ∧ Un (frs outer) [] H H' s.heap s'.heap ∧ HOk P w H' s'.heap ∧ Flown s.heap.objs.size s'.heap a C dx H' ∧ E (.ref C) dx H'
section
variable {P : Program} {w : World} {K : PySem.W.Frag} {mg : Str → Option Value} {base : Heap} {N : List Str} {qual : Str} {scope : Scope} {f : Addr} {cd : Value} {A : Around} {outer : List Env} {s : Shared} {H : Hp} {E : XK}
end
end L2
set_option Elab.async false
set_option linter.all false
set_option maxRecDepth 100000
set_option maxHeartbeats 4000000
namespace L2
open PySem PySem.Spec PyProof.Rows
section
variable {X : Cx} {pins : List (Addr × Obj)} {σ : St} {H : Hp} {s : Shared}
end
/-- what of the text it asks -/
structure ExcI (K : PySem.W.Frag) (C R : Addr) : Prop where
  g : ExcG K C
  mro : (PySem.W.clsIn K C).map (·.mro) = some [.ref C, .ref R, .type "ValueError", .type "Exception", .type "BaseException", .type "object"]
  ty : PySem.W.typeIn K (.ref C) = some (.type "type")
  ha : PySem.W.findIn K (.ref C) "__class__" = some (some (.builtin "object.__class__"))
  hn : PySem.W.specialIn K (.builtin "object.__class__") "__get__" = some (some (.builtin "getset_descriptor.__get__"))
  tk : PySem.W.takesIn K (.builtin "object.__class__") = some true
section
variable {prog : Program} {w : World} {A : Around} {E : Value → Shared → Prop} {s : Shared} {K : PySem.W.Frag} {e C R D : Addr} {oe : Obj} {odo : Option Obj}
theorem ExcI.in (G : ExcI K C R) (b : Value) : PySem.W.mroIn K C b = some ([Value.ref C, .ref R, .type "ValueError", .type "Exception", .type "BaseException", .type "object"].contains b) := by
  obtain ⟨cd, hc, hm⟩ := Option.map_eq_some_iff.mp G.mro
  unfold PySem.W.mroIn
  rw [hc, Option.bind_some, hm]
  rfl
end
/-- an exception made, with its fields; none: it has none -/
def ExcAt (H : Hp) (x C : Addr) (fs : List (Str × V)) : Prop := (fs = [] ∧ H x = some (excO x C none)) ∨ ∃ dx, H x = some (excO x C (some dx)) ∧ H dx = some (dctO dx fs) ∧ dx ≠ x
theorem ExcAt.same {H H' : Hp} {x C : Addr} {fs : List (Str × V)} (e : Same H H') (h : ExcAt H x C fs) : ExcAt H' x C fs := by
  rcases h with ⟨a, b⟩ | ⟨dx, a, b, c⟩
  · exact .inl ⟨a, e _ _ b⟩
  · exact .inr ⟨dx, e _ _ a, e _ _ b, c⟩
section
variable {X : Cx}
end
end L2
set_option Elab.async false
set_option linter.all false
set_option maxRecDepth 100000
set_option maxHeartbeats 4000000
namespace L2
open PySem PySem.Spec PyProof.Rows
section
variable {prog : Program} {w : World} {A : Around} {E : Value → Shared → Prop} {R : Result → Shared → Prop} {h : Heap} {g : Array GenState} {d : Drawn} {t : Nat} {os : OsState}
variable {nm q : Str} {C N : Addr} {bs bm : List Value} {hdct : Bool} {sn : List Str} {sub : List Value} {ab : Bool} {col : Option Bool} {dd : Option Addr} {k0 k1 k2 k3 k5 : Option Value} {B newId initId : String}
end
section
variable {P : Program} {w : World} {K : PySem.W.Frag} {mg : Str → Option Value} {base : Heap} {CX : CXT} {X : Cx} {k m : Nat} {C R : Addr} {E : XK} {x qual f g : Str} {st : Stmt} {p pos : Pos} {e : Expr} {es : List Expr} {t : TA}
end
section
variable {K : PySem.W.Frag} {mg : Str → Option Value} {x qual : Str} {st : Stmt} {C R f : Addr} {nm q : Str} {N : Addr} {bs : List Value} {sn : List Str} {sub : List Value} {ab : Bool} {col : Option Bool} {dd : Option Addr} {k0 k1 k2 k3 k5 : Option Value} {od an : Option Addr} {osl : Array (Option Value)} {kV doc pm cdv ct : Value}
end
end L2
set_option Elab.async false
set_option linter.all false
set_option maxRecDepth 100000
set_option maxHeartbeats 4000000
namespace L2
open PySem PySem.Spec PyProof.Rows
section
variable {X : Cx}
end
/-- a tree that is shown in m signs at most, of depth d at most -/
structure Shm (m d : Nat) (x : PyData) : Prop where
  sh : x.showable = true
  ln : x.shown.length ≤ m
  dp : x.depth ≤ d
theorem Shm.mono {m m' d d' : Nat} {x : PyData} (h : Shm m d x) (a : m ≤ m') (b : d ≤ d') : Shm m' d' x := ⟨h.sh, Nat.le_trans h.ln a, Nat.le_trans h.dp b⟩
end L2
set_option Elab.async false
set_option linter.all false
set_option maxRecDepth 100000
set_option maxHeartbeats 4000000
namespace L2
open PySem PySem.Spec PyProof.Rows
/-- a new object o at p: all that was stays, and p was not tracked -/
structure New (H H' : Hp) (p : Addr) (o : HO) : Prop where
  s : Same H H'
  e : H' p = some o
  n : ∀ a u, H a = some u → a ≠ p
theorem New.mk' {H : Hp} {p : Addr} {o : HO} (h : H p = none) : New H (upd H p o) p o := ⟨Same.new h, upd_same, fun a u q => ne_of_none q h⟩
section
variable {X : Cx} {es : List Expr} {t : TA} {pos : Pos}
def tTupA (t : TA) : TE := fun σ H Q => t σ H fun xs H1 => xs.length ≤ sizeLine ∧ ∀ p H', New H1 H' p (.tup xs) → Q (.ref p) H'
def tLstA (t : TA) : TE := fun σ H Q => t σ H fun xs H1 => xs.length ≤ sizeLine ∧ ∀ p H', New H1 H' p (.lst xs) → Q (.ref p) H'
theorem pe_tupA {x1} (h : PA X es t) : PE X (.Tuple es x1 pos) (tTupA t) := by
  intro pins s σ H Q I hq
  refine wpAny_Tuple_spliced (thn (h pos pins s σ H _ I hq) fun us s1 ⟨xs, H1, I1, r, z, q⟩ => ⟨by rw [← r.length]; exact z, ?_⟩)
  have hf : H1 s1.heap.objs.size = none := I1.hok.fresh (Nat.le_refl _)
  refine ⟨.ref s1.heap.objs.size, upd H1 s1.heap.objs.size (.tup xs), I1.laid (t' := s1.toks) (fun b u e => Heap.get?_push_of_some _ e) (Nat.le_refl _) ?_, rfl, q _ _ (.mk' hf)⟩
  exact ⟨z, us, r, ⟨_, Heap.get?_push_size _ rfl, rfl, _, rfl⟩⟩
theorem pe_lstA (h : PA X es t) : PE X (.List es pos) (tLstA t) := by
  intro pins s σ H Q I hq
  refine wpAny_List_spliced (thn (h pos pins s σ H _ I hq) fun us s1 ⟨xs, H1, I1, r, z, q⟩ => ⟨by rw [← r.length]; exact z, ?_⟩)
  have hf : H1 s1.heap.objs.size = none := I1.hok.fresh (Nat.le_refl _)
  refine ⟨.ref s1.heap.objs.size, upd H1 s1.heap.objs.size (.lst xs), I1.laid (t' := s1.toks) (fun b u e => Heap.get?_push_of_some _ e) (Nat.le_refl _) ?_, rfl, q _ _ (.mk' hf)⟩
  exact ⟨z, us, 0, r, Heap.get?_push_size _ rfl⟩
def rCatA : R2 := fun x y H Q => ∃ l b xs zs, x = .ref l ∧ y = .ref b ∧ H l = some (.lst xs) ∧ H b = some (.lst zs) ∧ xs.length + zs.length ≤ sizeLine ∧ ∀ p H', New H H' p (.lst (xs ++ zs)) → Q (.ref p) H'
theorem op_catA : OpR X (binaryOp .Add) rCatA := by
  intro pins s σ H x y v u Q I rx ry h
  obtain ⟨l, b, xs, zs, e1, e2, hH, hB, hz, q⟩ := h
  exact op_cat pins s σ H x y v u Q I rx ry ⟨l, b, xs, zs, e1, e2, hH, hB, hz, fun p hp => q p _ (.mk' hp)⟩
end
theorem ExcAt.off {H H' : Hp} {l x C : Addr} {fs : List (Str × V)} {xs : List V} (o : Off l H H') (hl : H l = some (.lst xs)) (h : ExcAt H x C fs) : ExcAt H' x C fs := by
  have ne : ∀ {a : Addr} {r : Heap → Prop}, H a = some (.ext r) → a ≠ l := fun {a r} ha q => by
    rw [q, hl] at ha
    cases ha
  rcases h with ⟨a, b⟩ | ⟨dx, a, b, c⟩
  · exact .inl ⟨a, by rw [o x (ne b)]; exact b⟩
  · exact .inr ⟨dx, by rw [o x (ne a)]; exact a, by rw [o dx (ne b)]; exact b, c⟩
end L2
set_option Elab.async false
set_option linter.all false
set_option maxRecDepth 100000
set_option maxHeartbeats 4000000
namespace L2
open PySem PySem.Spec PyProof.Rows
/-- the part tells v, and the heap stays -/
def Tel (t : TE) (σ : St) (H : Hp) (v : V) : Prop := ∀ Q : VK, Q v H → t σ H Q
def TelA (t : TA) (σ : St) (H : Hp) (vs : List V) : Prop := ∀ Q : List V → Hp → Prop, Q vs H → t σ H Q
section
variable {σ σ' : St} {H : Hp} {v x y : V} {vs : List V} {t ta tb : TE} {tr : TA} {i j : Nat} {a C : Addr} {f g : Str} {fs : List (Str × V)} {Q : VK} {D : Ends} {s u : TS} {K : PySem.W.Frag} {tg : TG} {c : TT}
theorem rd_c : Tel (tC v) σ H v := fun Q q => q
theorem rda_nil : TelA tNil σ H [] := fun Q q => q
theorem rda_cons (h : Tel t σ H v) (k : TelA tr σ H vs) : TelA (tCons t tr) σ H (v :: vs) := fun Q q => h _ (k _ q)
theorem go_cons {Q : List V → Hp → Prop} (h : t σ H fun x H1 => tr σ H1 fun xs H2 => Q (x :: xs) H2) : tCons t tr σ H Q := h
theorem go_nil {Q : List V → Hp → Prop} (h : Q [] H) : tNil σ H Q := h
theorem go_seq (h : s { D with nx := u D } σ H) : tSeq s u D σ H := h
theorem go_nx {nx bk ct : St → Hp → Prop} {rt : VK} (h : nx σ H) : (Ends.mk nx rt bk ct).nx σ H := h
theorem go_next (h : D.nx σ H) : tNext D σ H := h
theorem go_asg (h : t σ H fun x H1 => tg x σ H1 D.nx) : tAsg t tg D σ H := h
theorem go_par (h : tr σ H fun vs H1 => ∃ v w, vs = [v, w] ∧ D.nx ((σ.set i (some v)).set j (some w)) H1) : tPar i j tr D σ H := h
theorem go_tupA (h : tr σ H fun xs H1 => xs.length ≤ sizeLine ∧ ∀ p H', New H1 H' p (.tup xs) → Q (.ref p) H') : tTupA tr σ H Q := h
theorem go_lstA (h : tr σ H fun xs H1 => xs.length ≤ sizeLine ∧ ∀ p H', New H1 H' p (.lst xs) → Q (.ref p) H') : tLstA tr σ H Q := h
theorem go_op {r : R2} (h : ta σ H fun x H1 => tb σ H1 fun y H2 => r x y H2 Q) : tOp r ta tb σ H Q := h
theorem go_ret (h : t σ H D.rt) : tRet t D σ H := h
theorem go_drop (h : t σ H fun _ H1 => D.nx σ H1) : tDrop t D σ H := h
theorem go_if (h : c σ H fun b H1 => if b = true then s D σ H1 else u D σ H1) : tIfS c s u D σ H := h
theorem go_test {Q : Bool → Hp → Prop} (h : t σ H fun x H' => ∃ k, x = .bl k ∧ Q k H') : tTest t σ H Q := h
theorem go_b {Q : Bool → Hp → Prop} (h : t σ H fun x H' => ∃ k, x = .bl k ∧ Q k H') : tB t σ H Q := h
theorem go_cb {r : List V → Hp → VK → Prop} (h : tr σ H fun vs H1 => r vs H1 Q) : tCB r tr σ H Q := h
end
section
variable {σ : St} {H : Hp} {te : TE} {tr : TA} {Q : VK} {c : TT} {fr : List Nat} {fvs : St} {n : Nat}
theorem rangeV_get {i : Nat} {x : V} (h : (rangeV 0 n)[i]? = some x) (hi : i < n) : x = .int i := by
  have : (rangeV 0 n)[i]? = some (V.int (0 + (i : Int))) := by simp [rangeV, hi]
  rw [this] at h
  have := Option.some.inj h
  rw [← this, Int.zero_add]
end
end L2
set_option Elab.async false
set_option linter.all false
set_option maxRecDepth 100000
set_option maxHeartbeats 4000000
namespace L2
open PySem PySem.Spec PyProof.Rows
section
variable {P : Program} {w : World} {H : Hp} {h : Heap} {a b : Addr} {φ : Heap → Prop} {o : HO}
end
section
variable {X : Cx} {pins : List (Addr × Obj)} {σ : St} {H H1 : Hp} {s s1 : Shared} {a : Addr} {φ : Heap → Prop} {o : HO}
end
section
variable {M : Model} {A : Around} {E : Value → Shared → Prop} {env : Env}
variable {nm q : Str} {C N : Addr} {bs bm : List Value} {hdct : Bool} {sn : List Str} {sub : List Value} {ab : Bool} {col : Option Bool} {dd : Option Addr} {k0 k1 k2 k3 k5 : Option Value} {newId : String}
end
section
variable {P : Program} {w : World} {K : PySem.W.Frag} {mg : Str → Option Value} {base : Heap} {N : List Str} {qual : Str} {scope : Scope} {f : Addr} {cd : Value} {A : Around} {outer : List Env} {s : Shared} {H : Hp} {E : XK}
end
section
variable {X : Cx} {CX : CXT} {k m : Nat} {f C R : Addr} {fd : FuncData} {ps : List Str} {sp : Sp} {E : XK} {p pos : Pos} {e : Expr} {es : List Expr} {t : TA} {bm : List Value}
end
section
variable {CX : CXT} {X : Cx} {k m : Nat} {C R : Addr} {E : XK} {x qual f g : Str} {st : Stmt} {p pos : Pos} {e : Expr} {es : List Expr} {t : TA}
end
section
variable {σ : St} {H H0 : Hp} {tr : TA} {v y : V} {C : Addr} {f g : Str} {D : Ends} {n : Nat} {E : XK}
end
section
variable {P : Program} {w : World} {K : PySem.W.Frag} {mg : Str → Option Value} {base : Heap} {k : Nat} {x : Str} {ps : List Str} {sp : Sp}
end
end L2
set_option Elab.async false
set_option linter.all false
set_option maxRecDepth 100000
set_option maxHeartbeats 4000000
namespace L2
open PySem PySem.Spec PyProof.Rows
section
variable {M : Model} {A : Around} {E : Value → Shared → Prop} {s : Shared}
end
section
variable {X : Cx} {pins : List (Addr × Obj)} {σ : St} {H : Hp} {s : Shared}
end
section
variable {M : Model} {A : Around} {E : Value → Shared → Prop} {s : Shared} {base : Heap} {env : Env} {outer : List Env} {L e : Addr} {oe : Obj} {vs : Array Value}
end
abbrev Cx.pinned (X : Cx) (pins : List (Addr × Obj)) : Cx := { X with pn := X.pn ++ pins }
section
variable {X : Cx} {pins pins' : List (Addr × Obj)} {σ : St} {H : Hp} {s : Shared} {a : Addr}
end
/-- EX: what is wanted of an exception that comes up, by the names' values then -/
abbrev Cx.tr (X : Cx) (pins : List (Addr × Obj)) (EX : St → XK) : Cx := (X.pinned pins).wish fun ev s' => ∃ pins' σ' H1 s1, Inv (X.pinned pins) pins' σ' H1 s1 ∧ CX1 X.prog X.w X.stack H1 s1 (EX σ') ev s'
section
variable {X : Cx} {pins : List (Addr × Obj)} {EX : St → XK} {k m : Nat} {x : Str} {ps : List Str} {sp : Sp} {p pos : Pos} {e : Expr} {es : List Expr} {t : TA}
end
/-- an exception that was raised and caught -/
def excT (a C : Addr) (dx : Option Addr) : HO := .ext fun h => ∃ oe vs, h.get? a = some oe ∧ oe.cls = .ref C ∧ oe.dict = dx ∧ oe.data = .fields vs
def ExcT (H : Hp) (x C : Addr) (fs : List (Str × V)) : Prop := (fs = [] ∧ H x = some (excT x C none)) ∨ ∃ dx, H x = some (excT x C (some dx)) ∧ H dx = some (dctO dx fs) ∧ dx ≠ x
theorem ExcT.same {H H' : Hp} {x C : Addr} {fs : List (Str × V)} (e : Same H H') (h : ExcT H x C fs) : ExcT H' x C fs := by
  rcases h with ⟨a, b⟩ | ⟨dx, a, b, c⟩
  · exact .inl ⟨a, e _ _ b⟩
  · exact .inr ⟨dx, e _ _ a, e _ _ b, c⟩
theorem ExcT.mk {H : Hp} {a C dx : Addr} {fs : List (Str × V)} (hd : H dx = some (dctO dx fs)) (ha : H a = none) : ExcT (upd H a (excT a C (some dx))) a C fs :=
  .inr ⟨dx, upd_same, by rw [upd_ne (ne_of_none hd ha)]; exact hd, ne_of_none hd ha⟩
structure Caught (X : Cx) (pins : List (Addr × Obj)) (σ : St) (H : Hp) (s : Shared) (a C : Addr) (dx : Option Addr) : Prop where
  I : Inv X pins σ H s
  ha : H a = some (excT a C dx)
  tb : ∃ T oe vs oT ts, s.heap.get? a = some oe ∧ oe.data = .fields vs ∧ vs[1]? = some (.ref T) ∧ s.heap.get? T = some oT ∧ oT.data = .fields ts ∧ 3 < ts.size ∧ H T = none ∧ T ≠ X.env.locals ∧ (T ∈ X.ex ∨ X.s₀.heap.objs.size ≤ T) ∧ (∀ x c, X.env.cells.lookup x = some c → c ≠ T) ∧ ∀ p ∈ X.pn ++ pins, p.1 ≠ T
abbrev THd := Ends → Addr → Addr → Option Addr → St → Hp → Prop
section
variable {X : Cx} {x n : Str} {d : Addr} {i : Nat} {b₀ : Stmt} {suite : List Stmt} {rest : List ExceptHandler} {th : Addr → TS} {tr : THd} {p pos : Pos}
theorem Caught.lit {pins : List (Addr × Obj)} {σ : St} {H : Hp} {s : Shared} {a C : Addr} {dx : Option Addr} {A : Around} {E : Value → Shared → Prop} {Q : Unit → Shared → Prop} (c : Caught X pins σ H s a C dx) (h : ∀ s', Inv X pins σ H s' → Q () s') : wpAny (model X.prog X.w) A (setFlight (.ref a) none) Q E s := by
  obtain ⟨T, oe, vs, oT, ts, ga, gf, g1, gT, gt, g3, hT, n1, n2, n3, n4⟩ := c.tb
  exact wpAny_setFlight_none ga gf g1 gT gt g3 (h _ (c.I.turned (t' := s.toks) (fun b o hb e => (Heap.get?_update_other _ _ (Ne.symm hb)).trans e) hT n1 n2 n3 n4))
theorem Caught.type {pins : List (Addr × Obj)} {σ : St} {H : Hp} {s : Shared} {a C : Addr} {dx : Option Addr} (c : Caught X pins σ H s a C dx) : PySem.W.Looks (model X.prog X.w) s.heap (typeOf (.ref a)) (.ref C) := by
  obtain ⟨⟨oe, vs, ge, gc, gd, gf⟩, _, _⟩ : ObjOk X.prog X.w H s.heap a (excT a C dx) := c.I.hok a _ c.ha
  exact gc ▸ (PySem.W.Looks.ld ge).andThen .now
end
section
variable {X : Cx} {body : List Stmt} {h₀ : ExceptHandler} {hs : List ExceptHandler} {tb : List (Addr × Obj) → (St → XK) → TS} {th : THd} {pos : Pos}
end
section
variable {X : Cx}
end
theorem ExcT.off {H H' : Hp} {l x C : Addr} {fs : List (Str × V)} {xs : List V} (o : Off l H H') (hl : H l = some (.lst xs)) (h : ExcT H x C fs) : ExcT H' x C fs := by
  have ne : ∀ {a : Addr} {r : Heap → Prop}, H a = some (.ext r) → a ≠ l := fun {a r} ha q => by
    rw [q, hl] at ha
    cases ha
  rcases h with ⟨a, b⟩ | ⟨dx, a, b, c⟩
  · exact .inl ⟨a, by rw [o x (ne b)]; exact b⟩
  · exact .inr ⟨dx, by rw [o x (ne a)]; exact a, by rw [o dx (ne b)]; exact b, c⟩
section
variable {σ : St} {H : Hp} {D : Ends} {tb : List (Addr × Obj) → (St → XK) → TS} {th : THd} {tr : TA} {Q : VK} {EX : St → XK} {sp : Sp}
end
end L2
set_option Elab.async false
set_option linter.all false
set_option maxRecDepth 100000
set_option maxHeartbeats 4000000
namespace L2
open PySem PySem.Spec PyProof.Rows
section
variable {prog : Program} {w : World} {A : Around} {E : Value → Shared → Prop} {s : Shared}
end
section
variable {σ σ' : St} {H : Hp} {K : PySem.W.Frag} {p : Addr} {a b c d : V} {i0 i1 i2 i3 : Nat} {R : St → Hp → Prop}
end
end L2
set_option Elab.async false
set_option linter.all false
set_option maxRecDepth 100000
set_option maxHeartbeats 4000000
namespace L2
open PySem PySem.Spec PyProof.Rows
def rIsT (K : PySem.W.Frag) : List V → Hp → VK → Prop := fun xs H Q => ∃ x d t b, xs = [x, d] ∧ TyOf K H x t ∧ clsIs K t d = some b ∧ Q (.bl b) H
theorem call_isT {X : Cx} : CallR X (.builtin "isinstance") (rIsT X.K) := call_isinstance
end L2
set_option Elab.async false
set_option linter.all false
set_option maxRecDepth 100000
set_option maxHeartbeats 4000000
namespace L2
open PySem PySem.Spec PyProof.Rows
section
variable {X : Cx} {pins : List (Addr × Obj)} {σ : St} {H : Hp} {s : Shared} {h' : Heap} {t' : Nat} {ch : List Addr}
end
section
variable {X : Cx} {a b : Expr} {ta : TA} {p pos : Pos}
end
section
variable {prog : Program} {w : World} {A : Around} {E : Value → Shared → Prop} {s : Shared} {I l S : Addr} {items : Array Value}
end
section
variable {X : Cx}
def rSetA : V → V → V → Hp → (Hp → Prop) → Prop := fun o i v H Q => ∃ p xs k j, o = .ref p ∧ i = .int k ∧ H p = some (.lst xs) ∧ ixN xs.length k = some j ∧ ∀ H', Off p H H' → H' p = some (.lst (xs.set j v)) → Q H'
theorem set_listA : PSet X rSetA := by
  intro pins s σ H o i v ov iv u Q I ro ri rv h
  obtain ⟨p, xs, k, j, e1, e2, hp, hj, q⟩ := h
  exact set_list pins s σ H o i v ov iv u Q I ro ri rv ⟨p, xs, k, j, e1, e2, hp, hj, q _ Off.upd upd_same⟩
end
end L2
set_option Elab.async false
set_option linter.all false
set_option maxRecDepth 100000
set_option maxHeartbeats 4000000
namespace L2
open PySem PySem.Spec PyProof.Rows
section
variable {σ : St} {H : Hp} {Q : VK} {v x y : V} {i j : Int} {K : PySem.W.Frag} {t ta tb tc : TE} {tr : TA} {s u : TS} {D : Ends} {c d : TT}
theorem wv0 {r : St} (h : Q v H) : tVar 0 (some v :: r) H Q := ⟨v, rfl, h⟩
theorem wn0 {o : Option V} {r : St} {R : St → Hp → Prop} (h : R (some v :: r) H) : gName 0 v (o :: r) H R := h
theorem wv1 {o0 : Option V} {r : St} (h : Q v H) : tVar 1 (o0 :: some v :: r) H Q := ⟨v, rfl, h⟩
theorem wn1 {o0 : Option V} {o : Option V} {r : St} {R : St → Hp → Prop} (h : R (o0 :: some v :: r) H) : gName 1 v (o0 :: o :: r) H R := h
theorem wv2 {o0 o1 : Option V} {r : St} (h : Q v H) : tVar 2 (o0 :: o1 :: some v :: r) H Q := ⟨v, rfl, h⟩
theorem wn2 {o0 o1 : Option V} {o : Option V} {r : St} {R : St → Hp → Prop} (h : R (o0 :: o1 :: some v :: r) H) : gName 2 v (o0 :: o1 :: o :: r) H R := h
theorem wv3 {o0 o1 o2 : Option V} {r : St} (h : Q v H) : tVar 3 (o0 :: o1 :: o2 :: some v :: r) H Q := ⟨v, rfl, h⟩
theorem wn3 {o0 o1 o2 : Option V} {o : Option V} {r : St} {R : St → Hp → Prop} (h : R (o0 :: o1 :: o2 :: some v :: r) H) : gName 3 v (o0 :: o1 :: o2 :: o :: r) H R := h
theorem wv4 {o0 o1 o2 o3 : Option V} {r : St} (h : Q v H) : tVar 4 (o0 :: o1 :: o2 :: o3 :: some v :: r) H Q := ⟨v, rfl, h⟩
theorem wn4 {o0 o1 o2 o3 : Option V} {o : Option V} {r : St} {R : St → Hp → Prop} (h : R (o0 :: o1 :: o2 :: o3 :: some v :: r) H) : gName 4 v (o0 :: o1 :: o2 :: o3 :: o :: r) H R := h
theorem wv5 {o0 o1 o2 o3 o4 : Option V} {r : St} (h : Q v H) : tVar 5 (o0 :: o1 :: o2 :: o3 :: o4 :: some v :: r) H Q := ⟨v, rfl, h⟩
theorem wn5 {o0 o1 o2 o3 o4 : Option V} {o : Option V} {r : St} {R : St → Hp → Prop} (h : R (o0 :: o1 :: o2 :: o3 :: o4 :: some v :: r) H) : gName 5 v (o0 :: o1 :: o2 :: o3 :: o4 :: o :: r) H R := h
theorem wv6 {o0 o1 o2 o3 o4 o5 : Option V} {r : St} (h : Q v H) : tVar 6 (o0 :: o1 :: o2 :: o3 :: o4 :: o5 :: some v :: r) H Q := ⟨v, rfl, h⟩
theorem wn6 {o0 o1 o2 o3 o4 o5 : Option V} {o : Option V} {r : St} {R : St → Hp → Prop} (h : R (o0 :: o1 :: o2 :: o3 :: o4 :: o5 :: some v :: r) H) : gName 6 v (o0 :: o1 :: o2 :: o3 :: o4 :: o5 :: o :: r) H R := h
theorem wv7 {o0 o1 o2 o3 o4 o5 o6 : Option V} {r : St} (h : Q v H) : tVar 7 (o0 :: o1 :: o2 :: o3 :: o4 :: o5 :: o6 :: some v :: r) H Q := ⟨v, rfl, h⟩
theorem wn7 {o0 o1 o2 o3 o4 o5 o6 : Option V} {o : Option V} {r : St} {R : St → Hp → Prop} (h : R (o0 :: o1 :: o2 :: o3 :: o4 :: o5 :: o6 :: some v :: r) H) : gName 7 v (o0 :: o1 :: o2 :: o3 :: o4 :: o5 :: o6 :: o :: r) H R := h
theorem wv8 {o0 o1 o2 o3 o4 o5 o6 o7 : Option V} {r : St} (h : Q v H) : tVar 8 (o0 :: o1 :: o2 :: o3 :: o4 :: o5 :: o6 :: o7 :: some v :: r) H Q := ⟨v, rfl, h⟩
theorem wn8 {o0 o1 o2 o3 o4 o5 o6 o7 : Option V} {o : Option V} {r : St} {R : St → Hp → Prop} (h : R (o0 :: o1 :: o2 :: o3 :: o4 :: o5 :: o6 :: o7 :: some v :: r) H) : gName 8 v (o0 :: o1 :: o2 :: o3 :: o4 :: o5 :: o6 :: o7 :: o :: r) H R := h
theorem wv9 {o0 o1 o2 o3 o4 o5 o6 o7 o8 : Option V} {r : St} (h : Q v H) : tVar 9 (o0 :: o1 :: o2 :: o3 :: o4 :: o5 :: o6 :: o7 :: o8 :: some v :: r) H Q := ⟨v, rfl, h⟩
theorem wn9 {o0 o1 o2 o3 o4 o5 o6 o7 o8 : Option V} {o : Option V} {r : St} {R : St → Hp → Prop} (h : R (o0 :: o1 :: o2 :: o3 :: o4 :: o5 :: o6 :: o7 :: o8 :: some v :: r) H) : gName 9 v (o0 :: o1 :: o2 :: o3 :: o4 :: o5 :: o6 :: o7 :: o8 :: o :: r) H R := h
theorem wv10 {o0 o1 o2 o3 o4 o5 o6 o7 o8 o9 : Option V} {r : St} (h : Q v H) : tVar 10 (o0 :: o1 :: o2 :: o3 :: o4 :: o5 :: o6 :: o7 :: o8 :: o9 :: some v :: r) H Q := ⟨v, rfl, h⟩
theorem wn10 {o0 o1 o2 o3 o4 o5 o6 o7 o8 o9 : Option V} {o : Option V} {r : St} {R : St → Hp → Prop} (h : R (o0 :: o1 :: o2 :: o3 :: o4 :: o5 :: o6 :: o7 :: o8 :: o9 :: some v :: r) H) : gName 10 v (o0 :: o1 :: o2 :: o3 :: o4 :: o5 :: o6 :: o7 :: o8 :: o9 :: o :: r) H R := h
theorem wv11 {o0 o1 o2 o3 o4 o5 o6 o7 o8 o9 o10 : Option V} {r : St} (h : Q v H) : tVar 11 (o0 :: o1 :: o2 :: o3 :: o4 :: o5 :: o6 :: o7 :: o8 :: o9 :: o10 :: some v :: r) H Q := ⟨v, rfl, h⟩
theorem wn11 {o0 o1 o2 o3 o4 o5 o6 o7 o8 o9 o10 : Option V} {o : Option V} {r : St} {R : St → Hp → Prop} (h : R (o0 :: o1 :: o2 :: o3 :: o4 :: o5 :: o6 :: o7 :: o8 :: o9 :: o10 :: some v :: r) H) : gName 11 v (o0 :: o1 :: o2 :: o3 :: o4 :: o5 :: o6 :: o7 :: o8 :: o9 :: o10 :: o :: r) H R := h
theorem wv12 {o0 o1 o2 o3 o4 o5 o6 o7 o8 o9 o10 o11 : Option V} {r : St} (h : Q v H) : tVar 12 (o0 :: o1 :: o2 :: o3 :: o4 :: o5 :: o6 :: o7 :: o8 :: o9 :: o10 :: o11 :: some v :: r) H Q := ⟨v, rfl, h⟩
theorem wn12 {o0 o1 o2 o3 o4 o5 o6 o7 o8 o9 o10 o11 : Option V} {o : Option V} {r : St} {R : St → Hp → Prop} (h : R (o0 :: o1 :: o2 :: o3 :: o4 :: o5 :: o6 :: o7 :: o8 :: o9 :: o10 :: o11 :: some v :: r) H) : gName 12 v (o0 :: o1 :: o2 :: o3 :: o4 :: o5 :: o6 :: o7 :: o8 :: o9 :: o10 :: o11 :: o :: r) H R := h
theorem wv13 {o0 o1 o2 o3 o4 o5 o6 o7 o8 o9 o10 o11 o12 : Option V} {r : St} (h : Q v H) : tVar 13 (o0 :: o1 :: o2 :: o3 :: o4 :: o5 :: o6 :: o7 :: o8 :: o9 :: o10 :: o11 :: o12 :: some v :: r) H Q := ⟨v, rfl, h⟩
theorem wn13 {o0 o1 o2 o3 o4 o5 o6 o7 o8 o9 o10 o11 o12 : Option V} {o : Option V} {r : St} {R : St → Hp → Prop} (h : R (o0 :: o1 :: o2 :: o3 :: o4 :: o5 :: o6 :: o7 :: o8 :: o9 :: o10 :: o11 :: o12 :: some v :: r) H) : gName 13 v (o0 :: o1 :: o2 :: o3 :: o4 :: o5 :: o6 :: o7 :: o8 :: o9 :: o10 :: o11 :: o12 :: o :: r) H R := h
theorem w_c (h : Q v H) : tC v σ H Q := h
theorem w_i0 {f : Int → Int → V} (h : Q (f i j) H) : rI0 f (.int i) (.int j) H Q := ⟨i, j, rfl, rfl, h⟩
theorem w_mod {f : Int → Int → V} (hj : 0 < j) (h : Q (f i j) H) : rI (fun _ j => 0 < j) f (.int i) (.int j) H Q := ⟨i, j, rfl, rfl, hj, h⟩
theorem w_div {f : Int → Int → V} (h0 : 0 < j) (h1 : j < 1073741824) (h : Q (f i j) H) : rI CDiv f (.int i) (.int j) H Q := ⟨i, j, rfl, rfl, ⟨h0, h1⟩, h⟩
theorem w_pow {f : Int → Int → V} (h0 : 0 ≤ j) (h1 : j ≤ 1000000) (h2 : i.natAbs < 2 ^ 64) (h : Q (f i j) H) : rI CPow f (.int i) (.int j) H Q := ⟨i, j, rfl, rfl, ⟨h0, h1, h2⟩, h⟩
theorem w_mulL {f : Int → Int → V} (h0 : -(2 ^ 64) < i) (h1 : i < 2 ^ 64) (h : Q (f i j) H) : rI CMul f (.int i) (.int j) H Q := ⟨i, j, rfl, rfl, .inl ⟨h0, h1⟩, h⟩
theorem w_mulR {f : Int → Int → V} (h0 : -(2 ^ 64) < j) (h1 : j < 2 ^ 64) (h : Q (f i j) H) : rI CMul f (.int i) (.int j) H Q := ⟨i, j, rfl, rfl, .inr ⟨h0, h1⟩, h⟩
theorem w_u {g : Int → V} (h : Q (g i) H) : rU g (.int i) H Q := ⟨i, rfl, h⟩
theorem w_un {r : V → Hp → VK → Prop} (h : ta σ H fun x H1 => r x H1 Q) : tUn r ta σ H Q := h
theorem w_eqi (h : Q (.bl (decide (i = j))) H) : rEq (.int i) (.int j) H Q := ⟨rfl, by rw [show decide (V.int i = V.int j) = decide (i = j) from decide_eq_decide.mpr ⟨fun e => by cases e; rfl, fun e => by rw [e]⟩]; exact h⟩
theorem w_nei (h : Q (.bl (!decide (i = j))) H) : rNe (.int i) (.int j) H Q := ⟨rfl, by rw [show decide (V.int i = V.int j) = decide (i = j) from decide_eq_decide.mpr ⟨fun e => by cases e; rfl, fun e => by rw [e]⟩]; exact h⟩
theorem w_eqs {a b : Str} (h : Q (.bl (decide (a = b))) H) : rEq (.str a) (.str b) H Q := ⟨rfl, by rw [show decide (V.str a = V.str b) = decide (a = b) from decide_eq_decide.mpr ⟨fun e => by cases e; rfl, fun e => by rw [e]⟩]; exact h⟩
theorem w_nes {a b : Str} (h : Q (.bl (!decide (a = b))) H) : rNe (.str a) (.str b) H Q := ⟨rfl, by rw [show decide (V.str a = V.str b) = decide (a = b) from decide_eq_decide.mpr ⟨fun e => by cases e; rfl, fun e => by rw [e]⟩]; exact h⟩
theorem w_eqb {a b : Bool} (h : Q (.bl (decide (a = b))) H) : rEq (.bl a) (.bl b) H Q := ⟨rfl, by rw [show decide (V.bl a = V.bl b) = decide (a = b) from decide_eq_decide.mpr ⟨fun e => by cases e; rfl, fun e => by rw [e]⟩]; exact h⟩
theorem w_neb {a b : Bool} (h : Q (.bl (!decide (a = b))) H) : rNe (.bl a) (.bl b) H Q := ⟨rfl, by rw [show decide (V.bl a = V.bl b) = decide (a = b) from decide_eq_decide.mpr ⟨fun e => by cases e; rfl, fun e => by rw [e]⟩]; exact h⟩
theorem w_bl {k : Bool} {R : Bool → Prop} (h : R k) : ∃ c, V.bl k = .bl c ∧ R c := ⟨k, rfl, h⟩
theorem w_not {R : Bool → Hp → Prop} (h : c σ H fun b H1 => R (!b) H1) : tNot c σ H R := h
theorem w_and {R : Bool → Hp → Prop} (h : c σ H fun b H1 => if b = true then d σ H1 R else R false H1) : tAnd c d σ H R := h
theorem w_or {R : Bool → Hp → Prop} (h : c σ H fun b H1 => if b = true then R true H1 else d σ H1 R) : tOr c d σ H R := h
theorem w_notV (h : ta σ H fun x H1 => ∃ c, x = .bl c ∧ Q (.bl (!c)) H1) : tNotV ta σ H Q := h
theorem w_andV (h : ta σ H fun x H1 => ∃ c, x = .bl c ∧ if c = true then tb σ H1 Q else Q (.bl false) H1) : tAndV ta tb σ H Q := h
theorem w_orV (h : ta σ H fun x H1 => ∃ c, x = .bl c ∧ if c = true then Q (.bl true) H1 else tb σ H1 Q) : tOrV ta tb σ H Q := h
theorem w_ifE (h : c σ H fun b H1 => if b = true then ta σ H1 Q else tb σ H1 Q) : tIf c ta tb σ H Q := h
theorem w_chain {r r' : R2} (h : ta σ H fun x H1 => tb σ H1 fun y H2 => r x y H2 fun z H3 => ∃ k, z = .bl k ∧ if k = true then tc σ H3 fun w H4 => r' y w H4 Q else Q (.bl false) H3) : tChain r r' ta tb tc σ H Q := h
theorem w_rt {nx bk ct : St → Hp → Prop} {rt : VK} (h : rt v H) : (Ends.mk nx rt bk ct).rt v H := h
theorem w_call {sp : Sp} {E : XK} (h : tr σ H fun vs H1 => sp vs H1 Q E) : tCall sp [] E tr σ H Q := by
  have e : (fun vs H1 => sp (vs ++ []) H1 Q E) = fun vs H1 => sp vs H1 Q E := by
    funext vs H1
    rw [List.append_nil]
  show tr σ H fun vs H1 => sp (vs ++ []) H1 Q E
  rw [e]
  exact h
theorem w_bm {T : String} {r : V → List V → Hp → VK → Prop} {to : TE} (h : to σ H fun x H1 => tyV K T x H1 ∧ tr σ H1 fun xs H2 => r x xs H2 Q) : tBM K T r to tr σ H Q := h
theorem w_bm0 {T : String} {r : V → List V → Hp → VK → Prop} {to : TE} (h : to σ H fun x H1 => tyV K T x H1 ∧ r x [] H1 Q) : tBM0 K T r to σ H Q := h
theorem w_sub {to ti : TE} {ts : TSet} {R : St → Hp → Prop} (h : to σ H fun o H1 => ti σ H1 fun i H2 => ts o i v H2 fun H3 => R σ H3) : gSub to ti ts v σ H R := h
theorem w_slice {r : V → Option Int → Option Int → Hp → VK → Prop} {tl th : TO} (h : t σ H fun x H1 => tl σ H1 fun l H2 => th σ H2 fun u H3 => r x l u H3 Q) : tSl r t tl th σ H Q := h
theorem w_noPart {R : Option Int → Hp → Prop} (h : R none H) : tNoPart σ H R := h
theorem w_part {R : Option Int → Hp → Prop} (h : t σ H fun x H1 => ∃ i, x = .int i ∧ R (some i) H1) : tPart t σ H R := h
theorem w_int {R : Int → Prop} (h : R i) : ∃ k, V.int i = .int k ∧ R k := ⟨i, rfl, h⟩
/-- indices, lengths, kinds -/
theorem w_ixL {p : Addr} {xs : List V} (h : SqL K H p xs) (e : atI xs i = some v) (k : Q v H) : rIxL K (.ref p) (.int i) H Q := ⟨p, xs, i, v, rfl, rfl, h, e, k⟩
theorem w_ixT {p : Addr} {xs : List V} (h : SqT K H p xs) (e : atI xs i = some v) (k : Q v H) : rIxT K (.ref p) (.int i) H Q := ⟨p, xs, i, v, rfl, rfl, h, e, k⟩
def rLen (K : PySem.W.Frag) : List V → Hp → VK → Prop := fun xs H Q => ∃ x n, xs = [x] ∧ LenV K x H n ∧ Q (.int n) H
theorem w_lenL {p : Addr} {xs : List V} (h : SqL K H p xs) (k : Q (.int xs.length) H) : rLen K [.ref p] H Q := ⟨_, xs.length, rfl, .inl ⟨xs, h, rfl⟩, k⟩
theorem w_lenT {p : Addr} {xs : List V} (h : SqT K H p xs) (k : Q (.int xs.length) H) : rLen K [.ref p] H Q := ⟨_, xs.length, rfl, .inr ⟨xs, h, rfl⟩, k⟩
def rMax2 : List V → Hp → VK → Prop := fun xs H Q => ∃ i j, xs = [.int i, .int j] ∧ Q (.int (if j > i then j else i)) H
def rMin2 : List V → Hp → VK → Prop := fun xs H Q => ∃ i j, xs = [.int i, .int j] ∧ Q (.int (if j < i then j else i)) H
theorem w_max (h : Q (.int (max i j)) H) : rMax2 [.int i, .int j] H Q := ⟨i, j, rfl, by
  rw [show (if j > i then j else i) = max i j by rw [Int.max_def]; split <;> split <;> omega]
  exact h⟩
theorem w_min (h : Q (.int (min i j)) H) : rMin2 [.int i, .int j] H Q := ⟨i, j, rfl, by
  rw [show (if j < i then j else i) = min i j by rw [Int.min_def]; split <;> split <;> omega]
  exact h⟩
def rInt1 : List V → Hp → VK → Prop := fun xs H Q => (∃ i, xs = [.int i] ∧ Q (.int i) H) ∨ ∃ k, xs = [.bl k] ∧ Q (.int (if k then 1 else 0)) H
theorem w_intI (h : Q (.int i) H) : rInt1 [.int i] H Q := .inl ⟨i, rfl, h⟩
theorem w_intB {k : Bool} (h : Q (.int (if k then 1 else 0)) H) : rInt1 [.bl k] H Q := .inr ⟨k, rfl, h⟩
theorem w_is {x d : V} {tv : Value} {b : Bool} (ty : TyOf K H x tv) (e : clsIs K tv d = some b) (h : Q (.bl b) H) : rIsT K [x, d] H Q := ⟨x, d, tv, b, rfl, ty, e, h⟩
end
section
variable {X : Cx}
theorem call_lenN : CallR X (.builtin "len") (rLen X.K) := call_len
theorem call_maxN (hc : X.calm = true) : CallR X (.builtin "max") rMax2 := call_max2 hc
theorem call_minN (hc : X.calm = true) : CallR X (.builtin "min") rMin2 := call_min2 hc
end
section
variable {A B p : Prop} [Decidable p] {b : Bool}
theorem i_dec (h1 : p → A) (h2 : ¬ p → B) : if decide p = true then A else B := by
  by_cases h : p
  · rw [if_pos (decide_eq_true h)]; exact h1 h
  · rw [if_neg (by simpa using h)]; exact h2 h
theorem i_b (h1 : b = true → A) (h2 : b = false → B) : if b = true then A else B := by
  cases b with
  | true => exact iteT (h1 rfl)
  | false => exact iteF (h2 rfl)
theorem i_T (h : b = true) (k : A) : if b = true then A else B := by rw [if_pos h]; exact k
theorem i_F (h : b = false) (k : B) : if b = true then A else B := by rw [if_neg (by rw [h]; exact Bool.false_ne_true)]; exact k
theorem i_nF (h : b = true) (k : B) : if (!b) = true then A else B := by rw [if_neg (by rw [h]; exact Bool.false_ne_true)]; exact k
theorem i_pos (h : p) (k : A) : if decide p = true then A else B := by rw [if_pos (decide_eq_true h)]; exact k
theorem i_neg (h : ¬ p) (k : B) : if decide p = true then A else B := by rw [if_neg (by simpa using h)]; exact k
theorem i_npos (h : p) (k : B) : if (!decide p) = true then A else B := by rw [if_neg (by simpa using h)]; exact k
end
section
variable {H H0 H1 H2 H' : Hp} {p q a : Addr} {o u : HO} {xs ys : List V}
theorem Same.off (s : Same H0 H) (f : Off p H H') (n : ∀ b u, H0 b = some u → b ≠ p) : Same H0 H' := fun b u e => by
  rw [f b (n b u e)]
  exact s b u e
theorem New.trans (n1 : New H H1 p o) (n2 : New H1 H2 q u) : New H H2 q u := ⟨n1.s.trans n2.s, n2.e, fun a v e => n2.n a v (n1.s a v e)⟩
theorem New.after (s : Same H H1) (n : New H1 H2 q u) : New H H2 q u := ⟨s.trans n.s, n.e, fun a v e => n.n a v (s a v e)⟩
/-- the refs ys stand for tuples of these rows -/
def TupsAt (H : Hp) (ys : List V) (rows : List (List V)) : Prop := ys.length = rows.length ∧ ∀ (j : Nat) (r : List V), rows[j]? = some r → ∃ q, ys[j]? = some (.ref q) ∧ H q = some (.tup r)
theorem TupsAt.same {rows : List (List V)} (s : Same H H') (h : TupsAt H ys rows) : TupsAt H' ys rows := ⟨h.1, fun j r e => let ⟨q, a, b⟩ := h.2 j r e; ⟨q, a, s _ _ b⟩⟩
theorem TupsAt.off {rows : List (List V)} (h : TupsAt H ys rows) (f : Off p H H') (hl : H p = some (.lst xs)) : TupsAt H' ys rows := ⟨h.1, fun j r e => by
  obtain ⟨q, a, b⟩ := h.2 j r e
  have ne : q ≠ p := ne_of b hl (fun z => by cases z)
  exact ⟨q, a, by rw [f q ne]; exact b⟩⟩
theorem TupsAt.nil : TupsAt H [] [] := ⟨rfl, fun j r e => by simp at e⟩
theorem TupsAt.reverse {rows : List (List V)} (h : TupsAt H ys rows) : TupsAt H ys.reverse rows.reverse := by
  refine ⟨by rw [List.length_reverse, List.length_reverse, h.1], fun j r e => ?_⟩
  have hj : j < rows.length := by
    have := (List.getElem?_eq_some_iff.mp e).1
    rwa [List.length_reverse] at this
  rw [List.getElem?_reverse hj] at e
  obtain ⟨q, a, b⟩ := h.2 _ r e
  exact ⟨q, by rw [List.getElem?_reverse (by rw [h.1]; exact hj), h.1]; exact a, b⟩
end
section
variable {σ : St} {H : Hp} {Q : VK} {K : PySem.W.Frag} {tr : TA} {D : Ends} {i j : Int} {g : TG} {tb : TS} {a b : V} {p : Addr}
theorem w_rng {n : Int} {m : Nat} (ha : TelA tr σ H [.int n]) (hn : n.toNat = m) (hz : m ≤ 1000000) (Pv : Nat → St → Hp → Prop) (h0 : Pv 0 σ H)
    (hs : ∀ i σ H, i < m → Pv i σ H → g (.int i) σ H fun σ2 H2 => tb { D with nx := Pv (i + 1), ct := Pv (i + 1), bk := D.nx } σ2 H2) (hd : ∀ σ H, Pv m σ H → D.nx σ H) (hlo : -(2 ^ 62) ≤ n := by omega) (hhi : n < 2 ^ 62 := by omega) :
    tFor (iRng1 tr) g tb D σ H := ha _ ⟨n, rfl, hlo, hhi, by
      rw [hn]
      exact for_range Pv h0 (fun i σ H hi h => by rw [Int.zero_add]; exact hs i σ H hi h) hd⟩
end
def rNeD (K : PySem.W.Frag) : R2 := fun x y H Q => ∃ d d', Rep K H d x ∧ Rep K H d' y ∧ depD d ≤ 100 ∧ Q (.bl (!eqDt d d')) H
theorem op_ne_dN {X : Cx} {k : Nat} (hr : Room k X.A) : OpR X (compareOp .NotEq) (rNeD X.K) := op_ne_d hr
theorem reps_ints {K : PySem.W.Frag} {H : Hp} : ∀ ns : List Int, Reps K H (ns.map Dt.int) (ns.map V.int)
  | [] => by simp [Reps]
  | n :: ns => by
    simp only [List.map_cons, Reps]
    exact ⟨_, _, rfl, by simp [Rep], reps_ints ns⟩
theorem depDs_ints : ∀ ns : List Int, depDs (ns.map Dt.int) = 0
  | [] => rfl
  | n :: ns => by simp [depDs, depD, depDs_ints ns]
theorem rep_tints {K : PySem.W.Frag} {H : Hp} {p : Addr} {ns : List Int} (h : SqT K H p (ns.map V.int)) : Rep K H (.tup (ns.map Dt.int)) (.ref p) := by
  simp only [Rep]
  exact ⟨p, _, rfl, h, reps_ints ns⟩
theorem dep_tints (ns : List Int) : depD (.tup (ns.map Dt.int)) ≤ 100 := by simp only [depD, depDs_ints]; decide
theorem w_neT {K : PySem.W.Frag} {H : Hp} {Q : VK} {p q : Addr} {ns ms : List Int} (h1 : SqT K H p (ns.map V.int)) (h2 : SqT K H q (ms.map V.int)) (k : Q (.bl (!eqDt (.tup (ns.map Dt.int)) (.tup (ms.map Dt.int)))) H) : rNeD K (.ref p) (.ref q) H Q :=
  ⟨_, _, rep_tints h1, rep_tints h2, dep_tints ns, k⟩
end L2
set_option Elab.async false
set_option linter.all false
set_option maxRecDepth 100000
set_option maxHeartbeats 4000000
namespace L2
open PySem PySem.Spec PyProof.Rows PySem.SeqAt
section
variable {X : Cx} {a : Expr} {ta : TE} {pos : Pos}
def tNotT (K : PySem.W.Frag) (ta : TE) : TE := fun σ H Q => ta σ H fun x H1 => ∃ k, TruV K x H1 k ∧ Q (.bl (!k)) H1
theorem w_notT {σ : St} {H : Hp} {Q : VK} {K : PySem.W.Frag} (h : ta σ H fun x H1 => ∃ k, TruV K x H1 k ∧ Q (.bl (!k)) H1) : tNotT K ta σ H Q := h
def rIsB : R2 := fun x y H Q => ∃ a b, x = .bl a ∧ y = .bl b ∧ Q (.bl (decide (a = b))) H
def rIsNB : R2 := fun x y H Q => ∃ a b, x = .bl a ∧ y = .bl b ∧ Q (.bl (!decide (a = b))) H
theorem op_isNB : OpR X (compareOp .IsNot) rIsNB := by
  intro pins s σ H x y v u Q I rx ry h
  obtain ⟨a, b, rfl, rfl, q⟩ := h
  cases rx
  cases ry
  exact wpAny_isNot_plain rfl (fin_bl I q (by cases a <;> cases b <;> rfl))
theorem w_isB {H : Hp} {Q : VK} {a b : Bool} (h : Q (.bl (decide (a = b))) H) : rIsB (.bl a) (.bl b) H Q := ⟨a, b, rfl, rfl, h⟩
theorem w_isNB {H : Hp} {Q : VK} {a b : Bool} (h : Q (.bl (!decide (a = b))) H) : rIsNB (.bl a) (.bl b) H Q := ⟨a, b, rfl, rfl, h⟩
end
section
variable {σ : St} {H : Hp} {Q : VK} {D : Ends} {td ty tv : TE} {p : Addr} {kvs : List (Key × V)} {i : Int} {v : V}
theorem w_din (h : ty σ H fun y H1 => td σ H1 fun x H2 => ∃ a o, x = .ref a ∧ DGet H2 a y o ∧ Q (.bl o.isSome) H2) : tDIn ty td σ H Q := h
theorem w_dput (h : tv σ H fun v H1 => td σ H1 fun x H2 => ty σ H2 fun y H3 => ∃ a H4, x = .ref a ∧ DPut H3 a y v H4 ∧ D.nx σ H4) : sDPut td ty tv D σ H := h
end
def tRevSl (K : PySem.W.Frag) (te ts : TE) : TE := fun σ H Q => te σ H fun x H1 => ts σ H1 fun y H2 => ∃ a xs, x = .ref a ∧ y = .int (-1) ∧ SqL K H2 a xs ∧ ∀ p H', New H2 H' p (.lst xs.reverse) → Q (.ref p) H'
theorem w_revSl {σ : St} {H : Hp} {Q : VK} {K : PySem.W.Frag} {te ts : TE} (h : te σ H fun x H1 => ts σ H1 fun y H2 => ∃ a xs, x = .ref a ∧ y = .int (-1) ∧ SqL K H2 a xs ∧ ∀ p H', New H2 H' p (.lst xs.reverse) → Q (.ref p) H') : tRevSl K te ts σ H Q := h
section
variable {α β : Type} {F G : α → β → Prop}
end
/-- all but what stands at b is as it was -/
def Kp (b : Addr) (H H' : Hp) : Prop := ∀ x u, x ≠ b → H x = some u → H' x = some u
section
variable {b p : Addr} {H H1 H2 : Hp} {o : HO}
theorem Kp.refl : Kp b H H := fun _ _ _ h => h
theorem Kp.trans (a : Kp b H H1) (c : Kp b H1 H2) : Kp b H H2 := fun x u n h => c x u n (a x u n h)
theorem Same.kp (s : Same H H1) : Kp b H H1 := fun x u _ h => s x u h
theorem Off.kp (f : Off b H H1) : Kp b H H1 := fun x u n h => by rw [f x n]; exact h
theorem Kp.same {H0 : Hp} (s : Same H0 H) (k : Kp b H H1) (n : ∀ x u, H0 x = some u → x ≠ b) : Same H0 H1 := fun x u e => k x u (n x u e) (s x u e)
end
section
variable {X : Cx} {K : PySem.W.Frag}
end
end L2
set_option Elab.async false
set_option linter.all false
set_option maxRecDepth 100000
set_option maxHeartbeats 4000000
namespace L2
open PySem PySem.Spec PyProof.Rows PySem.SeqAt
section
variable {X : Cx} {pins : List (Addr × Obj)} {EX : St → XK} {k m : Nat} {x : Str} {ps : List Str} {sp : Sp} {p pos apos : Pos} {e o : Expr} {es : List Expr} {t : TA} {ta : TE} {f C : Addr} {fd : FuncData} {nm : Str}
end
end L2
set_option Elab.async false
set_option linter.all false
set_option maxRecDepth 100000
set_option maxHeartbeats 4000000
namespace L2
open PySem PySem.Spec PyProof.Rows PySem.SeqAt
section
variable {P : Program} {w : World} {K : PySem.W.Frag} {mg : Str → Option Value} {base : Heap} {CX : CXT} {k : Nat} {x nm qual : Str} {ps : List Str} {sp : Sp} {C : Addr}
structure Met (P : Program) (w : World) (K : PySem.W.Frag) (mg : Str → Option Value) (base : Heap) (CX : CXT) (k : Nat) (C : Addr) (nm : Str) (ps : List Str) (sp : Sp) : Prop where
  ex : ∃ (f : Addr) (fd : FuncData), FnOk P w K mg base CX k f fd ps sp ∧ Meth K C nm f ∧ Binds K fd ps []
/-- what is told of a function, whichever way it is reached -/
structure FnTells (P : Program) (w : World) (K : PySem.W.Frag) (mg : Str → Option Value) (base : Heap) (CX : CXT) (k : Nat) (f : Addr) (ps : List Str) (sp : Sp) : Prop where
  ex : ∃ fd : FuncData, FnOk P w K mg base CX k f fd ps sp ∧ Binds K fd ps []
theorem FnTells.met {f : Addr} (t : FnTells P w K mg base CX k f ps sp) (m : Meth K C nm f) : Met P w K mg base CX k C nm ps sp := let ⟨fd, F, b⟩ := t.ex; ⟨f, fd, F, m, b⟩
variable {st : Stmt} {N : List Str} {f : Addr}
end
section
variable {X : Cx} {CX : CXT} {k m : Nat} {x nm : Str} {ps : List Str} {sp : Sp} {E : XK} {p pos apos : Pos} {e o : Expr} {es : List Expr} {t : TA} {ta : TE} {C : Addr} {pins : List (Addr × Obj)} {EX : St → XK}
end
end L2
set_option Elab.async false
set_option linter.all false
set_option maxRecDepth 100000
namespace L2
open PySem PySem.Spec PyProof.Rows
/-- from 0 on, below 2 ^ k -/
def Bd (k : Nat) (x : Int) : Prop := 0 ≤ x ∧ x < 2 ^ k
theorem p2_mono {a b : Nat} (h : a ≤ b) : (2 : Int) ^ a ≤ 2 ^ b := by
  have h : (2 : Nat) ^ a ≤ 2 ^ b := Nat.pow_le_pow_right (by decide) h
  exact_mod_cast h
theorem p2_pos (k : Nat) : (0 : Int) < 2 ^ k := by
  have : (0 : Nat) < 2 ^ k := Nat.pow_pos (by decide)
  exact_mod_cast this
theorem Bd.mono {a b : Nat} {x : Int} (h : a ≤ b) (hx : Bd a x) : Bd b x := ⟨hx.1, Int.lt_of_lt_of_le hx.2 (p2_mono h)⟩
theorem Bd.mul {a b : Nat} {x y : Int} (hx : Bd a x) (hy : Bd b y) : Bd (a + b) (x * y) := by
  refine ⟨Int.mul_nonneg hx.1 hy.1, ?_⟩
  rw [Int.pow_add]
  exact Int.lt_of_le_of_lt (Int.mul_le_mul_of_nonneg_left (Int.le_of_lt hy.2) hx.1) (Int.mul_lt_mul_of_pos_right hx.2 (p2_pos b))
theorem Bd.add {a : Nat} {x y : Int} (hx : Bd a x) (hy : Bd a y) : Bd (a + 1) (x + y) := by
  have h1 := hx.2
  have h2 := hy.2
  have h3 := hx.1
  have h4 := hy.1
  refine ⟨by omega, ?_⟩
  rw [Int.pow_succ]
  omega
theorem Bd.abs {k : Nat} {x : Int} (h : Bd k x) : x.natAbs < 2 ^ k := by
  have h1 := h.1
  have h2 := h.2
  have e : ((x.natAbs : Nat) : Int) < ((2 ^ k : Nat) : Int) := by
    rw [Int.natAbs_of_nonneg h1]
    exact_mod_cast h2
  exact_mod_cast e
theorem Bd.le {k : Nat} {x y : Int} (h : Bd k x) (h0 : 0 ≤ y) (hy : y ≤ x) : Bd k y := ⟨h0, Int.lt_of_le_of_lt hy h.2⟩
theorem bits_of {k : Nat} {x : Int} (h : x.natAbs < 2 ^ k) : Builtin.Int.intBits x ≤ k := by
  unfold Builtin.Int.intBits
  split
  · exact Nat.zero_le _
  · rename_i hx
    have : x.natAbs ≠ 0 := by
      intro z
      apply hx
      simpa using z
    have := (Nat.log2_lt this).mpr h
    omega
theorem mul_wide {i j : Int} (hi : i.natAbs < 2 ^ 4000) (hj : j.natAbs < 2 ^ 4000) : IntMulOk i j := by
  have h1 := bits_of hi
  have h2 := bits_of hj
  unfold IntMulOk
  intro h
  have h := (Bool.and_eq_true_iff.mp h).2
  unfold Builtin.Int.intTooBig at h
  have h : ((Builtin.Int.intBits i : Nat) : Int) + ((Builtin.Int.intBits j : Nat) : Int) > (bitsLine : Nat) := of_decide_eq_true h
  have h3 : (8000 : Nat) ≤ bitsLine := by decide
  omega
theorem div_wide {i j : Int} (hj : j.natAbs < 2 ^ 4000) : Builtin.divisionGoesByPylong i j = false := by
  unfold Builtin.divisionGoesByPylong
  by_cases e : j = 0
  · subst e
    rfl
  · have h0 : j.natAbs ≠ 0 := by omega
    have h1 := (Nat.log2_lt h0).mpr hj
    have e2 : (j == 0) = false := by simpa using e
    simp only [e2]
    rw [Bool.and_eq_false_iff]
    left
    rw [decide_eq_false_iff_not]
    simp only [Bool.false_eq_true, if_false]
    omega
def CMulW (i j : Int) : Prop := Bd 4000 i ∧ Bd 4000 j
def CDivW (i j : Int) : Prop := 0 < j ∧ Bd 4000 j
section
variable {X : Cx}
theorem op_mulW : OpR X (binaryOp .Mult) (rI CMulW fun i j => .int (i * j)) := opI fun _ _ _ _ _ _ _ hc q => mul_int q (mul_wide hc.1.abs hc.2.abs)
theorem op_fdivW : OpR X (binaryOp .FloorDiv) (rI CDivW fun i j => .int (i / j)) := opI fun i j _ _ _ _ _ hc q => by
  have h1 : (0 : Int) < j := hc.1
  exact floordiv_int (by omega) (by rw [Int.fdiv_eq_ediv_of_nonneg i (by omega)]; exact q) (.inl (div_wide hc.2.abs))
end
section
variable {i j : Int} {H : Hp} {Q : VK}
theorem w_mulW {f : Int → Int → V} (h0 : Bd 4000 i) (h1 : Bd 4000 j) (h : Q (f i j) H) : rI CMulW f (.int i) (.int j) H Q := ⟨i, j, rfl, rfl, ⟨h0, h1⟩, h⟩
theorem w_divW {f : Int → Int → V} (h0 : 0 < j) (h1 : Bd 4000 j) (h : Q (f i j) H) : rI CDivW f (.int i) (.int j) H Q := ⟨i, j, rfl, rfl, ⟨h0, h1⟩, h⟩
end
/-- a comprehension over a range, by a word over the list so far and the heap -/
theorem go_compR {σ : St} {H : Hp} {te : TE} {tr : TA} {Q : VK} {fr : List Nat} {fvs : St} {n : Nat} (Iv : Addr → Nat → List V → Hp → Prop) (hr : TelA tr σ H [.int (n : Int)]) (hz : n ≤ 1000000) (hf : (fr.map fun i => (σ[i]?).getD none) = fvs)
    (h0 : ∀ acc H', New H H' acc (.lst []) → Iv acc 0 [] H') (ha : ∀ acc i ys H', Iv acc i ys H' → H' acc = some (.lst ys) ∧ ys.length = i)
    (turn : ∀ acc i ys H' (R : VK), i < n → Iv acc i ys H' → (∀ y H2, H2 acc = some (.lst ys) → (∀ H3, Off acc H2 H3 → H3 acc = some (.lst (ys ++ [y])) → Iv acc (i + 1) (ys ++ [y]) H3) → R y H2) → te (some (.int i) :: fvs) H' R)
    (k : ∀ acc ys H', Iv acc n ys H' → Q (.ref acc) H') : tComp (iRng1 tr) 1 fr (gName 0) tTrue te σ H Q := by
  refine hr _ ⟨n, rfl, by omega, by omega, fun acc hacc => ?_⟩
  subst hf
  rw [Int.toNat_natCast]
  refine comp_by items_range (fun i ys H' => Iv acc i ys H') (h0 acc _ (.mk' hacc)) (fun i ys H' _ h => ⟨trivial, (ha acc i ys H' h).1⟩) ?_ ?_
  · rintro i x tv ys H' hx hi h htv
    obtain ⟨tv0, rfl⟩ : ∃ a, tv = [a] := List.length_eq_one_iff.mp htv
    have hi' : i < n := by simpa [rangeV] using hi
    obtain rfl := rangeV_get hx hi'
    unfold gName tTrue
    dsimp only
    rw [if_pos rfl]
    refine turn acc i ys H' _ hi' h fun y H2 h1 h2 => ⟨?_, h1, CompW.next (tv := [some (V.int i)]) hi (h2 _ Off.upd upd_same) rfl⟩
    rw [(ha acc i ys H' h).2]
    exact Nat.lt_of_lt_of_le hi' (small_line hz)
  · rintro ys H' h
    rw [show (rangeV 0 n).length = n by simp [rangeV]] at h
    exact k acc ys H' h
end L2
set_option Elab.async false
set_option linter.all false
set_option maxRecDepth 100000
set_option maxHeartbeats 4000000
namespace K07
open PySem L2 PyProof.Rows
def top (i : Nat) : Stmt := PySem.Challenge.pw_slideroom_k07_fractions.main.body.getD i (.Pass ⟨0, 0, 0, 0⟩)
abbrev s_cdiv : Stmt := top 1
theorem sc_cdiv : FnScope ["one", "other", "rest"] ["one", "other"] (defScope s_cdiv) := ⟨rfl, rfl, rfl, by decide +kernel, rfl, by decide +kernel, by decide +kernel⟩
abbrev s_frac : Stmt := top 2
theorem sc_frac : FnScope ["top", "bottom", "divisor"] ["top", "bottom"] (defScope s_frac) := ⟨rfl, rfl, rfl, by decide +kernel, rfl, by decide +kernel, by decide +kernel⟩
abbrev s_added : Stmt := top 3
theorem sc_added : FnScope ["one", "other"] ["one", "other"] (defScope s_added) := ⟨rfl, rfl, rfl, by decide +kernel, rfl, by decide +kernel, by decide +kernel⟩
abbrev s_less : Stmt := top 4
theorem sc_less : FnScope ["one", "other"] ["one", "other"] (defScope s_less) := ⟨rfl, rfl, rfl, by decide +kernel, rfl, by decide +kernel, by decide +kernel⟩
abbrev s_cell_at : Stmt := top 6
theorem sc_cell_at : FnScope ["_law_script", "_law_k"] ["_law_script", "_law_k"] (defScope s_cell_at) := ⟨rfl, rfl, rfl, by decide +kernel, rfl, by decide +kernel, by decide +kernel⟩
abbrev s_box : Stmt := top 7
theorem sc_box : FnScope ["_law_cell"] ["_law_cell"] (defScope s_box) := ⟨rfl, rfl, rfl, by decide +kernel, rfl, by decide +kernel, by decide +kernel⟩
abbrev s_take : Stmt := top 8
theorem sc_take : FnScope ["_law_box_here", "_law_many", "_law_number_here"] ["_law_box_here", "_law_many"] (defScope s_take) := ⟨rfl, rfl, rfl, by decide +kernel, rfl, by decide +kernel, by decide +kernel⟩
abbrev s_whole : Stmt := top 9
theorem sc_whole : FnScope ["_law_thing"] ["_law_thing"] (defScope s_whole) := ⟨rfl, rfl, rfl, by decide +kernel, rfl, by decide +kernel, by decide +kernel⟩
abbrev s_ldiv : Stmt := top 10
theorem sc_ldiv : FnScope ["_law_one", "_law_other"] ["_law_one", "_law_other"] (defScope s_ldiv) := ⟨rfl, rfl, rfl, by decide +kernel, rfl, by decide +kernel, by decide +kernel⟩
abbrev s_worth : Stmt := top 11
theorem sc_worth : FnScope ["_law_found", "_law_top", "_law_bottom"] ["_law_found", "_law_top", "_law_bottom"] (defScope s_worth) := ⟨rfl, rfl, rfl, by decide +kernel, rfl, by decide +kernel, by decide +kernel⟩
abbrev s_number : Stmt := top 12
theorem sc_number : FnScope ["_law_box_here", "_law_some"] ["_law_box_here"] (defScope s_number) := ⟨rfl, rfl, rfl, by decide +kernel, rfl, by decide +kernel, by decide +kernel⟩
abbrev s_pair : Stmt := top 13
theorem sc_pair : FnScope ["_law_box_here", "_law_top", "_law_bottom", "_law_factor"] ["_law_box_here"] (defScope s_pair) := ⟨rfl, rfl, rfl, by decide +kernel, rfl, by decide +kernel, by decide +kernel⟩
abbrev s_pairs : Stmt := top 14
theorem sc_pairs : FnScope ["_law_box_here", "_law_pairs_here", "_law_way", "_law_by"] ["_law_box_here"] (defScope s_pairs) := ⟨rfl, rfl, rfl, by decide +kernel, rfl, by decide +kernel, by decide +kernel⟩
abbrev s_lless : Stmt := top 15
theorem sc_lless : FnScope ["_law_one", "_law_other", "_law_found"] ["_law_one", "_law_other"] (defScope s_lless) := ⟨rfl, rfl, rfl, by decide +kernel, rfl, by decide +kernel, by decide +kernel⟩
abbrev s_law : Stmt := top 16
theorem sc_law : FnScope ["_law_script", "_law_k", "_law_box_here", "_law_pairs_here", "_law_total", "_law_top", "_law_bottom", "_law_j", "_law_one", "_law_other", "_law_both"] ["_law_script"] (defScope s_law) := ⟨rfl, rfl, rfl, by decide +kernel, rfl, by decide +kernel, by decide +kernel⟩
structure Txt (K : PySem.W.Frag) (mg : Str → Option Value) : Prop where
  d_cdiv : HasDef K mg "common_divisor" s_cdiv
  d_frac : HasDef K mg "fraction" s_frac
  d_added : HasDef K mg "added" s_added
  d_less : HasDef K mg "is_less" s_less
  d_cell_at : HasDef K mg "_law_cell_at" s_cell_at
  d_box : HasDef K mg "_law_box" s_box
  d_take : HasDef K mg "_law_take" s_take
  d_whole : HasDef K mg "_law_is_whole" s_whole
  d_ldiv : HasDef K mg "_law_divisor" s_ldiv
  d_worth : HasDef K mg "_law_worth" s_worth
  d_number : HasDef K mg "_law_number" s_number
  d_pair : HasDef K mg "_law_pair" s_pair
  d_pairs : HasDef K mg "_law_pairs" s_pairs
  d_lless : HasDef K mg "_law_less" s_lless
  n_isinstance : mg "isinstance" = none
  n_int : mg "int" = none
  n_bool : mg "bool" = none
  n_tuple : mg "tuple" = none
  n_len : mg "len" = none
  n_range : mg "range" = none
  n_max : mg "max" = none
  n_min : mg "min" = none
local macro_rules | `(tactic| walk_at "go") => `(tactic| with_reducible (first
  | refine go_seq ?_ | refine go_asg ?_ | refine go_ret ?_ | refine go_if ?_ | refine go_drop ?_ | refine go_next ?_ | refine go_nx ?_ | refine w_rt ?_
  | refine go_test ?_ | refine go_b ?_ | refine go_op ?_ | refine go_cb ?_ | refine go_cons ?_ | refine go_nil ?_ | refine w_call ?_ | refine w_c ?_
  | refine wv0 ?_ | refine wv1 ?_ | refine wv2 ?_ | refine wv3 ?_ | refine wv4 ?_ | refine wv5 ?_ | refine wv6 ?_ | refine wv7 ?_ | refine wv8 ?_ | refine wv9 ?_ | refine wv10 ?_ | refine wv11 ?_ | refine wv12 ?_ | refine wv13 ?_
  | refine wn0 ?_ | refine wn1 ?_ | refine wn2 ?_ | refine wn3 ?_ | refine wn4 ?_ | refine wn5 ?_ | refine wn6 ?_ | refine wn7 ?_ | refine wn8 ?_ | refine wn9 ?_ | refine wn10 ?_ | refine wn11 ?_ | refine wn12 ?_ | refine wn13 ?_
  | refine w_i0 ?_ | refine w_u ?_ | refine w_un ?_ | refine w_eqi ?_ | refine w_nei ?_ | refine w_eqs ?_ | refine w_nes ?_ | refine w_eqb ?_ | refine w_neb ?_ | refine w_bl ?_ | refine w_not ?_ | refine w_and ?_ | refine w_or ?_ | refine w_notV ?_ | refine w_andV ?_ | refine w_orV ?_
  | refine w_ifE ?_ | refine w_chain ?_ | refine w_bm ?_ | refine w_bm0 ?_ | refine w_sub ?_ | refine w_slice ?_ | refine w_noPart ?_ | refine w_part ?_ | refine w_int ?_ | refine w_max ?_ | refine w_min ?_ | refine w_intB ?_ | refine w_intI ?_
  | refine w_mod (by decide) ?_ | refine w_div (by decide) (by decide) ?_ | refine w_pow (by decide) (by decide) (by decide) ?_ | refine w_mulL (by decide) (by decide) ?_ | refine w_mulR (by decide) (by decide) ?_ | refine go_tupA ?_ | refine go_lstA ?_ | refine w_notT ?_ | refine w_isB ?_ | refine w_isNB ?_ | refine w_revSl ?_ | refine w_din ?_ | refine w_dput ?_))
theorem gcd_step {x y : Int} (hx : 0 ≤ x) (hy : 0 < y) : Int.gcd y (x % y) = Int.gcd x y := by
  obtain ⟨m, rfl⟩ := Int.eq_ofNat_of_zero_le hx
  obtain ⟨n, rfl⟩ := Int.eq_ofNat_of_zero_le (Int.le_of_lt hy)
  show Nat.gcd n ((m : Int) % (n : Int)).natAbs = Nat.gcd m n
  rw [show ((m : Int) % (n : Int)).natAbs = m % n from rfl, Nat.gcd_comm m n, Nat.gcd_rec n m, Nat.gcd_comm]
theorem gcd_end {x : Int} (hx : 0 ≤ x) : ((Int.gcd x 0 : Nat) : Int) = x := by
  obtain ⟨m, rfl⟩ := Int.eq_ofNat_of_zero_le hx
  show ((Nat.gcd m 0 : Nat) : Int) = m
  rw [Nat.gcd_zero_right]
abbrev gc (a b : Int) : Int := ((Int.gcd a b : Nat) : Int)
def fx (a b : Int) : Int := a / gc a b
theorem gc_pos {a b : Int} (hb : 0 < b) : 0 < gc a b := by
  have : 0 < Int.gcd a b := Int.gcd_pos_of_ne_zero_right a (by omega)
  exact_mod_cast this
theorem gc_le {a b : Int} (hb : 0 < b) : gc a b ≤ b := Int.le_of_dvd hb (Int.gcd_dvd_right a b)
def fy (a b : Int) : Int := b / gc a b
/-- x over y is a over b in lowest terms -/
structure Low (a b x y : Int) : Prop where
  x0 : 0 ≤ x
  y1 : 1 ≤ y
  e : x * b = a * y
  g : Int.gcd x y = 1
theorem low_of {a b : Int} (ha : 0 ≤ a) (hb : 0 < b) : Low a b (fx a b) (fy a b) ∧ fx a b ≤ a ∧ fy a b ≤ b := by
  have hg := gc_pos (a := a) hb
  obtain ⟨x, ex⟩ := Int.gcd_dvd_left a b
  obtain ⟨y, ey⟩ := Int.gcd_dvd_right a b
  have dx : fx a b = x := Int.ediv_eq_of_eq_mul_right (by omega) ex
  have dy : fy a b = y := Int.ediv_eq_of_eq_mul_right (by omega) ey
  have h1 : 0 ≤ fx a b := Int.ediv_nonneg ha (by omega)
  have h2 : 0 < fy a b := Int.ediv_pos_of_pos_of_dvd hb (by omega) (Int.gcd_dvd_right a b)
  refine ⟨⟨h1, by omega, ?_, ?_⟩, Int.ediv_le_self _ ha, Int.ediv_le_self _ (by omega)⟩
  · have key : ∀ g : Int, a = g * x → b = g * y → x * b = a * y := fun g e1 e2 => by
      rw [e1, e2]
      grind
    rw [dx, dy]
    exact key _ ex ey
  · exact Int.gcd_ediv_gcd_ediv_gcd_of_ne_zero_right (by omega)
theorem low_add {top bot x y a b x2 y2 : Int} (hy : 1 ≤ y) (h : x * bot = top * y) (h2 : x2 * (y * b) = (x * b + a * y) * y2) : x2 * (bot * b) = (top * b + a * bot) * y2 := by
  have h3 : y * (x2 * (bot * b)) = y * ((top * b + a * bot) * y2) := by grind
  exact Int.eq_of_mul_eq_mul_left (by omega) h3
def sp_cdiv : Sp := fun vs H Q _ => ∃ a b : Int, vs = [.int a, .int b] ∧ 0 ≤ a ∧ 0 ≤ b ∧ ∀ H', Same H H' → Q (.int (gc a b)) H'
def sp_frac : Sp := fun vs H Q _ => ∃ a b : Int, vs = [.int a, .int b] ∧ 0 ≤ a ∧ 0 < b ∧ Bd 4000 b ∧ ∀ (p : Addr) (H' : Hp), New H H' p (.tup [.int (fx a b), .int (fy a b)]) → Q (.ref p) H'
def sp_added : Sp := fun vs H Q _ => ∃ (p q : Addr) (a b c d : Int), vs = [.ref p, .ref q] ∧ H p = some (.tup [.int a, .int b]) ∧ H q = some (.tup [.int c, .int d]) ∧ Bd 1500 a ∧ Bd 1500 b ∧ Bd 1500 c ∧ Bd 1500 d ∧ 0 < b ∧ 0 < d ∧
  ∀ (r : Addr) (H' : Hp), New H H' r (.tup [.int (fx (a * d + c * b) (b * d)), .int (fy (a * d + c * b) (b * d))]) → Q (.ref r) H'
def sp_less : Sp := fun vs H Q _ => ∃ (p q : Addr) (a b c d : Int), vs = [.ref p, .ref q] ∧ H p = some (.tup [.int a, .int b]) ∧ H q = some (.tup [.int c, .int d]) ∧ Bd 1500 a ∧ Bd 1500 b ∧ Bd 1500 c ∧ Bd 1500 d ∧ Q (.bl (decide (a * d < c * b))) H
def sp_lless : Sp := fun vs H Q _ => ∃ (p q : Addr) (a b c d : Int), vs = [.ref p, .ref q] ∧ H p = some (.tup [.int a, .int b]) ∧ H q = some (.tup [.int c, .int d]) ∧ Bd 1500 a ∧ Bd 1500 b ∧ Bd 1500 c ∧ Bd 1500 d ∧ Q (.bl true) H
def sp_worth : Sp := fun vs H Q _ => ∃ (p : Addr) (x y a b : Int), vs = [.ref p, .int a, .int b] ∧ H p = some (.tup [.int x, .int y]) ∧ Low a b x y ∧ Bd 4000 x ∧ Bd 4000 y ∧ Bd 4000 a ∧ Bd 4000 b ∧ ∀ H', Same H H' → Q (.bl true) H'
def sp_whole (K : PySem.W.Frag) : Sp := fun vs H Q _ => ∃ x n, vs = [x] ∧ TyOf K H x (.type n) ∧ Q (.bl (isW x)) H
def sp_cell_at (K : PySem.W.Frag) : Sp := fun vs H Q _ => ∃ (a : Addr) (ns : List Int) (k : Int), vs = [.ref a, .int k] ∧ SqL K H a (ns.map V.int) ∧ 0 ≤ k ∧ ∀ c : Int, Q (.int c) H
def sp_box : Sp := fun vs H Q _ => ∃ c : Int, vs = [.int c] ∧ ∀ (p : Addr) (a b : Int) (H' : Hp), New H H' p (.lst [.int a, .int b, .int 0]) → Q (.ref p) H'
def BoxAt (H : Hp) (p : Addr) : Prop := ∃ a b c : Int, H p = some (.lst [.int a, .int b, .int c])
theorem BoxAt.same {H H' : Hp} {p : Addr} (s : Same H H') (h : BoxAt H p) : BoxAt H' p := let ⟨a, b, c, e⟩ := h; ⟨a, b, c, s _ _ e⟩
def sp_take : Sp := fun vs H Q _ => ∃ (p : Addr) (many : Int), vs = [.ref p, .int many] ∧ BoxAt H p ∧ 0 < many ∧ many < 2 ^ 128 ∧ ∀ (r : Int) (H' : Hp), 0 ≤ r → r < many → BoxAt H' p → Off p H H' → Q (.int r) H'
theorem at1 {x y z : V} : atI [x, y, z] 1 = some y := atI_nat (j := 1) rfl
theorem at2 {x y z : V} : atI [x, y, z] 2 = some z := atI_nat (j := 2) rfl
theorem at01 {x y : V} : atI [x, y] 1 = some y := atI_nat (j := 1) rfl
def MidG (g : Int) (H0 : Hp) : L2.St → Hp → Prop := fun σ H => ∃ (x y : Int) (o : List (Option V)), σ = some (.int x) :: some (.int y) :: o ∧ o.length = 1 ∧ 0 ≤ x ∧ 0 ≤ y ∧ gc x y = g ∧ H = H0
def MidG2 (g : Int) (H0 : Hp) : L2.St → Hp → Prop := fun σ H => ∃ (x y : Int), σ = [some (.int x), some (.int y)] ∧ 0 ≤ x ∧ 0 ≤ y ∧ gc x y = g ∧ Same H0 H
section
variable {P : Program} {w : World} {K : PySem.W.Frag} {mg : Str → Option Value} {base : Heap}
theorem D_cdiv (T : Txt K mg) : Def P w K mg base CX0 1 "common_divisor" ["one", "other"] sp_cdiv := by
  refine def_of T.d_cdiv sc_cdiv (fun vs H Q E h => ?_) (fun _ _ _ _ _ _ us hl => match us, hl with | [_, _], _ => rfl) (fun f cdv A outer s H vs Q E hr h => ?_)
  · obtain ⟨a, b, rfl, _⟩ := h
    rfl
  · obtain ⟨a, b, rfl, ha, hb, k⟩ := h
    have nd := sc_cdiv.nd
    refine ⟨_, (pss_cons (ps_while PassesOwn.never (pt_cmpR op_gt (pv 1) pe_int (nomark _)) (pss_cons (ps_set (i := 2) nd rfl (Or.inl rfl) (pe_op op_mod (pv 0) (pv 1)))
        (pss_cons (ps_set (i := 0) nd rfl (Or.inl rfl) (pv 1))
        (pss_one (ps_set (i := 1) nd rfl (Or.inl rfl) (pv 2))))))
      (pss_one (ps_ret (pv 0)))), ?_⟩
    rw [show start ["one", "other", "rest"] [.int a, .int b] = [some (.int a), some (.int b), none] from rfl]
    repeat walk_at "go"
    refine while_by (MidG (gc a b) H) (fun σ _ => (match σ[1]? with | some (some (V.int j)) => j | _ => 0).toNat) ⟨a, b, [none], rfl, rfl, ha, hb, rfl, rfl⟩ ?_ ?_
    · rintro σ H' ⟨x, y, o, rfl, ho, hx, hy, hg, rfl⟩
      obtain ⟨o2, rfl⟩ : ∃ u, o = [u] := List.length_eq_one_iff.mp ho
      repeat walk_at "go"
      refine i_dec (fun h => ?_) (fun h => ?_)
      · repeat walk_at "go"
        refine w_mod h ?_
        repeat walk_at "go"
        have h1 := Int.emod_nonneg x (show y ≠ 0 by omega)
        have h2 := Int.emod_lt_of_pos x h
        refine ⟨⟨y, x % y, [some (.int (x % y))], rfl, rfl, hy, h1, ?_, rfl⟩, ?_⟩
        · rw [← hg]
          show ((Int.gcd y (x % y) : Nat) : Int) = _
          rw [gcd_step hx h]
        · show (x % y).toNat < y.toNat
          omega
      · repeat walk_at "go"
        have : y = 0 := by omega
        subst this
        rw [← hg] at k
        rw [show gc x 0 = x from gcd_end hx] at k
        exact k _ (Same.refl _)
    · rintro σ H Q Q' hq ⟨a, ea, x, y, ex, ey, z, ez, q⟩
      exact ⟨a, ea, x, y, ex, ey, z, ez, hq _ _ q⟩
theorem D_frac (T : Txt K mg) : Def P w K mg base CX0 2 "fraction" ["top", "bottom"] sp_frac := by
  have D_cdiv := D_cdiv (P := P) (w := w) (base := base) T
  refine def_of T.d_frac sc_frac (fun vs H Q E h => ?_) (fun _ _ _ _ _ _ us hl => match us, hl with | [_, _], _ => rfl) (fun f cdv A outer s H vs Q E hr h => ?_)
  · obtain ⟨a, b, rfl, _⟩ := h
    rfl
  · obtain ⟨a, b, rfl, ha, hb, bb, k⟩ := h
    have nd := sc_frac.nd
    refine ⟨_, (pss_cons (ps_set (i := 2) nd rfl (Or.inl rfl) (pe_def D_cdiv hr (pa_cons (pv 0) (pa_cons (pv 1) pa_nil))))
      (pss_one (ps_ret (pe_tupA (pa_cons (pe_op op_fdivW (pv 0) (pv 2)) (pa_cons (pe_op op_fdivW (pv 1) (pv 2)) pa_nil)))))), ?_⟩
    rw [show start ["top", "bottom", "divisor"] [.int a, .int b] = [some (.int a), some (.int b), none] from rfl]
    repeat walk_at "go"
    refine ⟨a, b, rfl, ha, by omega, fun H1 s1 => ?_⟩
    repeat walk_at "go"
    have hg := gc_pos (a := a) hb
    have hb2 : Bd 4000 (gc a b) := bb.le (by omega) (gc_le hb)
    refine w_divW hg hb2 ?_
    repeat walk_at "go"
    refine w_divW hg hb2 ?_
    repeat walk_at "go"
    exact ⟨by show 2 ≤ sizeLine; decide, fun q H' n => k q H' ⟨s1.trans n.s, n.e, fun x u e => n.n x u (s1 _ _ e)⟩⟩
theorem D_added (T : Txt K mg) : Def P w K mg base CX0 3 "added" ["one", "other"] sp_added := by
  have D_frac := D_frac (P := P) (w := w) (base := base) T
  refine def_of T.d_added sc_added (fun vs H Q E h => ?_) (fun _ _ _ _ _ _ us hl => match us, hl with | [_, _], _ => rfl) (fun f cdv A outer s H vs Q E hr h => ?_)
  · obtain ⟨p, q, a, b, c, d, rfl, _⟩ := h
    rfl
  · obtain ⟨p, q, a, b, c, d, rfl, hp, hq, ba, bb, bc, bd, b0, d0, k⟩ := h
    have nd := sc_added.nd
    refine ⟨_, (pss_one (ps_ret (pe_def D_frac hr (pa_cons (pe_op op_add (pe_op op_mulW (pe_ix ix_tup (pv 0) pe_int (fun _ _ => rfl)) (pe_ix ix_tup (pv 1) pe_int (fun _ _ => rfl))) (pe_op op_mulW (pe_ix ix_tup (pv 1) pe_int (fun _ _ => rfl)) (pe_ix ix_tup (pv 0) pe_int (fun _ _ => rfl)))) (pa_cons (pe_op op_mulW (pe_ix ix_tup (pv 0) pe_int (fun _ _ => rfl)) (pe_ix ix_tup (pv 1) pe_int (fun _ _ => rfl))) pa_nil))))), ?_⟩
    rw [show start ["one", "other"] [.ref p, .ref q] = [some (.ref p), some (.ref q)] from rfl]
    repeat walk_at "go"
    refine w_ixT (SqT.of hp) atI_0 ?_
    repeat walk_at "go"
    refine w_ixT (SqT.of hq) at01 ?_
    repeat walk_at "go"
    refine w_mulW (ba.mono (by decide)) (bd.mono (by decide)) ?_
    repeat walk_at "go"
    refine w_ixT (SqT.of hq) atI_0 ?_
    repeat walk_at "go"
    refine w_ixT (SqT.of hp) at01 ?_
    repeat walk_at "go"
    refine w_mulW (bc.mono (by decide)) (bb.mono (by decide)) ?_
    repeat walk_at "go"
    refine w_ixT (SqT.of hp) at01 ?_
    repeat walk_at "go"
    refine w_ixT (SqT.of hq) at01 ?_
    repeat walk_at "go"
    refine w_mulW (bb.mono (by decide)) (bd.mono (by decide)) ?_
    repeat walk_at "go"
    have h1 := (ba.mul bd).1
    have h2 := (bc.mul bb).1
    exact ⟨_, _, rfl, by omega, Int.mul_pos b0 d0, (bb.mul bd).mono (by decide), k⟩
theorem D_less (T : Txt K mg) : Def P w K mg base CX0 1 "is_less" ["one", "other"] sp_less := by
  refine def_of T.d_less sc_less (fun vs H Q E h => ?_) (fun _ _ _ _ _ _ us hl => match us, hl with | [_, _], _ => rfl) (fun f cdv A outer s H vs Q E hr h => ?_)
  · obtain ⟨p, q, a, b, c, d, rfl, _⟩ := h
    rfl
  · obtain ⟨p, q, a, b, c, d, rfl, hp, hq, ba, bb, bc, bd, k⟩ := h
    have nd := sc_less.nd
    refine ⟨_, (pss_one (ps_ret (pe_cmpR op_lt (pe_op op_mulW (pe_ix ix_tup (pv 0) pe_int (fun _ _ => rfl)) (pe_ix ix_tup (pv 1) pe_int (fun _ _ => rfl))) (pe_op op_mulW (pe_ix ix_tup (pv 1) pe_int (fun _ _ => rfl)) (pe_ix ix_tup (pv 0) pe_int (fun _ _ => rfl))) (nomark _)))), ?_⟩
    rw [show start ["one", "other"] [.ref p, .ref q] = [some (.ref p), some (.ref q)] from rfl]
    repeat walk_at "go"
    refine w_ixT (SqT.of hp) atI_0 ?_
    repeat walk_at "go"
    refine w_ixT (SqT.of hq) at01 ?_
    repeat walk_at "go"
    refine w_mulW (ba.mono (by decide)) (bd.mono (by decide)) ?_
    repeat walk_at "go"
    refine w_ixT (SqT.of hq) atI_0 ?_
    repeat walk_at "go"
    refine w_ixT (SqT.of hp) at01 ?_
    repeat walk_at "go"
    refine w_mulW (bc.mono (by decide)) (bb.mono (by decide)) ?_
    repeat walk_at "go"
    exact k
theorem D_cell_at (T : Txt K mg) : Def P w K mg base CX0 1 "_law_cell_at" ["_law_script", "_law_k"] (sp_cell_at K) := by
  refine def_of T.d_cell_at sc_cell_at (fun vs H Q E h => ?_) (fun _ _ _ _ _ _ us hl => match us, hl with | [_, _], _ => rfl) (fun f cdv A outer s H vs Q E hr h => ?_)
  · obtain ⟨a, ns, m, rfl, _⟩ := h
    rfl
  · obtain ⟨a, ns, m, rfl, hS, m0, k⟩ := h
    have nd := sc_cell_at.nd
    refine ⟨_, (pss_cons (ps_if (pt_cmpR op_lt (pv 1) (pe_callB call_lenN rfl T.n_len boot_len (pa_cons (pv 0) pa_nil)) (nomark _)) (pss_one (ps_ret (pe_ix ix_list (pv 0) (pv 1) (fun _ _ => rfl)))) pss_nil)
      (pss_one (ps_ret (pe_op op_add (pe_op op_mul pe_int (pv 1)) pe_int)))), ?_⟩
    rw [show start ["_law_script", "_law_k"] [.ref a, .int m] = [some (.ref a), some (.int m)] from rfl]
    repeat walk_at "go"
    refine w_lenL hS ?_
    repeat walk_at "go"
    refine i_dec (fun h => ?_) (fun h => ?_)
    · repeat walk_at "go"
      obtain ⟨v, e, mm⟩ := atI_lt m0 h
      obtain ⟨c, _, rfl⟩ := List.mem_map.mp mm
      exact w_ixL hS e (k c)
    · repeat walk_at "go"
      exact k _
theorem D_box (T : Txt K mg) : Def P w K mg base CX0 1 "_law_box" ["_law_cell"] sp_box := by
  refine def_of T.d_box sc_box (fun vs H Q E h => ?_) (fun _ _ _ _ _ _ us hl => match us, hl with | [_], _ => rfl) (fun f cdv A outer s H vs Q E hr h => ?_)
  · obtain ⟨c, rfl, _⟩ := h
    rfl
  · obtain ⟨c, rfl, k⟩ := h
    have nd := sc_box.nd
    refine ⟨_, (pss_cons (ps_if (pt_cmpR op_ge (pv 0) (pe_op op_pow pe_int pe_int) (nomark _)) (pss_one (ps_ret (pe_lstA (pa_cons (pv 0) (pa_cons (pe_op op_mod (pv 0) pe_int) (pa_cons pe_int pa_nil)))))) pss_nil)
      (pss_one (ps_ret (pe_lstA (pa_cons pe_int (pa_cons (pe_op op_mod (pv 0) pe_int) (pa_cons pe_int pa_nil))))))), ?_⟩
    rw [show start ["_law_cell"] [.int c] = [some (.int c)] from rfl]
    repeat walk_at "go"
    refine i_dec (fun h => ?_) (fun h => ?_)
    · repeat walk_at "go"
      exact ⟨by show 3 ≤ sizeLine; decide, fun q H' n => k q _ _ H' n⟩
    · repeat walk_at "go"
      exact ⟨by show 3 ≤ sizeLine; decide, fun q H' n => k q _ _ H' n⟩
theorem D_take (T : Txt K mg) : Def P w K mg base CX0 1 "_law_take" ["_law_box_here", "_law_many"] sp_take := by
  refine def_of T.d_take sc_take (fun vs H Q E h => ?_) (fun _ _ _ _ _ _ us hl => match us, hl with | [_, _], _ => rfl) (fun f cdv A outer s H vs Q E hr h => ?_)
  · obtain ⟨p, many, rfl, _⟩ := h
    rfl
  · obtain ⟨p, many, rfl, bx, m0, m1, k⟩ := h
    have nd := sc_take.nd
    refine ⟨_, (pss_cons (ps_if (pt_cmpR op_gt (pe_ix ix_list (pv 0) pe_int (fun _ _ => rfl)) pe_int (nomark _)) (pss_cons (ps_set (i := 2) nd rfl (Or.inl rfl) (pe_op op_mod (pe_ix ix_list (pv 0) pe_int (fun _ _ => rfl)) (pv 1)))
        (pss_cons (ps_asg (pe_op op_fdivW (pe_ix ix_list (pv 0) pe_int (fun _ _ => rfl)) (pv 1)) (pg_sub (pv 0) pe_int set_listA))
        (pss_one (ps_ret (pv 2))))) pss_nil)
      (pss_cons (ps_asg (pe_op op_add (pe_ix ix_list (pv 0) pe_int (fun _ _ => rfl)) pe_int) (pg_sub (pv 0) pe_int set_listA))
      (pss_cons (ps_set (i := 2) nd rfl (Or.inl rfl) (pe_op op_mod (pe_op op_add (pe_op op_add (pe_op op_mul (pe_ix ix_list (pv 0) pe_int (fun _ _ => rfl)) pe_int) (pe_op op_mul pe_int (pe_ix ix_list (pv 0) pe_int (fun _ _ => rfl)))) pe_int) pe_int))
      (pss_cons (ps_set (i := 2) nd rfl (Or.inl rfl) (pe_op op_mod (pe_op op_add (pe_op op_add (pe_op op_mul (pv 2) (pv 2)) (pe_op op_mul pe_int (pe_ix ix_list (pv 0) pe_int (fun _ _ => rfl)))) pe_int) pe_int))
      (pss_one (ps_ret (pe_op op_mod (pe_op op_mod (pe_op op_mul (pv 2) (pv 2)) pe_int) (pv 1)))))))), ?_⟩
    rw [show start ["_law_box_here", "_law_many", "_law_number_here"] [.ref p, .int many] = [some (.ref p), some (.int many), none] from rfl]
    obtain ⟨a, b, c, hp⟩ := bx
    have h0 : SqL K H p [V.int a, V.int b, V.int c] := SqL.of hp
    have bm : Bd 4000 many := Bd.mono (a := 128) (by decide) ⟨by omega, m1⟩
    repeat walk_at "go"
    refine w_ixL h0 atI_0 ?_
    repeat walk_at "go"
    refine i_dec (fun h => ?_) (fun h => ?_)
    · repeat walk_at "go"
      refine w_ixL h0 atI_0 ?_
      repeat walk_at "go"
      refine w_mod m0 ?_
      repeat walk_at "go"
      refine w_ixL h0 atI_0 ?_
      repeat walk_at "go"
      refine w_divW m0 bm ?_
      repeat walk_at "go"
      refine ⟨p, _, 0, 0, rfl, rfl, hp, rfl, fun H' f e => ?_⟩
      repeat walk_at "go"
      exact k _ H' (Int.emod_nonneg _ (by omega)) (Int.emod_lt_of_pos _ m0) ⟨_, _, _, e⟩ f
    · repeat walk_at "go"
      refine w_ixL h0 at2 ?_
      repeat walk_at "go"
      refine ⟨p, _, 2, 2, rfl, rfl, hp, rfl, fun H1 f1 e1 => ?_⟩
      have h1 : SqL K H1 p [V.int a, V.int b, V.int (c + 1)] := SqL.of e1
      repeat walk_at "go"
      refine w_ixL h1 at1 ?_
      repeat walk_at "go"
      refine w_ixL h1 at2 ?_
      repeat walk_at "go"
      generalize b * 48271 + 7919 * (c + 1) + 101 = z
      have b1 := Int.emod_nonneg z (show (2147483647 : Int) ≠ 0 by decide)
      have b2 := Int.emod_lt_of_pos z (show (0 : Int) < 2147483647 by decide)
      generalize z % 2147483647 = y at b1 b2
      refine w_mulL (by omega) (by omega) ?_
      repeat walk_at "go"
      refine w_ixL h1 at2 ?_
      repeat walk_at "go"
      generalize y * y + 104729 * (c + 1) + 7 = z2
      have b3 := Int.emod_nonneg z2 (show (2147483629 : Int) ≠ 0 by decide)
      have b4 := Int.emod_lt_of_pos z2 (show (0 : Int) < 2147483629 by decide)
      generalize z2 % 2147483629 = x at b3 b4
      refine w_mulL (by omega) (by omega) ?_
      repeat walk_at "go"
      refine w_mod m0 ?_
      repeat walk_at "go"
      exact k _ H1 (Int.emod_nonneg _ (by omega)) (Int.emod_lt_of_pos _ m0) ⟨_, _, _, e1⟩ f1
theorem D_whole (T : Txt K mg) : Def P w K mg base CX0 1 "_law_is_whole" ["_law_thing"] (sp_whole K) := by
  refine def_of T.d_whole sc_whole (fun vs H Q E h => ?_) (fun _ _ _ _ _ _ us hl => match us, hl with | [_], _ => rfl) (fun f cdv A outer s H vs Q E hr h => ?_)
  · obtain ⟨x, n, rfl, _⟩ := h
    rfl
  · obtain ⟨x, n, rfl, ty, k⟩ := h
    have nd := sc_whole.nd
    refine ⟨_, (pss_one (ps_ret (pe_and (pe_callB call_isT rfl T.n_isinstance boot_isinstance (pa_cons (pv 0) (pa_cons (pe_ty (T := "int") rfl T.n_int boot_int) pa_nil))) (pe_one (pe_not (pe_callB call_isT rfl T.n_isinstance boot_isinstance (pa_cons (pv 0) (pa_cons (pe_ty (T := "bool") rfl T.n_bool boot_bool) pa_nil)))))))), ?_⟩
    rw [show start ["_law_thing"] [x] = [some (x)] from rfl]
    rw [isW_eq] at k
    repeat walk_at "go"
    refine w_is ty (bt_int ty) ?_
    repeat walk_at "go"
    refine i_b (fun h => ?_) (fun h => ?_)
    · repeat walk_at "go"
      refine w_is ty (bt_bool ty) ?_
      repeat walk_at "go"
      rw [h] at k
      exact k
    · rw [h] at k
      exact k
theorem D_ldiv (T : Txt K mg) : Def P w K mg base CX0 1 "_law_divisor" ["_law_one", "_law_other"] sp_cdiv := by
  refine def_of T.d_ldiv sc_ldiv (fun vs H Q E h => ?_) (fun _ _ _ _ _ _ us hl => match us, hl with | [_, _], _ => rfl) (fun f cdv A outer s H vs Q E hr h => ?_)
  · obtain ⟨a, b, rfl, _⟩ := h
    rfl
  · obtain ⟨a, b, rfl, ha, hb, k⟩ := h
    have nd := sc_ldiv.nd
    refine ⟨_, (pss_cons (ps_while PassesOwn.never (pt_cmpR op_gt (pv 1) pe_int (nomark _)) (pss_one (ps_par (i := 0) (j := 1) rfl nd rfl rfl (by decide) rfl rfl (pa_cons (pv 1) (pa_cons (pe_op op_mod (pv 0) (pv 1)) pa_nil)) rfl)))
      (pss_one (ps_ret (pv 0)))), ?_⟩
    rw [show start ["_law_one", "_law_other"] [.int a, .int b] = [some (.int a), some (.int b)] from rfl]
    repeat walk_at "go"
    refine while_by (MidG2 (gc a b) H) (fun σ _ => (match σ[1]? with | some (some (V.int j)) => j | _ => 0).toNat) ⟨a, b, rfl, ha, hb, rfl, Same.refl _⟩ ?_ ?_
    · rintro σ H' ⟨x, y, rfl, hx, hy, hg, sm⟩
      repeat walk_at "go"
      refine i_dec (fun h => ?_) (fun h => ?_)
      · refine go_par ?_
        repeat walk_at "go"
        refine w_mod h ?_
        repeat walk_at "go"
        refine ⟨_, _, rfl, ?_⟩
        repeat walk_at "go"
        have h1 := Int.emod_nonneg x (show y ≠ 0 by omega)
        have h2 := Int.emod_lt_of_pos x h
        refine ⟨⟨y, x % y, rfl, hy, h1, ?_, sm⟩, ?_⟩
        · rw [← hg]
          show ((Int.gcd y (x % y) : Nat) : Int) = _
          rw [gcd_step hx h]
        · show (x % y).toNat < y.toNat
          omega
      · repeat walk_at "go"
        have : y = 0 := by omega
        subst this
        rw [← hg] at k
        rw [show gc x 0 = x from gcd_end hx] at k
        exact k _ sm
    · rintro σ H Q Q' hq ⟨a, ea, x, y, ex, ey, z, ez, q⟩
      exact ⟨a, ea, x, y, ex, ey, z, ez, hq _ _ q⟩
theorem D_worth (T : Txt K mg) : Def P w K mg base CX0 2 "_law_worth" ["_law_found", "_law_top", "_law_bottom"] sp_worth := by
  have D_whole := D_whole (P := P) (w := w) (base := base) T
  have D_ldiv := D_ldiv (P := P) (w := w) (base := base) T
  refine def_of T.d_worth sc_worth (fun vs H Q E h => ?_) (fun _ _ _ _ _ _ us hl => match us, hl with | [_, _, _], _ => rfl) (fun f cdv A outer s H vs Q E hr h => ?_)
  · obtain ⟨p, x, y, a, b, rfl, _⟩ := h
    rfl
  · obtain ⟨p, x, y, a, b, rfl, hp, lo, bx, bY, ba, bb, k⟩ := h
    have nd := sc_worth.nd
    refine ⟨_, (pss_cons (ps_if (PW.pt (pw_or (pt_not (pt_val (pe_callB call_isT rfl T.n_isinstance boot_isinstance (pa_cons (pv 0) (pa_cons (pe_ty (T := "tuple") rfl T.n_tuple boot_tuple) pa_nil))))) (pw_or1 (pt_cmpR op_ne (pe_callB call_lenN rfl T.n_len boot_len (pa_cons (pv 0) pa_nil)) pe_int (nomark _))))) (pss_one (ps_ret pe_bl)) pss_nil)
      (pss_cons (ps_if (PW.pt (pw_or (pt_not (pt_val (pe_def D_whole hr (pa_cons (pe_ix ix_tup (pv 0) pe_int (fun _ _ => rfl)) pa_nil)))) (pw_or (pt_not (pt_val (pe_def D_whole hr (pa_cons (pe_ix ix_tup (pv 0) pe_int (fun _ _ => rfl)) pa_nil)))) (pw_or (pt_cmpR op_lt (pe_ix ix_tup (pv 0) pe_int (fun _ _ => rfl)) pe_int (nomark _)) (pw_or1 (pt_cmpR op_lt (pe_ix ix_tup (pv 0) pe_int (fun _ _ => rfl)) pe_int (nomark _))))))) (pss_one (ps_ret pe_bl)) pss_nil)
      (pss_one (ps_ret (pe_and (pe_cmpR op_eq (pe_op op_mulW (pe_ix ix_tup (pv 0) pe_int (fun _ _ => rfl)) (pv 2)) (pe_op op_mulW (pv 1) (pe_ix ix_tup (pv 0) pe_int (fun _ _ => rfl))) (nomark _)) (pe_one (pe_cmpR op_eq (pe_def D_ldiv hr (pa_cons (pe_ix ix_tup (pv 0) pe_int (fun _ _ => rfl)) (pa_cons (pe_ix ix_tup (pv 0) pe_int (fun _ _ => rfl)) pa_nil))) pe_int (nomark _)))))))), ?_⟩
    rw [show start ["_law_found", "_law_top", "_law_bottom"] [.ref p, .int a, .int b] = [some (.ref p), some (.int a), some (.int b)] from rfl]
    have x0 := lo.x0
    have y1 := lo.y1
    repeat walk_at "go"
    refine w_is (.tup hp) (bt_tuple (.tup hp)) ?_
    repeat walk_at "go"
    refine i_nF (by decide) ?_
    repeat walk_at "go"
    refine w_lenT (SqT.of hp) ?_
    repeat walk_at "go"
    refine i_npos (by rfl) ?_
    repeat walk_at "go"
    refine w_ixT (SqT.of hp) atI_0 ?_
    repeat walk_at "go"
    refine ⟨_, _, rfl, .int _, ?_⟩
    repeat walk_at "go"
    refine i_nF rfl ?_
    repeat walk_at "go"
    refine w_ixT (SqT.of hp) at01 ?_
    repeat walk_at "go"
    refine ⟨_, _, rfl, .int _, ?_⟩
    repeat walk_at "go"
    refine i_nF rfl ?_
    repeat walk_at "go"
    refine w_ixT (SqT.of hp) atI_0 ?_
    repeat walk_at "go"
    refine i_neg (by omega) ?_
    repeat walk_at "go"
    refine w_ixT (SqT.of hp) at01 ?_
    repeat walk_at "go"
    refine i_neg (by omega) ?_
    repeat walk_at "go"
    refine w_ixT (SqT.of hp) atI_0 ?_
    repeat walk_at "go"
    refine w_mulW bx bb ?_
    repeat walk_at "go"
    refine w_ixT (SqT.of hp) at01 ?_
    repeat walk_at "go"
    refine w_mulW ba bY ?_
    repeat walk_at "go"
    refine i_pos lo.e ?_
    repeat walk_at "go"
    refine w_ixT (SqT.of hp) atI_0 ?_
    repeat walk_at "go"
    refine w_ixT (SqT.of hp) at01 ?_
    repeat walk_at "go"
    refine ⟨_, _, rfl, x0, by omega, fun H2 s2 => ?_⟩
    repeat walk_at "go"
    have e : gc x y = 1 := by
      show ((Int.gcd x y : Nat) : Int) = 1
      rw [lo.g]
      rfl
    rw [e]
    exact k H2 s2
theorem D_lless (T : Txt K mg) : Def P w K mg base CX0 2 "_law_less" ["_law_one", "_law_other"] sp_lless := by
  have D_less := D_less (P := P) (w := w) (base := base) T
  refine def_of T.d_lless sc_lless (fun vs H Q E h => ?_) (fun _ _ _ _ _ _ us hl => match us, hl with | [_, _], _ => rfl) (fun f cdv A outer s H vs Q E hr h => ?_)
  · obtain ⟨p, q, a, b, c, d, rfl, _⟩ := h
    rfl
  · obtain ⟨p, q, a, b, c, d, rfl, hp, hq, ba, bb, bc, bd, k⟩ := h
    have nd := sc_lless.nd
    refine ⟨_, (pss_cons (ps_set (i := 2) nd rfl (Or.inl rfl) (pe_def D_less hr (pa_cons (pv 0) (pa_cons (pv 1) pa_nil))))
      (pss_one (ps_ret (pe_and (pe_callB call_isT rfl T.n_isinstance boot_isinstance (pa_cons (pv 2) (pa_cons (pe_ty (T := "bool") rfl T.n_bool boot_bool) pa_nil))) (pe_one (pe_cmpR op_eq (pv 2) (pe_cmpR op_lt (pe_op op_mulW (pe_ix ix_tup (pv 0) pe_int (fun _ _ => rfl)) (pe_ix ix_tup (pv 1) pe_int (fun _ _ => rfl))) (pe_op op_mulW (pe_ix ix_tup (pv 1) pe_int (fun _ _ => rfl)) (pe_ix ix_tup (pv 0) pe_int (fun _ _ => rfl))) (nomark _)) (nomark _))))))), ?_⟩
    rw [show start ["_law_one", "_law_other", "_law_found"] [.ref p, .ref q] = [some (.ref p), some (.ref q), none] from rfl]
    repeat walk_at "go"
    refine ⟨_, _, _, _, _, _, rfl, hp, hq, ba, bb, bc, bd, ?_⟩
    repeat walk_at "go"
    have ty : TyOf K H (.bl (decide (a * d < c * b))) (.type "bool") := .bl _
    refine w_is ty (bt_bool ty) ?_
    repeat walk_at "go"
    refine i_T rfl ?_
    repeat walk_at "go"
    refine w_ixT (SqT.of hp) atI_0 ?_
    repeat walk_at "go"
    refine w_ixT (SqT.of hq) at01 ?_
    repeat walk_at "go"
    refine w_mulW (ba.mono (by decide)) (bd.mono (by decide)) ?_
    repeat walk_at "go"
    refine w_ixT (SqT.of hq) atI_0 ?_
    repeat walk_at "go"
    refine w_ixT (SqT.of hp) at01 ?_
    repeat walk_at "go"
    refine w_mulW (bc.mono (by decide)) (bb.mono (by decide)) ?_
    repeat walk_at "go"
    rw [decide_eq_true rfl]
    exact k
end
end K07
set_option Elab.async false
set_option linter.all false
set_option maxRecDepth 100000
set_option maxHeartbeats 4000000
namespace K07
open PySem L2 PyProof.Rows
local macro_rules | `(tactic| walk_at "go") => `(tactic| with_reducible (first
  | refine go_seq ?_ | refine go_asg ?_ | refine go_ret ?_ | refine go_if ?_ | refine go_drop ?_ | refine go_next ?_ | refine go_nx ?_ | refine w_rt ?_
  | refine go_test ?_ | refine go_b ?_ | refine go_op ?_ | refine go_cb ?_ | refine go_cons ?_ | refine go_nil ?_ | refine w_call ?_ | refine w_c ?_
  | refine wv0 ?_ | refine wv1 ?_ | refine wv2 ?_ | refine wv3 ?_ | refine wv4 ?_ | refine wv5 ?_ | refine wv6 ?_ | refine wv7 ?_ | refine wv8 ?_ | refine wv9 ?_ | refine wv10 ?_ | refine wv11 ?_ | refine wv12 ?_ | refine wv13 ?_
  | refine wn0 ?_ | refine wn1 ?_ | refine wn2 ?_ | refine wn3 ?_ | refine wn4 ?_ | refine wn5 ?_ | refine wn6 ?_ | refine wn7 ?_ | refine wn8 ?_ | refine wn9 ?_ | refine wn10 ?_ | refine wn11 ?_ | refine wn12 ?_ | refine wn13 ?_
  | refine w_i0 ?_ | refine w_u ?_ | refine w_un ?_ | refine w_eqi ?_ | refine w_nei ?_ | refine w_eqs ?_ | refine w_nes ?_ | refine w_eqb ?_ | refine w_neb ?_ | refine w_bl ?_ | refine w_not ?_ | refine w_and ?_ | refine w_or ?_ | refine w_notV ?_ | refine w_andV ?_ | refine w_orV ?_
  | refine w_ifE ?_ | refine w_chain ?_ | refine w_bm ?_ | refine w_bm0 ?_ | refine w_sub ?_ | refine w_slice ?_ | refine w_noPart ?_ | refine w_part ?_ | refine w_int ?_ | refine w_max ?_ | refine w_min ?_ | refine w_intB ?_ | refine w_intI ?_
  | refine w_mod (by decide) ?_ | refine w_div (by decide) (by decide) ?_ | refine w_pow (by decide) (by decide) (by decide) ?_ | refine w_mulL (by decide) (by decide) ?_ | refine w_mulR (by decide) (by decide) ?_ | refine go_tupA ?_ | refine go_lstA ?_ | refine w_notT ?_ | refine w_isB ?_ | refine w_isNB ?_ | refine w_revSl ?_ | refine w_din ?_ | refine w_dput ?_))
theorem BoxAt.ne {H H' : Hp} {b q : Addr} {o : HO} (h : BoxAt H b) (n : New H H' q o) : q ≠ b := by
  obtain ⟨_, _, _, e⟩ := h
  exact (n.n _ _ e).symm
theorem BoxAt.off {H H' : Hp} {b p : Addr} (h : BoxAt H b) (f : Off p H H') (n : p ≠ b) : BoxAt H' b := by
  obtain ⟨x, y, z, e⟩ := h
  exact ⟨x, y, z, by rw [f b n.symm]; exact e⟩
theorem Kp.offN {H0 H H' : Hp} {b p : Addr} (k : Kp b H0 H) (f : Off p H H') (n : ∀ x u, H0 x = some u → x ≠ p) : Kp b H0 H' := fun x u hx e => by
  rw [f x (n x u e)]
  exact k x u hx e
theorem all_int {P : Int → Prop} {v : V} {ns : List Int} (h : ∀ n ∈ ns, P n) (hv : v ∈ ns.map V.int) : ∃ n, v = .int n ∧ P n := by
  obtain ⟨n, hn, rfl⟩ := List.mem_map.mp hv
  exact ⟨n, rfl, h n hn⟩
theorem in6 {P : Int → Prop} {a b c d e f : Int} (h : P a ∧ P b ∧ P c ∧ P d ∧ P e ∧ P f) : ∀ n ∈ [a, b, c, d, e, f], P n := by
  obtain ⟨h1, h2, h3, h4, h5, h6⟩ := h
  intro n hn
  simp only [List.mem_cons, List.not_mem_nil, or_false] at hn
  rcases hn with rfl | rfl | rfl | rfl | rfl | rfl <;> assumption
def Sm (n : Int) : Prop := 0 ≤ n ∧ n < 1000000000000000000000000000000
def Fc (n : Int) : Prop := 1 ≤ n ∧ n ≤ 1000000000000
theorem sm_bd {n : Int} (h : Sm n) : Bd 100 n := ⟨h.1, Int.lt_trans h.2 (by decide)⟩
theorem fc_bd {n : Int} (h : Fc n) : Bd 40 n := by
  obtain ⟨h1, h2⟩ := h
  exact ⟨by omega, Int.lt_of_le_of_lt h2 (by decide)⟩
def sp_number : Sp := fun vs H Q _ => ∃ b : Addr, vs = [.ref b] ∧ BoxAt H b ∧ ∀ (n : Int) (H' : Hp), Sm n → BoxAt H' b → Kp b H H' → Q (.int n) H'
/-- a pair in a heap, apart from the box -/
def PrAt (k : Nat) (b : Addr) (H : Hp) (v : V) (t n : Int) : Prop := ∃ q, v = .ref q ∧ q ≠ b ∧ H q = some (.tup [.int t, .int n]) ∧ Bd k t ∧ Bd k n ∧ 0 < n
theorem PrAt.kp {k : Nat} {b : Addr} {H H' : Hp} {v : V} {t n : Int} (c : Kp b H H') (h : PrAt k b H v t n) : PrAt k b H' v t n := by
  obtain ⟨q, e, nq, hq, r⟩ := h
  exact ⟨q, e, nq, c _ _ nq hq, r⟩
theorem PrAt.off {k : Nat} {b p : Addr} {H H' : Hp} {v : V} {t n : Int} {xs : List V} (f : Off p H H') (hp : H p = some (.lst xs)) (h : PrAt k b H v t n) : PrAt k b H' v t n := by
  obtain ⟨q, e, nq, hq, r⟩ := h
  exact ⟨q, e, nq, by rw [f q (ne_of hq hp fun z => by cases z)]; exact hq, r⟩
theorem PrAt.mono {k l : Nat} {b : Addr} {H : Hp} {v : V} {t n : Int} (c : k ≤ l) (h : PrAt k b H v t n) : PrAt l b H v t n := by
  obtain ⟨q, e, nq, hq, h1, h2, h3⟩ := h
  exact ⟨q, e, nq, hq, h1.mono c, h2.mono c, h3⟩
def sp_pair : Sp := fun vs H Q _ => ∃ b : Addr, vs = [.ref b] ∧ BoxAt H b ∧ ∀ (v : V) (t n : Int) (H' : Hp), PrAt 140 b H' v t n → BoxAt H' b → Kp b H H' → Q v H'
def sp_pairs : Sp := fun vs H Q _ => ∃ b : Addr, vs = [.ref b] ∧ BoxAt H b ∧ ∀ (p : Addr) (ws : List V) (H' : Hp), H' p = some (.lst ws) → p ≠ b → (∀ x u, H x = some u → x ≠ p) → ws.length = 6 → (∀ v ∈ ws, ∃ t n, PrAt 145 b H' v t n) → BoxAt H' b → Kp b H H' → Q (.ref p) H'
def PrsI (b : Addr) (H0 : Hp) (acc : Addr) (i : Nat) (ys : List V) (H : Hp) : Prop := (H acc = some (.lst ys) ∧ ys.length = i) ∧ acc ≠ b ∧ (∀ x u, H0 x = some u → x ≠ acc) ∧ (∀ v ∈ ys, ∃ t n, PrAt 140 b H v t n) ∧ BoxAt H b ∧ Kp b H0 H
section
variable {P : Program} {w : World} {K : PySem.W.Frag} {mg : Str → Option Value} {base : Heap}
theorem D_number (T : Txt K mg) : Def P w K mg base CX0 2 "_law_number" ["_law_box_here"] sp_number := by
  have D_take := D_take (P := P) (w := w) (base := base) T
  refine def_of T.d_number sc_number (fun vs H Q E h => ?_) (fun _ _ _ _ _ _ us hl => match us, hl with | [_], _ => rfl) (fun f cdv A outer s H vs Q E hr h => ?_)
  · obtain ⟨b, rfl, _⟩ := h
    rfl
  · obtain ⟨b, rfl, bx, k⟩ := h
    have nd := sc_number.nd
    refine ⟨_, (pss_cons (ps_set (i := 1) nd rfl (Or.inl rfl) (pe_lstA (pa_cons pe_int (pa_cons (pe_def D_take hr (pa_cons (pv 0) (pa_cons pe_int pa_nil))) (pa_cons (pe_def D_take hr (pa_cons (pv 0) (pa_cons pe_int pa_nil))) (pa_cons (pe_def D_take hr (pa_cons (pv 0) (pa_cons (pe_op op_pow pe_int pe_int) pa_nil))) pa_nil))))))
      (pss_one (ps_ret (pe_ix ix_list (pe_op op_catA (pv 1) (pe_lstA (pa_cons (pe_op op_add (pe_op op_pow pe_int pe_int) (pe_def D_take hr (pa_cons (pv 0) (pa_cons (pe_op op_mul pe_int (pe_op op_pow pe_int pe_int)) pa_nil)))) (pa_cons (pe_op op_sub (pe_op op_pow pe_int pe_int) pe_int) pa_nil)))) (pe_def D_take hr (pa_cons (pv 0) (pa_cons pe_int pa_nil))) (fun _ _ => rfl))))), ?_⟩
    rw [show start ["_law_box_here", "_law_some"] [.ref b] = [some (.ref b), none] from rfl]
    have bx_0 := bx
    have kp_0 : Kp b H H := Kp.refl
    repeat walk_at "go"
    refine ⟨b, _, rfl, bx_0, by decide, by decide, fun r_h1 H_h1 lo_h1 hi_h1 bx_h1 f_h1 => ?_⟩
    have kp_h1 := kp_0.trans f_h1.kp
    repeat walk_at "go"
    refine ⟨b, _, rfl, bx_h1, by decide, by decide, fun r_h2 H_h2 lo_h2 hi_h2 bx_h2 f_h2 => ?_⟩
    have kp_h2 := kp_h1.trans f_h2.kp
    repeat walk_at "go"
    refine ⟨b, _, rfl, bx_h2, by decide, by decide, fun r_h3 H_h3 lo_h3 hi_h3 bx_h3 f_h3 => ?_⟩
    have kp_h3 := kp_h2.trans f_h3.kp
    repeat walk_at "go"
    refine ⟨by show 4 ≤ sizeLine; decide, fun t_h4 H_h4 n_h4 => ?_⟩
    have ne_t_h4 : t_h4 ≠ b := bx_h3.ne n_h4
    have bx_h4 := bx_h3.same n_h4.s
    have kp_h4 := kp_h3.trans (Same.kp (b := b) n_h4.s)
    have e_t_h4_h4 := n_h4.e
    repeat walk_at "go"
    refine ⟨b, _, rfl, bx_h4, by decide, by decide, fun r_h5 H_h5 lo_h5 hi_h5 bx_h5 f_h5 => ?_⟩
    have e_t_h4_h5 := f_h5.kp _ _ ne_t_h4 e_t_h4_h4
    have kp_h5 := kp_h4.trans f_h5.kp
    repeat walk_at "go"
    refine ⟨by show 2 ≤ sizeLine; decide, fun t_h6 H_h6 n_h6 => ?_⟩
    have ne_t_h6 : t_h6 ≠ b := bx_h5.ne n_h6
    have e_t_h4_h6 := n_h6.s _ _ e_t_h4_h5
    have bx_h6 := bx_h5.same n_h6.s
    have kp_h6 := kp_h5.trans (Same.kp (b := b) n_h6.s)
    have e_t_h6_h6 := n_h6.e
    repeat walk_at "go"
    refine ⟨t_h4, t_h6, _, _, rfl, rfl, e_t_h4_h6, e_t_h6_h6, by show 6 ≤ sizeLine; decide, fun t_h7 H_h7 n_h7 => ?_⟩
    have ne_t_h7 : t_h7 ≠ b := bx_h6.ne n_h7
    have e_t_h4_h7 := n_h7.s _ _ e_t_h4_h6
    have e_t_h6_h7 := n_h7.s _ _ e_t_h6_h6
    have bx_h7 := bx_h6.same n_h7.s
    have kp_h7 := kp_h6.trans (Same.kp (b := b) n_h7.s)
    have e_t_h7_h7 := n_h7.e
    repeat walk_at "go"
    refine ⟨b, _, rfl, bx_h7, by decide, by decide, fun r_h8 H_h8 lo_h8 hi_h8 bx_h8 f_h8 => ?_⟩
    have e_t_h4_h8 := f_h8.kp _ _ ne_t_h4 e_t_h4_h7
    have e_t_h6_h8 := f_h8.kp _ _ ne_t_h6 e_t_h6_h7
    have e_t_h7_h8 := f_h8.kp _ _ ne_t_h7 e_t_h7_h7
    have kp_h8 := kp_h7.trans f_h8.kp
    repeat walk_at "go"
    obtain ⟨v, ev, mv⟩ := atI_lt lo_h8 (show r_h8 < (([.int 0, .int r_h1, .int r_h2, .int r_h3] ++ [.int (10 ^ 29 + r_h5), .int (10 ^ 30 - 1)] : List V).length : Int) from hi_h8)
    have q1_r_h1 := lo_h1
    have q2_r_h1 : r_h1 < 9 := hi_h1
    have q1_r_h2 := lo_h2
    have q2_r_h2 : r_h2 < 241 := hi_h2
    have q1_r_h3 := lo_h3
    have q2_r_h3 : r_h3 < 1000000 := hi_h3
    have q1_r_h5 := lo_h5
    have q2_r_h5 : r_h5 < 900000000000000000000000000000 := hi_h5
    obtain ⟨n, rfl, hn⟩ := all_int (P := Sm) (ns := [0, r_h1, r_h2, r_h3, 100000000000000000000000000000 + r_h5, 1000000000000000000000000000000 - 1]) (in6 ⟨⟨by omega, by omega⟩, ⟨by omega, by omega⟩, ⟨by omega, by omega⟩, ⟨by omega, by omega⟩, ⟨by omega, by omega⟩, ⟨by omega, by omega⟩⟩) mv
    exact w_ixL (SqL.of e_t_h7_h8) ev (k n _ hn bx_h8 kp_h8)
theorem D_pair (T : Txt K mg) : Def P w K mg base CX0 3 "_law_pair" ["_law_box_here"] sp_pair := by
  have D_number := D_number (P := P) (w := w) (base := base) T
  have D_take := D_take (P := P) (w := w) (base := base) T
  refine def_of T.d_pair sc_pair (fun vs H Q E h => ?_) (fun _ _ _ _ _ _ us hl => match us, hl with | [_], _ => rfl) (fun f cdv A outer s H vs Q E hr h => ?_)
  · obtain ⟨b, rfl, _⟩ := h
    rfl
  · obtain ⟨b, rfl, bx, k⟩ := h
    have nd := sc_pair.nd
    refine ⟨_, (pss_cons (ps_set (i := 1) nd rfl (Or.inl rfl) (pe_def D_number hr (pa_cons (pv 0) pa_nil)))
      (pss_cons (ps_set (i := 2) nd rfl (Or.inl rfl) (pe_callB (call_maxN rfl) rfl T.n_max boot_max (pa_cons pe_int (pa_cons (pe_def D_number hr (pa_cons (pv 0) pa_nil)) pa_nil))))
      (pss_cons (ps_set (i := 3) nd rfl (Or.inl rfl) (pe_ix ix_list (pe_lstA (pa_cons pe_int (pa_cons pe_int (pa_cons pe_int (pa_cons pe_int (pa_cons (pe_op op_add pe_int (pe_def D_take hr (pa_cons (pv 0) (pa_cons pe_int pa_nil)))) (pa_cons (pe_op op_pow pe_int pe_int) pa_nil))))))) (pe_def D_take hr (pa_cons (pv 0) (pa_cons pe_int pa_nil))) (fun _ _ => rfl)))
      (pss_one (ps_ret (pe_tupA (pa_cons (pe_op op_mulW (pv 1) (pv 3)) (pa_cons (pe_op op_mulW (pv 2) (pv 3)) pa_nil)))))))), ?_⟩
    rw [show start ["_law_box_here", "_law_top", "_law_bottom", "_law_factor"] [.ref b] = [some (.ref b), none, none, none] from rfl]
    have bx_0 := bx
    have kp_0 : Kp b H H := Kp.refl
    repeat walk_at "go"
    refine ⟨b, rfl, bx_0, fun n1 H_1 s1 bx_1 kq_1 => ?_⟩
    have kp_1 := kp_0.trans kq_1
    repeat walk_at "go"
    refine ⟨b, rfl, bx_1, fun n2 H_2 s2 bx_2 kq_2 => ?_⟩
    have kp_2 := kp_1.trans kq_2
    repeat walk_at "go"
    refine ⟨b, _, rfl, bx_2, by decide, by decide, fun r_h1 H_h1 lo_h1 hi_h1 bx_h1 f_h1 => ?_⟩
    have kp_h1 := kp_2.trans f_h1.kp
    repeat walk_at "go"
    refine ⟨by show 6 ≤ sizeLine; decide, fun t_h2 H_h2 n_h2 => ?_⟩
    have ne_t_h2 : t_h2 ≠ b := bx_h1.ne n_h2
    have bx_h2 := bx_h1.same n_h2.s
    have kp_h2 := kp_h1.trans (Same.kp (b := b) n_h2.s)
    have e_t_h2_h2 := n_h2.e
    repeat walk_at "go"
    refine ⟨b, _, rfl, bx_h2, by decide, by decide, fun r_h3 H_h3 lo_h3 hi_h3 bx_h3 f_h3 => ?_⟩
    have e_t_h2_h3 := f_h3.kp _ _ ne_t_h2 e_t_h2_h2
    have kp_h3 := kp_h2.trans f_h3.kp
    repeat walk_at "go"
    obtain ⟨v, ev, mv⟩ := atI_lt lo_h3 (show r_h3 < (([.int 1, .int 1, .int 2, .int 6, .int (1 + r_h1), .int (10 ^ 12)] : List V).length : Int) from hi_h3)
    have q1 := lo_h1
    have q2 : r_h1 < 1000 := hi_h1
    obtain ⟨f0, rfl, hf⟩ := all_int (P := Fc) (ns := [1, 1, 2, 6, 1 + r_h1, 1000000000000]) (in6 ⟨⟨by omega, by omega⟩, ⟨by omega, by omega⟩, ⟨by omega, by omega⟩, ⟨by omega, by omega⟩, ⟨by omega, by omega⟩, ⟨by omega, by omega⟩⟩) mv
    refine w_ixL (SqL.of e_t_h2_h3) ev ?_
    repeat walk_at "go"
    have bf := fc_bd hf
    have b1 := sm_bd s1
    have b2 : Bd 100 (max 1 n2) := by
      obtain ⟨h1, h2⟩ := sm_bd s2
      have h3 : (1 : Int) < 2 ^ 100 := by decide
      exact ⟨by omega, by omega⟩
    refine w_mulW (b1.mono (by decide)) (bf.mono (by decide)) ?_
    repeat walk_at "go"
    refine w_mulW (b2.mono (by decide)) (bf.mono (by decide)) ?_
    repeat walk_at "go"
    refine ⟨by show 2 ≤ sizeLine; decide, fun t_h4 H_h4 n_h4 => ?_⟩
    have ne_t_h4 : t_h4 ≠ b := bx_h3.ne n_h4
    have e_t_h2_h4 := n_h4.s _ _ e_t_h2_h3
    have bx_h4 := bx_h3.same n_h4.s
    have kp_h4 := kp_h3.trans (Same.kp (b := b) n_h4.s)
    have e_t_h4_h4 := n_h4.e
    repeat walk_at "go"
    exact k _ _ _ _ ⟨t_h4, rfl, ne_t_h4, e_t_h4_h4, (b1.mul bf).mono (by decide), (b2.mul bf).mono (by decide), Int.mul_pos (by omega) (by have := hf.1; omega)⟩ bx_h4 kp_h4
theorem D_pairs (T : Txt K mg) : Def P w K mg base CX0 4 "_law_pairs" ["_law_box_here"] sp_pairs := by
  have D_take := D_take (P := P) (w := w) (base := base) T
  have D_pair := D_pair (P := P) (w := w) (base := base) T
  refine def_of T.d_pairs sc_pairs (fun vs H Q E h => ?_) (fun _ _ _ _ _ _ us hl => match us, hl with | [_], _ => rfl) (fun f cdv A outer s H vs Q E hr h => ?_)
  · obtain ⟨b, rfl, _⟩ := h
    rfl
  · obtain ⟨b, rfl, bx, k⟩ := h
    have nd := sc_pairs.nd
    refine ⟨_, (pss_cons (ps_setc (i := 1) nd rfl (Or.inl rfl) (N := ["_law_k", "_law_box_here"]) (nt := 1) (fr := [0]) (pi_range1 rfl T.n_range (pa_cons pe_int pa_nil)) (fun _ _ _ _ => (pg_name (i := 0) (show (["_law_k", "_law_box_here"] : List Str).Nodup from by decide +kernel) rfl (Or.inl rfl))) (fun _ _ _ _ => pif_nil) (fun _ _ _ _ => (pe_def D_pair hr (pa_cons (pv 1) pa_nil))))
      (pss_cons (ps_set (i := 2) nd rfl (Or.inl rfl) (pe_def D_take hr (pa_cons (pv 0) (pa_cons pe_int pa_nil))))
      (pss_cons (ps_set (i := 3) nd rfl (Or.inl rfl) (pe_op op_add pe_int (pe_def D_take hr (pa_cons (pv 0) (pa_cons pe_int pa_nil)))))
      (pss_cons (ps_if (pt_cmpR op_eq (pv 2) pe_int (nomark _)) (pss_one (ps_asg (pe_tupA (pa_cons (pe_op op_mulW (pe_ix ix_tup (pe_ix ix_list (pv 1) pe_int (fun _ _ => rfl)) pe_int (fun _ _ => rfl)) (pv 3)) (pa_cons (pe_op op_mulW (pe_ix ix_tup (pe_ix ix_list (pv 1) pe_int (fun _ _ => rfl)) pe_int (fun _ _ => rfl)) (pv 3)) pa_nil))) (pg_sub (pv 1) pe_int set_listA))) pss_nil)
      (pss_cons (ps_if (pt_cmpR op_eq (pv 2) pe_int (nomark _)) (pss_one (ps_asg (pe_tupA (pa_cons (pe_op op_add (pe_op op_mulW (pe_ix ix_tup (pe_ix ix_list (pv 1) pe_int (fun _ _ => rfl)) pe_int (fun _ _ => rfl)) (pv 3)) pe_int) (pa_cons (pe_op op_mulW (pe_ix ix_tup (pe_ix ix_list (pv 1) pe_int (fun _ _ => rfl)) pe_int (fun _ _ => rfl)) (pv 3)) pa_nil))) (pg_sub (pv 1) pe_int set_listA))) pss_nil)
      (pss_one (ps_ret (pv 1)))))))), ?_⟩
    rw [show start ["_law_box_here", "_law_pairs_here", "_law_way", "_law_by"] [.ref b] = [some (.ref b), none, none, none] from rfl]
    refine go_seq (go_asg ?_)
    refine go_compR (n := 6) (fvs := [some (.ref b)]) (PrsI b H) (rda_cons rd_c rda_nil) (by decide) rfl ?_ ?_ ?_ ?_
    · intro acc H1 n1
      exact ⟨⟨n1.e, rfl⟩, bx.ne n1, n1.n, (fun v h => by cases h), bx.same n1.s, n1.s.kp⟩
    · intro acc i ys H1 h
      exact h.1
    · rintro acc i ys H1 R hi ⟨⟨ha, hl⟩, nb, fr, hy, bx1, kp1⟩ hk
      repeat walk_at "go"
      refine ⟨b, rfl, bx1, fun v t n H2 pr bx2 kp2 => ?_⟩
      have ha2 := kp2 _ _ nb ha
      refine hk v H2 ha2 fun H3 f3 e3 => ⟨⟨e3, by rw [List.length_append, hl]; rfl⟩, nb, fr, fun v1 hv1 => ?_, bx2.off f3 nb, Kp.offN (kp1.trans kp2) f3 fr⟩
      rcases List.mem_append.mp hv1 with h | h
      · obtain ⟨t1, n1, h1⟩ := hy v1 h
        exact ⟨t1, n1, (h1.kp kp2).off f3 ha2⟩
      · rw [List.mem_singleton.mp h]
        exact ⟨t, n, pr.off f3 ha2⟩
    rintro p ys H1 ⟨⟨hp, hl⟩, nb, fr, hy, bx1, kp1⟩
    repeat walk_at "go"
    refine ⟨b, _, rfl, bx1, by decide, by decide, fun way H2 lo2 hi2 bx2 f2 => ?_⟩
    repeat walk_at "go"
    refine ⟨b, _, rfl, bx2, by decide, by decide, fun by0 H3 lo3 hi3 bx3 f3 => ?_⟩
    have kp13 : Kp b H1 H3 := f2.kp.trans f3.kp
    repeat walk_at "go"
    have hi3 : by0 < 9 := hi3
    have bby : Bd 4 (1 + by0) := ⟨by omega, by show 1 + by0 < 16; omega⟩
    obtain ⟨v0, v1, v2, v3, v4, v5, rfl⟩ : ∃ v0 v1 v2 v3 v4 v5, ys = [v0, v1, v2, v3, v4, v5] := match ys, hl with | [v0, v1, v2, v3, v4, v5], _ => ⟨v0, v1, v2, v3, v4, v5, rfl⟩
    have hp4 := kp13 _ _ nb hp
    have hy3 : ∀ v ∈ [v0, v1, v2, v3, v4, v5], ∃ t n, PrAt 140 b H3 v t n := fun v h => by
      obtain ⟨t, n, h1⟩ := hy v h
      exact ⟨t, n, h1.kp kp13⟩
    obtain ⟨t0, n0, q0, rfl, nq0, hq0, bt0, bn0, n00⟩ := hy3 v0 (List.mem_cons_self ..)
    have kp3 := kp1.trans kp13
    have fin : ∀ (x : Int) (q1 : Addr) (H5 H6 : Hp), New H3 H5 q1 (.tup [.int x, .int (n0 * (1 + by0))]) → Off p H5 H6 → H6 p = some (.lst [.ref q0, .ref q1, v2, v3, v4, v5]) → Bd 145 x → Q (.ref p) H6 := by
      intro x q1 H5 H6 n5 f6 e6 bx0
      have hp5 := n5.s _ _ hp4
      refine k p _ H6 e6 nb fr rfl (fun v hv => ?_) ((bx3.same n5.s).off f6 nb) (Kp.offN (kp3.trans n5.s.kp) f6 fr)
      by_cases e : v = .ref q1
      · subst e
        exact ⟨x, _, PrAt.off f6 hp5 ⟨q1, rfl, bx3.ne n5, n5.e, bx0, (bn0.mul bby).mono (by decide), Int.mul_pos n00 (by omega)⟩⟩
      · have hv2 : v ∈ [.ref q0, v1, v2, v3, v4, v5] := by
          simp only [List.mem_cons, List.not_mem_nil, or_false] at hv ⊢
          rcases hv with h | h | h
          · exact .inl h
          · exact absurd h e
          · exact .inr (.inr h)
        obtain ⟨t, n, h1⟩ := hy3 v hv2
        exact ⟨t, n, ((h1.kp n5.s.kp).off f6 hp5).mono (by decide)⟩
    refine i_dec (fun h0 => ?_) (fun h0 => ?_)
    · repeat walk_at "go"
      refine w_ixL (SqL.of hp4) atI_0 ?_
      repeat walk_at "go"
      refine w_ixT (SqT.of hq0) atI_0 ?_
      repeat walk_at "go"
      refine w_mulW (bt0.mono (by decide)) (bby.mono (by decide)) ?_
      repeat walk_at "go"
      refine w_ixL (SqL.of hp4) atI_0 ?_
      repeat walk_at "go"
      refine w_ixT (SqT.of hq0) at01 ?_
      repeat walk_at "go"
      refine w_mulW (bn0.mono (by decide)) (bby.mono (by decide)) ?_
      repeat walk_at "go"
      refine ⟨by show 2 ≤ sizeLine; decide, fun q1 H5 n5 => ?_⟩
      repeat walk_at "go"
      have hp5 := n5.s _ _ hp4
      refine ⟨p, _, 1, 1, rfl, rfl, hp5, rfl, fun H6 f6 e6 => ?_⟩
      repeat walk_at "go"
      refine i_neg (by omega) ?_
      repeat walk_at "go"
      exact fin _ q1 H5 H6 n5 f6 e6 ((bt0.mul bby).mono (by decide))
    · repeat walk_at "go"
      refine i_dec (fun h1 => ?_) (fun h1 => ?_)
      · repeat walk_at "go"
        refine w_ixL (SqL.of hp4) atI_0 ?_
        repeat walk_at "go"
        refine w_ixT (SqT.of hq0) atI_0 ?_
        repeat walk_at "go"
        refine w_mulW (bt0.mono (by decide)) (bby.mono (by decide)) ?_
        repeat walk_at "go"
        refine w_ixL (SqL.of hp4) atI_0 ?_
        repeat walk_at "go"
        refine w_ixT (SqT.of hq0) at01 ?_
        repeat walk_at "go"
        refine w_mulW (bn0.mono (by decide)) (bby.mono (by decide)) ?_
        repeat walk_at "go"
        refine ⟨by show 2 ≤ sizeLine; decide, fun q1 H5 n5 => ?_⟩
        repeat walk_at "go"
        have hp5 := n5.s _ _ hp4
        refine ⟨p, _, 1, 1, rfl, rfl, hp5, rfl, fun H6 f6 e6 => ?_⟩
        repeat walk_at "go"
        refine fin _ q1 H5 H6 n5 f6 e6 ?_
        exact (bt0.mul bby).add ⟨by decide, by decide⟩
      · repeat walk_at "go"
        exact k p _ H3 hp4 nb fr rfl (fun v hv => let ⟨t, n, h⟩ := hy3 v hv; ⟨t, n, h.mono (by decide)⟩) bx3 kp3
end
end K07
set_option Elab.async false
set_option linter.all false
set_option maxRecDepth 100000
set_option maxHeartbeats 4000000
namespace K07
open PySem L2 PyProof.Rows
local macro_rules | `(tactic| walk_at "go") => `(tactic| with_reducible (first
  | refine go_seq ?_ | refine go_asg ?_ | refine go_ret ?_ | refine go_if ?_ | refine go_drop ?_ | refine go_next ?_ | refine go_nx ?_ | refine w_rt ?_
  | refine go_test ?_ | refine go_b ?_ | refine go_op ?_ | refine go_cb ?_ | refine go_cons ?_ | refine go_nil ?_ | refine w_call ?_ | refine w_c ?_
  | refine wv0 ?_ | refine wv1 ?_ | refine wv2 ?_ | refine wv3 ?_ | refine wv4 ?_ | refine wv5 ?_ | refine wv6 ?_ | refine wv7 ?_ | refine wv8 ?_ | refine wv9 ?_ | refine wv10 ?_ | refine wv11 ?_ | refine wv12 ?_ | refine wv13 ?_
  | refine wn0 ?_ | refine wn1 ?_ | refine wn2 ?_ | refine wn3 ?_ | refine wn4 ?_ | refine wn5 ?_ | refine wn6 ?_ | refine wn7 ?_ | refine wn8 ?_ | refine wn9 ?_ | refine wn10 ?_ | refine wn11 ?_ | refine wn12 ?_ | refine wn13 ?_
  | refine w_i0 ?_ | refine w_u ?_ | refine w_un ?_ | refine w_eqi ?_ | refine w_nei ?_ | refine w_eqs ?_ | refine w_nes ?_ | refine w_eqb ?_ | refine w_neb ?_ | refine w_bl ?_ | refine w_not ?_ | refine w_and ?_ | refine w_or ?_ | refine w_notV ?_ | refine w_andV ?_ | refine w_orV ?_
  | refine w_ifE ?_ | refine w_chain ?_ | refine w_bm ?_ | refine w_bm0 ?_ | refine w_sub ?_ | refine w_slice ?_ | refine w_noPart ?_ | refine w_part ?_ | refine w_int ?_ | refine w_max ?_ | refine w_min ?_ | refine w_intB ?_ | refine w_intI ?_
  | refine w_mod (by decide) ?_ | refine w_div (by decide) (by decide) ?_ | refine w_pow (by decide) (by decide) (by decide) ?_ | refine w_mulL (by decide) (by decide) ?_ | refine w_mulR (by decide) (by decide) ?_ | refine go_tupA ?_ | refine go_lstA ?_ | refine w_notT ?_ | refine w_isB ?_ | refine w_isNB ?_ | refine w_revSl ?_ | refine w_din ?_ | refine w_dput ?_))
def sp_law (K : PySem.W.Frag) : Sp := fun vs H Q _ => ∃ (a : Addr) (ns : List Int), vs = [.ref a] ∧ SqL K H a (ns.map V.int) ∧ ns.length ≤ 63 ∧ ∀ H', Q (.bl true) H'
/-- between two turns of the inner loop -/
def InI (a b p : Addr) (kk : Int) (ws : List V) (H0 : Hp) (i : Nat) : L2.St → Hp → Prop := fun σ H => ∃ (r : Addr) (x y top bot : Int) (o7 o8 o9 o10 : Option V), σ = [some (.ref a), some (.int kk), some (.ref b), some (.ref p), some (.ref r), some (.int top), some (.int bot), o7, o8, o9, o10] ∧ Same H0 H ∧
  H r = some (.tup [.int x, .int y]) ∧ Low top bot x y ∧ 0 < bot ∧ Bd (146 * i + 1) x ∧ Bd (146 * i + 1) y ∧ Bd (146 * i + 1) top ∧ Bd (146 * i + 1) bot
theorem w_neT {K : PySem.W.Frag} {H : Hp} {Q : VK} {p q : Addr} {a b : Int} (hp : H p = some (.tup [.int a, .int b])) (hq : H q = some (.tup [.int a, .int b])) (k : Q (.bl false) H) : rNeD K (.ref p) (.ref q) H Q := by
  refine ⟨.tup [.int a, .int b], .tup [.int a, .int b], rep_tints (ns := [a, b]) (SqT.of hp), rep_tints (ns := [a, b]) (SqT.of hq), dep_tints [a, b], ?_⟩
  simpa [eqDt, eqDts] using k
section
variable {P : Program} {w : World} {K : PySem.W.Frag} {mg : Str → Option Value} {base : Heap}
theorem ok_law (T : Txt K mg) {f : Addr} {fd : FuncData} (F : Fun K "law" "law" s_law f fd) : FnOk P w K mg base CX0 5 f fd ["_law_script"] (sp_law K) := by
  have D_box := D_box (P := P) (w := w) (base := base) T
  have D_pairs := D_pairs (P := P) (w := w) (base := base) T
  have D_cell_at := D_cell_at (P := P) (w := w) (base := base) T
  have D_added := D_added (P := P) (w := w) (base := base) T
  have D_worth := D_worth (P := P) (w := w) (base := base) T
  have D_frac := D_frac (P := P) (w := w) (base := base) T
  have D_lless := D_lless (P := P) (w := w) (base := base) T
  have D_less := D_less (P := P) (w := w) (base := base) T
  refine fnok_of F sc_law (fun vs H Q E h => ?_) (fun cdv A outer s H vs Q E hr h => ?_)
  · obtain ⟨a, ns, rfl, _⟩ := h
    rfl
  · obtain ⟨a, ns, rfl, hS, hl, k⟩ := h
    have nd := sc_law.nd
    refine ⟨_, (pss_cons (ps_for PassesOwn.never rfl (pi_range1 rfl T.n_range (pa_cons (pe_callB (call_maxN rfl) rfl T.n_max boot_max (pa_cons pe_int (pa_cons (pe_callB (call_minN rfl) rfl T.n_min boot_min (pa_cons (pe_callB call_lenN rfl T.n_len boot_len (pa_cons (pv 0) pa_nil)) (pa_cons pe_int pa_nil))) pa_nil))) pa_nil)) (pg_name (i := 1) nd rfl (Or.inl rfl)) (pss_cons (ps_set (i := 2) nd rfl (Or.inl rfl) (pe_def D_box hr (pa_cons (pe_def D_cell_at hr (pa_cons (pv 0) (pa_cons (pv 1) pa_nil))) pa_nil)))
        (pss_cons (ps_set (i := 3) nd rfl (Or.inl rfl) (pe_def D_pairs hr (pa_cons (pv 2) pa_nil)))
        (pss_cons (ps_set (i := 4) nd rfl (Or.inl rfl) (pe_tupA (pa_cons pe_int (pa_cons pe_int pa_nil))))
        (pss_cons (ps_set (i := 5) nd rfl (Or.inl rfl) pe_int)
        (pss_cons (ps_set (i := 6) nd rfl (Or.inl rfl) pe_int)
        (pss_cons (ps_for PassesOwn.never rfl (pi_range1 rfl T.n_range (pa_cons pe_int pa_nil)) (pg_name (i := 7) nd rfl (Or.inl rfl)) (pss_cons (ps_set (i := 8) nd rfl (Or.inl rfl) (pe_ix ix_list (pv 3) (pv 7) (fun _ _ => rfl)))
          (pss_cons (ps_set (i := 9) nd rfl (Or.inl rfl) (pe_ix ix_list (pv 3) (pe_op op_mod (pe_op op_add (pv 7) pe_int) pe_int) (fun _ _ => rfl)))
          (pss_cons (ps_if (pt_not (pt_val (pe_def D_worth hr (pa_cons (pe_def D_frac hr (pa_cons (pe_ix ix_tup (pv 8) pe_int (fun _ _ => rfl)) (pa_cons (pe_ix ix_tup (pv 8) pe_int (fun _ _ => rfl)) pa_nil))) (pa_cons (pe_ix ix_tup (pv 8) pe_int (fun _ _ => rfl)) (pa_cons (pe_ix ix_tup (pv 8) pe_int (fun _ _ => rfl)) pa_nil)))))) (pss_one (ps_ret pe_bl)) pss_nil)
          (pss_cons (ps_set (i := 10) nd rfl (Or.inl rfl) (pe_op op_add (pe_op op_mulW (pe_ix ix_tup (pv 8) pe_int (fun _ _ => rfl)) (pe_ix ix_tup (pv 9) pe_int (fun _ _ => rfl))) (pe_op op_mulW (pe_ix ix_tup (pv 9) pe_int (fun _ _ => rfl)) (pe_ix ix_tup (pv 8) pe_int (fun _ _ => rfl)))))
          (pss_cons (ps_if (pt_not (pt_val (pe_def D_worth hr (pa_cons (pe_def D_added hr (pa_cons (pv 8) (pa_cons (pv 9) pa_nil))) (pa_cons (pv 10) (pa_cons (pe_op op_mulW (pe_ix ix_tup (pv 8) pe_int (fun _ _ => rfl)) (pe_ix ix_tup (pv 9) pe_int (fun _ _ => rfl))) pa_nil)))))) (pss_one (ps_ret pe_bl)) pss_nil)
          (pss_cons (ps_if (pt_cmpR (op_ne_dN hr) (pe_def D_added hr (pa_cons (pv 9) (pa_cons (pv 8) pa_nil))) (pe_def D_added hr (pa_cons (pv 8) (pa_cons (pv 9) pa_nil))) (nomark _)) (pss_one (ps_ret pe_bl)) pss_nil)
          (pss_cons (ps_if (PW.pt (pw_or (pt_not (pt_val (pe_def D_lless hr (pa_cons (pv 8) (pa_cons (pv 9) pa_nil))))) (pw_or (pt_not (pt_val (pe_def D_lless hr (pa_cons (pv 9) (pa_cons (pv 8) pa_nil))))) (pw_or1 (pt_cmpR op_isNB (pe_def D_less hr (pa_cons (pv 8) (pa_cons (pv 8) pa_nil))) pe_bl (nomark _)))))) (pss_one (ps_ret pe_bl)) pss_nil)
          (pss_cons (ps_set (i := 4) nd rfl (Or.inl rfl) (pe_def D_added hr (pa_cons (pv 4) (pa_cons (pv 8) pa_nil))))
          (pss_cons (ps_set (i := 5) nd rfl (Or.inl rfl) (pe_op op_add (pe_op op_mulW (pv 5) (pe_ix ix_tup (pv 8) pe_int (fun _ _ => rfl))) (pe_op op_mulW (pe_ix ix_tup (pv 8) pe_int (fun _ _ => rfl)) (pv 6))))
          (pss_one (ps_set (i := 6) nd rfl (Or.inl rfl) (pe_op op_mulW (pv 6) (pe_ix ix_tup (pv 8) pe_int (fun _ _ => rfl)))))))))))))))
        (pss_one (ps_if (pt_not (pt_val (pe_def D_worth hr (pa_cons (pv 4) (pa_cons (pv 5) (pa_cons (pv 6) pa_nil)))))) (pss_one (ps_ret pe_bl)) pss_nil)))))))))
      (pss_one (ps_ret pe_bl))), ?_⟩
    rw [show start ["_law_script", "_law_k", "_law_box_here", "_law_pairs_here", "_law_total", "_law_top", "_law_bottom", "_law_j", "_law_one", "_law_other", "_law_both"] [.ref a] = [some (.ref a), none, none, none, none, none, none, none, none, none, none] from rfl]
    have hlen : (ns.map V.int).length ≤ 63 := by rw [List.length_map]; exact hl
    refine go_seq ?_
    refine w_rng (n := max 1 (min ((ns.map V.int).length : Int) 10)) (m := (max 1 (min ((ns.map V.int).length : Int) 10)).toNat) (fun R q => ?_) rfl (by omega) (fun i σ2 H5 => ∃ o1 o2 o3 o4 o5 o6 o7 o8 o9 o10 : Option V, σ2 = [some (.ref a), o1, o2, o3, o4, o5, o6, o7, o8, o9, o10] ∧ Same H H5) ⟨none, none, none, none, none, none, none, none, none, none, rfl, Same.refl _⟩ ?_ ?_
    · repeat walk_at "go"
      refine w_lenL hS ?_
      repeat walk_at "go"
      exact q
    · rintro i σ2 H1 hi ⟨_, _, _, _, _, _, _, _, _, _, rfl, s1⟩
      repeat walk_at "go"
      refine ⟨a, ns, i, rfl, s1.seq hS, by omega, fun c0 => ?_⟩
      repeat walk_at "go"
      refine ⟨c0, rfl, fun b x1 x2 H2 n2 => ?_⟩
      repeat walk_at "go"
      refine ⟨b, rfl, ⟨_, _, _, n2.e⟩, fun p ws H3 hp npb fr hw hws bx3 kp3 => ?_⟩
      have s3 : Same H1 H3 := Kp.same n2.s kp3 n2.n
      repeat walk_at "go"
      refine ⟨by show 2 ≤ sizeLine; decide, fun r0 H4 n4 => ?_⟩
      repeat walk_at "go"
      have hp4 := n4.s _ _ hp
      have hws4 : ∀ v ∈ ws, ∃ t n, PrAt 145 b H4 v t n := fun v h => by
        obtain ⟨t, n, h1⟩ := hws v h
        exact ⟨t, n, h1.kp n4.s.kp⟩
      refine w_rng (n := 6) (m := 6) (rda_cons rd_c rda_nil) rfl (by decide) (InI a b p i ws H4) ⟨r0, 0, 1, 0, 1, _, _, _, _, rfl, Same.refl _, n4.e, ⟨by decide, by decide, by decide, by decide⟩, by decide, ⟨by decide, by decide⟩, ⟨by decide, by decide⟩, ⟨by decide, by decide⟩, ⟨by decide, by decide⟩⟩ ?_ ?_
      · rintro j σ2 H5 hj ⟨r, x, y, top, bot, _, _, _, _, rfl, s5, hr5, lo, b0, bx, bY, bt, bb⟩
        obtain ⟨v1, ev1, mv1⟩ := atI_lt (i := (j : Int)) (xs := ws) (by omega) (by rw [hw]; omega)
        obtain ⟨v2, ev2, mv2⟩ := atI_lt (i := ((j : Int) + 1) % 6) (xs := ws) (by omega) (by rw [hw]; omega)
        obtain ⟨t1, n1, h1⟩ := hws4 v1 mv1
        obtain ⟨q1, rfl, _, hq1, bt1, bn1, n10⟩ := h1.kp (s5.kp (b := b))
        obtain ⟨t2, n2', h2⟩ := hws4 v2 mv2
        obtain ⟨q2, rfl, _, hq2, bt2, bn2, n20⟩ := h2.kp (s5.kp (b := b))
        clear h1 h2
        have hp5 := s5 _ _ hp4
        have t1w := bt1.mono (show 145 ≤ 1500 by decide)
        have n1w := bn1.mono (show 145 ≤ 1500 by decide)
        have t2w := bt2.mono (show 145 ≤ 1500 by decide)
        have n2w := bn2.mono (show 145 ≤ 1500 by decide)
        have xw := bx.mono (show 146 * j + 1 ≤ 1500 by omega)
        have yw := bY.mono (show 146 * j + 1 ≤ 1500 by omega)
        have tw := bt.mono (show 146 * j + 1 ≤ 1500 by omega)
        have bw := bb.mono (show 146 * j + 1 ≤ 1500 by omega)
        repeat walk_at "go"
        refine w_ixL (SqL.of hp5) ev1 ?_
        repeat walk_at "go"
        refine w_ixL (SqL.of hp5) ev2 ?_
        repeat walk_at "go"
        refine w_ixT (SqT.of hq1) atI_0 ?_
        repeat walk_at "go"
        refine w_ixT (SqT.of hq1) at01 ?_
        repeat walk_at "go"
        refine ⟨t1, n1, rfl, bt1.1, n10, bn1.mono (by decide), fun f6 H6 n6 => ?_⟩
        have hq16 := n6.s _ _ hq1
        have hq26 := n6.s _ _ hq2
        obtain ⟨lo6, le1, le2⟩ := low_of bt1.1 n10
        repeat walk_at "go"
        refine w_ixT (SqT.of hq16) atI_0 ?_
        repeat walk_at "go"
        refine w_ixT (SqT.of hq16) at01 ?_
        repeat walk_at "go"
        refine ⟨f6, _, _, _, _, rfl, n6.e, lo6, (bt1.le lo6.x0 le1).mono (by decide), (bn1.le (by have := lo6.y1; omega) le2).mono (by decide), bt1.mono (by decide), bn1.mono (by decide), fun H7 s7 => ?_⟩
        repeat walk_at "go"
        refine i_nF rfl ?_
        repeat walk_at "go"
        have hq17 := s7 _ _ hq16
        have hq27 := s7 _ _ hq26
        refine w_ixT (SqT.of hq17) atI_0 ?_
        repeat walk_at "go"
        refine w_ixT (SqT.of hq27) at01 ?_
        repeat walk_at "go"
        refine w_mulW (bt1.mono (by decide)) (bn2.mono (by decide)) ?_
        repeat walk_at "go"
        refine w_ixT (SqT.of hq27) atI_0 ?_
        repeat walk_at "go"
        refine w_ixT (SqT.of hq17) at01 ?_
        repeat walk_at "go"
        refine w_mulW (bt2.mono (by decide)) (bn1.mono (by decide)) ?_
        repeat walk_at "go"
        have bsum : Bd 291 (t1 * n2' + t2 * n1) := (bt1.mul bn2).add (bt2.mul bn1)
        have bbot : Bd 290 (n1 * n2') := bn1.mul bn2
        have hbot : 0 < n1 * n2' := Int.mul_pos n10 n20
        obtain ⟨lo8, le3, le4⟩ := low_of bsum.1 hbot
        refine ⟨_, _, _, _, _, _, rfl, hq17, hq27, t1w, n1w, t2w, n2w, n10, n20, fun f8 H8 n8 => ?_⟩
        have hq18 := n8.s _ _ hq17
        have hq28 := n8.s _ _ hq27
        repeat walk_at "go"
        refine w_ixT (SqT.of hq18) at01 ?_
        repeat walk_at "go"
        refine w_ixT (SqT.of hq28) at01 ?_
        repeat walk_at "go"
        refine w_mulW (bn1.mono (by decide)) (bn2.mono (by decide)) ?_
        repeat walk_at "go"
        refine ⟨f8, _, _, _, _, rfl, n8.e, lo8, (bsum.le lo8.x0 le3).mono (by decide), (bbot.le (by have := lo8.y1; omega) le4).mono (by decide), bsum.mono (by decide), bbot.mono (by decide), fun H9 s9 => ?_⟩
        repeat walk_at "go"
        refine i_nF rfl ?_
        repeat walk_at "go"
        have hq19 := s9 _ _ hq18
        have hq29 := s9 _ _ hq28
        refine ⟨_, _, _, _, _, _, rfl, hq29, hq19, t2w, n2w, t1w, n1w, n20, n10, fun f10 H10 n10' => ?_⟩
        repeat walk_at "go"
        have hq110 := n10'.s _ _ hq19
        have hq210 := n10'.s _ _ hq29
        refine ⟨_, _, _, _, _, _, rfl, hq110, hq210, t1w, n1w, t2w, n2w, n10, n20, fun f11 H11 n11 => ?_⟩
        repeat walk_at "go"
        have e10 := n10'.e
        rw [Int.add_comm (t2 * n1) (t1 * n2'), Int.mul_comm n2' n1] at e10
        refine w_neT (n11.s _ _ e10) n11.e ?_
        repeat walk_at "go"
        refine i_F rfl ?_
        repeat walk_at "go"
        have hq111 := n11.s _ _ hq110
        have hq211 := n11.s _ _ hq210
        refine ⟨_, _, _, _, _, _, rfl, hq111, hq211, t1w, n1w, t2w, n2w, ?_⟩
        repeat walk_at "go"
        refine i_nF rfl ?_
        repeat walk_at "go"
        refine ⟨_, _, _, _, _, _, rfl, hq211, hq111, t2w, n2w, t1w, n1w, ?_⟩
        repeat walk_at "go"
        refine i_nF rfl ?_
        repeat walk_at "go"
        refine ⟨_, _, _, _, _, _, rfl, hq111, hq111, t1w, n1w, t1w, n1w, ?_⟩
        repeat walk_at "go"
        refine i_npos (decide_eq_false (Int.lt_irrefl _)) ?_
        repeat walk_at "go"
        have s511 : Same H5 H11 := ((((n6.s.trans s7).trans n8.s).trans s9).trans n10'.s).trans n11.s
        refine ⟨_, _, _, _, _, _, rfl, s511 _ _ hr5, hq111, xw, yw, t1w, n1w, by have := lo.y1; omega, n10, fun f12 H12 n12 => ?_⟩
        have hq112 := n12.s _ _ hq111
        repeat walk_at "go"
        refine w_ixT (SqT.of hq112) at01 ?_
        repeat walk_at "go"
        refine w_mulW (bt.mono (by omega)) (bn1.mono (by decide)) ?_
        repeat walk_at "go"
        refine w_ixT (SqT.of hq112) atI_0 ?_
        repeat walk_at "go"
        refine w_mulW (bt1.mono (by decide)) (bb.mono (by omega)) ?_
        repeat walk_at "go"
        refine w_ixT (SqT.of hq112) at01 ?_
        repeat walk_at "go"
        refine w_mulW (bb.mono (by omega)) (bn1.mono (by decide)) ?_
        repeat walk_at "go"
        have bs2 : Bd (146 * (j + 1) + 1) (x * n1 + t1 * y) := ((bx.mul bn1).add ((bt1.mul bY).mono (show 145 + (146 * j + 1) ≤ 146 * j + 1 + 145 by omega))).mono (by omega)
        have bb2 : Bd (146 * (j + 1) + 1) (y * n1) := (bY.mul bn1).mono (by omega)
        have bs3 : Bd (146 * (j + 1) + 1) (top * n1 + t1 * bot) := ((bt.mul bn1).add ((bt1.mul bb).mono (show 145 + (146 * j + 1) ≤ 146 * j + 1 + 145 by omega))).mono (by omega)
        have bb3 : Bd (146 * (j + 1) + 1) (bot * n1) := (bb.mul bn1).mono (by omega)
        have y1 := lo.y1
        have hbot2 : 0 < y * n1 := Int.mul_pos (by omega) n10
        obtain ⟨lo12, le5, le6⟩ := low_of bs2.1 hbot2
        exact ⟨f12, _, _, _, _, _, _, _, _, rfl, (s5.trans s511).trans n12.s, n12.e, ⟨lo12.x0, lo12.y1, low_add y1 lo.e lo12.e, lo12.g⟩, Int.mul_pos b0 n10, bs2.le lo12.x0 le5, bb2.le (by have := lo12.y1; omega) le6, bs3, bb3⟩
      · rintro σ2 H5 ⟨r, x, y, top, bot, _, _, _, _, rfl, s5, hr5, lo, b0, bx, bY, bt, bb⟩
        repeat walk_at "go"
        refine ⟨r, _, _, _, _, rfl, hr5, lo, bx.mono (by decide), bY.mono (by decide), bt.mono (by decide), bb.mono (by decide), fun H6 s6 => ?_⟩
        repeat walk_at "go"
        refine i_nF rfl ?_
        repeat walk_at "go"
        exact ⟨_, _, _, _, _, _, _, _, _, _, rfl, (((s1.trans s3).trans n4.s).trans s5).trans s6⟩
    · rintro σ2 H1 ⟨_, _, _, _, _, _, _, _, _, _, rfl, s1⟩
      repeat walk_at "go"
      exact k H1
end
theorem all_mk {l : PySem.W.OpenLaw} {w : World} {K : PySem.W.Frag} {h : Heap} {mg : Str → Option Value} {fa f0 f1 f2 f3 f4 f5 f6 f7 f8 f9 f10 f11 f12 f13 f14 : Addr} (X : K.In h) (G : h.Ns mainGlobals mg) (hfa : mg "law" = some (.ref fa))
    {od0 an0 : Option Addr} {sl0 : Array (Option Value)} {oc0 kV0 dc0 pm0 cd0 ct0 : Value}
    {od1 an1 : Option Addr} {sl1 : Array (Option Value)} {oc1 kV1 dc1 pm1 cd1 ct1 : Value}
    {od2 an2 : Option Addr} {sl2 : Array (Option Value)} {oc2 kV2 dc2 pm2 cd2 ct2 : Value}
    {od3 an3 : Option Addr} {sl3 : Array (Option Value)} {oc3 kV3 dc3 pm3 cd3 ct3 : Value}
    {od4 an4 : Option Addr} {sl4 : Array (Option Value)} {oc4 kV4 dc4 pm4 cd4 ct4 : Value}
    {od5 an5 : Option Addr} {sl5 : Array (Option Value)} {oc5 kV5 dc5 pm5 cd5 ct5 : Value}
    {od6 an6 : Option Addr} {sl6 : Array (Option Value)} {oc6 kV6 dc6 pm6 cd6 ct6 : Value}
    {od7 an7 : Option Addr} {sl7 : Array (Option Value)} {oc7 kV7 dc7 pm7 cd7 ct7 : Value}
    {od8 an8 : Option Addr} {sl8 : Array (Option Value)} {oc8 kV8 dc8 pm8 cd8 ct8 : Value}
    {od9 an9 : Option Addr} {sl9 : Array (Option Value)} {oc9 kV9 dc9 pm9 cd9 ct9 : Value}
    {od10 an10 : Option Addr} {sl10 : Array (Option Value)} {oc10 kV10 dc10 pm10 cd10 ct10 : Value}
    {od11 an11 : Option Addr} {sl11 : Array (Option Value)} {oc11 kV11 dc11 pm11 cd11 ct11 : Value}
    {od12 an12 : Option Addr} {sl12 : Array (Option Value)} {oc12 kV12 dc12 pm12 cd12 ct12 : Value}
    {od13 an13 : Option Addr} {sl13 : Array (Option Value)} {oc13 kV13 dc13 pm13 cd13 ct13 : Value}
    {od14 an14 : Option Addr} {sl14 : Array (Option Value)} {oc14 kV14 dc14 pm14 cd14 ct14 : Value}
    (a0 : PySem.W.nsIn K mainGlobals "common_divisor" = some (some (.ref f0))) (l0 : K.lookup f0 = some ⟨oc0, od0, .func (PySem.W.fnOf "common_divisor" "common_divisor" (defArgs s_cdiv) (defBody s_cdiv) (defScope s_cdiv) .none kV0 dc0 pm0 an0 cd0 ct0), sl0⟩) (c0 : PySem.W.codeIn K cd0 "common_divisor" = true) (k0 : PySem.W.keepIn K (.ref f0) = true)
    (a1 : PySem.W.nsIn K mainGlobals "fraction" = some (some (.ref f1))) (l1 : K.lookup f1 = some ⟨oc1, od1, .func (PySem.W.fnOf "fraction" "fraction" (defArgs s_frac) (defBody s_frac) (defScope s_frac) .none kV1 dc1 pm1 an1 cd1 ct1), sl1⟩) (c1 : PySem.W.codeIn K cd1 "fraction" = true) (k1 : PySem.W.keepIn K (.ref f1) = true)
    (a2 : PySem.W.nsIn K mainGlobals "added" = some (some (.ref f2))) (l2 : K.lookup f2 = some ⟨oc2, od2, .func (PySem.W.fnOf "added" "added" (defArgs s_added) (defBody s_added) (defScope s_added) .none kV2 dc2 pm2 an2 cd2 ct2), sl2⟩) (c2 : PySem.W.codeIn K cd2 "added" = true) (k2 : PySem.W.keepIn K (.ref f2) = true)
    (a3 : PySem.W.nsIn K mainGlobals "is_less" = some (some (.ref f3))) (l3 : K.lookup f3 = some ⟨oc3, od3, .func (PySem.W.fnOf "is_less" "is_less" (defArgs s_less) (defBody s_less) (defScope s_less) .none kV3 dc3 pm3 an3 cd3 ct3), sl3⟩) (c3 : PySem.W.codeIn K cd3 "is_less" = true) (k3 : PySem.W.keepIn K (.ref f3) = true)
    (a4 : PySem.W.nsIn K mainGlobals "_law_cell_at" = some (some (.ref f4))) (l4 : K.lookup f4 = some ⟨oc4, od4, .func (PySem.W.fnOf "_law_cell_at" "_law_cell_at" (defArgs s_cell_at) (defBody s_cell_at) (defScope s_cell_at) .none kV4 dc4 pm4 an4 cd4 ct4), sl4⟩) (c4 : PySem.W.codeIn K cd4 "_law_cell_at" = true) (k4 : PySem.W.keepIn K (.ref f4) = true)
    (a5 : PySem.W.nsIn K mainGlobals "_law_box" = some (some (.ref f5))) (l5 : K.lookup f5 = some ⟨oc5, od5, .func (PySem.W.fnOf "_law_box" "_law_box" (defArgs s_box) (defBody s_box) (defScope s_box) .none kV5 dc5 pm5 an5 cd5 ct5), sl5⟩) (c5 : PySem.W.codeIn K cd5 "_law_box" = true) (k5 : PySem.W.keepIn K (.ref f5) = true)
    (a6 : PySem.W.nsIn K mainGlobals "_law_take" = some (some (.ref f6))) (l6 : K.lookup f6 = some ⟨oc6, od6, .func (PySem.W.fnOf "_law_take" "_law_take" (defArgs s_take) (defBody s_take) (defScope s_take) .none kV6 dc6 pm6 an6 cd6 ct6), sl6⟩) (c6 : PySem.W.codeIn K cd6 "_law_take" = true) (k6 : PySem.W.keepIn K (.ref f6) = true)
    (a7 : PySem.W.nsIn K mainGlobals "_law_is_whole" = some (some (.ref f7))) (l7 : K.lookup f7 = some ⟨oc7, od7, .func (PySem.W.fnOf "_law_is_whole" "_law_is_whole" (defArgs s_whole) (defBody s_whole) (defScope s_whole) .none kV7 dc7 pm7 an7 cd7 ct7), sl7⟩) (c7 : PySem.W.codeIn K cd7 "_law_is_whole" = true) (k7 : PySem.W.keepIn K (.ref f7) = true)
    (a8 : PySem.W.nsIn K mainGlobals "_law_divisor" = some (some (.ref f8))) (l8 : K.lookup f8 = some ⟨oc8, od8, .func (PySem.W.fnOf "_law_divisor" "_law_divisor" (defArgs s_ldiv) (defBody s_ldiv) (defScope s_ldiv) .none kV8 dc8 pm8 an8 cd8 ct8), sl8⟩) (c8 : PySem.W.codeIn K cd8 "_law_divisor" = true) (k8 : PySem.W.keepIn K (.ref f8) = true)
    (a9 : PySem.W.nsIn K mainGlobals "_law_worth" = some (some (.ref f9))) (l9 : K.lookup f9 = some ⟨oc9, od9, .func (PySem.W.fnOf "_law_worth" "_law_worth" (defArgs s_worth) (defBody s_worth) (defScope s_worth) .none kV9 dc9 pm9 an9 cd9 ct9), sl9⟩) (c9 : PySem.W.codeIn K cd9 "_law_worth" = true) (k9 : PySem.W.keepIn K (.ref f9) = true)
    (a10 : PySem.W.nsIn K mainGlobals "_law_number" = some (some (.ref f10))) (l10 : K.lookup f10 = some ⟨oc10, od10, .func (PySem.W.fnOf "_law_number" "_law_number" (defArgs s_number) (defBody s_number) (defScope s_number) .none kV10 dc10 pm10 an10 cd10 ct10), sl10⟩) (c10 : PySem.W.codeIn K cd10 "_law_number" = true) (k10 : PySem.W.keepIn K (.ref f10) = true)
    (a11 : PySem.W.nsIn K mainGlobals "_law_pair" = some (some (.ref f11))) (l11 : K.lookup f11 = some ⟨oc11, od11, .func (PySem.W.fnOf "_law_pair" "_law_pair" (defArgs s_pair) (defBody s_pair) (defScope s_pair) .none kV11 dc11 pm11 an11 cd11 ct11), sl11⟩) (c11 : PySem.W.codeIn K cd11 "_law_pair" = true) (k11 : PySem.W.keepIn K (.ref f11) = true)
    (a12 : PySem.W.nsIn K mainGlobals "_law_pairs" = some (some (.ref f12))) (l12 : K.lookup f12 = some ⟨oc12, od12, .func (PySem.W.fnOf "_law_pairs" "_law_pairs" (defArgs s_pairs) (defBody s_pairs) (defScope s_pairs) .none kV12 dc12 pm12 an12 cd12 ct12), sl12⟩) (c12 : PySem.W.codeIn K cd12 "_law_pairs" = true) (k12 : PySem.W.keepIn K (.ref f12) = true)
    (a13 : PySem.W.nsIn K mainGlobals "_law_less" = some (some (.ref f13))) (l13 : K.lookup f13 = some ⟨oc13, od13, .func (PySem.W.fnOf "_law_less" "_law_less" (defArgs s_lless) (defBody s_lless) (defScope s_lless) .none kV13 dc13 pm13 an13 cd13 ct13), sl13⟩) (c13 : PySem.W.codeIn K cd13 "_law_less" = true) (k13 : PySem.W.keepIn K (.ref f13) = true)
    (a14 : PySem.W.nsIn K mainGlobals "law" = some (some (.ref f14))) (l14 : K.lookup f14 = some ⟨oc14, od14, .func (PySem.W.fnOf "law" "law" (defArgs s_law) (defBody s_law) (defScope s_law) .none kV14 dc14 pm14 an14 cd14 ct14), sl14⟩) (c14 : PySem.W.codeIn K cd14 "law" = true) (k14 : PySem.W.keepIn K (.ref f14) = true)
    (n0 : PySem.W.nsIn K mainGlobals "isinstance" = some none)
    (n1 : PySem.W.nsIn K mainGlobals "int" = some none)
    (n2 : PySem.W.nsIn K mainGlobals "bool" = some none)
    (n3 : PySem.W.nsIn K mainGlobals "tuple" = some none)
    (n4 : PySem.W.nsIn K mainGlobals "len" = some none)
    (n5 : PySem.W.nsIn K mainGlobals "range" = some none)
    (n6 : PySem.W.nsIn K mainGlobals "max" = some none)
    (n7 : PySem.W.nsIn K mainGlobals "min" = some none)
    : ∃ fd : FuncData, (∀ (s : Shared) (v : Value), BindsTo s fd ⟨[v], []⟩ [("_law_script", v)]) ∧ ∀ base : Heap, K.In base → base.Ns mainGlobals mg → FnOk l.prog w K mg base CX0 5 fa fd ["_law_script"] (sp_law K) := by
  have e := hfa.symm.trans (PySem.W.mg_of X G a14)
  cases e
  have T : Txt K mg := ⟨HasDef.mk (PySem.W.mg_of X G a0) l0 c0 k0, HasDef.mk (PySem.W.mg_of X G a1) l1 c1 k1, HasDef.mk (PySem.W.mg_of X G a2) l2 c2 k2, HasDef.mk (PySem.W.mg_of X G a3) l3 c3 k3, HasDef.mk (PySem.W.mg_of X G a4) l4 c4 k4, HasDef.mk (PySem.W.mg_of X G a5) l5 c5 k5, HasDef.mk (PySem.W.mg_of X G a6) l6 c6 k6, HasDef.mk (PySem.W.mg_of X G a7) l7 c7 k7, HasDef.mk (PySem.W.mg_of X G a8) l8 c8 k8, HasDef.mk (PySem.W.mg_of X G a9) l9 c9 k9, HasDef.mk (PySem.W.mg_of X G a10) l10 c10 k10, HasDef.mk (PySem.W.mg_of X G a11) l11 c11 k11, HasDef.mk (PySem.W.mg_of X G a12) l12 c12 k12, HasDef.mk (PySem.W.mg_of X G a13) l13 c13 k13, PySem.W.mg_none_of X G n0, PySem.W.mg_none_of X G n1, PySem.W.mg_none_of X G n2, PySem.W.mg_none_of X G n3, PySem.W.mg_none_of X G n4, PySem.W.mg_none_of X G n5, PySem.W.mg_none_of X G n6, PySem.W.mg_none_of X G n7⟩
  refine ⟨PySem.W.fnOf "law" "law" (defArgs s_law) (defBody s_law) (defScope s_law) .none kV14 dc14 pm14 an14 cd14 ct14, fun s v => .of_eq rfl, fun base _ _ => ?_⟩
  exact ok_law T (fun_mk (st := s_law) l14 c14 k14)
theorem walk {l : PySem.W.OpenLaw} {q : Program} {loose : List Str} {XP : (Str → Option Value) → Heap → Prop} {YP : World → Heap → Prop} {d : DefRec} {K : Params → PySem.W.Frag} (hn : l.most = some 63) (hdf : d.params.defaults = [])
    (hY : ∀ (w : World) (h : Heap), YP w h → (K w.params).In h)
    (F : ∀ (w : World) (mg : Str → Option Value) (fa : Addr) (h : Heap), (K w.params).In h → h.Ns mainGlobals mg → mg d.name = some (.ref fa) →
      ∃ fd : FuncData, (∀ (s : Shared) (u : Value), BindsTo s fd ⟨[u], []⟩ [("_law_script", u)]) ∧ ∀ base : Heap, (K w.params).In base → base.Ns mainGlobals mg → FnOk l.prog w (K w.params) mg base CX0 5 fa fd ["_law_script"] (sp_law (K w.params))) :
    PySem.W.WalkO q loose XP YP l.row.toRowW d [] (fun f vs => PySem.call f vs) :=
  L2.walk_of (n := 63) (k := 5) (x := "_law_script") (CX := fun _ => CX0) (sp := fun w => sp_law (K w.params)) hn (by decide) hdf ⟨rfl, by decide, by decide, rfl⟩ hY F (fun _ _ a ns hl _ hS => ⟨a, ns, rfl, hS, hl, fun _ => rfl⟩) fun _ _ _ _ _ z => z
end K07
open PySem PySem.W PyProof.Rows
set_option maxRecDepth 100000 in
set_option maxHeartbeats 0 in
theorem PySem.Challenge.cw_slideroom_k07_fractions_holds : PySem.Challenge.rw_slideroom_k07_fractions.Holds := by
  w_on; o_law; k_head; (case hw => w_witness2)
  k_fill
  refine K07.walk (l := PySem.Challenge.rw_slideroom_k07_fractions) rfl rfl (fun w h Y => PySem.W.kIn_of Y) ?F
  case F =>
    intro w mg fa h KX G hmg
    refine' K07.all_mk KX G hmg ?a0 ?l0 ?c0 ?k0 ?a1 ?l1 ?c1 ?k1 ?a2 ?l2 ?c2 ?k2 ?a3 ?l3 ?c3 ?k3 ?a4 ?l4 ?c4 ?k4 ?a5 ?l5 ?c5 ?k5 ?a6 ?l6 ?c6 ?k6 ?a7 ?l7 ?c7 ?k7 ?a8 ?l8 ?c8 ?k8 ?a9 ?l9 ?c9 ?k9 ?a10 ?l10 ?c10 ?k10 ?a11 ?l11 ?c11 ?k11 ?a12 ?l12 ?c12 ?k12 ?a13 ?l13 ?c13 ?k13 ?a14 ?l14 ?c14 ?k14 ?n0 ?n1 ?n2 ?n3 ?n4 ?n5 ?n6 ?n7
    (case a0 => k_is)
    (case l0 => k_is)
    (case c0 => k_is)
    (case k0 => k_is)
    (case a1 => k_is)
    (case l1 => k_is)
    (case c1 => k_is)
    (case k1 => k_is)
    (case a2 => k_is)
    (case l2 => k_is)
    (case c2 => k_is)
    (case k2 => k_is)
    (case a3 => k_is)
    (case l3 => k_is)
    (case c3 => k_is)
    (case k3 => k_is)
    (case a4 => k_is)
    (case l4 => k_is)
    (case c4 => k_is)
    (case k4 => k_is)
    (case a5 => k_is)
    (case l5 => k_is)
    (case c5 => k_is)
    (case k5 => k_is)
    (case a6 => k_is)
    (case l6 => k_is)
    (case c6 => k_is)
    (case k6 => k_is)
    (case a7 => k_is)
    (case l7 => k_is)
    (case c7 => k_is)
    (case k7 => k_is)
    (case a8 => k_is)
    (case l8 => k_is)
    (case c8 => k_is)
    (case k8 => k_is)
    (case a9 => k_is)
    (case l9 => k_is)
    (case c9 => k_is)
    (case k9 => k_is)
    (case a10 => k_is)
    (case l10 => k_is)
    (case c10 => k_is)
    (case k10 => k_is)
    (case a11 => k_is)
    (case l11 => k_is)
    (case c11 => k_is)
    (case k11 => k_is)
    (case a12 => k_is)
    (case l12 => k_is)
    (case c12 => k_is)
    (case k12 => k_is)
    (case a13 => k_is)
    (case l13 => k_is)
    (case c13 => k_is)
    (case k13 => k_is)
    (case a14 => k_is)
    (case l14 => k_is)
    (case c14 => k_is)
    (case k14 => k_is)
    (case n0 => k_is)
    (case n1 => k_is)
    (case n2 => k_is)
    (case n3 => k_is)
    (case n4 => k_is)
    (case n5 => k_is)
    (case n6 => k_is)
    (case n7 => k_is)

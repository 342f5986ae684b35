import PyProof.Rows.All
import Wide.All
import OpenK.AllK
import Wide.FinOn
import Lean
import PyProof.EqAt
import PyProof.EqKinds
import PyProof.TupleCall
import PyProof.NeKinds
import PyProof.ExcInit
import PyProof.StationsW
import PyProof.ExcBaseAll.ValueError
import PyProof.ExcArgs
import KE.KIsAll
import PyProof.ReprRoads
import PyProof.CallFns
import PyProof.ExcClass3
import PyProof.StrBlock2
import PyProof.FitsInt
import PyProof.StrLawsRepr
import KE.KTryMore
import PyProof.RulesAs
import PySem.Challenge.RW_slideroom_k02_parts_written
-- CHANGE: your row's module here, as the last of these rows
set_option Elab.async false
set_option linter.all false
set_option maxRecDepth 100000
namespace L2
open PySem PySem.Spec PyProof.Rows
/-- a key: an int or a str -/
abbrev Key := Sum Int Str
def keyIs : Key → Value → Bool
  | .inl k, v => Value.isInt k v
  | .inr x, v => Value.isStrOf x v
def keyH (w : World) : Key → Int
  | .inl k => hashInt k
  | .inr x => hashStr w x
theorem keyIs_shape : ∀ {k : Key} {v : Value}, keyIs k v = true → (∃ i t, k = Sum.inl i ∧ v = Value.int i t) ∨ (∃ x t, k = Sum.inr x ∧ v = Value.str x t)
  | .inl i, v, h => by
    obtain ⟨t, e⟩ := Value.isInt_shape (k := i) (v := v) h
    exact .inl ⟨i, t, rfl, e⟩
  | .inr x, v, h => by
    obtain ⟨t, e⟩ := Value.isStrOf_shape (x := x) (v := v) h
    exact .inr ⟨x, t, rfl, e⟩
theorem key_ll (a b : Int) : decide ((Sum.inl a : Key) = Sum.inl b) = (a == b) := by
  by_cases e : a = b
  · subst e; simp
  · have h : ¬ (Sum.inl a : Key) = Sum.inl b := fun q => e (Sum.inl.inj q)
    rw [decide_eq_false h]
    exact (beq_eq_false_iff_ne.mpr e).symm
theorem key_rr (a b : Str) : decide ((Sum.inr a : Key) = Sum.inr b) = decide (a = b) := by
  by_cases e : a = b
  · subst e; simp
  · have h : ¬ (Sum.inr a : Key) = Sum.inr b := fun q => e (Sum.inr.inj q)
    rw [decide_eq_false h, decide_eq_false e]
theorem key_lr (a : Int) (b : Str) : decide ((Sum.inl a : Key) = Sum.inr b) = false := decide_eq_false (fun q => nomatch q)
theorem key_rl (a : Str) (b : Int) : decide ((Sum.inr a : Key) = Sum.inl b) = false := decide_eq_false (fun q => nomatch q)
def mixKind (prog : Program) (w : World) : PySem.KeyKind prog w Key where
  is := keyIs
  hash := keyH w
  inj := fun v a b ha hb => by
    rcases keyIs_shape ha with ⟨i, t, rfl, rfl⟩ | ⟨x, t, rfl, rfl⟩
    · rcases keyIs_shape hb with ⟨j, u, rfl, e⟩ | ⟨y, u, rfl, e⟩
      · injection e with e1 _; rw [e1]
      · exact nomatch e
    · rcases keyIs_shape hb with ⟨j, u, rfl, e⟩ | ⟨y, u, rfl, e⟩
      · exact nomatch e
      · injection e with e1 _; rw [e1]
  byValue := fun k v h => by
    rcases keyIs_shape h with ⟨i, t, rfl, rfl⟩ | ⟨x, t, rfl, rfl⟩ <;> rfl
  pyHash := fun hv h => by
    rcases keyIs_shape hv with ⟨i, t, rfl, rfl⟩ | ⟨x, t, rfl, rfl⟩
    · exact wpAny_pyHash_int h
    · exact wpAny_pyHash_str h
  eqBool := fun hu hv h => by
    rcases keyIs_shape hu with ⟨i, t, rfl, rfl⟩ | ⟨x, t, rfl, rfl⟩
    · rcases keyIs_shape hv with ⟨j, u, rfl, rfl⟩ | ⟨y, u, rfl, rfl⟩
      · rw [key_ll] at h; exact wpAny_eqBool_int h
      · rw [key_lr] at h; exact SeqAt.EqAt.int_str i t y u _ _ _ _ h
    · rcases keyIs_shape hv with ⟨j, u, rfl, rfl⟩ | ⟨y, u, rfl, rfl⟩
      · rw [key_rl] at h; exact SeqAt.EqAt.str_int x t j u _ _ _ _ h
      · rw [key_rr] at h; exact wpAny_eqBool_str h
  «strs» := fun k x t v h => by
    rcases keyIs_shape h with ⟨i, u, rfl, e⟩ | ⟨y, u, rfl, e⟩
    · exact nomatch e
    · injection e with e1 _
      subst e1
      cases v <;> rfl
end L2
namespace L2
open PySem PySem.Spec PyProof.Rows
/-- a value, without the heap -/
inductive V where
  | non | bl (b : Bool) | int (i : Int) | str (x : Str) | byt (b : Array UInt8) | flt (b : UInt64) | ref (a : Addr) | ty (n : String)
  deriving DecidableEq
def RelV : V → Value → Prop
  | .non, u => u = Value.none
  | .bl b, u => u = Value.bool b
  | .int i, u => ∃ t, u = Value.int i t
  | .str x, u => ∃ t, u = Value.str x t
  | .byt b, u => ∃ t, u = Value.bytes b t
  | .flt b, u => ∃ t, u = Value.float b t
  | .ref a, u => u = Value.ref a
  | .ty n, u => u = Value.type n
abbrev Vals : List V → List Value → Prop := Paired RelV
theorem Vals.length {xs : List V} {us : List Value} (r : Vals xs us) : xs.length = us.length := Paired.length r
theorem Vals.get : ∀ {xs : List V} {us : List Value} {i : Nat} {x : V}, Vals xs us → xs[i]? = some x → ∃ u, us[i]? = some u ∧ RelV x u
  | _, _, _, _, .nil, e => by simp at e
  | _, _, 0, _, .cons r _, e => by simp at e; subst e; exact ⟨_, rfl, r⟩
  | _, _, i + 1, x, .cons _ t, e => by
    obtain ⟨u, h1, h2⟩ := Vals.get (i := i) (x := x) t (by simpa using e)
    exact ⟨u, by simpa using h1, h2⟩
theorem Vals.set {x : V} {u : Value} (r : RelV x u) : ∀ {xs : List V} {us : List Value} (i : Nat), Vals xs us → Vals (xs.set i x) (us.set i u)
  | _, _, _, .nil => .nil
  | _, _, 0, .cons _ t => .cons r t
  | _, _, i + 1, .cons q t => .cons q (Vals.set r i t)
theorem Vals.append : ∀ {xs ys : List V} {us ws : List Value}, Vals xs us → Vals ys ws → Vals (xs ++ ys) (us ++ ws)
  | _, _, _, _, .nil, s => s
  | _, _, _, _, .cons r t, s => .cons r (Vals.append t s)
theorem Vals.take : ∀ {xs : List V} {us : List Value} (n : Nat), Vals xs us → Vals (xs.take n) (us.take n)
  | _, _, 0, _ => .nil
  | _, _, _ + 1, .nil => .nil
  | _, _, n + 1, .cons r t => .cons r (Vals.take n t)
theorem Vals.drop : ∀ {xs : List V} {us : List Value} (n : Nat), Vals xs us → Vals (xs.drop n) (us.drop n)
  | _, _, 0, r => r
  | _, _, _ + 1, .nil => .nil
  | _, _, n + 1, .cons _ t => Vals.drop n t
def RelO : Option V → Option Value → Prop
  | some v, some u => RelV v u
  | none, none => True
  | _, _ => False
def KV {κ : Type} : List (κ × V) → List (κ × Value) → Prop := Paired fun (p : κ × V) (q : κ × Value) => p.1 = q.1 ∧ RelV p.2 q.2
/-- a key of a dict (00_mix): an int or a text -/
def kV : Key → V
  | .inl i => .int i
  | .inr x => .str x
/-- what stands at a tracked address -/
inductive HO where
  /-- a list -/
  | lst (xs : List V)
  /-- a tuple (never changes) -/
  | tup (xs : List V)
  /-- a dict whose keys are ints and texts; one whose keys are tuples of ints and texts (the empty one is both) -/
  | dK (kvs : List (Key × V)) | dT (kvs : List (List Key × V))
  /-- a set of ints: its members, its size -/
  | set (S : Int → Bool) (n : Nat)
  /-- an instance of the class at C, its dict at dx, its attributes -/
  | ins (C dx : Addr) (fs : List (Str × V))
  /-- the dict of the instance at x -/
  | own (x : Addr)
  /-- the dict of an exception -/
  | xd (fs : List (Str × V))
  /-- a bound method, f of x -/
  | met (f x : Addr)
  /-- a range object lo, lo + 1, .. below hi -/
  | rng (lo hi : Int)
  /-- a thing that is known to the object (the script; a dict while a loop walks it): read, never written while it is so -/
  | frz (o : Obj) (u : HO)
  /-- a code object's table -/
  | tbl (ps : Array Value)
  /-- any other thing, by what is true of its one object (a def of one's own: SetO a S n := HO.ext fun h => ..) -/
  | ext (φ : Heap → Prop)
abbrev Hp := Addr → Option HO
def upd (H : Hp) (a : Addr) (o : HO) : Hp := fun b => if b = a then some o else H b
theorem upd_same {H : Hp} {a : Addr} {o : HO} : upd H a o a = some o := by unfold upd; rw [if_pos rfl]
theorem upd_ne {H : Hp} {a b : Addr} {o : HO} (h : b ≠ a) : upd H a o b = H b := by unfold upd; rw [if_neg h]
/-- two objects of different content stand apart -/
theorem ne_of {H : Hp} {a b : Addr} {o u : HO} (h : H a = some o) (h' : H b = some u) (d : o ≠ u) : a ≠ b := by
  intro e; subst e; rw [h] at h'; exact d (Option.some.inj h')
theorem ne_of_none {H : Hp} {a b : Addr} {o : HO} (h : H a = some o) (h' : H b = none) : a ≠ b := by
  intro e; subst e; rw [h] at h'; cases h'
section
variable (P : Program) (w : World)
def ObjOk (H : Hp) (h : Heap) (a : Addr) : HO → Prop
  | .lst xs => xs.length ≤ sizeLine ∧ ∃ (its : List Value) (n : Nat), Vals xs its ∧ h.get? a = some { cls := .type "list", data := .seq its.toArray n }
  | .tup xs => xs.length ≤ sizeLine ∧ ∃ its : List Value, Vals xs its ∧ IsTup h a its.toArray
  | .dK kvs => kvs.length ≤ sizeLine ∧ (a == sysModules) = false ∧ ∃ vs, KV kvs vs ∧ h.DictOf (mixKind P w) a vs
  | .dT kvs => kvs.length ≤ sizeLine ∧ (a == sysModules) = false ∧ ∃ xs : List (List Key × Addr × Value),
      Paired (fun (p : List Key × V) (q : List Key × Addr × Value) => p.1 = q.1 ∧ H q.2.1 = some (.tup (p.1.map kV)) ∧ RelV p.2 q.2.2) kvs xs ∧
      ∃ o es ep, h.get? a = some o ∧ o.ExactDict ∧ o.data = .dict es ep ∧ es.toList = xs.map (entryOfKey (tupleKind (mixKind P w))) ∧ (xs.map (·.1)).Nodup
  | .set S n => h.SetOf (intKind P w) a S n
  | .ins C dx fs => H dx = some (.own a) ∧ fs.length ≤ 1000 ∧ dx ≠ a ∧ h.get? a = some (PySem.W.instObj C dx) ∧
      ∃ mA, h.Ns1 dx mA ∧ (∀ f, RelO (fs.lookup f) (mA f)) ∧ PySem.Within mA (fs.map (·.1))
  | .own _ => ∃ o, h.get? a = some o
  | .xd fs => ∃ mA, h.Ns1 a mA ∧ ∀ f, RelO (fs.lookup f) (mA f)
  | .rng lo hi => ∃ t u v, h.get? a = some { cls := .type "range", data := .fields #[.int lo t, .int hi u, .int 1 v] }
  | .frz o u => h.get? a = some o ∧ ObjOk H h a u
  | .tbl ps => h.get? a = some { cls := .none, data := .fields ps }
  | .met f x => h.get? a = some (PySem.W.methodObj (.ref f) (.ref x))
  | .ext φ => φ h ∧ (∃ o, h.get? a = some o) ∧ ∀ h1 h2 : Heap, φ h1 → (∀ o, h1.get? a = some o → h2.get? a = some o) → φ h2
/-- the abstract heap is held -/
def HOk (H : Hp) (h : Heap) : Prop := ∀ a o, H a = some o → ObjOk P w H h a o
end
section
variable {P : Program} {w : World} {H H' : Hp} {h h' : Heap} {a : Addr} {o : HO}
theorem ObjOk.lt (x : ObjOk P w H h a o) : a < h.objs.size := by
  cases o with
  | lst xs => obtain ⟨_, _, _, _, e⟩ := x; exact Heap.lt_size e
  | tup xs => obtain ⟨_, _, _, p⟩ := x; exact p.lt
  | dK kvs => obtain ⟨_, _, _, _, o, _, _, e, _⟩ := x; exact Heap.lt_size e
  | dT kvs => obtain ⟨_, _, _, _, o, _, _, e, _⟩ := x; exact Heap.lt_size e
  | set S n => obtain ⟨o, _, _, _, e, _⟩ := x; exact Heap.lt_size e
  | ins C dx fs => obtain ⟨_, _, _, e, _⟩ := x; exact Heap.lt_size e
  | own y => obtain ⟨_, e⟩ := x; exact Heap.lt_size e
  | xd fs => obtain ⟨_, ⟨_, _, _, e, _⟩, _⟩ := x; exact Heap.lt_size e
  | rng lo hi => obtain ⟨_, _, _, e⟩ := x; exact Heap.lt_size e
  | frz ob u => obtain ⟨e, _⟩ := x; exact Heap.lt_size e
  | tbl ps => exact Heap.lt_size (show h.get? a = some _ from x)
  | met f y => exact Heap.lt_size (show h.get? a = some _ from x)
  | ext φ => obtain ⟨_, ⟨_, e⟩, _⟩ := x; exact Heap.lt_size e
theorem Paired.mapP {α β : Type} {F G : α → β → Prop} : ∀ {l₁ : List α} {l₂ : List β}, Paired F l₁ l₂ → (∀ a b, F a b → G a b) → Paired G l₁ l₂
  | _, _, .nil, _ => .nil
  | _, _, .cons r t, f => .cons (f _ _ r) (Paired.mapP t f)
/-- what an object's description leans on: its own object, its own dict, the tuples -/
theorem ObjOk.stay (x : ObjOk P w H h a o) (k : ∀ b u, (b = a ∨ H b = some (.own a)) → h.get? b = some u → h'.get? b = some u)
    (ho : ∀ b, H b = some (.own a) → H' b = some (.own a)) (ht : ∀ b xs, H b = some (.tup xs) → H' b = some (.tup xs)) : ObjOk P w H' h' a o := by
  induction o with
  | lst xs => obtain ⟨z, its, n, r, e⟩ := x; exact ⟨z, its, n, r, k _ _ (.inl rfl) e⟩
  | tup xs => obtain ⟨z, its, r, ob, e, c⟩ := x; exact ⟨z, its, r, ob, k _ _ (.inl rfl) e, c⟩
  | dK kvs => obtain ⟨z, y, vs, r, ob, es, ep, e, c⟩ := x; exact ⟨z, y, vs, r, ob, es, ep, k _ _ (.inl rfl) e, c⟩
  | dT kvs =>
    obtain ⟨z, y, xs, r, ob, es, ep, e, c⟩ := x
    exact ⟨z, y, xs, Paired.mapP r fun p q z => ⟨z.1, ht _ _ z.2.1, z.2.2⟩, ob, es, ep, k _ _ (.inl rfl) e, c⟩
  | set S n => obtain ⟨ob, es, ep, t, e, c⟩ := x; exact ⟨ob, es, ep, t, k _ _ (.inl rfl) e, c⟩
  | ins C dx fs =>
    obtain ⟨d, z, ne, e, mA, ⟨od, es, ep, e2, c⟩, r⟩ := x
    exact ⟨ho _ d, z, ne, k _ _ (.inl rfl) e, mA, ⟨od, es, ep, k _ _ (.inr d) e2, c⟩, r⟩
  | own y => obtain ⟨ob, e⟩ := x; exact ⟨ob, k _ _ (.inl rfl) e⟩
  | xd fs => obtain ⟨mA, ⟨od, es, ep, e, c⟩, r⟩ := x; exact ⟨mA, ⟨od, es, ep, k _ _ (.inl rfl) e, c⟩, r⟩
  | rng lo hi => obtain ⟨t, u, v, e⟩ := x; exact ⟨t, u, v, k _ _ (.inl rfl) e⟩
  | frz ob u ih => obtain ⟨e, q⟩ := x; exact ⟨k _ _ (.inl rfl) e, ih q⟩
  | tbl ps =>
    have e : h.get? a = some { cls := .none, data := .fields ps } := x
    show h'.get? a = some { cls := .none, data := .fields ps }
    exact k a _ (.inl rfl) e
  | met f y =>
    have e : h.get? a = some (PySem.W.methodObj (.ref f) (.ref y)) := x
    show h'.get? a = some (PySem.W.methodObj (.ref f) (.ref y))
    exact k a _ (.inl rfl) e
  | ext φ => obtain ⟨p, ⟨o, e⟩, st⟩ := x; exact ⟨st _ _ p fun o q => k _ _ (.inl rfl) q, ⟨o, k _ _ (.inl rfl) e⟩, st⟩
theorem HOk.lt (x : HOk P w H h) (e : H a = some o) : a < h.objs.size := (x a o e).lt
theorem HOk.fresh (x : HOk P w H h) (e : h.objs.size ≤ a) : H a = none := by
  cases q : H a with
  | none => rfl
  | some u => exact absurd (Nat.lt_of_lt_of_le (x.lt q) e) (Nat.lt_irrefl _)
/-- every object of the heap is kept -/
theorem HOk.kept (x : HOk P w H h) (k : ∀ b u, h.get? b = some u → h'.get? b = some u) : HOk P w H h' := fun a o e =>
  (x a o e).stay (fun b u _ q => k b u q) (fun _ q => q) fun _ _ q => q
/-- a new object is laid and tracked -/
theorem HOk.laid (x : HOk P w H h) (k : ∀ b u, h.get? b = some u → h'.get? b = some u) (hp : h.objs.size ≤ a) (new : ObjOk P w (upd H a o) h' a o) : HOk P w (upd H a o) h' := fun b u e => by
  have hn := x.fresh hp
  by_cases hb : b = a
  · subst hb; rw [upd_same] at e; cases e; exact new
  · rw [upd_ne hb] at e
    exact (x b u e).stay (fun c v _ q => k c v q) (fun c q => by rw [upd_ne (ne_of_none q hn)]; exact q) fun c xs q => by rw [upd_ne (ne_of_none q hn)]; exact q
end
/-- what may be read as u: it is u, or a known u -/
def Rd (H : Hp) (a : Addr) (u : HO) : Prop := H a = some u ∨ ∃ o, H a = some (.frz o u)
theorem Rd.of {H : Hp} {a : Addr} {u : HO} (h : H a = some u) : Rd H a u := .inl h
theorem Rd.ok {P : Program} {w : World} {H : Hp} {h : Heap} {a : Addr} {u : HO} (r : Rd H a u) (x : HOk P w H h) : ObjOk P w H h a u := by
  rcases r with r | ⟨o, r⟩
  · exact x a u r
  · obtain ⟨_, q⟩ := x a _ r
    exact q
/-- what may be written -/
def Mut : Option HO → Prop
  | some (.lst _) => True
  | some (.dK _) => True
  | some (.dT _) => True
  | some (.set _ _) => True
  | some (.ins _ _ _) => True
  | some (.ext _) => True
  | _ => False
section
variable {P : Program} {w : World} {H : Hp} {h h' : Heap} {x e : Addr} {o' : HO}
/-- the object at e is changed: x itself, or the dict of the instance x -/
theorem HOk.write (ok : HOk P w H h) (mu : Mut (H x)) (he : e = x ∨ H e = some (.own x)) (k : ∀ b u, b ≠ e → h.get? b = some u → h'.get? b = some u) (heo : ∃ u, h'.get? e = some u)
    (new : ObjOk P w (upd H x o') h' x o') : HOk P w (upd H x o') h' := fun b u q => by
  have nown : ∀ c y, H c = some (.own y) → c ≠ x := fun c y r z => by subst z; rw [r] at mu; exact mu
  have ntup : ∀ c xs, H c = some (.tup xs) → c ≠ x := fun c xs r z => by subst z; rw [r] at mu; exact mu
  by_cases hb : b = x
  · subst hb; rw [upd_same] at q; cases q; exact new
  · rw [upd_ne hb] at q
    by_cases hbe : b = e
    · have q' : H b = some (.own x) := by
        rcases he with z | z
        · exact absurd (hbe.trans z) hb
        · rw [hbe]; exact z
      rw [q] at q'; cases q'
      obtain ⟨v, hv⟩ := heo
      exact ⟨v, by rw [hbe]; exact hv⟩
    · refine (ok b u q).stay (fun c v hc r => k c v ?_ r) (fun c r => by rw [upd_ne (nown c b r)]; exact r) fun c xs r => by rw [upd_ne (ntup c xs r)]; exact r
      rcases hc with rfl | hc
      · exact hbe
      · rintro rfl
        rcases he with z | z
        · exact nown c b hc z
        · rw [hc] at z; cases z; exact hb rfl
end
structure Un (fs ex : List Addr) (H H' : Hp) (h h' : Heap) : Prop where
  keep : ∀ b o, h.get? b = some o → H b = none → b ∉ fs → b ∉ ex → h'.get? b = some o
  slot : ∀ b o, h.get? b = some o → H b = none → b ∈ fs → b ∉ ex → ∃ sl, h'.get? b = some { o with slots := sl }
  free : ∀ b o, h.get? b = some o → H b = none → b ∉ ex → H' b = none
  there : ∀ b o, h.get? b = some o → b ∉ ex → ∃ o', h'.get? b = some o'
  tups : ∀ b xs, H b = some (.tup xs) → H' b = some (.tup xs)
  frzs : ∀ b o u, H b = some (.frz o u) → H' b = some (.frz o u)
  tbls : ∀ b ps, H b = some (.tbl ps) → ∃ more, H' b = some (.tbl (ps ++ more))
section
variable {fs fs' ex ex' : List Addr} {H H1 H2 : Hp} {h h1 h2 h' : Heap} {a x e : Addr} {o : HO}
theorem Un.any (u : Un fs ex H H1 h h1) {b : Addr} {ob : Obj} (q : h.get? b = some ob) (n : H b = none) (hx : b ∉ ex) : ∃ sl, h1.get? b = some { ob with slots := sl } := by
  by_cases hb : b ∈ fs
  · exact u.slot b ob q n hb hx
  · exact ⟨ob.slots, u.keep b ob q n hb hx⟩
theorem Un.trans (a : Un fs ex H H1 h h1) (b : Un fs ex H1 H2 h1 h2) : Un fs ex H H2 h h2 where
  keep := fun c ob q n hc hx => b.keep c ob (a.keep c ob q n hc hx) (a.free c ob q n hx) hc hx
  slot := fun c ob q n hc hx => by
    obtain ⟨sl, e1⟩ := a.slot c ob q n hc hx
    obtain ⟨sl', e2⟩ := b.slot c _ e1 (a.free c ob q n hx) hc hx
    exact ⟨sl', e2⟩
  free := fun c ob q n hx => by
    obtain ⟨o', e1⟩ := a.there c ob q hx
    exact b.free c o' e1 (a.free c ob q n hx) hx
  there := fun c ob q hx => by
    obtain ⟨o', e1⟩ := a.there c ob q hx
    exact b.there c o' e1 hx
  tups := fun c xs q => b.tups c xs (a.tups c xs q)
  frzs := fun c ob xs q => b.frzs c ob xs (a.frzs c ob xs q)
  tbls := fun c ps q => by
    obtain ⟨m1, e1⟩ := a.tbls c ps q
    obtain ⟨m2, e2⟩ := b.tbls c _ e1
    exact ⟨m1 ++ m2, by rw [e2, Array.append_assoc]⟩
theorem Un.kept (k : ∀ b u, h.get? b = some u → h'.get? b = some u) : Un fs ex H H h h' :=
  ⟨fun b ob q _ _ _ => k b ob q, fun b ob q _ _ _ => ⟨ob.slots, k b ob q⟩, fun _ _ _ n _ => n, fun b ob q _ => ⟨ob, k b ob q⟩, fun _ _ q => q, fun _ _ _ q => q, fun _ ps q => ⟨#[], by rw [q]; simp⟩⟩
theorem Un.refl : Un fs ex H H h h := Un.kept fun _ _ q => q
theorem Un.laid (k : ∀ b u, h.get? b = some u → h'.get? b = some u) (hp : h.objs.size ≤ a) (hn : H a = none) : Un fs ex H (upd H a o) h h' where
  keep := fun b u q _ _ _ => k b u q
  slot := fun b u q _ _ _ => ⟨u.slots, k b u q⟩
  free := fun b u q n _ => by rw [upd_ne (Nat.ne_of_lt (Nat.lt_of_lt_of_le (Heap.lt_size q) hp))]; exact n
  there := fun b u q _ => ⟨u, k b u q⟩
  tups := fun b xs q => by rw [upd_ne (ne_of_none q hn)]; exact q
  frzs := fun b u xs q => by rw [upd_ne (ne_of_none q hn)]; exact q
  tbls := fun b ps q => ⟨#[], by rw [upd_ne (ne_of_none q hn), q]; simp⟩
theorem Un.write (mu : Mut (H x)) (he : e = x ∨ H e = some (.own x)) (k : ∀ b u, b ≠ e → h.get? b = some u → h'.get? b = some u) (heo : ∃ u, h'.get? e = some u) : Un fs ex H (upd H x o) h h' := by
  have hx : ∀ b, H b = none → b ≠ x := fun b n z => by subst z; rw [n] at mu; exact mu
  have hb : ∀ b, H b = none → b ≠ e := fun b n z => by
    subst z
    rcases he with r | r
    · exact hx b n r
    · rw [n] at r; cases r
  have hm : ∀ b u, H b = some u → ¬ Mut (some u) → b ≠ x := fun b u q nm z => by subst z; rw [q] at mu; exact nm mu
  refine ⟨fun b u q n _ _ => k b u (hb b n) q, fun b u q n _ _ => ⟨u.slots, k b u (hb b n) q⟩, fun b u q n _ => by rw [upd_ne (hx b n)]; exact n, fun b u q _ => ?_,
    fun b xs q => by rw [upd_ne (hm b _ q fun z => z)]; exact q, fun b u xs q => by rw [upd_ne (hm b _ q fun z => z)]; exact q, fun b ps q => ⟨#[], by rw [upd_ne (hm b _ q fun z => z), q]; simp⟩⟩
  by_cases hbe : b = e
  · subst hbe; exact heo
  · exact ⟨u, k b u hbe q⟩
theorem Un.mono (u : Un fs ex H H1 h h1) (hs : ∀ b ∈ fs, b ∈ fs') (hx : ∀ b ∈ ex, b ∈ ex') : Un fs' ex' H H1 h h1 :=
  ⟨fun b ob q n hb he => u.keep b ob q n (fun z => hb (hs b z)) fun z => he (hx b z), fun _ _ q n _ he => u.any q n fun z => he (hx _ z), fun b ob q n he => u.free b ob q n fun z => he (hx b z), fun b ob q he => u.there b ob q fun z => he (hx b z), u.tups, u.frzs, u.tbls⟩
end
def trk (h : Heap) (H : Hp) : List Addr := (List.range h.objs.size).filter fun a => (H a).isSome
def hidT (h : Heap) (H : Hp) : Heap := PySem.W.hideAll h (trk h H)
theorem hidT_size (h : Heap) (H : Hp) : (hidT h H).objs.size = h.objs.size := PySem.W.hideAll_size _ _
theorem hidT_get {h : Heap} {H : Hp} {b : Addr} {o : Obj} (e : h.get? b = some o) (n : H b = none) : (hidT h H).get? b = some o :=
  PySem.W.hideAll_get _ e fun hm => by
    have q : (H b).isSome = true := (List.mem_filter.mp hm).2
    rw [n] at q; simp at q
theorem of_hidT {h : Heap} {H : Hp} {b : Addr} {o : Obj} (e : (hidT h H).get? b = some o) : h.get? b = some o ∧ H b = none := by
  have e' : h.get? b = some o := PySem.W.of_hideAll (trk h H) e
  refine ⟨e', ?_⟩
  cases q : H b with
  | none => rfl
  | some x =>
    have hm : b ∈ trk h H := List.mem_filter.mpr ⟨List.mem_range.mpr (Heap.lt_size e'), by simp [q]⟩
    have z : (hidT h H).get? b = none := PySem.W.hideAll_none (trk h H) hm
    rw [z] at e; cases e
def allNews (g h : Heap) (L : Addr) : List (Addr × Obj) := (List.range h.objs.size).filterMap fun a => if a = L ∨ (g.get? a).isSome = true then none else (h.get? a).map fun o => (a, o)
def rest (g h : Heap) (L d : Addr) : List (Addr × Obj) := (allNews g h L).filter fun p => decide (p.1 ≠ d)
end L2
namespace L2
open PySem PySem.Spec PyProof.Rows
/-- the module's facts, over the base: the heap at the law's entry without what is tracked there -/
structure Mod (K : PySem.W.Frag) (mg : Str → Option Value) (base : Heap) : Prop where
  kin : K.In base
  glob : base.Ns mainGlobals mg
  blt : ∃ mb, base.Ns builtinsNs mb ∧ ∀ x : Str, x ≠ "__name__" → mb x = bootBuiltins x
  nolimit : base.NoLimit
/-- the context: a def's body (or a comprehension's block) running. base: fixed through the whole law; s₀, H₀: the entry; outer: the frames whose slots others may change (a def's callers); stack: all frames that run;
   ex: iterators that were made ahead of the entry and are walked here (a comprehension's); fn: the names whose cells were made at the entry (a def: all; a comprehension's block: its own); calm: not within an except suite; pn: pins that every state bears; xe: what is wanted of an exception that leaves the code -/
structure Cx where
  prog : Program
  w : World
  K : PySem.W.Frag
  mg : Str → Option Value
  base : Heap
  A : Around
  N : List Str
  s₀ : Shared
  H₀ : Hp
  env : Env
  outer : List Env
  stack : List Env
  ex : List Addr
  fn : Str → Bool
  calm : Bool
  pn : List (Addr × Obj)
  xe : Value → Shared → Prop
/-- the callers' frames -/
def frs (l : List Env) : List Addr := l.filterMap (·.frame)
abbrev Cx.fs (X : Cx) : List Addr := frs X.outer
def Vis (sc : Scope) (x : Str) : Prop := sc.names.lookup x = some .local ∨ sc.names.lookup x = some .cell ∨ sc.names.lookup x = some .free
def Loc (sc : Scope) (x : Str) : Prop := sc.names.lookup x = some .local ∨ sc.names.lookup x = some .cell
def Look (env : Env) (h : Heap) (m : Str → Option Value) (x : Str) (u : Value) : Prop :=
  (env.kindOf x = some .local ∧ m x = some u) ∨ ((env.kindOf x = some .cell ∨ env.kindOf x = some .free) ∧ ∃ c, env.cells.lookup x = some c ∧ h.IsCell c (some u))
structure Cx.Ok (X : Cx) : Prop where
  mod : Mod X.K X.mg X.base
  kind : X.env.scope.kind = .function
  glob : X.env.globals = mainGlobals
  blt : X.env.builtins = builtinsNs
  above : X.s₀.heap.objs.size ≤ X.env.locals
  inj : ∀ x y c, X.env.cells.lookup x = some c → X.env.cells.lookup y = some c → x = y
  has : ∀ x, (X.env.kindOf x = some .cell ∨ X.env.kindOf x = some .free) → ∃ c, X.env.cells.lookup x = some c
  cab : ∀ x c, X.fn x = true → X.env.cells.lookup x = some c → X.s₀.heap.objs.size ≤ c
  hd : X.calm = true → X.A.handled = none
  frames : X.A.frames = some X.stack
  stk : X.stack = X.outer ∨ (X.stack = X.env :: X.outer ∧ X.env.frame = some X.env.locals)
  exf : ∀ b ∈ X.ex, b ≠ X.env.locals ∧ ∀ x c, X.env.cells.lookup x = some c → c ≠ b
  bs : ∀ b o, X.base.get? b = some o → X.s₀.heap.get? b = some o ∧ X.H₀ b = none
  bsz : X.base.objs.size ≤ X.s₀.heap.objs.size
  noex : ∀ b o, X.base.get? b = some o → b ∉ X.ex
  exfs : ∀ b ∈ X.ex, b ∉ X.fs
  funs : X.s₀.heap.FunFrames X.base X.outer
  frf : ∀ b ∈ X.fs, X.H₀ b = none
structure Inv (X : Cx) (pins : List (Addr × Obj)) (σ : List (Option V)) (H : Hp) (s : Shared) : Prop where
  ok : X.Ok
  os : s.os = X.s₀.os
  bare : AllBare s.gens
  base : Un X.fs X.ex X.H₀ H X.s₀.heap s.heap
  loc : ∃ m, s.heap.Ns X.env.locals m ∧ ∀ (i : Nat) (x : Str) (v : V), X.N[i]? = some x → σ[i]? = some (some v) → Vis X.env.scope x → ∃ u, RelV v u ∧ Look X.env s.heap m x u
  cell : ∀ x c, X.env.cells.lookup x = some c → ∃ v, s.heap.IsCell c v
  free : H X.env.locals = none
  freeC : ∀ x c, X.env.cells.lookup x = some c → H c = none
  pin : ∀ p ∈ X.pn ++ pins, s.heap.get? p.1 = some p.2 ∧ H p.1 = none ∧ p.1 ≠ X.env.locals ∧ p.1 ∉ X.fs ∧ ∀ v, p.2.data ≠ .cell v
  hok : HOk X.prog X.w H s.heap
  len : σ.length = X.N.length
section
variable {X : Cx} {pins : List (Addr × Obj)} {σ : List (Option V)} {H H' : Hp} {s : Shared} {h' : Heap}
theorem Cx.Ok.nofr (ok : X.Ok) {b : Addr} {o : Obj} (e : X.base.get? b = some o) : b ∉ X.fs := fun hb => by
  have := (ok.funs.mem hb).1
  rw [e] at this; cases this
theorem Inv.bs (I : Inv X pins σ H s) : ∀ b o, X.base.get? b = some o → s.heap.get? b = some o ∧ H b = none := fun b o e =>
  ⟨I.base.keep b o (I.ok.bs b o e).1 (I.ok.bs b o e).2 (I.ok.nofr e) (I.ok.noex b o e), I.base.free b o (I.ok.bs b o e).1 (I.ok.bs b o e).2 (I.ok.noex b o e)⟩
theorem Inv.bk (I : Inv X pins σ H s) : ∀ b o, X.base.get? b = some o → s.heap.get? b = some o := fun b o e => (I.bs b o e).1
theorem Inv.mod (I : Inv X pins σ H s) : Mod X.K X.mg X.base := I.ok.mod
theorem Inv.kIn (I : Inv X pins σ H s) : X.K.In s.heap := I.ok.mod.kin.keeps I.bk
theorem Inv.nolimit (I : Inv X pins σ H s) : s.heap.NoLimit := I.ok.mod.nolimit.keeps I.bk
/-- the frame over the base: for OpenK's rules (K.In X.base is I.mod.kin) -/
theorem Inv.fr (I : Inv X pins σ H s) : ∃ m, Fr X.base X.env.locals s.heap m :=
  let ⟨m, hn, _⟩ := I.loc
  ⟨m, hn, I.bk, Nat.le_trans I.ok.bsz I.ok.above⟩
theorem Inv.lt (I : Inv X pins σ H s) : X.env.locals < s.heap.objs.size := let ⟨_, hn, _⟩ := I.loc; hn.lt
theorem Inv.sz (I : Inv X pins σ H s) : X.s₀.heap.objs.size ≤ s.heap.objs.size := Nat.le_trans I.ok.above (Nat.le_of_lt I.lt)
theorem Inv.nofs (I : Inv X pins σ H s) {a : Addr} (h : s.heap.objs.size ≤ a) : a ∉ X.fs := fun hb => by
  obtain ⟨_, o, ho, _⟩ := I.ok.funs.mem hb
  exact absurd (Nat.lt_of_lt_of_le (Heap.lt_size ho) (Nat.le_trans I.sz h)) (Nat.lt_irrefl _)
theorem Inv.cne (I : Inv X pins σ H s) : ∀ x c, X.env.cells.lookup x = some c → c ≠ X.env.locals := fun x c e z => by
  obtain ⟨v, o, ho, hd⟩ := I.cell x c e
  obtain ⟨m, ⟨o', es, ep, ho', hd', _⟩, _⟩ := I.loc
  rw [z, ho'] at ho; cases ho; rw [hd'] at hd; cases hd
theorem Inv.funs (I : Inv X pins σ H s) : s.heap.FunFrames X.base X.outer := by
  have all : ∀ (l : List Env), (∀ b ∈ frs l, b ∈ X.fs) → X.s₀.heap.FunFrames X.base l → s.heap.FunFrames X.base l := by
    intro l
    induction l with
    | nil => intro _ _; trivial
    | cons env r ih =>
      intro hs hl
      obtain ⟨hk, ⟨L, o, hf, hn, ho, hd⟩, hr⟩ := hl
      have hL : L ∈ X.fs := hs L (by unfold frs; rw [List.filterMap_cons, hf]; exact List.mem_cons_self)
      obtain ⟨sl, e⟩ := I.base.slot L o ho (I.ok.frf L hL) hL fun z => I.ok.exfs L z hL
      exact ⟨hk, ⟨L, _, hf, hn, e, hd⟩, ih (fun b hb => hs b (by unfold frs; rw [List.filterMap_cons, hf]; exact List.mem_cons_of_mem _ hb)) hr⟩
  exact all X.outer (fun _ hb => hb) I.ok.funs
/-- the frames that run, for a call -/
theorem Inv.stack (I : Inv X pins σ H s) : s.heap.FunFrames X.base X.stack := by
  rcases I.ok.stk with e | ⟨e, hf⟩
  · rw [e]; exact I.funs
  · rw [e]
    obtain ⟨m, hn, _⟩ := I.loc
    refine .cons (by rw [I.ok.kind]; decide) hf hn ?_ I.funs
    exact Heap.get?_none_of_le (Nat.le_trans I.ok.bsz I.ok.above)
theorem Inv.stkSub (I : Inv X pins σ H s) : ∀ b ∈ frs X.stack, b ∈ X.env.locals :: X.fs := fun b hb => by
  rcases I.ok.stk with e | ⟨e, hf⟩
  · rw [e] at hb; exact List.mem_cons_of_mem _ hb
  · rw [e] at hb
    unfold frs at hb
    rw [List.filterMap_cons, hf] at hb
    exact hb
theorem Inv.stkFree (I : Inv X pins σ H s) : ∀ b ∈ frs X.stack, H b = none := fun b hb => by
  rcases List.mem_cons.mp (I.stkSub b hb) with e | hb
  · rw [e]; exact I.free
  · obtain ⟨_, o, ho, _⟩ := I.ok.funs.mem hb
    exact I.base.free b o ho (I.ok.frf b hb) fun z => I.ok.exfs b z hb
/-- THE STEP: the untracked objects but the frame and the records at ch are kept (the callers' frames up to slots), the frame's map is kept, the new abstract heap is held -/
theorem Inv.step {g' : Array GenState} {t' : Nat} {d' : Drawn} {ch : List Addr} (I : Inv X pins σ H s)
    (hch : ∀ b ∈ ch, (b ∈ X.ex ∨ X.s₀.heap.objs.size ≤ b) ∧ b ≠ X.env.locals ∧ (∀ x c, X.env.cells.lookup x = some c → c ≠ b) ∧ ∀ p ∈ X.pn ++ pins, p.1 ≠ b)
    (keep : ∀ b o, b ≠ X.env.locals → b ∉ X.fs → b ∉ ch → s.heap.get? b = some o → H b = none → h'.get? b = some o)
    (slot : ∀ b o, b ≠ X.env.locals → b ∈ X.fs → b ∉ ch → s.heap.get? b = some o → H b = none → ∃ sl, h'.get? b = some { o with slots := sl }) (free : ∀ b o, b ∉ ch → s.heap.get? b = some o → H b = none → H' b = none)
    (there : ∀ b o, b ∉ ch → s.heap.get? b = some o → ∃ o', h'.get? b = some o')
    (tups : ∀ b xs, H b = some (.tup xs) → H' b = some (.tup xs)) (frzs : ∀ b o u, H b = some (.frz o u) → H' b = some (.frz o u)) (tbls : ∀ b ps, H b = some (.tbl ps) → ∃ more, H' b = some (.tbl (ps ++ more)))
    (ns : ∀ m, s.heap.Ns X.env.locals m → h'.Ns X.env.locals m) (hok : HOk X.prog X.w H' h') (hg : AllBare g') :
    Inv X pins σ H' { s with heap := h', gens := g', drawn := d', toks := t' } := by
  have neL : ∀ b o, X.s₀.heap.get? b = some o → b ≠ X.env.locals := fun b o e => Nat.ne_of_lt (Nat.lt_of_lt_of_le (Heap.lt_size e) I.ok.above)
  have neC : ∀ b o, X.s₀.heap.get? b = some o → b ∉ X.ex → b ∉ ch := fun b o e hx hb => by
    rcases (hch b hb).1 with z | z
    · exact hx z
    · exact absurd (Nat.lt_of_lt_of_le (Heap.lt_size e) z) (Nat.lt_irrefl _)
  have cellK : ∀ x c, X.env.cells.lookup x = some c → ∀ v, s.heap.IsCell c v → h'.IsCell c v := fun x c e v ⟨o, ho, hd⟩ => by
    have nch : c ∉ ch := fun z => (hch c z).2.2.1 x c e rfl
    by_cases hc : c ∈ X.fs
    · obtain ⟨sl, q⟩ := slot c o (I.cne x c e) hc nch ho (I.freeC x c e)
      exact ⟨_, q, hd⟩
    · exact ⟨o, keep c o (I.cne x c e) hc nch ho (I.freeC x c e), hd⟩
  refine ⟨I.ok, I.os, hg, ⟨fun b o e n hb hx => ?_, fun b o e n hb hx => ?_, fun b o e n hx => ?_, fun b o e hx => ?_, fun b xs e => tups b xs (I.base.tups b xs e), fun b o xs e => frzs b o xs (I.base.frzs b o xs e), fun b ps e => ?_⟩, ?_, fun x c e => ?_, ?_, fun x c e => ?_, fun p hp => ?_, hok, I.len⟩
  · exact keep b o (neL b o e) hb (neC b o e hx) (I.base.keep b o e n hb hx) (I.base.free b o e n hx)
  · obtain ⟨sl, e1⟩ := I.base.slot b o e n hb hx
    obtain ⟨sl', e2⟩ := slot b _ (neL b o e) hb (neC b o e hx) e1 (I.base.free b o e n hx)
    exact ⟨sl', e2⟩
  · obtain ⟨o', e1⟩ := I.base.there b o e hx
    exact free b o' (neC b o e hx) e1 (I.base.free b o e n hx)
  · obtain ⟨o', e1⟩ := I.base.there b o e hx
    exact there b o' (neC b o e hx) e1
  · obtain ⟨m1, e1⟩ := I.base.tbls b ps e
    obtain ⟨m2, e2⟩ := tbls b _ e1
    exact ⟨m1 ++ m2, by rw [e2, Array.append_assoc]⟩
  · obtain ⟨m, hn, hl⟩ := I.loc
    refine ⟨m, ns m hn, fun i x v e1 e2 e3 => ?_⟩
    obtain ⟨u, r, l⟩ := hl i x v e1 e2 e3
    refine ⟨u, r, ?_⟩
    rcases l with l | ⟨k, c, e, z⟩
    · exact .inl l
    · exact .inr ⟨k, c, e, cellK x c e _ z⟩
  · obtain ⟨v, z⟩ := I.cell x c e
    exact ⟨v, cellK x c e v z⟩
  · obtain ⟨m, ⟨o, _, _, ho, _⟩, _⟩ := I.loc
    exact free _ o (fun z => (hch _ z).2.1 rfl) ho I.free
  · obtain ⟨v, o, ho, hd⟩ := I.cell x c e
    exact free c o (fun z => (hch c z).2.2.1 x c e rfl) ho (I.freeC x c e)
  · obtain ⟨e, n, ne, nf, d⟩ := I.pin p hp
    have nch : p.1 ∉ ch := fun z => (hch p.1 z).2.2.2 p hp rfl
    exact ⟨keep p.1 p.2 ne nf nch e n, free p.1 p.2 nch e n, ne, nf, d⟩
/-- .. where the frame's own object is kept too -/
theorem Inv.un {t' : Nat} (I : Inv X pins σ H s) (u : Un X.fs [] H H' s.heap h') (hok : HOk X.prog X.w H' h') : Inv X pins σ H' { s with heap := h', toks := t' } := by
  obtain ⟨m, ⟨o, es, ep, ho, r⟩, _⟩ := id I.loc
  obtain ⟨sl, hL⟩ := u.any ho I.free (by simp)
  exact I.step (g' := s.gens) (d' := s.drawn) (ch := []) (fun _ z => nomatch z) (fun b o _ hb _ e n => u.keep b o e n hb (by simp)) (fun b o _ hb _ e n => u.slot b o e n hb (by simp)) (fun b o _ e n => u.free b o e n (by simp)) (fun b o _ e => u.there b o e (by simp)) u.tups u.frzs u.tbls (fun m' hm => by
    obtain ⟨o', es', ep', ho', r'⟩ := hm
    rw [ho] at ho'; cases ho'
    exact ⟨_, es', ep', hL, r'⟩) hok I.bare
/-- behind a call (or a comprehension's block): the slots of this frame may have changed too, the records at ch may have turned -/
theorem Inv.call {g' : Array GenState} {t' : Nat} {d' : Drawn} {ch : List Addr} (I : Inv X pins σ H s) (u : Un (frs X.stack) ch H H' s.heap h') (hok : HOk X.prog X.w H' h') (hg : AllBare g')
    (hch : ∀ b ∈ ch, (b ∈ X.ex ∨ X.s₀.heap.objs.size ≤ b) ∧ b ≠ X.env.locals ∧ (∀ x c, X.env.cells.lookup x = some c → c ≠ b) ∧ ∀ p ∈ X.pn ++ pins, p.1 ≠ b) :
    Inv X pins σ H' { s with heap := h', gens := g', drawn := d', toks := t' } := by
  obtain ⟨m, ⟨o, es, ep, ho, r⟩, _⟩ := id I.loc
  obtain ⟨sl, hL⟩ := u.any ho I.free fun z => (hch _ z).2.1 rfl
  exact I.step (ch := ch) hch (fun b o hL hb hc e n => u.keep b o e n (fun z => (List.mem_cons.mp (I.stkSub b z)).elim hL hb) hc) (fun b o _ _ hc e n => u.any e n hc) (fun b o hc e n => u.free b o e n hc) (fun b o hc e => u.there b o e hc) u.tups u.frzs u.tbls (fun m' hm => by
    obtain ⟨o', es', ep', ho', r'⟩ := hm
    rw [ho] at ho'; cases ho'
    exact ⟨_, es', ep', hL, r'⟩) hok hg
/-- an untracked record of ours (an iterator) has turned -/
theorem Inv.turned {t' : Nat} {it : Addr} (I : Inv X pins σ H s) (k : ∀ b o, b ≠ it → s.heap.get? b = some o → h'.get? b = some o) (hn : H it = none) (hL : it ≠ X.env.locals)
    (h1 : it ∈ X.ex ∨ X.s₀.heap.objs.size ≤ it) (h2 : ∀ x c, X.env.cells.lookup x = some c → c ≠ it) (h3 : ∀ p ∈ X.pn ++ pins, p.1 ≠ it) : Inv X pins σ H { s with heap := h', toks := t' } := by
  have nit : ∀ b u, H b = some u → b ≠ it := fun b u e z => by rw [z, hn] at e; cases e
  refine I.step (g' := s.gens) (d' := s.drawn) (ch := [it]) (fun b hb => ?_) (fun b o _ _ hc e _ => k b o (fun z => hc (by simp [z])) e) (fun b o _ _ hc e _ => ⟨o.slots, k b o (fun z => hc (by simp [z])) e⟩) (fun _ _ _ _ n => n)
    (fun b o hc e => ⟨o, k b o (fun z => hc (by simp [z])) e⟩) (fun _ _ e => e) (fun _ _ _ e => e) (fun b ps e => ⟨#[], by rw [e]; simp⟩) (fun m hm => ?_) (fun b u e => ?_) I.bare
  · have e : b = it := by simpa using hb
    subst e
    exact ⟨h1, hL, h2, h3⟩
  · obtain ⟨o, es, ep, ho, r⟩ := hm
    exact ⟨o, es, ep, k _ o (Ne.symm hL) ho, r⟩
  · refine (I.hok b u e).stay (fun c v hc q => k c v ?_ q) (fun _ q => q) fun _ _ q => q
    rcases hc with z | z
    · rw [z]; exact nit b u e
    · exact nit c _ z
theorem Inv.tok (I : Inv X pins σ H s) (t : Nat) : Inv X pins σ H { s with toks := t } := I.un (h' := s.heap) (t' := t) Un.refl I.hok
/-- all objects kept -/
theorem Inv.kept {t' : Nat} (I : Inv X pins σ H s) (k : ∀ b u, s.heap.get? b = some u → h'.get? b = some u) : Inv X pins σ H { s with heap := h', toks := t' } := I.un (Un.kept k) (I.hok.kept k)
/-- a new object laid and tracked -/
theorem Inv.laid {a : Addr} {o : HO} {t' : Nat} (I : Inv X pins σ H s) (k : ∀ b u, s.heap.get? b = some u → h'.get? b = some u) (hp : s.heap.objs.size ≤ a) (new : ObjOk X.prog X.w (upd H a o) h' a o) :
    Inv X pins σ (upd H a o) { s with heap := h', toks := t' } := I.un (Un.laid k hp (I.hok.fresh hp)) (I.hok.laid k hp new)
/-- an object written -/
theorem Inv.write {x e : Addr} {o : HO} {t' : Nat} (I : Inv X pins σ H s) (mu : Mut (H x)) (he : e = x ∨ H e = some (.own x)) (k : ∀ b u, b ≠ e → s.heap.get? b = some u → h'.get? b = some u) (heo : ∃ u, h'.get? e = some u)
    (new : ObjOk X.prog X.w (upd H x o) h' x o) : Inv X pins σ (upd H x o) { s with heap := h', toks := t' } := I.un (Un.write mu he k heo) (I.hok.write mu he k heo new)
theorem Inv.pins_of {pins' : List (Addr × Obj)} (I : Inv X pins σ H s) (h : ∀ p ∈ pins', s.heap.get? p.1 = some p.2 ∧ H p.1 = none ∧ p.1 ≠ X.env.locals ∧ p.1 ∉ X.fs ∧ ∀ v, p.2.data ≠ .cell v) : Inv X pins' σ H s :=
  ⟨I.ok, I.os, I.bare, I.base, I.loc, I.cell, I.free, I.freeC, fun p hp => (List.mem_append.mp hp).elim (fun z => I.pin p (List.mem_append_left _ z)) (h p), I.hok, I.len⟩
theorem nodup_ix {N : List Str} (hN : N.Nodup) {i j : Nat} {x : Str} (a : N[i]? = some x) (b : N[j]? = some x) : i = j := by
  obtain ⟨h1, e1⟩ := List.getElem?_eq_some_iff.mp a
  obtain ⟨h2, e2⟩ := List.getElem?_eq_some_iff.mp b
  exact (List.getElem_inj hN).mp (e1.trans e2.symm)
/-- a name is stored; what changed -/
theorem store_ok2 {M : Model} {A : Around} {E : Value → Shared → Prop} {i : Nat} {x : Str} {v : V} {u : Value} {Q : Unit → Shared → Prop} (I : Inv X pins σ H s) (hN : X.N.Nodup) (hi : X.N[i]? = some x) (hx : Loc X.env.scope x) (r : RelV v u)
    (h : ∀ s', Inv X pins (σ.set i (some v)) H s' → (∃ a, Heap.SameBut a s.heap s'.heap ∧ (a = X.env.locals ∨ X.env.cells.lookup x = some a)) → Q () s') (hf : X.fn x = true ∨ X.env.scope.names.lookup x = some .local := by first | exact .inl rfl | exact .inr rfl | assumption) : wpAny M A (storeName X.env x u) Q E s := by
  obtain ⟨m, hn, hl⟩ := id I.loc
  have hcls : (X.env.scope.kind == .class || (X.env.scope.kind == .module && X.env.locals != X.env.globals)) = false := by rw [I.ok.kind]; rfl
  have hiσ : i < σ.length := by rw [I.len]; exact (List.getElem?_eq_some_iff.mp hi).1
  have cne := I.cne
  have tracked : ∀ {a : Addr} {h' : Heap}, (∃ o, s.heap.get? a = some o ∧ H a = none) → Heap.SameBut a s.heap h' → HOk X.prog X.w H h' := fun {a h'} ha hs b ob e => by
    obtain ⟨_, _, hfree⟩ := ha
    refine (I.hok b ob e).stay (fun c w' hc q => (hs.2 c ?_).trans q) (fun _ q => q) fun _ _ q => q
    rintro rfl
    rcases hc with rfl | hc
    · rw [hfree] at e; cases e
    · rw [hfree] at hc; cases hc
  rcases hx with hk | hk
  · refine wpAny_storeName_local hk hn (fun h' hn' hs => ?_) hcls
    obtain ⟨oL, _, _, hoL, _⟩ := id hn
    refine h _ ⟨I.ok, I.os, I.bare, ⟨fun b o e n hb hx => ?_, fun b o e n hb hx => ?_, I.base.free, fun b o e hx => ?_, I.base.tups, I.base.frzs, I.base.tbls⟩, ⟨_, hn', fun j y v' e1 e2 e3 => ?_⟩, fun y c e => ?_, I.free, I.freeC, fun p hp => ?_, tracked ⟨oL, hoL, I.free⟩ hs, by simpa using I.len⟩ ⟨_, hs, .inl rfl⟩
    · exact (hs.2 b (Nat.ne_of_lt (Nat.lt_of_lt_of_le (Heap.lt_size e) I.ok.above))).trans (I.base.keep b o e n hb hx)
    · obtain ⟨sl, e1⟩ := I.base.slot b o e n hb hx
      exact ⟨sl, (hs.2 b (Nat.ne_of_lt (Nat.lt_of_lt_of_le (Heap.lt_size e) I.ok.above))).trans e1⟩
    · obtain ⟨o', e1⟩ := I.base.there b o e hx
      exact ⟨o', (hs.2 b (Nat.ne_of_lt (Nat.lt_of_lt_of_le (Heap.lt_size e) I.ok.above))).trans e1⟩
    · by_cases hj : j = i
      · subst hj
        rw [hi] at e1; cases e1
        rw [List.getElem?_set_self hiσ] at e2
        cases e2
        exact ⟨u, r, .inl ⟨hk, by simp⟩⟩
      · rw [List.getElem?_set_ne (Ne.symm hj)] at e2
        obtain ⟨u', r', q⟩ := hl j y v' e1 e2 e3
        refine ⟨u', r', ?_⟩
        rcases q with ⟨k, e⟩ | ⟨k, c, e, z⟩
        · refine .inl ⟨k, ?_⟩
          have : y ≠ x := fun e => hj (nodup_ix hN e1 (e ▸ hi))
          simp [this, e]
        · exact .inr ⟨k, c, e, z.sameBut hs (cne y c e)⟩
    · obtain ⟨w', z⟩ := I.cell y c e
      exact ⟨w', z.sameBut hs (cne y c e)⟩
    · obtain ⟨e, n, ne, nf, d⟩ := I.pin p hp
      exact ⟨(hs.2 p.1 ne).trans e, n, ne, nf, d⟩
  · have hfn : X.fn x = true := by
      rcases hf with z | z
      · exact z
      · rw [z] at hk; cases hk
    obtain ⟨c, hc⟩ := I.ok.has x (.inl hk)
    obtain ⟨w', z⟩ := I.cell x c hc
    refine wpAny_storeName_cell I.ok.kind hk hc z (fun h' hc' hs => ?_)
    obtain ⟨oc, hoc, hocd⟩ := id z
    refine h { s with heap := h' } ⟨I.ok, I.os, I.bare, ⟨fun b o e n hb hx => ?_, fun b o e n hb hx => ?_, I.base.free, fun b o e hx => ?_, I.base.tups, I.base.frzs, I.base.tbls⟩, ⟨m, hn.sameBut hs (Ne.symm (cne x c hc)), fun j y v' e1 e2 e3 => ?_⟩, fun y c' e => ?_, I.free, I.freeC, fun p hp => ?_, tracked ⟨oc, hoc, I.freeC x c hc⟩ hs, by simpa using I.len⟩ ⟨c, hs, .inr hc⟩
    · exact (hs.2 b (Nat.ne_of_lt (Nat.lt_of_lt_of_le (Heap.lt_size e) (I.ok.cab x c hfn hc)))).trans (I.base.keep b o e n hb hx)
    · obtain ⟨sl, e1⟩ := I.base.slot b o e n hb hx
      exact ⟨sl, (hs.2 b (Nat.ne_of_lt (Nat.lt_of_lt_of_le (Heap.lt_size e) (I.ok.cab x c hfn hc)))).trans e1⟩
    · obtain ⟨o', e1⟩ := I.base.there b o e hx
      exact ⟨o', (hs.2 b (Nat.ne_of_lt (Nat.lt_of_lt_of_le (Heap.lt_size e) (I.ok.cab x c hfn hc)))).trans e1⟩
    · by_cases hj : j = i
      · subst hj
        rw [hi] at e1; cases e1
        rw [List.getElem?_set_self hiσ] at e2
        cases e2
        exact ⟨u, r, .inr ⟨.inl hk, c, hc, hc'⟩⟩
      · rw [List.getElem?_set_ne (Ne.symm hj)] at e2
        obtain ⟨u', r', q⟩ := hl j y v' e1 e2 e3
        refine ⟨u', r', ?_⟩
        rcases q with q | ⟨k, c', e, z'⟩
        · exact .inl q
        · refine .inr ⟨k, c', e, z'.sameBut hs ?_⟩
          rintro rfl
          exact hj (nodup_ix hN e1 (I.ok.inj _ _ _ e hc ▸ hi))
    · by_cases hcc : c' = c
      · subst hcc; exact ⟨_, hc'⟩
      · obtain ⟨w2, z2⟩ := I.cell y c' e
        exact ⟨w2, z2.sameBut hs hcc⟩
    · obtain ⟨e, n, ne, nf, d⟩ := I.pin p hp
      refine ⟨(hs.2 p.1 ?_).trans e, n, ne, nf, d⟩
      intro q
      rw [q, hoc] at e
      have q' : oc = p.2 := Option.some.inj e
      exact d w' (by rw [← q']; exact hocd)
theorem store_ok {M : Model} {A : Around} {E : Value → Shared → Prop} {i : Nat} {x : Str} {v : V} {u : Value} {Q : Unit → Shared → Prop} (I : Inv X pins σ H s) (hN : X.N.Nodup) (hi : X.N[i]? = some x) (hx : Loc X.env.scope x) (r : RelV v u)
    (h : ∀ s', Inv X pins (σ.set i (some v)) H s' → Q () s') (hf : X.fn x = true ∨ X.env.scope.names.lookup x = some .local := by first | exact .inl rfl | exact .inr rfl | assumption) : wpAny M A (storeName X.env x u) Q E s :=
  store_ok2 I hN hi hx r (fun s' I' _ => h s' I') hf
/-- behind a call or a block, the state as it is -/
theorem Inv.call' {s' : Shared} {ch : List Addr} (I : Inv X pins σ H s) (ho : s'.os = s.os) (u : Un (frs X.stack) ch H H' s.heap s'.heap) (hok : HOk X.prog X.w H' s'.heap) (hg : AllBare s'.gens)
    (hch : ∀ b ∈ ch, (b ∈ X.ex ∨ X.s₀.heap.objs.size ≤ b) ∧ b ≠ X.env.locals ∧ (∀ x c, X.env.cells.lookup x = some c → c ≠ b) ∧ ∀ p ∈ X.pn ++ pins, p.1 ≠ b) : Inv X pins σ H' s' := by
  obtain ⟨h', g', d', t', o'⟩ := s'
  have e : o' = s.os := ho
  subst e
  exact I.call (g' := g') (t' := t') (d' := d') u hok hg hch
end
/-- an exception: its class, its own dict's address (where it has one), the abstract heap behind it -/
abbrev XK := Value → Option Addr → Hp → Prop
abbrev St := List (Option V)
abbrev VK := V → Hp → Prop
/-- an expression's reading; a test's; an argument list's -/
abbrev TE := St → Hp → VK → Prop
abbrev TT := St → Hp → (Bool → Hp → Prop) → Prop
abbrev TA := St → Hp → (List V → Hp → Prop) → Prop
/-- what is wanted behind a statement -/
structure Ends where
  nx : St → Hp → Prop
  rt : VK
  bk : St → Hp → Prop := fun _ _ => False
  ct : St → Hp → Prop := fun _ _ => False
abbrev TS := Ends → St → Hp → Prop
def EP (X : Cx) (pins : List (Addr × Obj)) (σ : St) (Q : VK) (u : Value) (s' : Shared) : Prop := ∃ v H', Inv X pins σ H' s' ∧ RelV v u ∧ Q v H'
def TP (X : Cx) (pins : List (Addr × Obj)) (σ : St) (Q : Bool → Hp → Prop) (b : Bool) (s' : Shared) : Prop := ∃ H', Inv X pins σ H' s' ∧ Q b H'
def AP (X : Cx) (pins : List (Addr × Obj)) (σ : St) (Q : List V → Hp → Prop) (us : List Value) (s' : Shared) : Prop := ∃ vs H', Inv X pins σ H' s' ∧ Vals vs us ∧ Q vs H'
def SP (X : Cx) (pins : List (Addr × Obj)) (D : Ends) (f : Flow) (s' : Shared) : Prop :=
  match f with
  | .next => ∃ σ' H', Inv X pins σ' H' s' ∧ D.nx σ' H'
  | .brk => ∃ σ' H', Inv X pins σ' H' s' ∧ D.bk σ' H'
  | .cont => ∃ σ' H', Inv X pins σ' H' s' ∧ D.ct σ' H'
  | .ret u => ∃ v σ' H', Inv X pins σ' H' s' ∧ RelV v u ∧ D.rt v H'
def PE (X : Cx) (e : Expr) (t : TE) : Prop :=
  ∀ (pins : List (Addr × Obj)) (s : Shared) (σ : St) (H : Hp) (Q : VK), Inv X pins σ H s → t σ H Q → wpAny (model X.prog X.w) X.A (eval e X.env) (EP X pins σ Q) X.xe s
def PT (X : Cx) (e : Expr) (t : TT) : Prop :=
  ∀ (pins : List (Addr × Obj)) (s : Shared) (σ : St) (H : Hp) (Q : Bool → Hp → Prop), Inv X pins σ H s → t σ H Q → wpAny (model X.prog X.w) X.A (isTrue e X.env (eval e X.env)) (TP X pins σ Q) X.xe s
/-- a test whatever its 'whole' is (and, or) -/
def PW (X : Cx) (e : Expr) (t : TT) : Prop :=
  ∀ (whole : Sem Value) (pins : List (Addr × Obj)) (s : Shared) (σ : St) (H : Hp) (Q : Bool → Hp → Prop), Inv X pins σ H s → t σ H Q → wpAny (model X.prog X.w) X.A (isTrue e X.env whole) (TP X pins σ Q) X.xe s
theorem PW.pt {X : Cx} {e : Expr} {t : TT} (h : PW X e t) : PT X e t := h _
/-- an argument list (no star), from the left -/
def PA (X : Cx) (es : List Expr) (t : TA) : Prop :=
  ∀ (pos : Pos) (pins : List (Addr × Obj)) (s : Shared) (σ : St) (H : Hp) (Q : List V → Hp → Prop), Inv X pins σ H s → t σ H Q → wpAny (model X.prog X.w) X.A (spliced (backTo pos (starEach es X.env))) (AP X pins σ Q) X.xe s
def PS (X : Cx) (st : Stmt) (t : TS) : Prop :=
  ∀ (pins : List (Addr × Obj)) (s : Shared) (σ : St) (H : Hp) (D : Ends), Inv X pins σ H s → t D σ H → wpAny (model X.prog X.w) X.A (exec st X.env) (SP X pins D) X.xe s
def PSs (X : Cx) (st : List Stmt) (t : TS) : Prop :=
  ∀ (pins : List (Addr × Obj)) (s : Shared) (σ : St) (H : Hp) (D : Ends), Inv X pins σ H s → t D σ H → wpAny (model X.prog X.w) X.A (execs st X.env) (SP X pins D) X.xe s
/-- weaken the end -/
theorem thn {α : Type} {t : Sem α} {Q Q' : α → Shared → Prop} {M : Model} {A : Around} {E : Value → Shared → Prop} {s : Shared} (h : wpAny M A t Q E s) (hQ : ∀ a s, Q a s → Q' a s) : wpAny M A t Q' E s := wpAny_mono h hQ fun _ _ x => x
end L2
namespace L2
open PySem PySem.Spec PyProof.Rows
section
variable {X : Cx}
def tVar (i : Nat) : TE := fun σ H Q => ∃ v, σ[i]? = some (some v) ∧ Q v H
def tC (v : V) : TE := fun _ H Q => Q v H
theorem pe_var {i : Nat} {x : Str} {pos : Pos} (hN : X.N[i]? = some x) (hv : Vis X.env.scope x) (hd : (x == ("__debug__" : Str)) = false := by decide) (hcd : (x == ("__classdict__" : Str)) = false := by decide) : PE X (.Name x pos) (tVar i) := by
  intro pins s σ H Q I h
  obtain ⟨v, e, h⟩ := h
  obtain ⟨m, hn, hl⟩ := I.loc
  obtain ⟨u, r, l⟩ := hl i x v hN e hv
  have fin : EP X pins σ Q u s := ⟨v, H, I, r, h⟩
  rcases l with ⟨hk, hm⟩ | ⟨hk, c, hc, hcell⟩
  · exact wpAny_Name (wpAny_loadName_local I.ok.kind hk hn hm fin) hd
  · rcases hk with hk | hk
    · exact wpAny_Name (wpAny_loadName_cell I.ok.kind hk hc hcell fin) hd
    · exact wpAny_Name (wpAny_loadName_free I.ok.kind hk hc hcell fin hcd) hd
theorem pe_int {i j pos} : PE X (.Constant (.int i) j pos) (tC (.int i)) := fun _ _ _ H _ I h => wpAny_Constant_int ⟨.int i, H, I.tok _, ⟨_, rfl⟩, h⟩
theorem pe_bl {b j pos} : PE X (.Constant (.bool b) j pos) (tC (.bl b)) := fun _ _ _ H _ I h => Constant_bool ⟨.bl b, H, I, rfl, h⟩
theorem pe_str {x j pos} : PE X (.Constant (.str x) j pos) (tC (.str x)) := fun _ _ _ H _ I h => Calls.Constant_str ⟨.str x, H, I.tok _, ⟨_, rfl⟩, h⟩
/-- a global name of the def -/
def Gl (X : Cx) (x : Str) : Prop := X.env.kindOf x = some .globalImplicit
theorem ld_glob {E : Value → Shared → Prop} {pins : List (Addr × Obj)} {s : Shared} {σ : St} {H : Hp} {x : Str} {u : Value} {pos : Pos} {Q : Value → Shared → Prop} (I : Inv X pins σ H s) (hg : Gl X x) (hm : X.mg x = some u) (h : Q u s)
    (hd : (x == ("__debug__" : Str)) = false := by decide) : wpAny (model X.prog X.w) X.A (eval (.Name x pos) X.env) Q E s :=
  Calls.Name_function_global I.ok.kind hg (Calls.loadGlobal_global (by rw [I.ok.glob]; exact I.mod.glob.keeps I.bk) hm h) hd
theorem ld_blt {E : Value → Shared → Prop} {pins : List (Addr × Obj)} {s : Shared} {σ : St} {H : Hp} {x : Str} {u : Value} {pos : Pos} {Q : Value → Shared → Prop} (I : Inv X pins σ H s) (hg : Gl X x) (hm : X.mg x = none) (hv : bootBuiltins x = some u) (h : Q u s)
    (hn : x ≠ "__name__" := by decide) (hd : (x == ("__debug__" : Str)) = false := by decide) : wpAny (model X.prog X.w) X.A (eval (.Name x pos) X.env) Q E s := by
  obtain ⟨mb, h1, h2⟩ := I.mod.blt
  exact Calls.Name_function_global I.ok.kind hg (Calls.loadGlobal_builtin (by rw [I.ok.glob]; exact I.mod.glob.keeps I.bk) hm (by rw [I.ok.blt]; exact h1.keeps I.bk) ((h2 x hn).trans hv) h) hd
variable {a b : Expr} {ta tb : TE} {pos : Pos}
/-- a comparison as a value, as a test -/
def tB (t : TE) : TT := fun σ H Q => t σ H fun x H1 => ∃ c, x = .bl c ∧ Q c H1
variable {tA tB' : TT} {rest : List Expr}
def tAnd (t u : TT) : TT := fun σ H Q => t σ H fun c H1 => if c = true then u σ H1 Q else Q false H1
def tOr (t u : TT) : TT := fun σ H Q => t σ H fun c H1 => if c = true then Q true H1 else u σ H1 Q
def tNot (t : TT) : TT := fun σ H Q => t σ H fun c H1 => Q (!c) H1
theorem pw_or1 (ha : PT X a tA) : PW X (.BoolOp .Or [a] pos) tA := by
  intro wh pins s σ H Q I h
  refine isTrue_or (thn (ha pins s σ H Q I h) fun c s1 e => ?_)
  cases c with
  | false => exact isTrue_or_nil e
  | true => exact e
theorem pw_or (ha : PT X a tA) (hb : PW X (.BoolOp .Or (b :: rest) pos) tB') : PW X (.BoolOp .Or (a :: b :: rest) pos) (tOr tA tB') := by
  intro wh pins s σ H Q I h
  refine isTrue_or (thn (ha pins s σ H _ I h) fun c s1 ⟨H1, I1, q1⟩ => ?_)
  cases c with
  | true => exact ⟨H1, I1, q1⟩
  | false => exact hb wh pins s1 σ H1 Q I1 q1
/-- .. as values (bools) -/
def tAndV (ta tb : TE) : TE := fun σ H Q => ta σ H fun x H1 => ∃ c, x = .bl c ∧ if c = true then tb σ H1 Q else Q (.bl false) H1
def tOrV (ta tb : TE) : TE := fun σ H Q => ta σ H fun x H1 => ∃ c, x = .bl c ∧ if c = true then Q (.bl true) H1 else tb σ H1 Q
def tNotV (ta : TE) : TE := fun σ H Q => ta σ H fun x H1 => ∃ c, x = .bl c ∧ Q (.bl (!c)) H1
theorem pe_one {op} {t : TE} (h : PE X a t) : PE X (.BoolOp op [a] pos) t := fun pins s σ H Q I hw => BoolOp_one (h pins s σ H Q I hw)
theorem pe_and (ha : PE X a ta) (hb : PE X (.BoolOp .And (b :: rest) pos) tb) : PE X (.BoolOp .And (a :: b :: rest) pos) (tAndV ta tb) := by
  intro pins s σ H Q I h
  refine BoolOp_and (thn (ha pins s σ H _ I h) fun v s1 ⟨x, H1, I1, r1, q1⟩ => ?_)
  obtain ⟨c, rfl, q1⟩ := q1
  cases r1
  refine wpAny_truthy_bool ?_
  cases c with
  | true => exact hb pins s1 σ H1 Q I1 q1
  | false => exact ⟨.bl false, H1, I1, rfl, q1⟩
/-- a if t else b -/
def tIf (t : TT) (ta tb : TE) : TE := fun σ H Q => t σ H fun c H1 => if c = true then ta σ H1 Q else tb σ H1 Q
theorem pe_ifExp {c : Expr} (hc : PT X c tA) (ha : PE X a ta) (hb : PE X b tb) : PE X (.IfExp c a b pos) (tIf tA ta tb) := by
  intro pins s σ H Q I h
  refine wpAny_IfExp (thn (hc pins s σ H _ I h) fun d s1 ⟨H1, I1, q1⟩ => ?_)
  cases d with
  | true => exact ha pins s1 σ H1 Q I1 q1
  | false => exact hb pins s1 σ H1 Q I1 q1
end
end L2
namespace L2
open PySem PySem.Spec PyProof.Rows
def SqL (K : PySem.W.Frag) (H : Hp) (a : Addr) (xs : List V) : Prop :=
  Rd H a (.lst xs) ∨
    ∃ (o : Obj) (its : Array Value) (n : Nat), K.lookup a = some o ∧ o.cls = .type "list" ∧ o.dict = none ∧ o.data = .seq its n ∧ its.size ≤ sizeLine ∧ Vals xs its.toList
def SqT (K : PySem.W.Frag) (H : Hp) (a : Addr) (xs : List V) : Prop :=
  Rd H a (.tup xs) ∨
    ∃ (o : Obj) (its : Array Value) (n : Nat), K.lookup a = some o ∧ o.cls = .type "tuple" ∧ o.data = .seq its n ∧ its.size ≤ sizeLine ∧ Vals xs its.toList
def absV : Value → Option V
  | .none => some .non
  | .bool b => some (.bl b)
  | .int i _ => some (.int i)
  | .str x _ => some (.str x)
  | .bytes b _ => some (.byt b)
  | .float b _ => some (.flt b)
  | .ref a => some (.ref a)
  | .type n => some (.ty n)
  | _ => none
theorem RelV.abs {x : V} {u : Value} (r : RelV x u) : absV u = some x := by
  cases x with
  | non => cases r; rfl
  | bl _ => cases r; rfl
  | int _ => obtain ⟨t, rfl⟩ := r; rfl
  | str _ => obtain ⟨t, rfl⟩ := r; rfl
  | byt _ => obtain ⟨t, rfl⟩ := r; rfl
  | flt _ => obtain ⟨t, rfl⟩ := r; rfl
  | ref _ => cases r; rfl
  | ty _ => cases r; rfl
theorem RelV.inj {x y : V} {u : Value} (r : RelV x u) (q : RelV y u) : x = y := Option.some.inj (r.abs.symm.trans q.abs)
theorem Vals.inj : ∀ {xs ys : List V} {us : List Value}, Vals xs us → Vals ys us → xs = ys
  | _, _, _, .nil, .nil => rfl
  | _, _, _, .cons r t, .cons r' t' => by rw [r.inj r', Vals.inj t t']
section
variable {X : Cx} {pins : List (Addr × Obj)} {σ : St} {H : Hp} {s : Shared} {a : Addr} {xs ys : List V}
theorem SqL.of {K : PySem.W.Frag} (h : H a = some (.lst xs)) : SqL K H a xs := .inl (.inl h)
theorem SqT.of {K : PySem.W.Frag} (h : H a = some (.tup xs)) : SqT K H a xs := .inl (.inl h)
theorem Inv.list (I : Inv X pins σ H s) (h : SqL X.K H a xs) : ∃ its : List Value, Vals xs its ∧ PlainL s.heap a its.toArray ∧ xs.length ≤ sizeLine := by
  rcases h with h | ⟨o, its, n, hk, hc, hd, hs, hz, r⟩
  · obtain ⟨z, its, n, r, e⟩ := h.ok I.hok
    exact ⟨its, r, ⟨_, n, e, rfl, rfl, rfl⟩, z⟩
  · refine ⟨its.toList, r, ⟨o, n, I.kIn a o hk, hc, hd, by simpa using hs⟩, ?_⟩
    have e := r.length
    simp only [Array.length_toList] at e
    omega
theorem Inv.tuple (I : Inv X pins σ H s) (h : SqT X.K H a xs) : ∃ its : List Value, Vals xs its ∧ IsTup s.heap a its.toArray ∧ xs.length ≤ sizeLine := by
  rcases h with h | ⟨o, its, n, hk, hc, hs, hz, r⟩
  · obtain ⟨z, its, r, p⟩ := h.ok I.hok
    exact ⟨its, r, p, z⟩
  · refine ⟨its.toList, r, ⟨o, I.kIn a o hk, hc, n, by simpa using hs⟩, ?_⟩
    have e := r.length
    simp only [Array.length_toList] at e
    omega
theorem Inv.list_inj (I : Inv X pins σ H s) (h : SqL X.K H a xs) (h' : SqL X.K H a ys) : xs = ys := by
  obtain ⟨its, r, ⟨o, n, e, _, _, d⟩, _⟩ := I.list h
  obtain ⟨its', r', ⟨o', n', e', _, _, d'⟩, _⟩ := I.list h'
  rw [e] at e'; cases e'
  rw [d] at d'
  injection d' with d1 _
  have : its = its' := by simpa using congrArg Array.toList d1
  subst this
  exact r.inj r'
theorem Inv.tuple_inj (I : Inv X pins σ H s) (h : SqT X.K H a xs) (h' : SqT X.K H a ys) : xs = ys := by
  obtain ⟨its, r, ⟨o, e, _, n, d⟩, _⟩ := I.tuple h
  obtain ⟨its', r', ⟨o', e', _, n', d'⟩, _⟩ := I.tuple h'
  rw [e] at e'; cases e'
  rw [d] at d'
  injection d' with d1 _
  have : its = its' := by simpa using congrArg Array.toList d1
  subst this
  exact r.inj r'
end
abbrev Cx.wish (X : Cx) (E : Value → Shared → Prop) : Cx := { X with xe := E }
/-- no exception leaves -/
abbrev Cx.nox (X : Cx) : Cx := X.wish fun _ _ => False
theorem Cx.Ok.wish {X : Cx} (ok : X.Ok) (E : Value → Shared → Prop) : (X.wish E).Ok :=
  ⟨ok.mod, ok.kind, ok.glob, ok.blt, ok.above, ok.inj, ok.has, ok.cab, ok.hd, ok.frames, ok.stk, ok.exf, ok.bs, ok.bsz, ok.noex, ok.exfs, ok.funs, ok.frf⟩
theorem Cx.Ok.unwish {X : Cx} {E : Value → Shared → Prop} (ok : (X.wish E).Ok) : X.Ok :=
  ⟨ok.mod, ok.kind, ok.glob, ok.blt, ok.above, ok.inj, ok.has, ok.cab, ok.hd, ok.frames, ok.stk, ok.exf, ok.bs, ok.bsz, ok.noex, ok.exfs, ok.funs, ok.frf⟩
section
variable {X : Cx} {pins : List (Addr × Obj)} {σ : St} {H : Hp} {s : Shared} {E : Value → Shared → Prop}
theorem Inv.wish (I : Inv X pins σ H s) (E : Value → Shared → Prop) : Inv (X.wish E) pins σ H s := ⟨I.ok.wish E, I.os, I.bare, I.base, I.loc, I.cell, I.free, I.freeC, I.pin, I.hok, I.len⟩
theorem Inv.unwish (I : Inv (X.wish E) pins σ H s) : Inv X pins σ H s := ⟨I.ok.unwish, I.os, I.bare, I.base, I.loc, I.cell, I.free, I.freeC, I.pin, I.hok, I.len⟩
theorem SP.unwish {D : Ends} {f : Flow} {s' : Shared} (h : SP (X.wish E) pins D f s') : SP X pins D f s' := by
  cases f with
  | next => obtain ⟨σ', H', I, q⟩ := h; exact ⟨σ', H', I.unwish, q⟩
  | brk => obtain ⟨σ', H', I, q⟩ := h; exact ⟨σ', H', I.unwish, q⟩
  | cont => obtain ⟨σ', H', I, q⟩ := h; exact ⟨σ', H', I.unwish, q⟩
  | ret u => obtain ⟨v, σ', H', I, r, q⟩ := h; exact ⟨v, σ', H', I.unwish, r, q⟩
theorem PE.nox {e : Expr} {t : TE} (h : PE X.nox e t) : PE X e t := fun pins s σ H Q I hw =>
  wpAny_mono (h pins s σ H Q (I.wish _) hw) (fun _ _ ⟨v, H', I', r, q⟩ => ⟨v, H', I'.unwish, r, q⟩) fun _ _ z => False.elim z
theorem PT.nox {e : Expr} {t : TT} (h : PT X.nox e t) : PT X e t := fun pins s σ H Q I hw =>
  wpAny_mono (h pins s σ H Q (I.wish _) hw) (fun _ _ ⟨H', I', q⟩ => ⟨H', I'.unwish, q⟩) fun _ _ z => False.elim z
theorem PSs.nox {st : List Stmt} {t : TS} (h : PSs X.nox st t) : PSs X st t := fun pins s σ H D I hw =>
  wpAny_mono (h pins s σ H D (I.wish _) hw) (fun _ _ q => q.unwish) fun _ _ z => False.elim z
end
section
variable {X : Cx} {st : Stmt} {rest : List Stmt} {t u : TS} {e : Expr} {te : TE} {pos : Pos}
def tNext : TS := fun D σ H => D.nx σ H
def tSeq (t u : TS) : TS := fun D σ H => t { D with nx := u D } σ H
theorem pss_nil : PSs X [] tNext := fun _ _ σ H _ I h => wpAny_execs_nil ⟨σ, H, I, h⟩
theorem pss_cons (h1 : PS X st t) (h2 : PSs X rest u) : PSs X (st :: rest) (tSeq t u) := by
  intro pins s σ H D I h
  refine wpAny_execs_cons (thn (h1 pins s σ H { D with nx := u D } I h) fun f s1 q => ?_)
  cases f with
  | next =>
    obtain ⟨σ', H', I', q⟩ := q
    exact h2 pins s1 σ' H' D I' q
  | ret v => exact q
  | brk => exact q
  | cont => exact q
theorem pss_one (h1 : PS X st t) : PSs X [st] t := by
  intro pins s σ H D I h
  refine wpAny_execs_cons (thn (h1 pins s σ H D I h) fun f s1 q => ?_)
  cases f with
  | next => exact wpAny_execs_nil q
  | ret v => exact q
  | brk => exact q
  | cont => exact q
/-- in a def's body nothing is shown -/
theorem Inv.quiet {pins : List (Addr × Obj)} {σ : St} {H : Hp} {s : Shared} (I : Inv X pins σ H s) : interactive X.env = false := by simp [interactive, I.ok.kind]
/-- an expression whose value is dropped -/
def tDrop (te : TE) : TS := fun D σ H => te σ H fun _ H1 => D.nx σ H1
theorem ps_expr (he : PE X e te) (hs : swapsWith e none pos.line X.env = pure false := by rfl) : PS X (.Expr e pos) (tDrop te) := by
  intro pins s σ H D I h
  exact wpAny_Expr_any (thn (he pins s σ H _ I h) fun v s1 ⟨x, H1, I1, r1, q1⟩ => ⟨σ, H1, I1, q1⟩) I.quiet hs
def tRet (te : TE) : TS := fun D σ H => te σ H D.rt
theorem ps_ret (he : PE X e te) : PS X (.Return (some e) pos) (tRet te) := by
  intro pins s σ H D I h
  exact wpAny_Return_some (thn (he pins s σ H _ I h) fun v s1 ⟨x, H1, I1, r1, q1⟩ => ⟨x, σ, H1, I1, r1, q1⟩)
def tIfS (c : TT) (t u : TS) : TS := fun D σ H => c σ H fun b H1 => if b = true then t D σ H1 else u D σ H1
theorem ps_if {c : Expr} {a b : List Stmt} {tc : TT} (hc : PT X c tc) (ha : PSs X a t) (hb : PSs X b u) : PS X (.If c a b pos) (tIfS tc t u) := by
  intro pins s σ H D I h
  refine wpAny_If (thn (hc pins s σ H _ I h) fun d s1 ⟨H1, I1, q1⟩ => ?_)
  cases d with
  | true => exact ha pins s1 σ H1 D I1 q1
  | false => exact hb pins s1 σ H1 D I1 q1
end
abbrev TG := V → St → Hp → (St → Hp → Prop) → Prop
abbrev TGs := List V → St → Hp → (St → Hp → Prop) → Prop
def PG (X : Cx) (target : Expr) (t : TG) : Prop :=
  ∀ (pins : List (Addr × Obj)) (s : Shared) (σ : St) (H : Hp) (v : V) (u : Value) (Q : St → Hp → Prop), Inv X pins σ H s → RelV v u → t v σ H Q →
    wpAny (model X.prog X.w) X.A (assign target X.env u) (fun _ s' => ∃ σ' H', Inv X pins σ' H' s' ∧ Q σ' H') X.xe s
/-- several targets, one after another -/
def PGs (X : Cx) (ts : List Expr) (t : TGs) : Prop :=
  ∀ (pins : List (Addr × Obj)) (s : Shared) (σ : St) (H : Hp) (vs : List V) (us : List Value) (Q : St → Hp → Prop), Inv X pins σ H s → Vals vs us → t vs σ H Q →
    wpAny (model X.prog X.w) X.A (assignInOrder ((assignEach ts X.env).map (·.2)) us) (fun _ s' => ∃ σ' H', Inv X pins σ' H' s' ∧ Q σ' H') X.xe s
/-- o[i] = v, by values -/
abbrev TSet := V → V → V → Hp → (Hp → Prop) → Prop
section
variable {X : Cx} {pos : Pos}
def gName (i : Nat) : TG := fun v σ H Q => Q (σ.set i (some v)) H
theorem pg_name {i : Nat} {x : Str} (hN : X.N.Nodup) (hi : X.N[i]? = some x) (hx : Loc X.env.scope x) (hf : X.fn x = true ∨ X.env.scope.names.lookup x = some .local := by first | exact .inl rfl | exact .inr rfl | assumption) : PG X (.Name x pos) (gName i) := by
  intro pins s σ H v u Q I r h
  exact wpAny_assign_Name (store_ok I hN hi hx r (fun s' I' => ⟨_, H, I', h⟩) hf)
def gNil : TGs := fun vs σ H Q => vs = [] ∧ Q σ H
def gCons (t : TG) (u : TGs) : TGs := fun vs σ H Q => ∃ v r, vs = v :: r ∧ t v σ H fun σ' H' => u r σ' H' Q
theorem pgs_nil : PGs X [] gNil := by
  intro pins s σ H vs us Q I r h
  obtain ⟨e, h⟩ := h
  subst e
  cases r
  exact assignInOrder_nil ⟨σ, H, I, h⟩
theorem pgs_cons {e : Expr} {es : List Expr} {t : TG} {u : TGs} (h1 : PG X e t) (h2 : PGs X es u)
    (hs : (assignEach (e :: es) X.env).map (·.2) = assign e X.env :: (assignEach es X.env).map (·.2) := by rfl) : PGs X (e :: es) (gCons t u) := by
  intro pins s σ H vs us Q I r h
  obtain ⟨v, vr, e1, h⟩ := h
  subst e1
  cases r with
  | cons r rr =>
    rw [hs]
    refine assignInOrder_cons (thn (h1 pins s σ H _ _ _ I r h) fun _ s1 ⟨σ1, H1, I1, q1⟩ => ?_)
    exact h2 pins s1 σ1 H1 _ _ Q I1 rr q1
/-- (a, b, ..) = a tuple of that length -/
def gTup (K : PySem.W.Frag) (n : Nat) (t : TGs) : TG := fun v σ H Q => ∃ a xs, v = .ref a ∧ SqT K H a xs ∧ xs.length = n ∧ t xs σ H Q
theorem pg_tup {es : List Expr} {k : Nat} {t : TGs} {n : Nat} (hc : X.calm = true) (h : PGs X es t)
    (hn : (assignEach es X.env).length = n := by rfl) (hst : (assignEach es X.env).findIdx? (·.1) = none := by rfl) : PG X (.Tuple es k pos) (gTup X.K n t) := by
  intro pins s σ H v u Q I r hw
  obtain ⟨a, xs, e1, hq, hl, hw⟩ := hw
  subst e1
  cases r
  obtain ⟨its, rv, ht, hz⟩ := I.tuple hq
  refine assign_Tuple_tuple (I.ok.hd hc) ht (by simp [hn, ← hl, rv.length]) hst fun h' hx => ?_
  have I1 : Inv X pins σ H { s with heap := h' } := I.kept (t' := s.toks) fun b o e => hx b o (Nat.ne_of_lt (Heap.lt_size e)) e
  exact h pins _ σ H xs _ Q I1 (by simpa using rv) hw
/-- o[i] = .. -/
def gSub (to ti : TE) (t : TSet) : TG := fun v σ H Q => to σ H fun o H1 => ti σ H1 fun i H2 => t o i v H2 fun H3 => Q σ H3
/-- target = value -/
def tAsg (te : TE) (g : TG) : TS := fun D σ H => te σ H fun x H1 => g x σ H1 D.nx
/-- name = value -/
theorem ps_set {i : Nat} {x : Str} {e : Expr} {te : TE} {pos' : Pos} (hN : X.N.Nodup) (hi : X.N[i]? = some x) (hx : Loc X.env.scope x) (he : PE X e te) (hs : swapsWith e (some (.Name x pos')) pos.line X.env = pure false := by rfl) (hf : X.fn x = true ∨ X.env.scope.names.lookup x = some .local := by first | exact .inl rfl | exact .inr rfl | assumption) :
    PS X (.Assign [.Name x pos'] e pos) (tAsg te (gName i)) := by
  intro pins s σ H D I h
  refine wpAny_Assign_Name (thn (he pins s σ H _ I h) fun v s1 ⟨y, H1, I1, r1, q1⟩ => ?_) hs
  exact store_ok I1 hN hi hx r1 (fun s2 I2 => ⟨_, H1, I2, q1⟩) hf
end
section
variable {X : Cx} {pos : Pos}
end
/-- at turn i: it yields x (the heap may grow), or it stops -/
structure It where
  go : Nat → Hp → Prop
  yld : Nat → Hp → V → Hp → Prop
  stop : Nat → Hp → Prop
/-- the iterator's own objects may turn: they are not the frame's, not pinned, younger than the entry (or a comprehension's own) -/
def FpOk (X : Cx) (pins : List (Addr × Obj)) (H : Hp) (b : Addr) : Prop :=
  H b = none ∧ b ≠ X.env.locals ∧ b ∉ X.fs ∧ (b ∈ X.ex ∨ X.s₀.heap.objs.size ≤ b) ∧ (∀ x c, X.env.cells.lookup x = some c → c ≠ b) ∧ ∀ p ∈ X.pn ++ pins, p.1 ≠ b
theorem Inv.fpOk {X : Cx} {pins : List (Addr × Obj)} {σ : St} {H H' : Hp} {s : Shared} {b : Addr} (I : Inv X pins σ H s) (hb : s.heap.objs.size ≤ b) (hn : H' b = none) : FpOk X pins H' b := by
  refine ⟨hn, Nat.ne_of_gt (Nat.lt_of_lt_of_le I.lt hb), I.nofs hb, .inr (Nat.le_trans I.sz hb), fun x c e z => ?_, fun p hp z => ?_⟩
  · obtain ⟨v, q⟩ := I.cell x c e
    exact absurd (Nat.lt_of_lt_of_le q.lt (by rw [z]; exact hb)) (Nat.lt_irrefl _)
  · exact absurd (Nat.lt_of_lt_of_le (Heap.lt_size (I.pin p hp).1) (by rw [z]; exact hb)) (Nat.lt_irrefl _)
structure Turn (P : Program) (w : World) (K : PySem.W.Frag) (tg : Expr) (J : It) (fp : List Addr) (it : Addr) (tn : Nat → Heap → Prop) : Prop where
  mem : it ∈ fp
  obj : ∀ i h, tn i h → ∀ b ∈ fp, ∃ o, h.get? b = some o ∧ ∀ v, o.data ≠ .cell v
  keep : ∀ i h h', tn i h → (∀ b ∈ fp, ∀ o, h.get? b = some o → h'.get? b = some o) → tn i h'
  item : ∀ (X : Cx), X.prog = P → X.w = w → X.K = K → X.calm = true → ∀ (i : Nat) (pins : List (Addr × Obj)) (s : Shared) (σ : St) (H : Hp) (E : Value → Shared → Prop), Inv X pins σ H s → (∀ b ∈ fp, FpOk X pins H b) → tn i s.heap → J.go i H →
    wpAny (model P w) X.A (pyNext (.ref it)) (fun r s1 => ∃ u, r = some u ∧
      wpAny (model P w) X.A (letOwnedTupleGo tg (.ref it) u) (fun _ s2 => ∃ x H', Inv X pins σ H' s2 ∧ RelV x u ∧ J.yld i H x H' ∧ tn (i + 1) s2.heap ∧ ∀ b ∈ fp, H' b = none) E s1) E s
  done : ∀ (X : Cx), X.prog = P → X.w = w → X.K = K → X.calm = true → ∀ (i : Nat) (pins : List (Addr × Obj)) (s : Shared) (σ : St) (H : Hp) (E : Value → Shared → Prop), Inv X pins σ H s → (∀ b ∈ fp, FpOk X pins H b) → tn i s.heap → J.stop i H →
    wpAny (model P w) X.A (pyNext (.ref it)) (fun r s1 => r = none ∧ Inv X pins σ H s1) E s
  self : ∀ (A : Around) (i : Nat) (s : Shared) (Q : Value → Shared → Prop) (E : Value → Shared → Prop), tn i s.heap → Q (.ref it) s → wpAny (model P w) A (pyIter (.ref it)) Q E s
abbrev TI := St → Hp → (It → Hp → Prop) → Prop
/-- an iterator has come -/
def PIE (X : Cx) (pins : List (Addr × Obj)) (σ : St) (tg : Expr) (R : It → Hp → Prop) (itv : Value) (s2 : Shared) : Prop :=
  ∃ (it : Addr) (fp : List Addr) (tn : Nat → Heap → Prop) (J : It) (H' : Hp), itv = .ref it ∧ Inv X pins σ H' s2 ∧ Turn X.prog X.w X.K tg J fp it tn ∧ tn 0 s2.heap ∧ (∀ b ∈ fp, FpOk X pins H' b) ∧ R J H'
def PI (X : Cx) (tg iter : Expr) (wi : TI) : Prop :=
  ∀ (pins : List (Addr × Obj)) (s : Shared) (σ : St) (H : Hp) (R : It → Hp → Prop), Inv X pins σ H s → wi σ H R →
    wpAny (model X.prog X.w) X.A (eval iter X.env) (fun v s1 => wpAny (model X.prog X.w) X.A (pyIter v) (PIE X pins σ tg R) X.xe s1) X.xe s
/-- the step ahead of the store is nothing for an iterator that keeps no tuple -/
theorem go_of {M : Model} {A : Around} {E : Value → Shared → Prop} {s : Shared} {tg : Expr} {it : Addr} {u : Value} {o : Obj} {n : String} {vs : Array Value} {Q : Unit → Shared → Prop} (ho : s.heap.get? it = some o) (hc : o.cls = .type n) (hd : o.data = .fields vs)
    (hn : ["enumerate", "zip", "dict_itemiterator", "dict_reverseitemiterator", "odict_iterator", "itertools.zip_longest", "itertools.pairwise"].contains n = false) (hQ : Q () s) : wpAny M A (letOwnedTupleGo tg (.ref it) u) Q E s := by
  unfold letOwnedTupleGo
  cases tg <;> first
    | exact wpAny_pure hQ
    | (cases u <;> first
        | exact wpAny_pure hQ
        | (refine wpAny_bind (wpAny_load ho ?_)
           rw [hc, hd]
           show wpAny M A (if (["enumerate", "zip", "dict_itemiterator", "dict_reverseitemiterator", "odict_iterator", "itertools.zip_longest", "itertools.pairwise"].contains n && vs[0]? == some (rawInt _)) = true then _ else _) Q E s
           rw [if_neg (by intro h; rw [hn, Bool.false_and] at h; cases h)]
           exact wpAny_pure hQ))
/-- the list at a, as it stands at each turn (a loop may append to it) -/
def Itl (K : PySem.W.Frag) (a : Addr) : It :=
  ⟨fun i H => ∃ xs x, SqL K H a xs ∧ xs[i]? = some x, fun i H x H' => H' = H ∧ ∀ xs, SqL K H a xs → xs[i]? = some x, fun i H => ∃ xs, SqL K H a xs ∧ xs.length ≤ i⟩
/-- lo, lo + 1, .. (n of them) -/
def Itr (lo : Int) (n : Nat) : It := ⟨fun i _ => i < n, fun i H x H' => H' = H ∧ x = .int (lo + i), fun i _ => n ≤ i⟩
theorem turn_list {P : Program} {w : World} {K : PySem.W.Frag} {tg : Expr} (a it : Addr) : Turn P w K tg (Itl K a) [it] it (fun i h => h.IsListIter it a i) where
  mem := by simp
  obj := fun i h st b hb => by
    have e : b = it := by simpa using hb
    subst e
    obtain ⟨o, e, c, d⟩ := st
    exact ⟨o, e, fun v z => by rw [d] at z; cases z⟩
  keep := fun i h h' st k => st.at fun o e => k it (by simp) o e
  item := by
    intro X hP hw hK hc i pins s σ H E I hf st hg
    subst hP hw hK
    obtain ⟨xs, x, hq, hx⟩ := hg
    obtain ⟨its, rv, p, hz⟩ := I.list hq
    obtain ⟨u, hu, ru⟩ := rv.get hx
    obtain ⟨f0, f1, f2, f3, f4, f5⟩ := hf it (by simp)
    refine wpAny_pyNext_list_item st p.isList (x := u) (by simpa using hu) fun h' st' sb => ?_
    have I1 : Inv X pins σ H { s with heap := h' } := I.turned (t' := s.toks) (fun b o hb e => (sb.2 b hb).trans e) f0 f1 f3 f4 f5
    obtain ⟨o, e, c, d⟩ := id st'
    exact ⟨u, rfl, go_of (s := { s with heap := h' }) e c d (by decide) ⟨x, H, I1, ru, ⟨rfl, fun ys hy => by rw [I.list_inj hy hq]; exact hx⟩, st', fun b hb => (hf b hb).1⟩⟩
  done := by
    intro X hP hw hK hc i pins s σ H E I hf st hg
    subst hP hw hK
    obtain ⟨xs, hq, hx⟩ := hg
    obtain ⟨its, rv, p, hz⟩ := I.list hq
    obtain ⟨f0, f1, f2, f3, f4, f5⟩ := hf it (by simp)
    have hl := rv.length
    exact wpAny_pyNext_list_end (I.ok.hd hc) st p.isList (by simp; omega) fun h' eb => ⟨rfl, I.turned (t' := s.toks) (fun b o hb e => eb b o hb e) f0 f1 f3 f4 f5⟩
  self := fun _ _ _ _ _ st h => wpAny_pyIter_listiter st h
theorem turn_range {P : Program} {w : World} {K : PySem.W.Frag} {tg : Expr} (it : Addr) (lo : Int) (n : Nat) : Turn P w K tg (Itr lo n) [it] it (fun i h => IsRangeIter h it (lo + (i : Nat) * 1) ((n : Int) - (i : Nat)) 1) where
  mem := by simp
  obj := fun i h st b hb => by
    have e : b = it := by simpa using hb
    subst e
    exact ⟨_, st, fun v z => by
      have z' : Data.fields _ = Data.cell v := z
      cases z'⟩
  keep := fun i h h' st k => k it (by simp) _ st
  item := by
    intro X hP hw hK hc i pins s σ H E I hf st hg
    subst hP hw hK
    obtain ⟨f0, f1, f2, f3, f4, f5⟩ := hf it (by simp)
    have W := Walks.range (prog := X.prog) (w := X.w) (I.ok.hd hc) it lo 1 n
    refine W.item i s _ _ hg st fun v h' tk hv st' kk => ?_
    obtain ⟨t, rfl⟩ := hv
    have I1 : Inv X pins σ H { s with heap := h', toks := tk } := I.turned (fun b o hb e => kk b o (by simpa using hb) e) f0 f1 f3 f4 f5
    refine ⟨_, rfl, go_of (s := { s with heap := h', toks := tk }) (n := "range_iterator") st' rfl rfl (by decide) ⟨.int (lo + i), H, I1, ⟨t, ?_⟩, ⟨rfl, rfl⟩, st', fun b hb => (hf b hb).1⟩⟩
    rw [Int.mul_one]
  done := by
    intro X hP hw hK hc i pins s σ H E I hf st hg
    subst hP hw hK
    obtain ⟨f0, f1, f2, f3, f4, f5⟩ := hf it (by simp)
    exact wpAny_pyNext_range_end (I.ok.hd hc) st (by have : n ≤ i := hg; omega) fun h' eb => ⟨rfl, I.turned (t' := s.toks) (fun b o hb e => eb b o hb e) f0 f1 f3 f4 f5⟩
  self := fun _ _ _ _ _ st h => wpAny_pyIter_rangeiter st h
end L2
namespace L2
open PySem PySem.Spec PyProof.Rows
section
variable {X : Cx} {tg : Expr}
def iList (K : PySem.W.Frag) (tl : TE) : TI := fun σ H R => tl σ H fun x H1 => ∃ a, x = .ref a ∧ (∃ xs, SqL K H1 a xs) ∧ R (Itl K a) H1
theorem pi_list {l : Expr} {tl : TE} (hl : PE X l tl) : PI X tg l (iList X.K tl) := by
  intro pins s σ H R I h
  refine thn (hl pins s σ H _ I h) fun v s1 ⟨x, H1, I1, r1, q1⟩ => ?_
  obtain ⟨a, e, ⟨xs, hq⟩, q⟩ := q1
  subst e
  cases r1
  obtain ⟨its, rv, p, hz⟩ := I1.list hq
  refine wpAny_pyIter_list p.isList ?_
  refine ⟨s1.heap.objs.size, [s1.heap.objs.size], _, _, H1, rfl, I1.kept (t' := s1.toks) fun b o e => Heap.get?_push_of_some _ e, turn_list a _, ⟨_, Heap.get?_push_size _ rfl, rfl, rfl⟩, fun b hb => ?_, q⟩
  have e : b = s1.heap.objs.size := by simpa using hb
  subst e
  exact I1.fpOk (Nat.le_refl _) (I1.hok.fresh (Nat.le_refl _))
/-- a range object just made, walked -/
theorem range_it {pins : List (Addr × Obj)} {σ : St} {H : Hp} {s : Shared} {R : It → Hp → Prop} {E : Value → Shared → Prop} {lo hi : Int} {t u v : Tok} {tk : Nat} (I : Inv X pins σ H s) (h1 : -(2 ^ 62) ≤ lo) (h2 : lo < 2 ^ 62) (h3 : -(2 ^ 62) ≤ hi) (h4 : hi < 2 ^ 62)
    (q : R (Itr lo (hi - lo).toNat) H) : wpAny (model X.prog X.w) X.A (pyIter (.ref s.heap.objs.size)) (PIE X pins σ tg R) E { s with heap := s.heap.push { cls := .type "range", data := .fields #[.int lo t, .int hi u, .int 1 v] }, toks := tk } := by
  refine wpAny_pyIter_range (IsRange.new ..) (small_one h1 h2 h3 h4) ?_
  have I1 : Inv X pins σ H { s with heap := s.heap.push { cls := .type "range", data := .fields #[.int lo t, .int hi u, .int 1 v] }, toks := tk } := I.kept fun b o e => Heap.get?_push_of_some _ e
  refine ⟨(s.heap.push { cls := .type "range", data := .fields #[.int lo t, .int hi u, .int 1 v] }).objs.size, [(s.heap.push { cls := .type "range", data := .fields #[.int lo t, .int hi u, .int 1 v] }).objs.size], _, _, H, rfl,
    I1.kept (t' := tk) fun b o e => Heap.get?_push_of_some _ e, turn_range _ lo (hi - lo).toNat, ?_, fun b hb => ?_, q⟩
  · have e1 : lo + ((0 : Nat) : Int) * 1 = lo := by simp
    have e2 : (((hi - lo).toNat : Nat) : Int) - ((0 : Nat) : Int) = Builtin.Range.rangeSize lo hi 1 := by rw [rangeSize_one]; split <;> omega
    show IsRangeIter _ _ (lo + ((0 : Nat) : Int) * 1) ((((hi - lo).toNat : Nat) : Int) - ((0 : Nat) : Int)) 1
    rw [e1, e2]
    exact Heap.get?_push_size _ rfl
  · have e : b = (s.heap.push { cls := .type "range", data := .fields #[.int lo t, .int hi u, .int 1 v] }).objs.size := by simpa using hb
    subst e
    exact I1.fpOk (Nat.le_refl _) (I1.hok.fresh (Nat.le_refl _))
def iRng1 (ta : TA) : TI := fun σ H R => ta σ H fun vs H1 => ∃ j : Int, vs = [.int j] ∧ -(2 ^ 62) ≤ j ∧ j < 2 ^ 62 ∧ R (Itr 0 j.toNat) H1
theorem pi_range1 {a : Expr} {ta : TA} {p pos : Pos} (hg : Gl X "range") (hm : X.mg "range" = none) (ha : PA X [a] ta) (hs : starEach [a] X.env = [(false, eval a X.env)] := by rfl) : PI X tg (.Call (.Name "range" p) [a] [] pos) (iRng1 ta) := by
  intro pins s σ H R I h
  refine Call_ (ld_blt I hg hm boot_range (PyProof.Rows.callWith_type1 (thn (ha pos pins s σ H _ I h) fun us s1 ⟨vs, H1, I1, r1, q1⟩ => ?_) hs rfl))
  obtain ⟨j, e, q1, q2, q⟩ := q1
  subst e
  cases r1 with
  | cons r rr =>
    cases rr
    obtain ⟨t, rfl⟩ := r
    exact call_range_1 (range_it I1 (by omega) (by omega) q1 q2 (by simpa using q))
/-- W: the invariant by the turn and a measure; N: what the body is to reach -/
def tFor (wi : TI) (g : TG) (tb : TS) : TS := fun D σ H => wi σ H fun J H1 => ∃ W : Nat → Nat → St → Hp → Prop, (∃ m, W 0 m σ H1) ∧ ∀ i m σ H, W i m σ H →
  (J.stop i H ∧ D.nx σ H) ∨ (J.go i H ∧ ∃ N : St → Hp → Prop, (∀ σ' H', N σ' H' → ∃ m', m' < m ∧ W (i + 1) m' σ' H') ∧ ∀ x H', J.yld i H x H' → g x σ H' fun σ2 H2 => tb { D with nx := N, ct := N, bk := D.nx } σ2 H2)
/-- the records at fp as they stand -/
def pinsAt (fp : List Addr) (h : Heap) : List (Addr × Obj) := fp.filterMap fun b => (h.get? b).map fun o => (b, o)
theorem mem_pinsAt {fp : List Addr} {h : Heap} {b : Addr} {o : Obj} (hb : b ∈ fp) (e : h.get? b = some o) : (b, o) ∈ pinsAt fp h := List.mem_filterMap.mpr ⟨b, hb, by rw [e]; rfl⟩
theorem of_pinsAt {fp : List Addr} {h : Heap} {p : Addr × Obj} (hp : p ∈ pinsAt fp h) : p.1 ∈ fp ∧ h.get? p.1 = some p.2 := by
  obtain ⟨b, hb, e⟩ := List.mem_filterMap.mp hp
  cases q : h.get? b with
  | none => rw [q] at e; cases e
  | some o =>
    rw [q] at e
    have e' : (b, o) = p := Option.some.inj e
    subst e'
    exact ⟨hb, q⟩
theorem Inv.pinned {pins : List (Addr × Obj)} {σ : St} {H : Hp} {s : Shared} {fp : List Addr} (I : Inv X pins σ H s) (hf : ∀ b ∈ fp, FpOk X pins H b) (ho : ∀ b ∈ fp, ∃ o, s.heap.get? b = some o ∧ ∀ v, o.data ≠ .cell v) : Inv X (pins ++ pinsAt fp s.heap) σ H s :=
  I.pins_of fun p hp => (List.mem_append.mp hp).elim (fun z => I.pin p (List.mem_append_right _ z)) fun z => by
    obtain ⟨hb, e⟩ := of_pinsAt z
    obtain ⟨f0, f1, f2, _⟩ := hf p.1 hb
    obtain ⟨o, e', d⟩ := ho p.1 hb
    rw [e] at e'; cases e'
    exact ⟨e, f0, f1, f2, d⟩
theorem Inv.unpinned {pins pl : List (Addr × Obj)} {σ : St} {H : Hp} {s : Shared} (I : Inv X (pins ++ pl) σ H s) : Inv X pins σ H s := I.pins_of fun p hp => I.pin p (List.mem_append_right _ (List.mem_append_left _ hp))
theorem ps_for {iter : Expr} {body : List Stmt} {wi : TI} {g : TG} {tb : TS} {pos : Pos} (hp : PassesOwn (model X.prog X.w) X.A X.env X.xe) (hc : X.calm = true) (hi : PI X tg iter wi) (hg : PG X tg g) (hb : PSs X body tb)
    (hs : ∀ x, foldedSetIterable iter X.env x = pure x := by intro _; rfl) : PS X (.For tg iter body [] pos) (tFor wi g tb) := by
  intro pins s σ H D I h
  refine wpAny_For (thn (hi pins s σ H _ I h) fun v s1 h1 => thn h1 fun itv s2 h2 => ?_) hs
  obtain ⟨it, fp, tn, J, H2, e, I2, T, st2, f2, W, ⟨m0, w0⟩, turn⟩ := h2
  subst e
  -- what stays true of the iterator's objects through the loop
  have stat : ∀ {H' : Hp}, (∀ b ∈ fp, H' b = none) → ∀ b ∈ fp, FpOk X pins H' b := fun hn b hb => ⟨hn b hb, (f2 b hb).2⟩
  refine codeAny_forLoop_any (fun n s' => ∃ i σ' H', Inv X pins σ' H' s' ∧ tn i s'.heap ∧ (∀ b ∈ fp, H' b = none) ∧ W i n σ' H') ?_ m0 ⟨0, σ, H2, I2, st2, fun b hb => (f2 b hb).1, w0⟩
  rintro n s3 ⟨i, σ3, H3, I3, st3, fr3, w3⟩
  rcases turn i n σ3 H3 w3 with ⟨stop, qn⟩ | ⟨go, N, hN, step⟩
  · refine wpAny_passesOwn hp (thn (T.done X rfl rfl rfl hc i pins s3 σ3 H3 X.xe I3 (stat fr3) st3 stop) fun r s4 ⟨hr, I4⟩ => ?_)
    subst hr
    exact wpAny_execs_nil ⟨σ3, H3, I4, qn⟩
  · refine wpAny_passesOwn hp (thn (T.item X rfl rfl rfl hc i pins s3 σ3 H3 X.xe I3 (stat fr3) st3 go) fun r s4 ⟨u, hr, h4⟩ => ?_)
    subst hr
    refine wpAny_passesOwn hp (thn h4 fun _ s5 ⟨x, H5, I5, r5, y5, st5, fr5⟩ => ?_)
    have I5' := I5.pinned (stat fr5) (T.obj _ _ st5)
    refine wpAny_passesOwn hp (thn (hg _ s5 σ3 H5 x u _ I5' r5 (step x H5 y5)) fun _ s6 ⟨σ6, H6, I6, q6⟩ => ?_)
    refine wpAny_passesOwn hp (thn (hb _ s6 σ6 H6 _ I6 q6) fun f s7 q7 => ?_)
    have again : ∀ {σ7 : St} {H7 : Hp}, Inv X (pins ++ pinsAt fp s5.heap) σ7 H7 s7 → N σ7 H7 → ∃ m, m < n ∧ ∃ i σ' H', Inv X pins σ' H' s7 ∧ tn i s7.heap ∧ (∀ b ∈ fp, H' b = none) ∧ W i m σ' H' := fun {σ7 H7} I7 n7 => by
      obtain ⟨m', hm, w7⟩ := hN σ7 H7 n7
      refine ⟨m', hm, i + 1, σ7, H7, I7.unpinned, T.keep _ _ _ st5 fun b hb o e => (I7.pin (b, o) (List.mem_append_right _ (List.mem_append_right _ (mem_pinsAt hb e)))).1, fun b hb => ?_, w7⟩
      obtain ⟨o, e, d⟩ := T.obj _ _ st5 b hb
      exact (I7.pin (b, o) (List.mem_append_right _ (List.mem_append_right _ (mem_pinsAt hb e)))).2.1
    cases f with
    | next => obtain ⟨σ7, H7, I7, n7⟩ := q7; exact again I7 n7
    | cont => obtain ⟨σ7, H7, I7, n7⟩ := q7; exact again I7 n7
    | brk => obtain ⟨σ7, H7, I7, q7⟩ := q7; exact ⟨σ7, H7, I7.unpinned, q7⟩
    | ret v => obtain ⟨x7, σ7, H7, I7, r7, q7⟩ := q7; exact ⟨x7, σ7, H7, I7.unpinned, r7, q7⟩
end
/-- over a list that the body leaves as it is -/
theorem for_list {K : PySem.W.Frag} {a : Addr} {xs : List V} {g : TG} {tb : TS} {D : Ends} {σ : St} {H : Hp} (Pv : Nat → St → Hp → Prop) (h0 : Pv 0 σ H) (hl : ∀ i σ H, i ≤ xs.length → Pv i σ H → SqL K H a xs)
    (hs : ∀ i x σ H, xs[i]? = some x → Pv i σ H → g x σ H fun σ2 H2 => tb { D with nx := Pv (i + 1), ct := Pv (i + 1), bk := D.nx } σ2 H2) (hd : ∀ σ H, Pv xs.length σ H → D.nx σ H) :
    ∃ W : Nat → Nat → St → Hp → Prop, (∃ m, W 0 m σ H) ∧ ∀ i m σ H, W i m σ H →
      ((Itl K a).stop i H ∧ D.nx σ H) ∨ ((Itl K a).go i H ∧ ∃ N : St → Hp → Prop, (∀ σ' H', N σ' H' → ∃ m', m' < m ∧ W (i + 1) m' σ' H') ∧ ∀ x H', (Itl K a).yld i H x H' → g x σ H' fun σ2 H2 => tb { D with nx := N, ct := N, bk := D.nx } σ2 H2) := by
  refine ⟨fun i m σ H => m = xs.length - i ∧ i ≤ xs.length ∧ Pv i σ H, ⟨xs.length, by simp, Nat.zero_le _, h0⟩, ?_⟩
  rintro i m σ H ⟨rfl, hi, p⟩
  have q := hl i σ H hi p
  by_cases hlt : i < xs.length
  · refine .inr ⟨⟨xs, xs[i], q, by simp [hlt]⟩, Pv (i + 1), fun σ' H' p' => ⟨xs.length - (i + 1), by omega, rfl, hlt, p'⟩, fun x H' y => ?_⟩
    obtain ⟨e, y⟩ := y
    subst e
    exact hs i x σ _ (y xs q) p
  · have e : i = xs.length := by omega
    subst e
    exact .inl ⟨⟨xs, q, Nat.le_refl _⟩, hd σ H p⟩
theorem for_range {lo : Int} {n : Nat} {g : TG} {tb : TS} {D : Ends} {σ : St} {H : Hp} (Pv : Nat → St → Hp → Prop) (h0 : Pv 0 σ H)
    (hs : ∀ i σ H, i < n → Pv i σ H → g (.int (lo + i)) σ H fun σ2 H2 => tb { D with nx := Pv (i + 1), ct := Pv (i + 1), bk := D.nx } σ2 H2) (hd : ∀ σ H, Pv n σ H → D.nx σ H) :
    ∃ W : Nat → Nat → St → Hp → Prop, (∃ m, W 0 m σ H) ∧ ∀ i m σ H, W i m σ H →
      ((Itr lo n).stop i H ∧ D.nx σ H) ∨ ((Itr lo n).go i H ∧ ∃ N : St → Hp → Prop, (∀ σ' H', N σ' H' → ∃ m', m' < m ∧ W (i + 1) m' σ' H') ∧ ∀ x H', (Itr lo n).yld i H x H' → g x σ H' fun σ2 H2 => tb { D with nx := N, ct := N, bk := D.nx } σ2 H2) := by
  refine ⟨fun i m σ H => m = n - i ∧ i ≤ n ∧ Pv i σ H, ⟨n, by simp, Nat.zero_le _, h0⟩, ?_⟩
  rintro i m σ H ⟨rfl, hi, p⟩
  by_cases hlt : i < n
  · refine .inr ⟨hlt, Pv (i + 1), fun σ' H' p' => ⟨n - (i + 1), by omega, rfl, hlt, p'⟩, fun x H' y => ?_⟩
    obtain ⟨e, y⟩ := y
    subst e y
    exact hs i σ _ hlt p
  · have e : i = n := by omega
    subst e
    exact .inl ⟨Nat.le_refl _, hd σ H p⟩
end L2
namespace L2
open PySem PySem.Spec PyProof.Rows
abbrev R2 := V → V → Hp → VK → Prop
/-- a two-place operation on values: f is binaryOp op, inplaceOp op or compareOp op -/
def OpR (X : Cx) (f : Value → Value → Sem Value) (r : R2) : Prop :=
  ∀ (pins : List (Addr × Obj)) (s : Shared) (σ : St) (H : Hp) (x y : V) (v u : Value) (Q : VK), Inv X pins σ H s → RelV x v → RelV y u → r x y H Q →
    wpAny (model X.prog X.w) X.A (f v u) (EP X pins σ Q) X.xe s
/-- a call of a value that is known (a builtin, a type) with values -/
def CallR (X : Cx) (f : Value) (r : List V → Hp → VK → Prop) : Prop :=
  ∀ (pins : List (Addr × Obj)) (s : Shared) (σ : St) (H : Hp) (xs : List V) (us : List Value) (Q : VK), Inv X pins σ H s → Vals xs us → r xs H Q →
    wpAny (model X.prog X.w) X.A (call f us) (EP X pins σ Q) X.xe s
def tOp (r : R2) (ta tb : TE) : TE := fun σ H Q => ta σ H fun x H1 => tb σ H1 fun y H2 => r x y H2 Q
def tUn (r : V → Hp → VK → Prop) (ta : TE) : TE := fun σ H Q => ta σ H fun x H1 => r x H1 Q
/-- ints in, under C, and a value out -/
def rI (C : Int → Int → Prop) (g : Int → Int → V) : R2 := fun x y H Q => ∃ i j, x = .int i ∧ y = .int j ∧ C i j ∧ Q (g i j) H
def rI0 (g : Int → Int → V) : R2 := fun x y H Q => ∃ i j, x = .int i ∧ y = .int j ∧ Q (g i j) H
def rU (g : Int → V) : V → Hp → VK → Prop := fun x H Q => ∃ i, x = .int i ∧ Q (g i) H
section
variable {X : Cx} {a b c : Expr} {ta tb tc : TE} {pos : Pos}
theorem binT (ha : PE X a ta) (hb : PE X b tb) {pins : List (Addr × Obj)} {s : Shared} {σ : St} {H : Hp} {R : V → V → Hp → Prop} (I : Inv X pins σ H s)
    (h : ta σ H fun x H1 => tb σ H1 fun y H2 => R x y H2) {Q : Value → Shared → Prop} {f : Value → Value → Sem Value}
    (hf : ∀ v u s2 x y H2, Inv X pins σ H2 s2 → RelV x v → RelV y u → R x y H2 → wpAny (model X.prog X.w) X.A (f v u) Q X.xe s2) :
    wpAny (model X.prog X.w) X.A (eval a X.env) (fun v s₁ => wpAny (model X.prog X.w) X.A (eval b X.env) (fun u s₂ => wpAny (model X.prog X.w) X.A (f v u) Q X.xe s₂) X.xe s₁) X.xe s := by
  refine thn (ha pins s σ H _ I h) fun v s1 ⟨x, H1, I1, r1, q1⟩ => ?_
  refine thn (hb pins s1 σ H1 _ I1 q1) fun u s2 ⟨y, H2, I2, r2, q2⟩ => ?_
  exact hf v u s2 x y H2 I2 r1 r2 q2
theorem pe_op {op : Operator} {r : R2} (ho : OpR X (binaryOp op) r) (ha : PE X a ta) (hb : PE X b tb) : PE X (.BinOp a op b pos) (tOp r ta tb) := by
  intro pins s σ H Q I h
  exact wpAny_BinOp (binT ha hb I h fun v u s2 x y H2 I2 rx ry q => ho pins s2 σ H2 x y v u Q I2 rx ry q)
theorem opI {f : Value → Value → Sem Value} {C : Int → Int → Prop} {g : Int → Int → Int}
    (rule : ∀ (i j : Int) (t u : Tok) (s : Shared) (Q : Value → Shared → Prop) (E : Value → Shared → Prop), C i j → Q (.int (g i j) s.toks) { s with toks := s.toks + 1 } → wpAny (model X.prog X.w) X.A (f (.int i t) (.int j u)) Q E s) :
    OpR X f (rI C fun i j => .int (g i j)) := by
  intro pins s σ H x y v u Q I rx ry h
  obtain ⟨i, j, rfl, rfl, hc, q⟩ := h
  obtain ⟨t, rfl⟩ := rx
  obtain ⟨t', rfl⟩ := ry
  exact rule i j t t' s _ _ hc ⟨.int (g i j), H, I.tok _, ⟨_, rfl⟩, q⟩
theorem opI0 {f : Value → Value → Sem Value} {g : Int → Int → Int}
    (rule : ∀ (i j : Int) (t u : Tok) (s : Shared) (Q : Value → Shared → Prop) (E : Value → Shared → Prop), Q (.int (g i j) s.toks) { s with toks := s.toks + 1 } → wpAny (model X.prog X.w) X.A (f (.int i t) (.int j u)) Q E s) :
    OpR X f (rI0 fun i j => .int (g i j)) := by
  intro pins s σ H x y v u Q I rx ry h
  obtain ⟨i, j, rfl, rfl, q⟩ := h
  obtain ⟨t, rfl⟩ := rx
  obtain ⟨t', rfl⟩ := ry
  exact rule i j t t' s _ _ ⟨.int (g i j), H, I.tok _, ⟨_, rfl⟩, q⟩
theorem opB0 {f : Value → Value → Sem Value} {g : Int → Int → Bool}
    (rule : ∀ (i j : Int) (t u : Tok) (s : Shared) (Q : Value → Shared → Prop) (E : Value → Shared → Prop), Q (.bool (g i j)) s → wpAny (model X.prog X.w) X.A (f (.int i t) (.int j u)) Q E s) :
    OpR X f (rI0 fun i j => .bl (g i j)) := by
  intro pins s σ H x y v u Q I rx ry h
  obtain ⟨i, j, rfl, rfl, q⟩ := h
  obtain ⟨t, rfl⟩ := rx
  obtain ⟨t', rfl⟩ := ry
  exact rule i j t t' s _ _ ⟨.bl (g i j), H, I, rfl, q⟩
def CDiv (i j : Int) : Prop := 0 < j ∧ j < 1073741824
def CPow (i j : Int) : Prop := 0 ≤ j ∧ j ≤ 1000000 ∧ i.natAbs < 2 ^ 64
def CMul (i j : Int) : Prop := (-(2 ^ 64) < i ∧ i < 2 ^ 64) ∨ (-(2 ^ 64) < j ∧ j < 2 ^ 64)
theorem CMul.ok {i j : Int} (h : CMul i j) : IntMulOk i j := by
  rcases h with ⟨h1, h2⟩ | ⟨h1, h2⟩
  · exact .of_left (intBits_le_64 h1 h2)
  · exact .of_right (intBits_le_64 h1 h2)
theorem op_add : OpR X (binaryOp .Add) (rI0 fun i j => .int (i + j)) := opI0 fun _ _ _ _ _ _ _ q => add_int q
theorem op_mul : OpR X (binaryOp .Mult) (rI CMul fun i j => .int (i * j)) := opI fun _ _ _ _ _ _ _ hc q => mul_int q hc.ok
/-- // by a positive divisor -/
theorem op_fdiv : OpR X (binaryOp .FloorDiv) (rI CDiv fun i j => .int (i / j)) := opI fun i j _ _ _ _ _ hc q => by
  have h1 : (0 : Int) < j := hc.1
  have h2 : j < 1073741824 := hc.2
  exact floordiv_int (by omega) (by rw [Int.fdiv_eq_ediv_of_nonneg i (by omega)]; exact q) (.inl (PyProof.noPylong_small (by omega)))
/-- % by a positive divisor of any size -/
theorem op_mod : OpR X (binaryOp .Mod) (rI (fun _ j => 0 < j) fun i j => .int (i % j)) := opI fun i j _ _ _ _ _ hc q => by
  have h1 : (0 : Int) < j := hc
  exact mod_int' (by omega) (by rw [Int.fmod_eq_emod_of_nonneg i (by omega)]; exact q)
theorem op_pow : OpR X (binaryOp .Pow) (rI CPow fun i j => .int (i ^ j.toNat)) := opI fun _ _ _ _ _ _ _ hc q => pow_int_small hc.1 hc.2.1 hc.2.2 q
end
/-- the scalars that == tells apart as data does -/
def scal : V → V → Bool
  | .non, .non => true | .non, .int _ => true | .int _, .non => true | .non, .bl _ => true | .bl _, .non => true | .non, .str _ => true | .str _, .non => true
  | .int _, .int _ => true | .bl _, .bl _ => true | .str _, .str _ => true | .byt _, .byt _ => true
  | .int _, .str _ => true | .str _, .int _ => true | .bl _, .str _ => true | .str _, .bl _ => true
  | _, _ => false
def rEq : R2 := fun x y H Q => scal x y = true ∧ Q (.bl (decide (x = y))) H
def rNe : R2 := fun x y H Q => scal x y = true ∧ Q (.bl (!decide (x = y))) H
theorem dec_int {i j : Int} : decide (V.int i = V.int j) = (i == j) := by
  rw [Bool.eq_iff_iff]
  simp
theorem dec_bl {i j : Bool} : decide (V.bl i = V.bl j) = (i == j) := by
  rw [Bool.eq_iff_iff]
  simp
theorem dec_str {i j : Str} : decide (V.str i = V.str j) = (i == j) := by
  rw [Bool.eq_iff_iff]
  simp
theorem dec_byt {i j : Array UInt8} : decide (V.byt i = V.byt j) = (i.toList == j.toList) := by
  rw [Bool.eq_iff_iff]
  cases i
  cases j
  simp
section
variable {X : Cx} {a b c : Expr} {ta tb tc : TE} {pos : Pos}
theorem fin_bl {pins : List (Addr × Obj)} {σ : St} {H : Hp} {s : Shared} {Q : VK} {k k' : Bool} (I : Inv X pins σ H s) (q : Q (.bl k) H) (e : k = k') : EP X pins σ Q (.bool k') s := by
  subst e
  exact ⟨.bl k, H, I, rfl, q⟩
theorem op_eq : OpR X (compareOp .Eq) rEq := by
  intro pins s σ H x y v u Q I rx ry h
  obtain ⟨hs, q⟩ := h
  cases x with
  | non =>
    cases rx
    cases y with
    | non => cases ry; exact PySem.EqNone.eq_none_none (fin_bl I q (by simp))
    | bl j => cases ry; exact PySem.EqNone.eq_none_bool (fin_bl I q (by simp))
    | int j => obtain ⟨t', rfl⟩ := ry; exact PySem.EqNone.eq_none_int (fin_bl I q (by simp))
    | str j => obtain ⟨t', rfl⟩ := ry; exact PySem.EqNone.eq_none_str (fin_bl I q (by simp))
    | _ => exact absurd (show false = true from hs) Bool.false_ne_true
  | bl i =>
    cases rx
    cases y with
    | non => cases ry; exact PySem.EqNone.eq_bool_none (fin_bl I q (by simp))
    | bl j => cases ry; exact eq_bool (fin_bl I q dec_bl)
    | str j => obtain ⟨t', rfl⟩ := ry; exact PySem.EqMixed.eq_bool_str (fin_bl I q (by simp))
    | _ => exact absurd (show false = true from hs) Bool.false_ne_true
  | int i =>
    obtain ⟨t, rfl⟩ := rx
    cases y with
    | non => cases ry; exact PySem.EqNone.eq_int_none (fin_bl I q (by simp))
    | int j => obtain ⟨t', rfl⟩ := ry; exact eq_int (fin_bl I q dec_int)
    | str j => obtain ⟨t', rfl⟩ := ry; exact PySem.EqMixed.eq_int_str (fin_bl I q (by simp))
    | _ => exact absurd (show false = true from hs) Bool.false_ne_true
  | str i =>
    obtain ⟨t, rfl⟩ := rx
    cases y with
    | non => cases ry; exact PySem.EqNone.eq_str_none (fin_bl I q (by simp))
    | bl j => cases ry; exact PySem.EqMixed.eq_str_bool (fin_bl I q (by simp))
    | int j => obtain ⟨t', rfl⟩ := ry; exact PySem.EqMixed.eq_str_int (fin_bl I q (by simp))
    | str j => obtain ⟨t', rfl⟩ := ry; exact eq_str (fin_bl I q dec_str)
    | _ => exact absurd (show false = true from hs) Bool.false_ne_true
  | byt i =>
    obtain ⟨t, rfl⟩ := rx
    cases y with
    | byt j => obtain ⟨t', rfl⟩ := ry; exact PySem.W.eq_bytes (fin_bl I q dec_byt)
    | _ => exact absurd (show false = true from hs) Bool.false_ne_true
  | _ => cases y <;> exact absurd (show false = true from hs) Bool.false_ne_true
theorem op_ne : OpR X (compareOp .NotEq) rNe := by
  intro pins s σ H x y v u Q I rx ry h
  obtain ⟨hs, q⟩ := h
  cases x with
  | non =>
    cases rx
    cases y with
    | non => cases ry; exact PySem.EqNone.ne_none_none (fin_bl I q (by simp))
    | bl j => cases ry; exact PySem.EqNone.ne_none_bool (fin_bl I q (by simp))
    | int j => obtain ⟨t', rfl⟩ := ry; exact PySem.EqNone.ne_none_int (fin_bl I q (by simp))
    | str j => obtain ⟨t', rfl⟩ := ry; exact PySem.EqNone.ne_none_str (fin_bl I q (by simp))
    | _ => exact absurd (show false = true from hs) Bool.false_ne_true
  | bl i =>
    cases rx
    cases y with
    | non => cases ry; exact PySem.EqNone.ne_bool_none (fin_bl I q (by simp))
    | bl j => cases ry; exact ne_bool (fin_bl I q (congrArg not dec_bl))
    | str j => obtain ⟨t', rfl⟩ := ry; exact PySem.EqMixed.ne_bool_str (fin_bl I q (by simp))
    | _ => exact absurd (show false = true from hs) Bool.false_ne_true
  | int i =>
    obtain ⟨t, rfl⟩ := rx
    cases y with
    | non => cases ry; exact PySem.EqNone.ne_int_none (fin_bl I q (by simp))
    | int j => obtain ⟨t', rfl⟩ := ry; exact ne_int (fin_bl I q (congrArg not dec_int))
    | str j => obtain ⟨t', rfl⟩ := ry; exact PySem.EqMixed.ne_int_str (fin_bl I q (by simp))
    | _ => exact absurd (show false = true from hs) Bool.false_ne_true
  | str i =>
    obtain ⟨t, rfl⟩ := rx
    cases y with
    | non => cases ry; exact PySem.EqNone.ne_str_none (fin_bl I q (by simp))
    | bl j => cases ry; exact PySem.EqMixed.ne_str_bool (fin_bl I q (by simp))
    | int j => obtain ⟨t', rfl⟩ := ry; exact PySem.EqMixed.ne_str_int (fin_bl I q (by simp))
    | str j => obtain ⟨t', rfl⟩ := ry; exact ne_str (fin_bl I q (congrArg not dec_str))
    | _ => exact absurd (show false = true from hs) Bool.false_ne_true
  | byt i =>
    obtain ⟨t, rfl⟩ := rx
    cases y with
    | byt j => obtain ⟨t', rfl⟩ := ry; exact PySem.W.ne_bytes (fin_bl I q (congrArg not dec_byt))
    | _ => exact absurd (show false = true from hs) Bool.false_ne_true
  | _ => cases y <;> exact absurd (show false = true from hs) Bool.false_ne_true
theorem op_gt : OpR X (compareOp .Gt) (rI0 fun i j => .bl (decide (j < i))) := opB0 fun _ _ _ _ _ _ _ q => gt_int q
theorem op_ge : OpR X (compareOp .GtE) (rI0 fun i j => .bl (decide (j ≤ i))) := opB0 fun _ _ _ _ _ _ _ q => ge_int q
/-- two rules for one operation: by cases -/
theorem OpR.or {f : Value → Value → Sem Value} {r r' : R2} (h : OpR X f r) (h' : OpR X f r') : OpR X f (fun x y H Q => r x y H Q ∨ r' x y H Q) := by
  intro pins s σ H x y v u Q I rx ry q
  rcases q with q | q
  · exact h pins s σ H x y v u Q I rx ry q
  · exact h' pins s σ H x y v u Q I rx ry q
theorem nomark (b : Expr) {op : CmpOp} (h : op ≠ .In := by decide) (h2 : op ≠ .NotIn := by decide) : behindInMarks op b = false := by
  have e1 : (op == CmpOp.In) = false := by cases op <;> first | rfl | exact absurd rfl h
  have e2 : (op == CmpOp.NotIn) = false := by cases op <;> first | rfl | exact absurd rfl h2
  cases b <;> simp [behindInMarks, e1, e2]
/-- a comparison as a value; hm: nomark b, or (for in, not in) by with_unfolding_all rfl -/
theorem pe_cmpR {op : CmpOp} {r : R2} (ho : OpR X (compareOp op) r) (ha : PE X a ta) (hb : PE X b tb) (hm : behindInMarks op b = false) : PE X (.Compare a [op] [b] pos) (tOp r ta tb) := by
  intro pins s σ H Q I h
  exact wpAny_Compare1 (binT ha hb I h fun v u s2 x y H2 I2 rx ry q => ho pins s2 σ H2 x y v u Q I2 rx ry q) hm
/-- a reading of a value as a test -/
def tTest (t : TE) : TT := fun σ H Q => t σ H fun x H' => ∃ k, x = .bl k ∧ Q k H'
theorem pt_cmpR {op : CmpOp} {r : R2} (ho : OpR X (compareOp op) r) (ha : PE X a ta) (hb : PE X b tb) (hm : behindInMarks op b = false) : PT X (.Compare a [op] [b] pos) (tTest (tOp r ta tb)) := by
  intro pins s σ H Q I h
  refine wpAny_isTrue_Compare1 (thn (ha pins s σ H _ I h) fun v s1 ⟨x, H1, I1, r1, q1⟩ => thn (hb pins s1 σ H1 _ I1 q1) fun u s2 ⟨y, H2, I2, r2, q2⟩ =>
    thn (ho pins s2 σ H2 x y v u _ I2 r1 r2 q2) fun c s3 ⟨z, H3, I3, r3, k, e, q3⟩ => ?_) hm
  subst e
  cases r3
  exact wpAny_truthy_bool ⟨H3, I3, q3⟩
/-- a op1 b op2 c -/
def tChain (r r' : R2) (ta tb tc : TE) : TE := fun σ H Q => ta σ H fun x H1 => tb σ H1 fun y H2 => r x y H2 fun z H3 => ∃ k, z = .bl k ∧
  (if k = true then tc σ H3 fun w' H4 => r' y w' H4 Q else Q (.bl false) H3)
/-- a value's truth by the abstract heap -/
def TruV (K : PySem.W.Frag) (x : V) (H : Hp) (k : Bool) : Prop :=
  match x with
  | .non => k = false
  | .bl b => k = b
  | .int i => k = (i != 0)
  | .str y => y.length ≤ sizeLine ∧ k = ((y.length : Int) != 0)
  | .byt y => y.size ≤ sizeLine ∧ k = ((y.size : Int) != 0)
  | .ref p => (∃ xs, SqL K H p xs ∧ k = !xs.isEmpty) ∨ (∃ xs, SqT K H p xs ∧ k = !xs.isEmpty) ∨ ∃ kvs, H p = some (.dK kvs) ∧ k = !kvs.isEmpty
  | _ => False
theorem line63 : (sizeLine : Nat) < 2 ^ 63 := by rw [sizeLine_eq]; decide
theorem op_add_str : OpR X (binaryOp .Add) (fun x y H Q => ∃ i j, x = .str i ∧ y = .str j ∧ i.length + j.length ≤ sizeLine ∧ Q (.str (i ++ j)) H) := by
  intro pins s σ H x y v u Q I rx ry h
  obtain ⟨i, j, rfl, rfl, hz, q⟩ := h
  obtain ⟨t, rfl⟩ := rx
  obtain ⟨t', rfl⟩ := ry
  exact add_str (fun t' tk => ⟨.str (i ++ j), H, I.tok _, ⟨_, rfl⟩, q⟩) hz
theorem vals1 {x : V} {us : List Value} (r : Vals [x] us) : ∃ u, us = [u] ∧ RelV x u := by
  cases r with
  | cons r1 r2 => cases r2; exact ⟨_, rfl, r1⟩
theorem call_str_int : CallR X (.type "str") (fun xs H Q => ∃ i, xs = [.int i] ∧ i.natAbs.log2 < 1920 ∧ Q (.str (toString i)) H) := by
  intro pins s σ H xs us Q I r h
  obtain ⟨i, rfl, hz, q⟩ := h
  obtain ⟨u, rfl, t, rfl⟩ := vals1 r
  exact PySem.P.str_of_int hz ⟨.str _, H, I.tok _, ⟨_, rfl⟩, q⟩
end
end L2
namespace L2
open PySem PySem.Spec PyProof.Rows
section
variable {prog : Program} {w : World} {A : Around} {E : Value → Shared → Prop} {s : Shared} {K : PySem.W.Frag} {x dx C f : Addr} {mA : Str → Option Value} {name : Str} {v : Value}
end
section
variable {P : Program} {w : World} {H H' : Hp} {h h' : Heap} {a C dx : Addr} {fs fs' : List (Str × V)}
end
structure Cls (K : PySem.W.Frag) (C : Addr) : Prop where
  pg : PySem.W.plainGet K C Str.empty = true
  hd : PySem.W.hasDictIn K C = true
  po : PySem.W.plainOver K C = true
  sa : PySem.W.findIn K (.ref C) "__setattr__" = some (some (.builtin "object.__setattr__"))
theorem Cls.get {K : PySem.W.Frag} {C : Addr} (c : Cls K C) (f : Str) : PySem.W.plainGet K C f = true := c.pg
/-- a method: a plain def of the class or of one above it -/
structure Meth (K : PySem.W.Frag) (C : Addr) (m : Str) (f : Addr) : Prop where
  at_ : PySem.W.findIn K (.ref C) m = some (some (.ref f))
  fn : PySem.W.isFn K (.ref f) = true
  kp : PySem.W.keepIn K (.ref f) = true
section
variable {X : Cx} {pins : List (Addr × Obj)} {σ : St} {H : Hp} {s : Shared} {a C dx : Addr} {fs : List (Str × V)} {f : Str} {v : V} {A : Around} {E : Value → Shared → Prop}
/-- a new instance, tracked, without attributes -/
theorem Inv.made (I : Inv X pins σ H s) : Inv X pins σ (upd (upd H s.heap.objs.size (.own (s.heap.objs.size + 1))) (s.heap.objs.size + 1) (.ins C s.heap.objs.size []))
    { s with heap := (s.heap.push PySem.W.emptyDict).push (PySem.W.instObj C s.heap.objs.size) } := by
  have e1 : (s.heap.push PySem.W.emptyDict).get? s.heap.objs.size = some PySem.W.emptyDict := Heap.get?_push_size s.heap rfl
  have e2 : ((s.heap.push PySem.W.emptyDict).push (PySem.W.instObj C s.heap.objs.size)).get? (s.heap.objs.size + 1) = some (PySem.W.instObj C s.heap.objs.size) := by
    have := Heap.get?_push_size (s.heap.push PySem.W.emptyDict) (o := PySem.W.instObj C s.heap.objs.size) rfl
    rwa [Heap.size_push] at this
  have e3 : (s.heap.push PySem.W.emptyDict).Ns s.heap.objs.size (fun _ => none) := ⟨PySem.W.emptyDict, #[], _, e1, rfl, (fun e he => absurd he (by simp)), fun _ => rfl⟩
  have I1 := I.laid (a := s.heap.objs.size) (o := .own (s.heap.objs.size + 1)) (h' := s.heap.push PySem.W.emptyDict) (t' := s.toks) (fun b u q => Heap.get?_push_of_some _ q) (Nat.le_refl _) ⟨_, e1⟩
  refine I1.laid (a := s.heap.objs.size + 1) (o := .ins C s.heap.objs.size []) (t' := s.toks) (fun b u q => Heap.get?_push_of_some _ q) (Nat.le_of_eq (Heap.size_push _ _)) ?_
  have ne : s.heap.objs.size ≠ s.heap.objs.size + 1 := Nat.ne_of_lt (Nat.lt_succ_self _)
  refine ⟨by rw [upd_ne ne, upd_same], Nat.zero_le _, ne, e2, fun _ => none, (Heap.Ns1.of_empty e3).at fun o q => Heap.get?_push_of_some _ q, fun _ => True.intro, fun y hy => absurd rfl hy⟩
end
section
variable {X : Cx} {o e value : Expr} {f : Str} {pos pos' tpos : Pos} {ta tv : TE}
end
section
variable {X : Cx} {pins : List (Addr × Obj)} {σ : St} {H : Hp} {s : Shared} {A : Around} {E : Value → Shared → Prop} {Q : Value → Shared → Prop} {c : Value} {b : Bool}
/-- the type of a value, as the fragment's deciders take it; for an instance its class -/
inductive TyOf (K : PySem.W.Frag) (H : Hp) : V → Value → Prop where
  | non : TyOf K H .non (.type "NoneType")
  | bl (x : Bool) : TyOf K H (.bl x) (.type "bool")
  | int (i : Int) : TyOf K H (.int i) (.type "int")
  | str (x : Str) : TyOf K H (.str x) (.type "str")
  | flt (x : UInt64) : TyOf K H (.flt x) (.type "float")
  | lst {a : Addr} {xs : List V} (e : H a = some (.lst xs)) : TyOf K H (.ref a) (.type "list")
  | frz {a : Addr} {o : Obj} {xs : List V} (e : H a = some (.frz o (.lst xs))) : TyOf K H (.ref a) (.type "list")
  | tup {a : Addr} {xs : List V} (e : H a = some (.tup xs)) : TyOf K H (.ref a) (.type "tuple")
  | dK {a : Addr} {kvs : List (Key × V)} (e : H a = some (.dK kvs)) : TyOf K H (.ref a) (.type "dict")
  | dT {a : Addr} {kvs : List (List Key × V)} (e : H a = some (.dT kvs)) : TyOf K H (.ref a) (.type "dict")
  | ins {a C dx : Addr} {fs : List (Str × V)} (e : H a = some (.ins C dx fs)) (cl : Cls K C) (ha : PySem.W.findIn K (.ref C) "__class__" = some (some (.builtin "object.__class__")))
      (hn : PySem.W.specialIn K (.builtin "object.__class__") "__get__" = some (some (.builtin "getset_descriptor.__get__"))) (htk : PySem.W.takesIn K (.builtin "object.__class__") = some true)
      (hm : PySem.W.mroIn K C (.type "object") = some true) : TyOf K H (.ref a) (.ref C)
end
end L2
namespace L2
open PySem PySem.Spec PyProof.Rows
structure Room (k : Nat) (A : Around) : Prop where
  hd : A.handled = none
  dp : A.depth + 3 * k + 5 < recursionLimit
  un : A.units + 16 * k + 200 < cLine
  gd : A.guards = some []
theorem Room.mono {j k : Nat} {A : Around} (r : Room k A) (h : j ≤ k) : Room j A := ⟨r.hd, by have := r.dp; omega, by have := r.un; omega, r.gd⟩
theorem Room.deeper {k : Nat} {A : Around} (r : Room (k + 1) A) (env : Env) : Room k (A.deeper env) :=
  ⟨r.hd, by have := r.dp; show A.depth + 1 + 3 * k + 5 < _; omega, by have := r.un; show A.units + 3 + 16 * k + 200 < _; omega, r.gd⟩
theorem Room.in1 {k : Nat} {A : Around} (r : Room (k + 1) A) : Room k A.in1 :=
  ⟨r.hd, by have := r.dp; show A.depth + 3 * k + 5 < _; omega, by have := r.un; show A.units + 1 + 16 * k + 200 < _; omega, r.gd⟩
theorem Room.depth {k : Nat} {A : Around} (r : Room k A) : A.depth < recursionLimit := by have := r.dp; omega
theorem Room.units {k : Nat} {A : Around} (r : Room k A) : A.units + 64 < cLine := by have := r.un; omega
def tNil : TA := fun _ H Q => Q [] H
def tCons (ta : TE) (tr : TA) : TA := fun σ H Q => ta σ H fun x H1 => tr σ H1 fun xs H2 => Q (x :: xs) H2
section
variable {X : Cx} {e : Expr} {es : List Expr} {te : TE} {t : TA} {pos : Pos}
theorem pa_nil : PA X [] tNil := fun _ _ _ _ H Q I h => Calls.spliced_nil ⟨[], H, I, .nil, h⟩
theorem pa_cons (ha : PE X e te) (hr : PA X es t) (hs : starEach (e :: es) X.env = (false, eval e X.env) :: starEach es X.env := by rfl) : PA X (e :: es) (tCons te t) := by
  intro pos pins s σ H Q I h
  rw [hs]
  show wpAny _ _ (spliced ((false, eval e X.env) :: backTo pos (starEach es X.env))) _ _ s
  refine Calls.spliced_cons (thn (ha pins s σ H _ I h) fun u s1 ⟨x, H1, I1, r1, q1⟩ => ?_)
  exact thn (hr pos pins s1 σ H1 _ I1 q1) fun us s2 ⟨xs, H2, I2, r2, q2⟩ => ⟨x :: xs, H2, I2, .cons r1 r2, q2⟩
end
/-- a def's promise: the bound arguments in the parameters' order, the heap, the wanted end, the wanted exception -/
abbrev Sp := List V → Hp → VK → XK → Prop
/-- how an exception lies behind a call (file 08 gives it): the callers' frames, abstract heap and state ahead of the call, the wish, the exception, the state -/
abbrev CXT := List Env → Hp → Shared → XK → Value → Shared → Prop
/-- the state at a call -/
structure Env0 (P : Program) (w : World) (K : PySem.W.Frag) (mg : Str → Option Value) (base : Heap) (A : Around) (outer : List Env) (s : Shared) (H : Hp) : Prop where
  frames : A.frames = some outer
  mod : Mod K mg base
  bs : ∀ b o, base.get? b = some o → s.heap.get? b = some o ∧ H b = none
  bsz : base.objs.size ≤ s.heap.objs.size
  funs : s.heap.FunFrames base outer
  frf : ∀ b ∈ frs outer, H b = none
  hok : HOk P w H s.heap
  bare : AllBare s.gens
/-- a call's end -/
def CE (outer : List Env) (P : Program) (w : World) (H : Hp) (s : Shared) (Q : VK) (u : Value) (s' : Shared) : Prop :=
  ∃ v H', s'.os = s.os ∧ AllBare s'.gens ∧ Un (frs outer) [] H H' s.heap s'.heap ∧ HOk P w H' s'.heap ∧ RelV v u ∧ Q v H'
def CR (CX : CXT) (outer : List Env) (P : Program) (w : World) (H : Hp) (s : Shared) (Q : VK) (E : XK) (r : Result) (s' : Shared) : Prop :=
  match r with
  | .ok (.ret u) => CE outer P w H s Q u s'
  | .ok _ => False
  | .error e => CX outer H s E e s'
structure FnOk (P : Program) (w : World) (K : PySem.W.Frag) (mg : Str → Option Value) (base : Heap) (CX : CXT) (k : Nat) (f : Addr) (fd : FuncData) (ps : List Str) (sp : Sp) : Prop where
  len : ∀ vs H Q E, sp vs H Q E → vs.length = ps.length
  run : ∀ (A : Around) (outer : List Env) (s : Shared) (H : Hp) (args : Args) (us : List Value) (vs : List V) (Q : VK) (E : XK), Room k A → Env0 P w K mg base A outer s H → BindsTo s fd args (ps.zip us) → Vals vs us → sp vs H Q E →
    codeAny (model P w) A (.call (.ref f) args) (CR CX outer P w H s Q E) s
theorem FnOk.mono {P : Program} {w : World} {K : PySem.W.Frag} {mg : Str → Option Value} {base : Heap} {CX : CXT} {j k : Nat} {f : Addr} {fd : FuncData} {ps : List Str} {sp : Sp} (F : FnOk P w K mg base CX j f fd ps sp) (h : j ≤ k) :
    FnOk P w K mg base CX k f fd ps sp := ⟨F.len, fun A outer s H args us vs Q E hr => F.run A outer s H args us vs Q E (hr.mono h)⟩
theorem Env0.in1 {P : Program} {w : World} {K : PySem.W.Frag} {mg : Str → Option Value} {base : Heap} {A : Around} {outer : List Env} {s : Shared} {H : Hp} (e : Env0 P w K mg base A outer s H) :
    Env0 P w K mg base A.in1 outer s H := ⟨e.frames, e.mod, e.bs, e.bsz, e.funs, e.frf, e.hok, e.bare⟩
section
variable {X : Cx} {pins : List (Addr × Obj)} {σ : St} {H : Hp} {s s' : Shared}
/-- from a body: what a callee wants -/
theorem Inv.env0 (I : Inv X pins σ H s) : Env0 X.prog X.w X.K X.mg X.base X.A X.stack s H :=
  ⟨I.ok.frames, I.ok.mod, I.bs, Nat.le_trans I.ok.bsz I.sz, I.stack, I.stkFree, I.hok, I.bare⟩
/-- behind a call -/
theorem Inv.after {Q : VK} {u : Value} (I : Inv X pins σ H s) (h : CE X.stack X.prog X.w H s Q u s') : EP X pins σ Q u s' := by
  obtain ⟨v, H', os, bare, un, hok, r, q⟩ := h
  obtain ⟨hh, g, d, t, os'⟩ := s'
  obtain rfl : os' = s.os := os
  exact ⟨v, H', I.call (h' := hh) (g' := g) (d' := d) (t' := t) (ch := []) un hok bare (fun b z => absurd z (by simp)), r, q⟩
end
/-- f(..): the written arguments, then the defaults dvs; E: what is wanted of an exception -/
def tCall (sp : Sp) (dvs : List V) (E : XK) (t : TA) : TE := fun σ H Q => t σ H fun vs H1 => sp (vs ++ dvs) H1 Q E
/-- how the parameters are bound: us the positional arguments, kw the keywords' values by name, ds the defaults that fill up -/
def Binds (K : PySem.W.Frag) (fd : FuncData) (ps : List Str) (ds : List Value) : Prop :=
  ∀ (s : Shared) (us : List Value), K.In s.heap → (us ++ ds).length = ps.length → BindsTo s fd ⟨us, []⟩ (ps.zip (us ++ ds))
/-- every parameter is given -/
theorem Binds.all {K : PySem.W.Frag} {fd : FuncData} {ps : List Str} (h : ∀ us : List Value, us.length = ps.length → bindArgs fd ⟨us, []⟩ = pure (ps.zip us)) : Binds K fd ps [] := fun s us _ hl => by
  rw [List.append_nil] at hl ⊢
  exact .of_eq (h us hl)
/-- an exception of a callee reaches what this body wants of exceptions -/
def Passes (CX : CXT) (X : Cx) (E : XK) : Prop := ∀ (pins : List (Addr × Obj)) (σ : St) (H : Hp) (s : Shared) (e : Value) (s' : Shared), Inv X pins σ H s → CX X.stack H s E e s' → X.xe e s'
section
variable {X : Cx} {CX : CXT} {k : Nat} {f C : Addr} {fd : FuncData} {ps : List Str} {sp : Sp} {dvs : List V} {ds : List Value} {E : XK} {x m : Str} {p pos apos : Pos} {e o : Expr} {es : List Expr} {ta : TE} {t : TA}
/-- the callee runs -/
theorem run_fn {pins : List (Addr × Obj)} {σ : St} {H : Hp} {s : Shared} {Q : VK} {us : List Value} {vs : List V} (F : FnOk X.prog X.w X.K X.mg X.base CX k f fd ps sp) (hr : Room k X.A) (hb : Binds X.K fd ps ds) (hd : Vals dvs ds) (hx : Passes CX X E)
    (I : Inv X pins σ H s) (r : Vals vs us) (h : sp (vs ++ dvs) H Q E) : wpAny (model X.prog X.w) X.A (call (.ref f) us) (EP X pins σ Q) X.xe s := by
  have r2 : Vals (vs ++ dvs) (us ++ ds) := r.append hd
  have hl : (us ++ ds).length = ps.length := by rw [← r2.length]; exact F.len _ _ _ _ h
  refine wpAny_call (codeAny_mono (F.run X.A X.stack s H ⟨us, []⟩ (us ++ ds) (vs ++ dvs) Q E hr I.env0 (hb s us I.kIn hl) r2 h) fun r s' hq => ?_)
  cases r with
  | error e => exact hx pins σ H s e s' I hq
  | ok fl =>
    cases fl with
    | ret u => exact I.after hq
    | next => exact False.elim hq
    | brk => exact False.elim hq
    | cont => exact False.elim hq
theorem pe_call (F : FnOk X.prog X.w X.K X.mg X.base CX k f fd ps sp) (hr : Room k X.A) (hg : Gl X x) (hm : X.mg x = some (.ref f)) (hk : PySem.W.keepIn X.K (.ref f) = true) (hb : Binds X.K fd ps ds) (hd : Vals dvs ds) (hx : Passes CX X E)
    (ha : PA X (e :: es) t) (hdb : (x == ("__debug__" : Str)) = false := by decide) (he : starEach (e :: es) X.env = (false, eval e X.env) :: starEach es X.env := by rfl) (hpl : (backTo pos (starEach es X.env)).any (·.1) = false := by rfl) :
    PE X (.Call (.Name x p) (e :: es) [] pos) (tCall sp dvs E t) := by
  intro pins s σ H Q I h
  refine wpAny_Call_Name_kw (ld_glob I hg hm ?_ hdb)
  refine PySem.W.callWith_K (h₀ := X.base) I.ok.mod.kin hk (thn (ha pos pins s σ H _ I h) fun us s1 ⟨vs, H1, I1, r, q⟩ => ⟨I1.kIn, ?_⟩) he hpl
  exact run_fn F hr hb hd hx I1 r q
end
section
variable {X : Cx} {CX : CXT} {k : Nat} {f C : Addr} {fd : FuncData} {ps ks : List Str} {sp : Sp} {E : XK} {x m : Str} {p pos apos kpos : Pos} {e o : Expr} {es : List Expr} {kws : List Keyword} {te ta : TE} {t tk : TA} {nm : Option Str}
variable {g : List Value → List Value → List Value} {gV : List V → List V → List V}
end
/-- names: the parameters first -/
structure FnScope (N P : List Str) (sc : Scope) : Prop where
  kind : sc.kind = .function
  co : sc.isCoroutine = false
  gen : sc.isGenerator = false
  nd : N.Nodup
  pre : N.take P.length = P
  par : ∀ x ∈ P, sc.names.lookup x = some .local ∨ sc.names.lookup x = some .cell
  nofree : ∀ y ∈ sc.names, y.2 ≠ .free
theorem bindL_out {kindOf : Str → Option NameKind} {x : Str} : ∀ {binds : List (Str × Value)} {m : Str → Option Value}, (∀ v, (x, v) ∉ binds) → bindL kindOf binds m x = m x
  | [], _, _ => rfl
  | (n, v) :: r, m, h => by
    unfold bindL
    rw [bindL_out fun w hw => h w (List.mem_cons_of_mem _ hw)]
    split
    · have : x ≠ n := by rintro rfl; exact h v List.mem_cons_self
      simp [this]
    · rfl
theorem bindC_out {kindOf : Str → Option NameKind} {x : Str} : ∀ {binds : List (Str × Value)} {m : Str → Option Value}, (∀ v, (x, v) ∉ binds) → bindC kindOf binds m x = m x
  | [], _, _ => rfl
  | (n, v) :: r, m, h => by
    unfold bindC
    rw [bindC_out fun w hw => h w (List.mem_cons_of_mem _ hw)]
    split
    · rfl
    · have : x ≠ n := by rintro rfl; exact h v List.mem_cons_self
      simp [this]
theorem bindL_get {kindOf : Str → Option NameKind} {x : Str} {v : Value} : ∀ {P : List Str} {vs : List Value} {i : Nat} {m : Str → Option Value}, P.Nodup → P[i]? = some x → vs[i]? = some v → kindOf x = some .local →
    bindL kindOf (P.zip vs) m x = some v
  | [], _, _, _, _, h, _, _ => by simp at h
  | _ :: _, [], _, _, _, _, h, _ => by simp at h
  | p :: P, w :: vs, 0, m, nd, h1, h2, hk => by
    simp at h1 h2; subst h1; subst h2
    show bindL kindOf ((p, w) :: P.zip vs) m p = _
    unfold bindL
    rw [bindL_out fun v hv => (List.nodup_cons.mp nd).1 (List.of_mem_zip hv).1, if_pos hk]
    simp
  | p :: P, w :: vs, i + 1, m, nd, h1, h2, hk => by
    show bindL kindOf ((p, w) :: P.zip vs) m x = _
    unfold bindL
    exact bindL_get (i := i) (List.nodup_cons.mp nd).2 (by simpa using h1) (by simpa using h2) hk
theorem bindC_get {kindOf : Str → Option NameKind} {x : Str} {v : Value} : ∀ {P : List Str} {vs : List Value} {i : Nat} {m : Str → Option Value}, P.Nodup → P[i]? = some x → vs[i]? = some v → kindOf x ≠ some .local →
    bindC kindOf (P.zip vs) m x = some v
  | [], _, _, _, _, h, _, _ => by simp at h
  | _ :: _, [], _, _, _, _, h, _ => by simp at h
  | p :: P, w :: vs, 0, m, nd, h1, h2, hk => by
    simp at h1 h2; subst h1; subst h2
    show bindC kindOf ((p, w) :: P.zip vs) m p = _
    unfold bindC
    rw [bindC_out fun v hv => (List.nodup_cons.mp nd).1 (List.of_mem_zip hv).1, if_neg hk]
    simp
  | p :: P, w :: vs, i + 1, m, nd, h1, h2, hk => by
    show bindC kindOf ((p, w) :: P.zip vs) m x = _
    unfold bindC
    exact bindC_get (i := i) (List.nodup_cons.mp nd).2 (by simpa using h1) (by simpa using h2) hk
/-- the names' values at the entry -/
def start (N : List Str) (vs : List V) : St := vs.map some ++ List.replicate (N.length - vs.length) none
/-- the context of a def's body, at its entry; an exception leaves the frame, then lies as CX says -/
def cxOf (CX : CXT) (P : Program) (w : World) (K : PySem.W.Frag) (mg : Str → Option Value) (base : Heap) (N : List Str) (qual : Str) (scope : Scope) (f : Addr) (cd : Value) (A : Around) (outer : List Env) (s : Shared) (H : Hp) (E : XK) : Cx where
  prog := P
  w := w
  K := K
  mg := mg
  base := base
  A := A.deeper (envOfC qual scope s.heap.objs.size f cd)
  N := N
  s₀ := s
  H₀ := H
  env := envOfC qual scope s.heap.objs.size f cd
  outer := outer
  stack := envOfC qual scope s.heap.objs.size f cd :: outer
  ex := []
  calm := true
  fn := fun _ => true
  pn := []
  xe := fun e s' => wpAny (model P w) (A.deeper (envOfC qual scope s.heap.objs.size f cd)) (leaving (envOfC qual scope s.heap.objs.size f cd) e) (fun _ s'' => CX outer H s E e s'') (fun e' s'' => CX outer H s E e' s'') s'
theorem cell_has {sc : Scope} {n : Nat} {x : Str} (h : sc.names.lookup x = some .cell) : ∃ c, (cellsFrom n sc.names []).lookup x = some c := by
  have q := PySem.W.cellsFrom_some sc.names n [] (.inl h)
  exact Option.isSome_iff_exists.mp q
theorem inv_start {CX : CXT} {P : Program} {w : World} {K : PySem.W.Frag} {mg : Str → Option Value} {base : Heap} {N ps : List Str} {qual : Str} {scope : Scope} {f : Addr} {cd : Value} {A : Around} {outer : List Env} {s s1 : Shared} {H : Hp} {E : XK} {us : List Value} {vs : List V}
    (S : FnScope N ps scope) (hd : A.handled = none) (e0 : Env0 P w K mg base A outer s H) (hl : vs.length = ps.length) (r : Vals vs us)
    (x : InCallC s s.heap.objs.size (bindL (envOfC qual scope s.heap.objs.size f cd).kindOf (ps.zip us) fun _ => none) (cellsFrom (s.heap.objs.size + 1) scope.names []) (bindC (envOfC qual scope s.heap.objs.size f cd).kindOf (ps.zip us) fun _ => none) s1) :
    Inv (cxOf CX P w K mg base N qual scope f cd A outer s H E) [] (start N vs) H s1 := by
  have hpl : ps.length ≤ N.length := by have := congrArg List.length S.pre; rw [List.length_take] at this; omega
  obtain ⟨h1, tk, rfl, hk⟩ := x.done
  have noA : ∀ b : Addr, b ∉ (cxOf CX P w K mg base N qual scope f cd A outer s H E).ex := fun b z => absurd (show b ∈ ([] : List Addr) from z) (by simp)
  refine ⟨⟨e0.mod, S.kind, rfl, rfl, Nat.le_refl _, fun y z c h1 h2 => ?_, fun y hy => ?_, fun y c _ h => ?_, fun _ => hd, Around.frames_deeper e0.frames, .inr ⟨rfl, rfl⟩, fun b z => absurd z (noA b), e0.bs, e0.bsz, fun b _ _ => noA b, fun b z => absurd z (noA b), e0.funs, e0.frf⟩,
    rfl, e0.bare, Un.kept hk, ⟨_, x.toInCall.ns, fun i y v h1 h2 h3 => ?_⟩, fun y c h => ⟨_, x.cell y c h⟩, e0.hok.fresh (Nat.le_refl _), fun y c h => ?_, fun p hp => absurd (show p ∈ ([] : List (Addr × Obj)) from hp) (by simp), e0.hok.kept hk, ?_⟩
  · exact name_of_addr x.apart (PySem.mem_of_lookup h1) (PySem.mem_of_lookup h2)
  · have hy : scope.names.lookup y = some .cell ∨ scope.names.lookup y = some .free := hy
    rcases hy with hy | hy
    · exact cell_has hy
    · exact absurd rfl (S.nofree _ (PySem.mem_of_lookup hy))
  · exact Nat.le_of_lt (x.above y c (PySem.mem_of_lookup h))
  · have hi : i < vs.length := by
      unfold start at h2
      by_cases hi : i < vs.length
      · exact hi
      · rw [List.getElem?_append_right (by simpa using hi)] at h2
        rw [List.getElem?_replicate] at h2
        split at h2 <;> cases h2
    have ha : vs[i]? = some v := by
      unfold start at h2
      rw [List.getElem?_append_left (by simpa using hi), List.getElem?_map] at h2
      cases e : vs[i]? with
      | none => rw [e] at h2; cases h2
      | some a => rw [e] at h2; cases h2; rfl
    obtain ⟨u, hu, rv⟩ := r.get ha
    have hp : ps[i]? = some y := by
      rw [← S.pre, List.getElem?_take_of_lt (by omega)]; exact h1
    have ndP : ps.Nodup := by rw [← S.pre]; exact S.nd.sublist (List.take_sublist _ _)
    refine ⟨u, rv, ?_⟩
    rcases S.par y (List.mem_of_getElem? hp) with k | k
    · exact .inl ⟨k, bindL_get ndP hp hu k⟩
    · obtain ⟨c, e⟩ := cell_has (n := s.heap.objs.size + 1) k
      refine .inr ⟨.inl k, c, e, ?_⟩
      have q := x.cell y c e
      rw [bindC_get ndP hp hu (by show scope.names.lookup y ≠ _; rw [k]; decide)] at q
      exact q
  · exact e0.hok.fresh (Nat.le_of_lt (x.above y c (PySem.mem_of_lookup h)))
  · unfold start
    show _ = N.length
    rw [List.length_append, List.length_map, List.length_replicate]
    omega
/-- THE RULE: a def (or a method) of the text, by its body. The body's reading t is chosen for each entry; it is run at the parameters' values -/
theorem fn_of {CX : CXT} {P : Program} {w : World} {K : PySem.W.Frag} {mg : Str → Option Value} {base : Heap} {k : Nat} {f : Addr} {name qual : Str} {params : Arguments} {body : List Stmt} {scope : Scope} {dV kV doc pm cdv ct oc : Value} {an od : Option Addr}
    {osl : Array (Option Value)} {N ps : List Str} {sp : Sp} (lk : K.lookup f = some ⟨oc, od, .func (PySem.W.fnOf name qual params body scope dV kV doc pm an cdv ct), osl⟩) (hcd : PySem.W.codeIn K cdv qual = true) (S : FnScope N ps scope)
    (len : ∀ vs H Q E, sp vs H Q E → vs.length = ps.length)
    (hbody : ∀ (A : Around) (outer : List Env) (s : Shared) (H : Hp) (vs : List V) (Q : VK) (E : XK), Room k (A.deeper (envOfC qual scope s.heap.objs.size f cdv)) → sp vs H Q E →
      ∃ t, PSs (cxOf CX P w K mg base N qual scope f cdv A outer s H E) body t ∧ t { nx := fun _ H' => Q .non H', rt := Q } (start N vs) H) :
    FnOk P w K mg base CX (k + 1) f (PySem.W.fnOf name qual params body scope dV kV doc pm an cdv ct) ps sp := by
  refine ⟨len, fun A outer s H args us vs Q E hr e0 hb r hsp => ?_⟩
  have hl := len _ _ _ _ hsp
  have KX : K.In s.heap := e0.mod.kin.keeps fun b o e => (e0.bs b o e).1
  have lim : s.heap.NoLimit := e0.mod.nolimit.keeps fun b o e => (e0.bs b o e).1
  have hkind : ∀ y ∈ ps.zip us, scope.names.lookup y.1 = some .local ∨ (scope.names.lookup y.1 = some .cell ∧ ((cellsFrom (s.heap.objs.size + 1) scope.names []).lookup y.1).isSome = true) := fun ⟨n, v⟩ hy => by
    rcases S.par n (List.of_mem_zip hy).1 with q | q
    · exact .inl q
    · exact .inr ⟨q, PySem.W.cellsFrom_some _ _ _ (.inl q)⟩
  refine codeAny_call_function hr.depth (KX _ _ lk) rfl S.co S.gen rfl (PySem.W.codeRec_of KX hcd) (hb _ _ _ _ ?_)
  refine wpAny_newFunctionEnv_cells S.kind hkind fun env he s1 x => ?_
  subst he
  refine ⟨lim.keeps x.toInCall.keep, codeAny_func ?_⟩
  obtain ⟨t, ht, hq⟩ := hbody A outer s H vs Q E (hr.deeper _) hsp
  have I : Inv (cxOf CX P w K mg base N qual scope f cdv A outer s H E) [] (start N vs) H s1 := inv_start S hr.hd e0 hl r x
  refine wpAny_mono (ht [] s1 (start N vs) H _ I hq) (fun fl s' hs => ?_) fun e s' hs => hs
  have fin : ∀ {σ' : St} {H' : Hp} {v : V} {u : Value}, Inv (cxOf CX P w K mg base N qual scope f cdv A outer s H E) [] σ' H' s' → RelV v u → Q v H' → CE outer P w H s Q u s' :=
    fun {σ' H' v u} J rv q => ⟨v, H', J.os, J.bare, J.base, J.hok, rv, q⟩
  cases fl with
  | ret u =>
    obtain ⟨v, σ', H', J, rv, q⟩ := hs
    exact fin J rv q
  | next =>
    obtain ⟨σ', H', J, q⟩ := hs
    exact fin (v := V.non) (u := Value.none) J rfl q
  | brk =>
    obtain ⟨_, _, _, q⟩ := hs
    exact False.elim q
  | cont =>
    obtain ⟨_, _, _, q⟩ := hs
    exact False.elim q
end L2
namespace L2
open PySem PySem.Spec PyProof.Rows
section
variable {X : Cx} {x : Str} {p pos : Pos} {e : Expr} {es : List Expr} {t : TA} {id T : String} {r : List V → Hp → VK → Prop}
def tCB (r : List V → Hp → VK → Prop) (t : TA) : TE := fun σ H Q => t σ H fun vs H1 => r vs H1 Q
/-- T(e, ..), T a built-in type -/
theorem pe_callTy (hc : CallR X (.type T) r) (hg : Gl X x) (hm : X.mg x = none) (hv : bootBuiltins x = some (.type T)) (ha : PA X (e :: es) t) (hn : x ≠ "__name__" := by decide) (hdb : (x == ("__debug__" : Str)) = false := by decide)
    (he : starEach (e :: es) X.env = (false, eval e X.env) :: starEach es X.env := by rfl) (hpl : (backTo pos (starEach es X.env)).any (·.1) = false := by rfl) : PE X (.Call (.Name x p) (e :: es) [] pos) (tCB r t) := by
  intro pins s σ H Q I h
  refine wpAny_Call_Name_kw (ld_blt I hg hm hv ?_ hn hdb)
  exact PyProof.Rows.callWith_type1 (thn (ha pos pins s σ H _ I h) fun us s1 ⟨vs, H1, I1, r1, q1⟩ => hc pins s1 σ H1 vs us Q I1 r1 q1) he hpl
end
end L2
namespace HT
open PySem PyProof.Rows
section
open PySem.SeqAt
open PySem.AutoSeq1 (wpAny_loadPart')
open PySem.MeetsSeq PySem.MeetsSeq2 PySem.MeetsSeq3
end
section
variable {prog : Program} {w : World} {A : Around} {E : Value → Shared → Prop} {s : Shared}
/-- a slice's bound as a place among n (d where it is left out) -/
def sIx (n d : Nat) : Option Int → Nat
  | none => d
  | some v => if v < 0 then (v + (n : Int)).toNat else min v.toNat n
theorem sIx_none (n d : Nat) : sIx n d none = d := rfl
theorem sIx_nat (n d k : Nat) : sIx n d (some (k : Int)) = min k n := by
  show (if (k : Int) < 0 then ((k : Int) + (n : Int)).toNat else min (k : Int).toNat n) = min k n
  rw [if_neg (by omega), Int.toNat_natCast]
end
end HT
namespace L2
open PySem PySem.Spec PyProof.Rows
abbrev TO := St → Hp → (Option Int → Hp → Prop) → Prop
/-- a slice's part (left out, or an int) -/
def PO (X : Cx) (e : Option Expr) (t : TO) : Prop :=
  ∀ (pins : List (Addr × Obj)) (s : Shared) (σ : St) (H : Hp) (Q : Option Int → Hp → Prop), Inv X pins σ H s → t σ H Q →
    wpAny (model X.prog X.w) X.A (evalPart e X.env) (fun u s' => ∃ o H', Inv X pins σ H' s' ∧ IsPart u o ∧ Q o H') X.xe s
def tNoPart : TO := fun _ H Q => Q none H
def tPart (t : TE) : TO := fun σ H Q => t σ H fun x H1 => ∃ i, x = .int i ∧ Q (some i) H1
section
variable {X : Cx} {e : Expr} {te : TE} {lo hi : Option Expr} {tl th : TO} {pos p2 : Pos}
theorem po_none : PO X none tNoPart := by
  intro pins s σ H Q I h
  rw [evalPart_none]
  exact wpAny_pure ⟨none, H, I, .none, h⟩
theorem po_some (h : PE X e te) : PO X (some e) (tPart te) := by
  intro pins s σ H Q I hw
  rw [evalPart_some]
  refine thn (h pins s σ H _ I hw) fun u s1 ⟨x, H1, I1, r1, q1⟩ => ?_
  obtain ⟨i, rfl, q⟩ := q1
  obtain ⟨t, rfl⟩ := r1
  exact ⟨some i, H1, I1, .int i t, q⟩
/-- what a slice of a value is, by values: the slice object stands at sl -/
def SlR (X : Cx) (r : V → Option Int → Option Int → Hp → VK → Prop) : Prop :=
  ∀ (pins : List (Addr × Obj)) (s : Shared) (σ : St) (H : Hp) (x : V) (v vl vu : Value) (lo hi : Option Int) (sl : Addr) (Q : VK), Inv X pins σ H s → RelV x v → s.heap.IsSliceOf sl vl vu .none → IsPart vl lo → IsPart vu hi → r x lo hi H Q →
    ∃ T id, typeLookup (.type T) "__getitem__" = pure (some (.builtin id)) ∧ s.TypeIs v T ∧ wpAny (model X.prog X.w) X.A (getItem v (.ref sl)) (EP X pins σ Q) X.xe s
theorem SlR.or {r r' : V → Option Int → Option Int → Hp → VK → Prop} (h : SlR X r) (h' : SlR X r') : SlR X (fun x lo hi H Q => r x lo hi H Q ∨ r' x lo hi H Q) := by
  intro pins s σ H x v vl vu lo hi sl Q I rx hs pl pu q
  rcases q with q | q
  · exact h pins s σ H x v vl vu lo hi sl Q I rx hs pl pu q
  · exact h' pins s σ H x v vl vu lo hi sl Q I rx hs pl pu q
def tSl (r : V → Option Int → Option Int → Hp → VK → Prop) (te : TE) (tl th : TO) : TE := fun σ H Q => te σ H fun x H1 => tl σ H1 fun l H2 => th σ H2 fun u H3 => r x l u H3 Q
/-- a[lo:hi], any a -/
theorem pe_slice {r : V → Option Int → Option Int → Hp → VK → Prop} (hr : SlR X r) (he : PE X e te) (hl : PO X lo tl) (hu : PO X hi th) : PE X (.Subscript e (.Slice lo hi none p2) pos) (tSl r te tl th) := by
  intro pins s σ H Q I h
  refine Subscript_ (thn (he pins s σ H _ I h) fun v s1 ⟨x, H1, I1, r1, q1⟩ => ?_)
  refine wpAny_Slice (thn (hl pins s1 σ H1 _ I1 q1) fun vl s2 ⟨l, H2, I2, pl, q2⟩ => thn (hu pins s2 σ H2 _ I2 q2) fun vu s3 ⟨u, H3, I3, pu, q3⟩ => ?_)
  rw [evalPart_none]
  refine wpAny_pure ?_
  have I4 : Inv X pins σ H3 { s3 with heap := s3.heap.push { cls := .type "slice", data := .fields #[vl, vu, .none] } } := I3.kept (t' := s3.toks) fun b ob q => Heap.get?_push_of_some _ q
  obtain ⟨T, id, hT, ht, hg⟩ := hr pins { s3 with heap := s3.heap.push { cls := .type "slice", data := .fields #[vl, vu, .none] } } σ H3 x v vl vu l u s3.heap.objs.size Q I4 r1 (Heap.IsSliceOf.new ..) pl pu q3
  show wpAny (model X.prog X.w) X.A (subscriptTail e (.Slice lo hi none p2) v (.ref s3.heap.objs.size)) (EP X pins σ Q) X.xe { s3 with heap := s3.heap.push { cls := .type "slice", data := .fields #[vl, vu, .none] } }
  exact tail_any (ops := [.ref s3.heap.objs.size, v]) ht hT hg (by with_unfolding_all rfl)
/-- the items of xs[lo:hi] -/
def cutV (xs : List V) (lo hi : Option Int) : List V := (xs.drop (HT.sIx xs.length 0 lo)).take (HT.sIx xs.length xs.length hi - HT.sIx xs.length 0 lo)
theorem cutV_length (xs : List V) (lo hi : Option Int) : (cutV xs lo hi).length ≤ xs.length := by
  unfold cutV
  rw [List.length_take, List.length_drop]
  omega
end
end L2
namespace L2
open PySem PySem.Spec PyProof.Rows
/-- the place that an index of any sign means -/
def ixN (n : Nat) (i : Int) : Option Nat := if 0 ≤ i then (if i < n then some i.toNat else none) else if -(n : Int) ≤ i then some (i + n).toNat else none
def atI {α : Type} (xs : List α) (i : Int) : Option α := (ixN xs.length i).bind fun j => xs[j]?
theorem ixN_seq {n : Nat} {i : Int} {j : Nat} (h : ixN n i = some j) : seqIndex? i n = some j ∧ j < n ∧ -(n : Int) ≤ i ∧ i < n := by
  unfold ixN at h
  by_cases h0 : 0 ≤ i
  · rw [if_pos h0] at h
    by_cases h1 : i < n
    · rw [if_pos h1] at h
      have e : i.toNat = j := Option.some.inj h
      exact ⟨by rw [seqIndex_of h0 h1, e], by omega, by omega, h1⟩
    · rw [if_neg h1] at h; cases h
  · rw [if_neg h0] at h
    by_cases h1 : -(n : Int) ≤ i
    · rw [if_pos h1] at h
      have e : (i + n).toNat = j := Option.some.inj h
      exact ⟨by rw [seqIndex_neg (by omega) h1, e], by omega, h1, by omega⟩
    · rw [if_neg h1] at h; cases h
theorem atI_get {α : Type} {xs : List α} {i : Int} {v : α} (h : atI xs i = some v) : ∃ j, seqIndex? i xs.length = some j ∧ xs[j]? = some v ∧ j < xs.length ∧ -(xs.length : Int) ≤ i ∧ i < xs.length := by
  unfold atI at h
  cases e : ixN xs.length i with
  | none => rw [e] at h; cases h
  | some j =>
    rw [e] at h
    obtain ⟨h1, h2, h3, h4⟩ := ixN_seq e
    exact ⟨j, h1, h, h2, h3, h4⟩
theorem atI_nat {α : Type} {xs : List α} {j : Nat} {v : α} (h : xs[j]? = some v) : atI xs (j : Int) = some v := by
  have hj : j < xs.length := (List.getElem?_eq_some_iff.mp h).1
  have e : ixN xs.length (j : Int) = some j := by
    unfold ixN
    rw [if_pos (by omega), if_pos (by omega)]; simp
  unfold atI; rw [e]; exact h
/-- what stands as an index of a plain subscript -/
def PlainIx (b : Expr) : Prop := ∀ o i, subscripted b false o i = operate [o, i] (getItem o i)
/-- a subscript by values -/
def IxR (X : Cx) (r : R2) : Prop :=
  ∀ (value slice : Expr) (pins : List (Addr × Obj)) (s : Shared) (σ : St) (H : Hp) (x y : V) (v u : Value) (Q : VK), Inv X pins σ H s → RelV x v → RelV y u → r x y H Q →
    subscripted slice false v u = operate [v, u] (getItem v u) → wpAny (model X.prog X.w) X.A (subscriptTail value slice v u) (EP X pins σ Q) X.xe s
/-- a call of a builtin's method by values: the receiver, the arguments -/
def MtR (X : Cx) (id : String) (r : V → List V → Hp → VK → Prop) : Prop :=
  ∀ (pins : List (Addr × Obj)) (s : Shared) (σ : St) (H : Hp) (x : V) (xs : List V) (v : Value) (us : List Value) (Q : VK), Inv X pins σ H s → RelV x v → Vals xs us → r x xs H Q →
    wpAny (model X.prog X.w) X.A (call (.builtin id) (v :: us)) (EP X pins σ Q) X.xe s
section
variable {X : Cx} {a b : Expr} {ta tb : TE} {pos : Pos}
theorem IxR.or {r r' : R2} (h : IxR X r) (h' : IxR X r') : IxR X (fun x y H Q => r x y H Q ∨ r' x y H Q) := by
  intro value slice pins s σ H x y v u Q I rx ry q hs
  rcases q with q | q
  · exact h value slice pins s σ H x y v u Q I rx ry q hs
  · exact h' value slice pins s σ H x y v u Q I rx ry q hs
theorem MtR.or {id : String} {r r' : V → List V → Hp → VK → Prop} (h : MtR X id r) (h' : MtR X id r') : MtR X id (fun x xs H Q => r x xs H Q ∨ r' x xs H Q) := by
  intro pins s σ H x xs v us Q I rx rs q
  rcases q with q | q
  · exact h pins s σ H x xs v us Q I rx rs q
  · exact h' pins s σ H x xs v us Q I rx rs q
/-- a[b] -/
theorem pe_ix {r : R2} (hr : IxR X r) (ha : PE X a ta) (hb : PE X b tb) (hs : PlainIx b) : PE X (.Subscript a b pos) (tOp r ta tb) := by
  intro pins s σ H Q I h
  exact Subscript_ (binT ha hb I h fun v u s2 x y H2 I2 rx ry q => hr a b pins s2 σ H2 x y v u Q I2 rx ry q (hs _ _))
def rIxL (K : PySem.W.Frag) : R2 := fun x y H Q => ∃ p xs i v, x = .ref p ∧ y = .int i ∧ SqL K H p xs ∧ atI xs i = some v ∧ Q v H
def rIxT (K : PySem.W.Frag) : R2 := fun x y H Q => ∃ p xs i v, x = .ref p ∧ y = .int i ∧ SqT K H p xs ∧ atI xs i = some v ∧ Q v H
def rIxS : R2 := fun x y H Q => ∃ z i c, x = .str z ∧ y = .int i ∧ z.length ≤ sizeLine ∧ atI z.cps.toList i = some c ∧ Q (.str ⟨#[c]⟩) H
theorem ix_list : IxR X (rIxL X.K) := by
  intro value slice pins s σ H x y v u Q I rx ry h hs
  obtain ⟨p, xs, i, z, rfl, rfl, hq, he, q⟩ := h
  cases rx
  obtain ⟨t, rfl⟩ := ry
  obtain ⟨its, r, pl, hz⟩ := I.list hq
  obtain ⟨j, h1, h2, h3, h4, h5⟩ := atI_get he
  obtain ⟨w, ew, rw'⟩ := r.get h2
  have hl := r.length
  have hn := line63
  have fin : EP X pins σ Q w s := ⟨z, H, I, rw', q⟩
  by_cases h0 : 0 ≤ i
  · have hj : i.toNat = j := by
      rw [seqIndex_of h0 h5] at h1
      exact Option.some.inj h1
    exact item_listR pl.isList h0 (by omega) (by rw [hj]; simpa using ew) fin hs
  · have hj : (i + (its.toArray.size : Int)).toNat = j := by
      rw [seqIndex_neg (by omega) h4] at h1
      rw [List.size_toArray, ← hl]
      exact Option.some.inj h1
    exact subscriptTail_builtinR (x := w) pl.isList.typeIs slot_list_getitem.lookup
      (wpAny_getItem_list_neg (Q := fun r s' => r = w ∧ EP X pins σ Q r s') pl.isList (by omega) (by rw [List.size_toArray] <;> omega) (by omega) (by rw [hj]; simpa using ew) ⟨rfl, fin⟩) hs
theorem ix_tup : IxR X (rIxT X.K) := by
  intro value slice pins s σ H x y v u Q I rx ry h hs
  obtain ⟨p, xs, i, z, rfl, rfl, hq, he, q⟩ := h
  cases rx
  obtain ⟨t, rfl⟩ := ry
  obtain ⟨its, r, pl, hz⟩ := I.tuple hq
  obtain ⟨j, h1, h2, h3, h4, h5⟩ := atI_get he
  obtain ⟨w, ew, rw'⟩ := r.get h2
  have hl := r.length
  have hn := line63
  have fin : EP X pins σ Q w s := ⟨z, H, I, rw', q⟩
  exact subscriptTail_builtinR (x := w) pl.typeIs slot_tuple_getitem.lookup
    (getItem_tuple (j := j) (Q := fun r s' => r = w ∧ EP X pins σ Q r s') pl (by omega) (by omega) (by rw [List.size_toArray, ← hl]; exact h1) (by simpa using ew) ⟨rfl, fin⟩) hs
theorem ix_str : IxR X rIxS := by
  intro value slice pins s σ H x y v u Q I rx ry h hs
  obtain ⟨z, i, c, rfl, rfl, hz, he, q⟩ := h
  obtain ⟨t, rfl⟩ := rx
  obtain ⟨t', rfl⟩ := ry
  obtain ⟨j, h1, h2, h3, h4, h5⟩ := atI_get he
  have hl : z.cps.toList.length = z.length := by simp [Str.length]
  rw [hl] at h1 h4 h5
  have hn := line63
  exact tail_any (typeIs_str s z t) slot_str_getitem.lookup (getItem_str (c := c) (by
    have e1 : decide (i < -(2 ^ 63 : Int)) = false := decide_eq_false (by omega)
    have e2 : decide (i ≥ 2 ^ 63) = false := decide_eq_false (by omega)
    rw [e1, e2, Bool.or_false]) (by rw [h1]; simpa using h2) ⟨.str ⟨#[c]⟩, H, I.tok _, ⟨_, rfl⟩, q⟩) hs
theorem Inv.lst {pins : List (Addr × Obj)} {σ : St} {H : Hp} {s : Shared} {p : Addr} {xs : List V} (I : Inv X pins σ H s) (h : H p = some (.lst xs)) :
    ∃ (its : List Value) (n : Nat), Vals xs its ∧ s.heap.get? p = some { cls := .type "list", data := .seq its.toArray n } ∧ xs.length ≤ sizeLine := by
  obtain ⟨z, its, n, r, e⟩ := I.hok p _ h
  exact ⟨its, n, r, e, z⟩
theorem slice_bounds (lo hi : Option Int) (n : Nat) : (sliceBounds lo hi none n).1 = ((HT.sIx n 0 lo : Nat) : Int) ∧ (sliceBounds lo hi none n).2.1 = ((HT.sIx n n hi : Nat) : Int) ∧ (sliceBounds lo hi none n).2.2 = 1 := by
  refine ⟨?_, ?_, rfl⟩
  · cases lo with
    | none => simp [sliceBounds, HT.sIx]
    | some i =>
      simp only [sliceBounds, HT.sIx, Option.getD_none, show (1 : Int) > 0 by decide, if_true]
      by_cases h : i < 0
      · simp only [h, if_true] <;> omega
      · simp only [h, if_false] <;> omega
  · cases hi with
    | none => simp [sliceBounds, HT.sIx]
    | some i =>
      simp only [sliceBounds, HT.sIx, Option.getD_none, show (1 : Int) > 0 by decide, if_true]
      by_cases h : i < 0
      · simp only [h, if_true] <;> omega
      · simp only [h, if_false] <;> omega
theorem slicePick_cut (its : List Value) (lo hi : Option Int) : slicePick its.toArray lo hi none = ((its.drop (HT.sIx its.length 0 lo)).take (HT.sIx its.length its.length hi - HT.sIx its.length 0 lo)).toArray := by
  obtain ⟨h1, h2, h3⟩ := slice_bounds lo hi its.toArray.size
  unfold slicePick
  rw [h1, h2, h3]
  simp only [sliceRange_one, pick_run, List.size_toArray] <;> rfl
/-- xs[lo:hi] of a list: a new list -/
def rSlL (K : PySem.W.Frag) : V → Option Int → Option Int → Hp → VK → Prop := fun x lo hi H Q => ∃ a xs, x = .ref a ∧ SqL K H a xs ∧ ∀ p, H p = none → Q (.ref p) (upd H p (.lst (cutV xs lo hi)))
theorem sl_list : SlR X (rSlL X.K) := by
  intro pins s σ H x v vl vu lo hi sl Q I rx hs pl pu h
  obtain ⟨a, xs, rfl, hx, q⟩ := h
  cases rx
  obtain ⟨its, r, ht, hz⟩ := I.list hx
  have hlen := r.length
  refine ⟨"list", _, slot_list_getitem.lookup, ht.isList.typeIs, ?_⟩
  refine wpAny_getItem_list_slice ht.isList hs pl pu .none (by simp) ?_ (by rw [List.size_toArray] <;> omega)
  rw [slicePick_cut, ← hlen]
  refine ⟨.ref s.heap.objs.size, _, I.laid (t' := s.toks) (o := .lst (cutV xs lo hi)) (fun b ob q => Heap.get?_push_of_some _ q) (Nat.le_refl _) ?_, rfl, q _ (I.hok.fresh (Nat.le_refl _))⟩
  exact ⟨Nat.le_trans (cutV_length xs lo hi) hz, _, 0, (r.drop (HT.sIx xs.length 0 lo)).take (HT.sIx xs.length xs.length hi - HT.sIx xs.length 0 lo), Heap.get?_push_size _ rfl⟩
theorem CallR.or {f : Value} {r r' : List V → Hp → VK → Prop} (h : CallR X f r) (h' : CallR X f r') : CallR X f (fun xs H Q => r xs H Q ∨ r' xs H Q) := by
  intro pins s σ H xs us Q I rs q
  rcases q with q | q
  · exact h pins s σ H xs us Q I rs q
  · exact h' pins s σ H xs us Q I rs q
theorem call_list_of : CallR X (.type "list") (fun xs H Q => ∃ p ys, xs = [.ref p] ∧ (SqL X.K H p ys ∨ SqT X.K H p ys) ∧ ∀ l, H l = none → Q (.ref l) (upd H l (.lst ys))) := by
  intro pins s σ H xs us Q I r h
  obtain ⟨p, ys, rfl, hq, q⟩ := h
  obtain ⟨u, rfl, rx⟩ := vals1 r
  cases rx
  have fin : ∀ (its : List Value), Vals ys its → ys.length ≤ sizeLine → ∀ (h' : Heap) (c' : Nat), (∀ b o', s.heap.get? b = some o' → h'.get? b = some o') →
      h'.get? s.heap.objs.size = some { cls := .type "list", dict := none, data := .seq its.toArray c', slots := #[] } → EP X pins σ Q (.ref s.heap.objs.size) { s with heap := h' } := fun its r' hz h' c' kp e =>
    ⟨.ref s.heap.objs.size, _, I.laid (t' := s.toks) kp (Nat.le_refl _) (show ObjOk X.prog X.w _ h' _ (.lst ys) from ⟨hz, its, c', r', e⟩), rfl, q _ (I.hok.fresh (Nat.le_refl _))⟩
  rcases hq with hq | hq
  · obtain ⟨its, r', pl, hz⟩ := I.list hq
    have hlen := r'.length
    obtain ⟨o, ho, hc, n, hd⟩ := pl.isList
    exact call_list_seq p (.inl rfl) ho hc hd (fun h' c' kp e => fin its r' hz h' c' kp e) (by simp only [List.size_toArray] <;> omega)
  · obtain ⟨its, r', pl, hz⟩ := I.tuple hq
    have hlen := r'.length
    obtain ⟨o, ho, hc, n, hd⟩ := pl
    exact call_list_seq p (.inr rfl) ho hc hd (fun h' c' kp e => fin its r' hz h' c' kp e) (by simp only [List.size_toArray] <;> omega)
/-- the value is of that builtin type -/
def tyV (K : PySem.W.Frag) (T : String) (x : V) (H : Hp) : Prop := match x with
  | .str _ => T = "str"
  | .int _ => T = "int"
  | .ref p => (T = "list" ∧ ∃ xs, SqL K H p xs) ∨ (T = "tuple" ∧ ∃ o, K.lookup p = some o ∧ o.cls = .type "tuple" ∧ o.dict = none) ∨
      (T = "dict" ∧ ((∃ kvs, H p = some (.dK kvs)) ∨ ∃ kvs, H p = some (.dT kvs))) ∨ (T = "set" ∧ ∃ S n, H p = some (.set S n))
  | _ => False
theorem tyV_is {pins : List (Addr × Obj)} {σ : St} {H : Hp} {s : Shared} {T : String} {x : V} {v : Value} (I : Inv X pins σ H s) (r : RelV x v) (ty : tyV X.K T x H) :
    s.TypeIs v T ∧ ∀ a, v = .ref a → ∃ ob, s.heap.get? a = some ob ∧ ob.dict = none := by
  cases x with
  | str z =>
    obtain ⟨t, rfl⟩ := r
    cases (show T = "str" from ty)
    exact ⟨typeIs_str s z t, fun _ e => nomatch e⟩
  | int i =>
    obtain ⟨t, rfl⟩ := r
    cases (show T = "int" from ty)
    exact ⟨typeIs_int s i t, fun _ e => nomatch e⟩
  | ref p =>
    cases r
    rcases ty with ⟨rfl, xs, hq⟩ | ⟨rfl, o, hk, hc, hd⟩ | ⟨rfl, hk⟩ | ⟨rfl, S, n, hk⟩
    · obtain ⟨its, _, pl, _⟩ := I.list hq
      refine ⟨pl.isList.typeIs, fun a e => ?_⟩
      cases e
      obtain ⟨o, n, e, c, hd, _⟩ := pl
      exact ⟨o, e, hd⟩
    · refine ⟨⟨o, I.kIn p o hk, hc⟩, fun a e => ?_⟩
      cases e
      exact ⟨o, I.kIn _ o hk, hd⟩
    · have z : ∃ o, s.heap.get? p = some o ∧ o.ExactDict := by
        rcases hk with ⟨kvs, hk⟩ | ⟨kvs, hk⟩
        · obtain ⟨_, _, _, _, o, _, _, e, ex, _⟩ := I.hok p _ hk
          exact ⟨o, e, ex⟩
        · obtain ⟨_, _, _, _, o, _, _, e, ex, _⟩ := I.hok p _ hk
          exact ⟨o, e, ex⟩
      obtain ⟨o, e, ex⟩ := z
      refine ⟨⟨o, e, ex.1⟩, fun a e2 => ?_⟩
      cases e2
      exact ⟨o, e, ex.2.1⟩
    · obtain ⟨o, _, _, _, e, ex, _⟩ := I.hok p _ hk
      refine ⟨⟨o, e, ex.1⟩, fun a e2 => ?_⟩
      cases e2
      exact ⟨o, e, ex.2.1⟩
  | _ => exact False.elim ty
def tBM0 (K : PySem.W.Frag) (T : String) (r : V → List V → Hp → VK → Prop) (to : TE) : TE := fun σ H Q => to σ H fun x H1 => tyV K T x H1 ∧ r x [] H1 Q
def tBM (K : PySem.W.Frag) (T : String) (r : V → List V → Hp → VK → Prop) (to : TE) (t : TA) : TE := fun σ H Q => to σ H fun x H1 => tyV K T x H1 ∧ t σ H1 fun xs H2 => r x xs H2 Q
variable {o e : Expr} {es : List Expr} {to : TE} {t : TA} {name : Str} {apos cpos : Pos} {T id : String} {r : V → List V → Hp → VK → Prop}
theorem pe_bm (pa : PlainAttrs T) (slot : Slot T name id) (hty : typeOf (.builtin id) = pure (.type "method_descriptor")) (hm : MtR X id r) (ho : PE X o to) (ha : PA X (e :: es) t)
    (hbase : attributeBase o name X.env (eval o X.env) = eval o X.env := by rfl)
    (hfew : ((backTo cpos (starEach (e :: es) X.env)).all (fun x => !x.1) && (backToKw cpos (keywordEach [] X.env)).all (fun x => x.1.isSome)
      && decide ((e :: es).length + ([] : List Keyword).length + (if ([] : List Keyword).isEmpty then 0 else 1) < 30)) = true := by rfl)
    (hline : (apos.endLine == cpos.line) = true := by rfl) (hs : starEach (e :: es) X.env = (false, eval e X.env) :: starEach es X.env := by rfl) (hplain : (backTo cpos (starEach es X.env)).any (·.1) = false := by rfl) :
    PE X (.Call (.Attribute o name apos) (e :: es) [] cpos) (tBM X.K T r to t) := by
  intro pins s σ H Q I h
  refine wpAny_Call_method_late hbase hfew hline rfl (thn (ho pins s σ H _ I h) fun v s1 ⟨x, H1, I1, r1, ty, q1⟩ => ?_)
  obtain ⟨h1, h2⟩ := tyV_is I1 r1 ty
  refine ⟨T, id, pa, slot, hty, h1, h2, ?_⟩
  have hA := ha cpos pins s1 σ H1 _ I1 q1
  rw [hs] at hA ⊢
  refine Calls.callWith_builtin (by show (false || (backTo cpos (starEach es X.env)).any (·.1)) = false; rw [hplain] <;> rfl) (Calls.evalArgs_plain ?_)
  exact thn hA fun us s2 ⟨vs, H2, I2, r2, q2⟩ => hm pins s2 σ H2 x vs v us Q I2 r1 r2 q2
end
end L2
namespace L2
open PySem PySem.Spec PyProof.Rows
def MtM (X : Cx) (id : String) (r : V → List V → Hp → VK → Prop) : Prop :=
  ∀ (pins : List (Addr × Obj)) (s : Shared) (σ : St) (H : Hp) (x : V) (xs : List V) (v : Value) (us : List Value) (Q : VK), Inv X pins σ H s → RelV x v → Vals xs us → r x xs H Q →
    wpAny (model X.prog X.w) X.A (call (.builtin id) (v :: us)) (EP X pins σ Q) X.xe s
theorem Vals.one : ∀ {x : V} {us : List Value}, Vals [x] us → ∃ u, us = [u] ∧ RelV x u
  | _, _, .cons r .nil => ⟨_, rfl, r⟩
theorem Vals.two : ∀ {x y : V} {us : List Value}, Vals [x, y] us → ∃ u v, us = [u, v] ∧ RelV x u ∧ RelV y v
  | _, _, _, .cons r (.cons q .nil) => ⟨_, _, rfl, r, q⟩
theorem Vals.zero : ∀ {us : List Value}, Vals [] us → us = []
  | _, .nil => rfl
theorem Vals.reverse {xs : List V} {us : List Value} (h : Vals xs us) : Vals xs.reverse us.reverse := by
  induction h with
  | nil => exact .nil
  | cons r t ih => rw [List.reverse_cons, List.reverse_cons]; exact Vals.append ih (.cons r .nil)
section
variable {X : Cx} {pins : List (Addr × Obj)} {σ : St} {H : Hp} {s : Shared} {l b : Addr} {xs ys zs : List V}
theorem Inv.lset {its its' : List Value} {n : Nat} {f : Array Value → Array Value} {t' : Nat} (I : Inv X pins σ H s) (hH : H l = some (.lst xs))
    (e : s.heap.get? l = some { cls := .type "list", data := .seq its.toArray n }) (hf : f its.toArray = its'.toArray) (hv : Vals ys its') (hz : ys.length ≤ sizeLine) :
    Inv X pins σ (upd H l (.lst ys)) { s with heap := s.heap.update l (Obj.mapSeq f), toks := t' } := by
  have q := PySem.IsL.update e f
  rw [hf] at q
  refine I.write (x := l) (e := l) (by rw [hH]; exact trivial) (.inl rfl) (fun b' u hb hu => (Heap.get?_update_other s.heap (Obj.mapSeq f) (Ne.symm hb)).trans hu) ⟨_, q⟩ ?_
  exact ⟨hz, its', _, hv, q⟩
theorem Inv.fresh (I : Inv X pins σ H s) : H s.heap.objs.size = none := I.hok.fresh (Nat.le_refl _)
theorem Inv.lstM (I : Inv X pins σ H s) (hH : H l = some (.lst xs)) : xs.length ≤ sizeLine ∧ ∃ (its : List Value) (n : Nat), Vals xs its ∧ xs.length = its.length ∧ s.heap.get? l = some { cls := .type "list", data := .seq its.toArray n } := by
  obtain ⟨z, its, n, r, e⟩ := I.hok l _ hH
  exact ⟨z, its, n, r, r.length, e⟩
end
section
variable {X : Cx}
def rAppend : V → List V → Hp → VK → Prop := fun x vs H Q => ∃ l xs y, x = .ref l ∧ vs = [y] ∧ H l = some (.lst xs) ∧ xs.length < sizeLine ∧ Q .non (upd H l (.lst (xs ++ [y])))
theorem mt_append : MtM X "list.append" rAppend := by
  intro pins s σ H x vs v us Q I rx rv h
  obtain ⟨l, xs, y, rfl, rfl, hH, hz, q⟩ := h
  cases rx
  obtain ⟨u, rfl, ru⟩ := rv.one
  obtain ⟨z, its, n, r, hl, e⟩ := I.lstM hH
  refine call_meets F.slot_list_append ⟨_, e, rfl⟩ F.entry_list_append (F.args_list_append_2 _ _) (PySem.list_append l its.toArray n u (by rw [List.size_toArray]; omega)) ⟨e, ?_⟩
  refine ⟨.non, _, I.lset (its' := its ++ [u]) hH e (by simp) (r.append (.cons ru .nil)) ?_, rfl, q⟩
  rw [List.length_append, List.length_singleton]
  omega
end
section
variable {prog : Program} {w : World} {A : Around} {E : Value → Shared → Prop} {s : Shared}
end
section
variable {X : Cx}
end
end L2
namespace Att
open PySem PySem.W PySem.Calls PyProof.Rows
theorem ints_of_wellAll {P : Params} {h : Heap} : ∀ (ns : List Int) (vs : List Value), WellAll P h vs (ns.map WData.int) → IntsAre vs ns := by
  intro ns
  induction ns with
  | nil =>
    intro vs w
    rw [List.map_nil] at w
    cases w
    exact .nil
  | cons n ns ih =>
    intro vs w
    rw [List.map_cons] at w
    cases w with
    | cons a b =>
      cases a
      exact .cons _ _ (ih _ b)
theorem script_of {l : OpenLaw} {n : Nat} (hn : l.most = some n) {P : Params} {h : Heap} {args : List WData} {vals : List Value}
    (hpre : l.row.toRowW.claim.pre args = true) (hwl : WellAll P h vals args) :
    ∃ a vs ns, vals = [Value.ref a] ∧ args = [WData.list (ns.map WData.int)] ∧ h.get? a = some { cls := .type "list", data := .seq vs.toArray } ∧ IntsAre vs ns ∧ ns.length ≤ n := by
  have hsh : WShape.hasAll [] args [.list .int] = true := (pre_splitW hpre).1
  have hc : l.pre.holds [] { args := args } = true := (pre_splitW hpre).2
  obtain ⟨d, r, rfl, h1, h2⟩ := hasAllW_cons hsh
  obtain rfl := hasAllW_nil h2
  obtain ⟨xs, rfl, h3⟩ := hasW_list h1
  obtain ⟨ns, rfl⟩ := items_int h3
  have hlen : ns.length ≤ n := by
    unfold OpenLaw.pre at hc
    have h4 : (WTm.not (.lt (.lit (.int (n : Int))) (.len (.arg 0)))).holds [] { args := [.list (ns.map .int)] } = true := by
      have h4 := (holds_andW hc).1
      rw [hn] at h4
      exact h4
    have h5 := condW_of h4 (w_not (w_lt w_lit (w_len_list (w_arg rfl))))
    rw [List.length_map] at h5
    refine Nat.le_of_not_lt fun q => ?_
    have q' : (n : Int) < ((ns.length : Nat) : Int) := by omega
    first
      | (rw [decide_eq_true q'] at h5; exact absurd h5 (by decide))
      | (simp at h5; omega)
  cases hwl with
  | cons w1 w2 =>
    cases w2
    cases w1 with
    | list ho hall => exact ⟨_, _, ns, rfl, rfl, ho, ints_of_wellAll ns _ hall, hlen⟩
theorem post_true (l : OpenLaw) (args : List WData) : l.row.toRowW.claim.post args (.bool true) args = true :=
  postW_of (r := l.row.toRowW) (X := (true == true))
    (show WShape.has [] (.bool true) .bool = true by first | rfl | decide | simp [WShape.has, WShape.arms, WShape.armsAll])
    (show (WTm.eq .res (.lit (.bool true))).value [] { args := args, res := some (.bool true), after := args } = some (.bool (true == true)) from w_eq_bool (w_res rfl) w_lit) rfl
/-- the same from a codeAny of the CALL (for a layer whose function contracts speak of calls) -/
theorem attach_call {l : OpenLaw} {n : Nat} {q : Program} {loose : List Str} {XP : (Str → Option Value) → Heap → Prop} {YP : World → Heap → Prop} {d : DefRec}
    (hn : l.most = some n) (hdf : d.params.defaults = [])
    (call : ∀ (w : World) (s₀ s₁ : Shared) (mg mb : Str → Option Value) (fa : Addr) (o : Obj) (pm cd doc : Value) (a : Addr) (vs : List Value) (ns : List Int),
      Ground q loose [] XP w s₀ mg mb s₁.heap → YP w s₁.heap →
      s₁.heap.get? fa = some o → o.data = .func (docDef d.name d.params d.body d.scope pm cd doc) → s₁.heap.CodeRec cd d.name → mg d.name = some (.ref fa) →
      s₁.heap.get? a = some { cls := .type "list", data := .seq vs.toArray } → IntsAre vs ns → ns.length ≤ n → s₁.gens = #[] →
      codeAny (model l.prog w) callerA (.call (.ref fa) ⟨[.ref a], []⟩) (fun r s' => r = .ok (.ret (.bool true)) ∧ OldK s₁.heap s'.heap ∧ s'.os = s₁.os ∧ AllBare s'.gens) s₁) :
    WalkO q loose XP YP l.row.toRowW d [] (fun f vs => PySem.call f vs) := by
  intro w s₀ s₁ mg mb G Y fa o pm cd doc dV kV ho hd hcd hD hmg hg args vals as hpre hlay hrd hwl hlo
  obtain rfl : dV = .none := Dflts.none hD hdf
  obtain rfl : kV = .none := Dflts.noKw hD
  obtain ⟨a, vs, ns, rfl, rfl, hobj, hints, hlen⟩ := script_of hn hpre hwl
  refine enter_call (codeAny_mono (call w s₀ s₁ mg mb fa o pm cd doc a vs ns G Y ho (fd_plain hd) hcd hmg hobj hints hlen hg) fun r s' hq => ?_)
  obtain ⟨rfl, h2, h3, h4⟩ := hq
  exact ⟨.inl ⟨.bool true, .bool true, [], rfl, fun _ => rfl, .bool true, post_true l _, fun _ => ⟨List.Pairwise.nil, fun _ hm => (nomatch hm)⟩⟩, h2, h3, h4⟩
section
variable {prog : Program} {w : World} {A : Around} {E : Value → Shared → Prop} {s : Shared} {K : Frag}
end
end Att
namespace L2
open PySem PySem.Spec PyProof.Rows
theorem vals_ints : ∀ {vs : List Value} {ns : List Int}, IntsAre vs ns → Vals (ns.map V.int) vs
  | _, _, .nil => .nil
  | _, _, .cons n t h => .cons ⟨t, rfl⟩ (vals_ints h)
/-- nothing is tracked but the script, known to the object (or it is an object of the module) -/
def Only (H : Hp) : Prop := ∀ b, H b = none ∨ ∃ o xs, H b = some (.frz o (.lst xs))
/-- THE HEAD: the law's promise, at the heap behind the top. F, the promise of the law's def, may use that base is part of the heap (so K.In base, base.Ns mainGlobals mg stand in Mod) -/
theorem law_call {P : Program} {w : World} {K : PySem.W.Frag} {mg mb : Str → Option Value} {CX : CXT} {k : Nat} {fa a : Addr} {fd : FuncData} {x : Str} {sp : Sp} {s₁ : Shared} {vs : List Value} {ns : List Int}
    (KX : K.In s₁.heap) (hns : s₁.heap.Ns mainGlobals mg) (hb : s₁.heap.Ns builtinsNs mb) (hbb : ∀ x : Str, x ≠ "__name__" → mb x = bootBuiltins x) (hlim : s₁.heap.NoLimit) (hg : s₁.gens = #[])
    (ha : s₁.heap.get? a = some { cls := .type "list", data := .seq vs.toArray }) (hi : IntsAre vs ns) (hl : ns.length ≤ sizeLine) (hr : Room k callerA)
    (F : ∀ base : Heap, K.In base → base.Ns mainGlobals mg → FnOk P w K mg base CX k fa fd [x] sp) (hbind : ∀ (s : Shared) (u : Value), BindsTo s fd ⟨[u], []⟩ [(x, u)])
    (hsp : ∀ H : Hp, Only H → SqL K H a (ns.map V.int) → sp [.ref a] H (fun v _ => v = .bl true) fun _ _ _ => False)
    (hCX : ∀ H e s', CX [] H s₁ (fun _ _ _ => False) e s' → False) :
    codeAny (model P w) callerA (.call (.ref fa) ⟨[.ref a], []⟩) (fun r s' => r = .ok (.ret (.bool true)) ∧ OldK s₁.heap s'.heap ∧ s'.os = s₁.os ∧ AllBare s'.gens) s₁ := by
  have rv := vals_ints hi
  have lenV := hi.length
  -- from an abstract heap in which nothing but the script may be tracked
  have core : ∀ H : Hp, Only H → SqL K H a (ns.map V.int) → HOk P w H s₁.heap → (∀ b, H b ≠ none → b = a) → (H a ≠ none → K.lookup a = none) →
      codeAny (model P w) callerA (.call (.ref fa) ⟨[.ref a], []⟩) (fun r s' => r = .ok (.ret (.bool true)) ∧ OldK s₁.heap s'.heap ∧ s'.os = s₁.os ∧ AllBare s'.gens) s₁ := by
    intro H hO hS hok hA hK
    have base_of : ∀ {b : Addr} {o : Obj}, s₁.heap.get? b = some o → H b = none → (hidT s₁.heap H).get? b = some o := fun e n => hidT_get e n
    have noA : ∀ {b : Addr} {o : Obj} {es : Array DictEntry} {ep : Nat}, s₁.heap.get? b = some o → o.data = .dict es ep → H b = none := fun {b o es ep} e d => by
      cases q : H b with
      | none => rfl
      | some u =>
        have e' : b = a := hA b (by rw [q]; simp)
        subst e'
        rw [ha] at e; cases e
        have d' : Data.seq vs.toArray _ = Data.dict es ep := d
        cases d'
    have nsK : ∀ {b : Addr} {m : Str → Option Value}, s₁.heap.Ns b m → (hidT s₁.heap H).Ns b m := fun {b m} ⟨o, es, ep, e, d, r⟩ => ⟨o, es, ep, base_of e (noA e d), d, r⟩
    have hKb : K.In (hidT s₁.heap H) := fun b o e => base_of (KX b o e) (by
      cases q : H b with
      | none => rfl
      | some u =>
        have e' : b = a := hA b (by rw [q]; simp)
        subst e'
        rw [hK (by rw [q]; simp)] at e; cases e)
    have hM : Mod K mg (hidT s₁.heap H) := ⟨hKb, nsK hns, ⟨mb, nsK hb, hbb⟩, let ⟨mc, h1, h2⟩ := hlim; ⟨mc, nsK h1, h2⟩⟩
    have e0 : Env0 P w K mg (hidT s₁.heap H) callerA [] s₁ H := ⟨rfl, hM, fun b o e => of_hidT e, Nat.le_of_eq (hidT_size _ _), trivial, fun b hb => absurd (show b ∈ ([] : List Addr) from hb) (by simp), hok, .of_eq hg⟩
    refine codeAny_mono ((F _ hKb (nsK hns)).run callerA [] s₁ H ⟨[.ref a], []⟩ [.ref a] [.ref a] _ _ hr e0 (hbind s₁ (.ref a)) (.cons rfl .nil) (hsp H hO hS)) fun r s' h => ?_
    cases r with
    | error e => exact (hCX H e s' h).elim
    | ok fl =>
      cases fl with
      | next => exact False.elim h
      | brk => exact False.elim h
      | cont => exact False.elim h
      | ret u =>
        obtain ⟨v, H', os, bare, un, hok', r', q⟩ := h
        have q' : v = .bl true := q
        subst q'
        obtain rfl : u = Value.bool true := r'
        refine ⟨rfl, OldK.of_keep fun b o e => ?_, os, bare⟩
        cases q : H b with
        | none => exact un.keep b o e q (by intro z; exact absurd (show b ∈ ([] : List Addr) from z) (by simp)) (by simp)
        | some u =>
          rcases hO b with z | ⟨ob, xs, z⟩
          · rw [q] at z; cases z
          · have z2 := un.frzs b ob _ z
            obtain ⟨e1, _⟩ := hok b _ z
            obtain ⟨e2, _⟩ := hok' b _ z2
            rw [e] at e1; cases e1
            exact e2
  cases hk : K.lookup a with
  | some o =>
    -- the script is one of the module's own objects
    have e := KX a o hk
    rw [ha] at e
    cases e
    refine core (fun _ => none) (fun _ => .inl rfl) (.inr ⟨_, vs.toArray, _, hk, rfl, rfl, rfl, by rw [List.size_toArray, lenV]; exact hl, by simpa using rv⟩) (fun b u z => by have z' : (none : Option HO) = some u := z; cases z') (fun b z => absurd rfl z) fun z => absurd rfl z
  | none =>
    refine core (fun b => if b = a then some (.frz { cls := .type "list", data := .seq vs.toArray } (.lst (ns.map V.int))) else none) (fun b => ?_) (.inl (.inr ⟨{ cls := .type "list", data := .seq vs.toArray }, if_pos rfl⟩)) (fun b u z => ?_) (fun b z => ?_) fun _ => hk
    · by_cases hb : b = a
      · exact .inr ⟨_, _, if_pos hb⟩
      · exact .inl (if_neg hb)
    · by_cases hb : b = a
      · have z' := (if_pos hb).symm.trans z
        cases z'
        subst hb
        exact ⟨ha, by rw [List.length_map]; exact hl, vs, _, rv, ha⟩
      · have z' := (if_neg hb).symm.trans z
        cases z'
    · by_cases hb : b = a
      · exact hb
      · exact absurd (if_neg hb) z
end L2
namespace L2
open PySem PySem.Spec PyProof.Rows
/-- the goal that k_head leaves (case hc), from the law's promise. F gives the function object fd (K's own) once, then the promise over every base -/
theorem walk_of {l : PySem.W.OpenLaw} {n k : Nat} {q : Program} {loose : List Str} {XP : (Str → Option Value) → Heap → Prop} {YP : World → Heap → Prop} {d : DefRec} {K : Params → PySem.W.Frag} {CX : World → CXT} {sp : World → Sp} {x : Str}
    (hn : l.most = some n) (hn2 : n ≤ sizeLine) (hdf : d.params.defaults = []) (hr : Room k callerA)
    (hY : ∀ (w : World) (h : Heap), YP w h → (K w.params).In h)
    (F : ∀ (w : World) (mg : Str → Option Value) (fa : Addr) (h : Heap), (K w.params).In h → h.Ns mainGlobals mg → mg d.name = some (.ref fa) →
      ∃ fd : FuncData, (∀ (s : Shared) (u : Value), BindsTo s fd ⟨[u], []⟩ [(x, u)]) ∧
        ∀ base : Heap, (K w.params).In base → base.Ns mainGlobals mg → FnOk l.prog w (K w.params) mg base (CX w) k fa fd [x] (sp w))
    (hsp : ∀ (w : World) (H : Hp) (a : Addr) (ns : List Int), ns.length ≤ n → Only H → SqL (K w.params) H a (ns.map V.int) → sp w [.ref a] H (fun v _ => v = .bl true) fun _ _ _ => False)
    (hCX : ∀ (w : World) (H : Hp) (s : Shared) (e : Value) (s' : Shared), CX w [] H s (fun _ _ _ => False) e s' → False) :
    PySem.W.WalkO q loose XP YP l.row.toRowW d [] (fun f vs => PySem.call f vs) := by
  refine Att.attach_call hn hdf fun w s₀ s₁ mg mb fa o pm cd doc a vs ns G Y ho hd hcd hmg hobj hints hlen hg => ?_
  have KX := hY w _ Y
  obtain ⟨fd, hb, hF⟩ := F w mg fa _ KX G.T.g hmg
  exact law_call KX G.T.g G.T.b G.T.builtins G.T.nolimit hg hobj hints (Nat.le_trans hlen hn2) hr hF hb (fun H hO hS => hsp w H a ns hlen hO hS) fun H e s' => hCX w H s₁ e s'
end L2
namespace L2
open PySem PySem.Spec PyProof.Rows
def defArgs (s : Stmt) : Arguments := match s with
  | .FunctionDef _ a _ _ _ _ _ _ _ _ => a
  | _ => { posonlyargs := [], args := [], vararg := none, kwonlyargs := [], kw_defaults := [], kwarg := none, defaults := [] }
def defBody (s : Stmt) : List Stmt := match s with
  | .FunctionDef _ _ b _ _ _ _ _ _ _ => b
  | _ => []
def defScope (s : Stmt) : Scope := match s with
  | .FunctionDef _ _ _ _ _ _ sc _ _ _ => sc
  | _ => { kind := .function, names := [], isGenerator := false, isCoroutine := false }
abbrev CX0 : CXT := fun _ _ _ _ _ _ => False
abbrev E0 : XK := fun _ _ _ => False
theorem pass0 {X : Cx} : Passes CX0 X E0 := fun _ _ _ _ _ _ _ h => h.elim
structure Fun (K : PySem.W.Frag) (x qual : Str) (st : Stmt) (f : Addr) (fd : FuncData) : Prop where
  ex : ∃ (oc : Value) (od : Option Addr) (kV doc pm : Value) (an : Option Addr) (cdv ct : Value) (osl : Array (Option Value)),
    fd = PySem.W.fnOf x qual (defArgs st) (defBody st) (defScope st) .none kV doc pm an cdv ct ∧ K.lookup f = some ⟨oc, od, .func fd, osl⟩ ∧ PySem.W.codeIn K cdv qual = true
  kp : PySem.W.keepIn K (.ref f) = true
section
variable {P : Program} {w : World} {K : PySem.W.Frag} {mg : Str → Option Value} {base : Heap}
/-- THE RULE for a def: its body as a term of rules, and the reading of that term -/
theorem Fun.ok {x qual : Str} {st : Stmt} {f : Addr} {fd : FuncData} {N ps : List Str} {k : Nat} {sp : Sp} (F : Fun K x qual st f fd) (S : FnScope N ps (defScope st)) (len : ∀ vs H Q E, sp vs H Q E → vs.length = ps.length)
    (hbody : ∀ (cdv : Value) (A : Around) (outer : List Env) (s : Shared) (H : Hp) (vs : List V) (Q : VK) (E : XK), Room k (A.deeper (envOfC qual (defScope st) s.heap.objs.size f cdv)) → sp vs H Q E →
      ∃ t, PSs (cxOf CX0 P w K mg base N qual (defScope st) f cdv A outer s H E).nox (defBody st) t ∧ t { nx := fun _ H' => Q .non H', rt := Q } (start N vs) H) : FnOk P w K mg base CX0 (k + 1) f fd ps sp := by
  obtain ⟨oc, od, kV, doc, pm, an, cdv, ct, osl, rfl, lk, hcd⟩ := F.ex
  refine fn_of lk hcd S len fun A outer s H vs Q E hr hsp => ?_
  obtain ⟨t, h, q⟩ := hbody cdv A outer s H vs Q E hr hsp
  exact ⟨t, h.nox, q⟩
/-- how its arguments bind (no defaults): h is «fun _ _ _ _ _ _ us hl => match us, hl with | [_, _], _ => rfl», one _ a parameter -/
theorem Fun.binds {x qual : Str} {st : Stmt} {f : Addr} {fd : FuncData} {ps : List Str} (F : Fun K x qual st f fd)
    (h : ∀ (kV doc pm : Value) (an : Option Addr) (cdv ct : Value) (us : List Value), us.length = ps.length → bindArgs (PySem.W.fnOf x qual (defArgs st) (defBody st) (defScope st) .none kV doc pm an cdv ct) ⟨us, []⟩ = pure (ps.zip us)) : Binds K fd ps [] := by
  obtain ⟨oc, od, kV, doc, pm, an, cdv, ct, osl, rfl, lk, hcd⟩ := F.ex
  exact .all (h kV doc pm an cdv ct)
theorem fun_mk {x qual : Str} {st : Stmt} {f : Addr} {oc : Value} {od an : Option Addr} {osl : Array (Option Value)} {kV doc pm cdv ct : Value} (l : K.lookup f = some ⟨oc, od, .func (PySem.W.fnOf x qual (defArgs st) (defBody st) (defScope st) .none kV doc pm an cdv ct), osl⟩)
    (c : PySem.W.codeIn K cdv qual = true) (k : PySem.W.keepIn K (.ref f) = true) : Fun K x qual st f (PySem.W.fnOf x qual (defArgs st) (defBody st) (defScope st) .none kV doc pm an cdv ct) := ⟨⟨oc, od, kV, doc, pm, an, cdv, ct, osl, rfl, l, c⟩, k⟩
end
section
variable {X : Cx}
theorem pv (i : Nat) {x : Str} {pos : Pos} (hN : X.N[i]? = some x := by rfl) (hv : Vis X.env.scope x := by first | exact Or.inl rfl | exact Or.inr (Or.inl rfl) | exact Or.inr (Or.inr rfl)) (hd : (x == ("__debug__" : Str)) = false := by decide)
    (hcd : (x == ("__classdict__" : Str)) = false := by decide) : PE X (.Name x pos) (tVar i) := pe_var hN hv hd hcd
end
/-- all that was tracked is as it was -/
def Same (H H' : Hp) : Prop := ∀ b o, H b = some o → H' b = some o
theorem Same.refl (H : Hp) : Same H H := fun _ _ h => h
theorem Same.trans {H H1 H2 : Hp} (a : Same H H1) (b : Same H1 H2) : Same H H2 := fun c o h => b c o (a c o h)
theorem Same.free {H H' : Hp} (e : Same H H') {l : Addr} (h : H' l = Option.none) : H l = Option.none := by
  cases q : H l with
  | none => rfl
  | some o =>
    rw [e l o q] at h
    cases h
theorem Same.seq {K : PySem.W.Frag} {H H' : Hp} {a : Addr} {xs : List V} (e : Same H H') (h : SqL K H a xs) : SqL K H' a xs := by
  rcases h with (h | ⟨o, h⟩) | h
  · exact .inl (.inl (e _ _ h))
  · exact .inl (.inr ⟨o, e _ _ h⟩)
  · exact .inr h
end L2
namespace L2
open PySem PySem.Spec PyProof.Rows
section
variable {κ : Type} [DecidableEq κ]
def valV (kvs : List (κ × V)) (k : κ) : Option V := (kvs.find? fun kv => decide (kv.1 = k)).map (·.2)
/-- in its place, or at the end -/
def putK (kvs : List (κ × V)) (k : κ) (v : V) : List (κ × V) :=
  if (kvs.any fun kv => decide (kv.1 = k)) = true then kvs.map (fun kv => if kv.1 = k then (kv.1, v) else kv) else kvs ++ [(k, v)]
def dropK (kvs : List (κ × V)) (k : κ) : List (κ × V) := kvs.filter fun kv => decide (kv.1 ≠ k)
theorem RelO.getD {o : Option V} {u : Option Value} {d : V} {d' : Value} (r : RelO o u) (rd : RelV d d') : RelV (o.getD d) (u.getD d') := by
  cases o with
  | none => cases u with
    | none => exact rd
    | some _ => exact (show False from r).elim
  | some _ => cases u with
    | none => exact (show False from r).elim
    | some _ => exact r
theorem KV.any {kvs : List (κ × V)} {vs : List (κ × Value)} (r : KV kvs vs) (k : κ) : (kvs.any fun kv => decide (kv.1 = k)) = vs.any fun kv => decide (kv.1 = k) := by
  unfold KV at r
  induction r with
  | nil => rfl
  | cons h t ih => rw [List.any_cons, List.any_cons, ih, h.1]
theorem KV.drop {kvs : List (κ × V)} {vs : List (κ × Value)} (r : KV kvs vs) (k : κ) : KV (dropK kvs k) (without vs k) := by
  unfold KV at r ⊢
  unfold dropK without
  induction r with
  | nil => exact .nil
  | @cons p q ps qs h t ih =>
    obtain ⟨h1, h2⟩ := h
    rw [List.filter_cons, List.filter_cons]
    by_cases e : p.1 = k
    · have a : ¬ decide (p.1 ≠ k) = true := by simp [e]
      have b : ¬ decide (q.1 ≠ k) = true := by simp [h1.symm.trans e]
      rw [if_neg a, if_neg b]; exact ih
    · have e' : ¬ q.1 = k := fun z => e (h1.trans z)
      have a : decide (p.1 ≠ k) = true := by simp [e]
      have b : decide (q.1 ≠ k) = true := by simp [e']
      rw [if_pos a, if_pos b]; exact .cons ⟨h1, h2⟩ ih
theorem KV.keys {kvs : List (κ × V)} {vs : List (κ × Value)} (r : KV kvs vs) : kvs.map (·.1) = vs.map (·.1) := by
  unfold KV at r
  induction r with
  | nil => rfl
  | cons h t ih => rw [List.map_cons, List.map_cons, ih, h.1]
theorem KV.length {kvs : List (κ × V)} {vs : List (κ × Value)} (r : KV kvs vs) : kvs.length = vs.length := Paired.length r
end
/-- raw entries of a dict with tuple keys -/
abbrev KT (H : Hp) : List (List Key × V) → List (List Key × Addr × Value) → Prop := Paired fun p q => p.1 = q.1 ∧ H q.2.1 = some (.tup (p.1.map kV)) ∧ RelV p.2 q.2.2
theorem KT.keeps {H H' : Hp} {kvs : List (List Key × V)} {xs : List (List Key × Addr × Value)} (r : KT H kvs xs) (ht : ∀ b ys, H b = some (.tup ys) → H' b = some (.tup ys)) : KT H' kvs xs :=
  Paired.mapP r fun _ _ z => ⟨z.1, ht _ _ z.2.1, z.2.2⟩
section
variable {P : Program} {w : World} {H : Hp} {h : Heap} {a : Addr}
end
/-- what the dict at a holds at the key y -/
def DGet (H : Hp) (a : Addr) (y : V) (r : Option V) : Prop :=
  (∃ kvs k, Rd H a (.dK kvs) ∧ y = kV k ∧ r = valV kvs k) ∨ ∃ kvs k b, Rd H a (.dT kvs) ∧ y = .ref b ∧ H b = some (.tup (k.map kV)) ∧ r = valV kvs k
/-- the heap behind a[y] = v -/
def DPut (H : Hp) (a : Addr) (y v : V) (H' : Hp) : Prop :=
  (∃ kvs k, H a = some (.dK kvs) ∧ y = kV k ∧ kvs.length < sizeLine ∧ H' = upd H a (.dK (putK kvs k v))) ∨
  ∃ kvs k b, H a = some (.dT kvs) ∧ y = .ref b ∧ H b = some (.tup (k.map kV)) ∧ kvs.length < sizeLine ∧ H' = upd H a (.dT (putK kvs k v))
theorem DGet.k {H : Hp} {a : Addr} {kvs : List (Key × V)} {k : Key} (e : H a = some (.dK kvs)) : DGet H a (kV k) (valV kvs k) := .inl ⟨kvs, k, .inl e, rfl, rfl⟩
theorem DGet.t {H : Hp} {a b : Addr} {kvs : List (List Key × V)} {k : List Key} (e : H a = some (.dT kvs)) (eb : H b = some (.tup (k.map kV))) : DGet H a (.ref b) (valV kvs k) := .inr ⟨kvs, k, b, .inl e, rfl, eb, rfl⟩
theorem DPut.k {H : Hp} {a : Addr} {kvs : List (Key × V)} {k : Key} {v : V} (e : H a = some (.dK kvs)) (hl : kvs.length < sizeLine) : DPut H a (kV k) v (upd H a (.dK (putK kvs k v))) := .inl ⟨kvs, k, e, rfl, hl, rfl⟩
theorem DPut.t {H : Hp} {a b : Addr} {kvs : List (List Key × V)} {k : List Key} {v : V} (e : H a = some (.dT kvs)) (eb : H b = some (.tup (k.map kV))) (hl : kvs.length < sizeLine) :
    DPut H a (.ref b) v (upd H a (.dT (putK kvs k v))) := .inr ⟨kvs, k, b, e, rfl, eb, hl, rfl⟩
section
variable {X : Cx} {pins : List (Addr × Obj)} {σ : St} {H : Hp} {s : Shared} {a : Addr} {y v : V} {u r : Value} {o : Option V} {A : Around} {E : Value → Shared → Prop}
end
section
variable {X : Cx} {pins : List (Addr × Obj)} {σ : St} {H : Hp} {s : Shared} {a : Addr} {kvs : List (Key × V)} {k : Key} {u : Value} {A : Around} {E : Value → Shared → Prop}
end
/-- y in d, y not in d -/
def tDIn (ty td : TE) : TE := fun σ H Q => ty σ H fun y H1 => td σ H1 fun x H2 => ∃ a o, x = .ref a ∧ DGet H2 a y o ∧ Q (.bl o.isSome) H2
/-- d[y] = v -/
def sDPut (td ty tv : TE) : TS := fun D σ H => tv σ H fun v H1 => td σ H1 fun x H2 => ty σ H2 fun y H3 => ∃ a H4, x = .ref a ∧ DPut H3 a y v H4 ∧ D.nx σ H4
section
variable {X : Cx} {o i e value : Expr} {pos pos' tpos : Pos} {td ty tv : TE}
end
section
variable {X : Cx} {pos : Pos}
end
section
variable {X : Cx} {pins : List (Addr × Obj)} {σ : St} {H : Hp} {s : Shared} {a : Addr} {y d : V} {u r : Value} {o : Option V} {A : Around} {E : Value → Shared → Prop}
end
section
variable {X : Cx} {o e f : Expr} {apos cpos : Pos} {td ty tx : TE}
end
section
variable {X : Cx} {pins : List (Addr × Obj)} {σ : St} {H : Hp} {s : Shared} {a : Addr} {kvs : List (Key × V)} {A : Around} {E : Value → Shared → Prop}
end
section
variable {X : Cx} {pins : List (Addr × Obj)} {σ : St} {H : Hp} {s : Shared} {a : Addr} {y : V} {u : Value} {A : Around} {E : Value → Shared → Prop}
end
end L2
namespace L2
open PySem PySem.Spec PyProof.Rows
section
variable {X : Cx}
end
section
variable {κ : Type} [DecidableEq κ]
end
end L2
set_option Elab.async false
set_option linter.all false
set_option maxRecDepth 100000
set_option maxHeartbeats 4000000
namespace L2
open PySem PySem.Spec PyProof.Rows
section
variable {P : Program} {w : World} {K : PySem.W.Frag} {mg : Str → Option Value} {base : Heap} {CX : CXT} {x : Str} {ps : List Str} {sp : Sp} {j k : Nat}
structure Def (P : Program) (w : World) (K : PySem.W.Frag) (mg : Str → Option Value) (base : Heap) (CX : CXT) (k : Nat) (x : Str) (ps : List Str) (sp : Sp) : Prop where
  ex : ∃ (f : Addr) (fd : FuncData), FnOk P w K mg base CX k f fd ps sp ∧ mg x = some (.ref f) ∧ PySem.W.keepIn K (.ref f) = true ∧ Binds K fd ps []
theorem Def.mono (D : Def P w K mg base CX j x ps sp) (h : j ≤ k) : Def P w K mg base CX k x ps sp :=
  let ⟨f, fd, F, a, b, c⟩ := D.ex
  ⟨f, fd, F.mono h, a, b, c⟩
def HasDef (K : PySem.W.Frag) (mg : Str → Option Value) (x : Str) (st : Stmt) : Prop := ∃ (f : Addr) (fd : FuncData), Fun K x x st f fd ∧ mg x = some (.ref f)
theorem HasDef.mk {st : Stmt} {f : Addr} {oc : Value} {od an : Option Addr} {osl : Array (Option Value)} {kV doc pm cdv ct : Value} (m : mg x = some (.ref f))
    (l : K.lookup f = some ⟨oc, od, .func (PySem.W.fnOf x x (defArgs st) (defBody st) (defScope st) .none kV doc pm an cdv ct), osl⟩)
    (c : PySem.W.codeIn K cdv x = true) (k : PySem.W.keepIn K (.ref f) = true) : HasDef K mg x st := ⟨f, _, fun_mk l c k, m⟩
/-- THE RULE for a def from which no exception leaves, whatever CX -/
theorem def_of {st : Stmt} {N : List Str} (h : HasDef K mg x st) (S : FnScope N ps (defScope st)) (len : ∀ vs H Q E, sp vs H Q E → vs.length = ps.length)
    (hb : ∀ (kV doc pm : Value) (an : Option Addr) (cdv ct : Value) (us : List Value), us.length = ps.length → bindArgs (PySem.W.fnOf x x (defArgs st) (defBody st) (defScope st) .none kV doc pm an cdv ct) ⟨us, []⟩ = pure (ps.zip us))
    (hbody : ∀ (f : Addr) (cdv : Value) (A : Around) (outer : List Env) (s : Shared) (H : Hp) (vs : List V) (Q : VK) (E : XK), Room k (A.deeper (envOfC x (defScope st) s.heap.objs.size f cdv)) → sp vs H Q E →
      ∃ t, PSs (cxOf CX P w K mg base N x (defScope st) f cdv A outer s H E).nox (defBody st) t ∧ t { nx := fun _ H' => Q .non H', rt := Q } (start N vs) H) : Def P w K mg base CX (k + 1) x ps sp := by
  obtain ⟨f, fd, F, m⟩ := h
  refine ⟨f, fd, ?_, m, F.kp, F.binds hb⟩
  obtain ⟨oc, od, kV, doc, pm, an, cdv, ct, osl, rfl, lk, hcd⟩ := F.ex
  refine fn_of lk hcd S len fun A outer s H vs Q E hr hsp => ?_
  obtain ⟨t, h, q⟩ := hbody f cdv A outer s H vs Q E hr hsp
  exact ⟨t, h.nox, q⟩
end
section
variable {X : Cx} {CX : CXT} {k m : Nat} {x : Str} {ps : List Str} {sp : Sp} {E : XK} {p pos : Pos} {e : Expr} {es : List Expr} {t : TA}
theorem pe_def (D : Def X.prog X.w X.K X.mg X.base CX k x ps sp) (hr : Room m X.A) (ha : PA X (e :: es) t) (hk : k ≤ m := by decide) (hx : Passes CX X E := by exact pass0) (hg : Gl X x := by rfl)
    (hdb : (x == ("__debug__" : Str)) = false := by decide) (he : starEach (e :: es) X.env = (false, eval e X.env) :: starEach es X.env := by rfl) (hpl : (backTo pos (starEach es X.env)).any (·.1) = false := by rfl) :
    PE X (.Call (.Name x p) (e :: es) [] pos) (tCall sp [] E t) := by
  obtain ⟨f, fd, F, hm, kp, b⟩ := D.ex
  exact pe_call F (hr.mono hk) hg hm kp b .nil hx ha hdb he hpl
end
section
variable {X : Cx} {T : String} {pos : Pos}
end
section
variable {X : Cx}
end
section
variable {X : Cx}
section
variable {P : Program} {w : World} {K : PySem.W.Frag} {tg : Expr}
end
end
end L2
set_option Elab.async false
set_option linter.all false
set_option maxRecDepth 100000
set_option maxHeartbeats 4000000
namespace L2
open PySem PySem.Spec PyProof.Rows
def closOf (env : Env) : List (Str × NameKind) → Option (List (Str × Addr))
  | [] => some []
  | (n, k) :: r => if k = .free then (env.cells.lookup n).bind fun c => (closOf env r).map fun cl => cl ++ [(n, c)] else closOf env r
theorem closOf_lookup {env : Env} : ∀ {names : List (Str × NameKind)} {cl : List (Str × Addr)}, closOf env names = some cl → ∀ x c, cl.lookup x = some c → env.cells.lookup x = some c
  | [], cl, h, x, c, e => by
    cases (Option.some.inj h)
    cases e
  | (n, k) :: r, cl, h, x, c, e => by
    unfold closOf at h
    by_cases hk : k = .free
    · rw [if_pos hk] at h
      cases hc : env.cells.lookup n with
      | none => rw [hc] at h; cases h
      | some c' =>
        rw [hc] at h
        have h : (closOf env r).map (fun cl => cl ++ [(n, c')]) = some cl := h
        cases hr : closOf env r with
        | none => rw [hr] at h; cases h
        | some cl' =>
          rw [hr] at h
          have h : cl' ++ [(n, c')] = cl := Option.some.inj h
          subst h
          rw [List.lookup_append] at e
          cases h2 : cl'.lookup x with
          | some c2 =>
            rw [h2] at e
            have e : c2 = c := by simpa using e
            subst e
            exact closOf_lookup hr x c2 h2
          | none =>
            rw [h2] at e
            have e : List.lookup x [(n, c')] = some c := by simpa using e
            by_cases hx : x = n
            · subst hx
              have : c' = c := by simpa using e
              subst this
              exact hc
            · have hb : (x == n) = false := by simpa using hx
              simp [List.lookup_cons, hb] at e
    · rw [if_neg hk] at h
      exact closOf_lookup h x c e
theorem closureFor_go {env : Env} : ∀ (names : List (Str × NameKind)) (acc cl : List (Str × Addr)), closOf env names = some cl →
    (forIn (m := Sem) names acc fun x c => if x.2 == NameKind.free then (do let a ← cellOf env x.1; pure (ForInStep.yield ((x.1, a) :: c))) else pure (ForInStep.yield c)) = pure (cl ++ acc)
  | [], acc, cl, h => by
    cases (Option.some.inj h)
    rfl
  | (n, k) :: r, acc, cl, h => by
    unfold closOf at h
    rw [List.forIn_cons]
    by_cases hk : k = .free
    · rw [if_pos hk] at h
      cases hc : env.cells.lookup n with
      | none => rw [hc] at h; cases h
      | some c' =>
        rw [hc] at h
        have h : (closOf env r).map (fun cl => cl ++ [(n, c')]) = some cl := h
        cases hr : closOf env r with
        | none => rw [hr] at h; cases h
        | some cl' =>
          rw [hr] at h
          have h : cl' ++ [(n, c')] = cl := Option.some.inj h
          subst h
          have hb : (k == NameKind.free) = true := by simpa using hk
          have := closureFor_go r ((n, c') :: acc) cl' hr
          have ec : cellOf env n = pure c' := by unfold cellOf; rw [hc]
          simp only [hb, if_true, ec, pure_bind, bind_assoc]
          rw [this]
          simp
    · rw [if_neg hk] at h
      have hb : (k == NameKind.free) = false := by simpa using hk
      have := closureFor_go r acc cl h
      simp only [hb, Bool.false_eq_true, if_false, pure_bind]
      exact this
theorem closureFor_of {env : Env} {scope : Scope} {cl : List (Str × Addr)} (h : closOf env scope.names = some cl) : closureFor scope env = pure cl := by
  have := closureFor_go scope.names [] cl h
  rw [List.append_nil] at this
  have key : closureFor scope env = (forIn (m := Sem) scope.names ([] : List (Str × Addr)) fun x c => if x.2 == NameKind.free then (do let a ← cellOf env x.1; pure (ForInStep.yield ((x.1, a) :: c))) else pure (ForInStep.yield c)) >>= fun cs => pure cs := by
    unfold closureFor
    rfl
  rw [key, this]
  rfl
theorem comp_loop {prog : Program} {w : World} {A : Around} {R : Result → Shared → Prop} {s : Shared} {elt target iter : Expr} {ifs : List Expr} {scope : Scope} {pos : Pos} {it acc : Value} {env : Env} (I : Nat → Shared → Prop)
    (turn : ∀ n s, I n s → wpAny (model prog w) A (pyNext it) (fun r s₁ => match r with
      | none => R (.ok .next) s₁
      | some v => wpAny (model prog w) A (letOwnedTupleGo target it v) (fun _ s₀ => wpAny (model prog w) A (assign target env v) (fun _ s₂ =>
          wpAny (model prog w) A (forIn ifs true fun c r => if r = true then do let ok ← isTrue c env (eval c env); pure (ForInStep.yield ok) else pure (ForInStep.yield r)) (fun ok s₃ =>
            if ok = true then wpAny (model prog w) A (eval elt env) (fun x s₄ =>
              wpAny (model prog w) A (call (.builtin "list.append") [acc, x]) (fun _ s₅ => ∃ m, m < n ∧ I m s₅) (fun _ _ => False) s₄) (fun _ _ => False) s₃
            else ∃ m, m < n ∧ I m s₃) (fun _ _ => False) s₂) (fun _ _ => False) s₀) (fun _ _ => False) s₁) (fun _ _ => False) s)
    (n : Nat) (h : I n s) :
    codeAny (model prog w) A (.compLoop (.ListComp elt [⟨target, iter, ifs, 0⟩] scope pos) 0 it acc env) R s := by
  refine codeAny_loop rfl I (fun n s hI => ?_) n h
  show wpAny _ A ((compTurn (.ListComp elt [⟨target, iter, ifs, 0⟩] scope pos) 0 it acc env).onRaise (fun x => do noteFrame x env; theTreesLotGoes x)) _ _ s
  refine wpAny_noted ?_
  rw [compTurn_list]
  refine wpAny_bind (wpAny_standAt (wpAny_bind (wpAny_mono (turn n s hI) (fun r s₁ h₁ => ?_) fun _ _ h' => h'.elim)))
  cases r with
  | none => exact wpAny_pure h₁
  | some v =>
    refine wpAny_bind (wpAny_mono h₁ (fun _ s₀ h₀ => ?_) fun _ _ h' => h'.elim)
    refine wpAny_bind (wpAny_mono h₀ (fun _ s₂ h₂ => wpAny_bind (wpAny_mono h₂ (fun ok s₃ h₃ => ?_) fun _ _ h' => h'.elim)) fun _ _ h' => h'.elim)
    cases ok with
    | false => exact wpAny_pure ⟨rfl, h₃⟩
    | true =>
      exact wpAny_bind (wpAny_bind (wpAny_mono h₃ (fun x s₄ h₄ => wpAny_bind (wpAny_mono h₄ (fun _ s₅ h₅ => wpAny_pure (wpAny_pure ⟨rfl, h₅⟩)) fun _ _ h' => h'.elim)) fun _ _ h' => h'.elim))
/-- the context of a comprehension's block: its own frame at C, the names N, the closure cl; entered at s, H; fp: the iterator's objects -/
def cxComp (X : Cx) (N : List Str) (scope : Scope) (cl : List (Str × Addr)) (pins : List (Addr × Obj)) (s : Shared) (H : Hp) (fp : List Addr) : Cx where
  prog := X.prog
  w := X.w
  K := X.K
  mg := X.mg
  base := X.base
  A := X.A
  N := N
  s₀ := s
  H₀ := H
  env := compEnvC scope cl s.heap.objs.size X.env
  outer := X.stack
  stack := X.stack
  ex := fp
  fn := fun _ => false
  calm := X.calm
  pn := X.pn ++ pins
  xe := fun _ _ => False
/-- the values of the block's names at its entry: nt of its own, none yet; then those of the block around, by their places there -/
def compStart0 (nt : Nat) (fr : List Nat) (σ : St) : St := List.replicate nt none ++ fr.map fun i => (σ[i]?).getD none
/-- how the block's names N stand to the names of the code around: nt own ones, then free ones, the i-th of which is the fr i-th there -/
structure CompNames (X : Cx) (N : List Str) (nt : Nat) (fr : List Nat) (scope : Scope) (cl : List (Str × Addr)) : Prop where
  len : N.length = nt + fr.length
  free : ∀ (j : Nat) (i : Nat) (x : Str), fr[j]? = some i → N[nt + j]? = some x → X.N[i]? = some x ∧ (∃ c, cl.lookup x = some c) ∧ (X.env.kindOf x = some .cell ∨ X.env.kindOf x = some .free) ∧
    ((relabel scope X.env).names.lookup x = some .cell ∨ (relabel scope X.env).names.lookup x = some .free)
  cells : ∀ x c, cl.lookup x = some c → X.env.cells.lookup x = some c
  has : ∀ x, ((relabel scope X.env).names.lookup x = some .cell ∨ (relabel scope X.env).names.lookup x = some .free) → ∃ c, cl.lookup x = some c
  kind : scope.kind = .function
theorem Vis_of_cell {X : Cx} {x : Str} (h : X.env.kindOf x = some .cell ∨ X.env.kindOf x = some .free) : Vis X.env.scope x := by
  rcases h with h | h
  · exact .inr (.inl h)
  · exact .inr (.inr h)
section
variable {X : Cx} {N : List Str} {nt : Nat} {fr : List Nat} {scope : Scope} {cl : List (Str × Addr)} {pins : List (Addr × Obj)} {σ : St} {H : Hp} {s : Shared} {fp : List Addr}
theorem comp_ok (I : Inv X pins σ H s) (cn : CompNames X N nt fr scope cl) (hf : ∀ b ∈ fp, FpOk X pins H b) (ho : ∀ b ∈ fp, b < s.heap.objs.size) : (cxComp X N scope cl pins s H fp).Ok where
  mod := I.mod
  kind := cn.kind
  glob := I.ok.glob
  blt := I.ok.blt
  above := Nat.le_refl _
  inj := fun x y c h1 h2 => I.ok.inj x y c (cn.cells x c h1) (cn.cells y c h2)
  has := fun x hx => cn.has x hx
  cab := fun x c h _ => by cases (show false = true from h)
  hd := I.ok.hd
  frames := I.ok.frames
  stk := .inl rfl
  exf := fun b hb => ⟨Nat.ne_of_lt (ho b hb), fun x c e => (hf b hb).2.2.2.2.1 x c (cn.cells x c e)⟩
  bs := I.bs
  bsz := Nat.le_trans I.ok.bsz I.sz
  noex := fun b o e hb => by
    rcases (hf b hb).2.2.2.1 with z | z
    · exact I.ok.noex b o e z
    · exact absurd (Nat.lt_of_lt_of_le (Heap.lt_size e) (Nat.le_trans I.ok.bsz z)) (Nat.lt_irrefl _)
  exfs := fun b hb z => (List.mem_cons.mp (I.stkSub b z)).elim (fun e => (hf b hb).2.1 e) fun e => (hf b hb).2.2.1 e
  funs := I.stack
  frf := I.stkFree
theorem comp_inv {h4 : Heap} {t' : Nat} (I : Inv X pins σ H s) (cn : CompNames X N nt fr scope cl) (hf : ∀ b ∈ fp, FpOk X pins H b) (ho : ∀ b ∈ fp, b < s.heap.objs.size)
    (k : ∀ b o, s.heap.get? b = some o → h4.get? b = some o) (hns : ∃ m, h4.Ns s.heap.objs.size m) : Inv (cxComp X N scope cl pins s H fp) [] (compStart0 nt fr σ) H { s with heap := h4, toks := t' } := by
  have ck : ∀ {c : Addr} {v : Option Value}, s.heap.IsCell c v → h4.IsCell c v := fun ⟨o, e, d⟩ => ⟨o, k _ o e, d⟩
  refine ⟨comp_ok I cn hf ho, rfl, I.bare, Un.kept k, ?_, fun x c e => ?_, ?_, fun x c e => ?_, fun p hp => ?_, I.hok.kept k, ?_⟩
  · obtain ⟨m, hm⟩ := hns
    refine ⟨m, hm, fun i x v e1 e2 _ => ?_⟩
    have e2 : (compStart0 nt fr σ)[i]? = some (some v) := e2
    have e1 : N[i]? = some x := e1
    unfold compStart0 at e2
    by_cases hi : i < nt
    · rw [List.getElem?_append_left (by simpa using hi), List.getElem?_replicate, if_pos hi] at e2
      cases e2
    · obtain ⟨j, rfl⟩ : ∃ j, i = nt + j := ⟨i - nt, by omega⟩
      rw [List.getElem?_append_right (by simp), List.length_replicate, Nat.add_sub_cancel_left, List.getElem?_map] at e2
      cases hj : fr[j]? with
      | none => rw [hj] at e2; cases e2
      | some i' =>
        rw [hj] at e2
        have e2 : (σ[i']?).getD none = some v := Option.some.inj e2
        have e3 : σ[i']? = some (some v) := by
          cases q : σ[i']? with
          | none => rw [q] at e2; cases e2
          | some o => rw [q] at e2; rw [show o = some v from e2]
        obtain ⟨hN, ⟨c, hc⟩, hk, hk'⟩ := cn.free j i' x hj e1
        obtain ⟨m0, _, hl⟩ := I.loc
        obtain ⟨u, r, l⟩ := hl i' x v hN e3 (Vis_of_cell hk)
        refine ⟨u, r, .inr ⟨hk', c, hc, ?_⟩⟩
        rcases l with ⟨hl', _⟩ | ⟨_, c', hc', hcell⟩
        · rcases hk with z | z <;> (rw [hl'] at z; cases z)
        · have hcc := cn.cells x c hc
          rw [hc'] at hcc; cases hcc
          exact ck hcell
  · obtain ⟨v, hv⟩ := I.cell x c (cn.cells x c e)
    exact ⟨v, ck hv⟩
  · exact I.hok.fresh (Nat.le_refl _)
  · exact I.freeC x c (cn.cells x c e)
  · have hp : p ∈ (X.pn ++ pins) ++ [] := hp
    rw [List.append_nil] at hp
    obtain ⟨e, n, ne, nf, d⟩ := I.pin p hp
    exact ⟨k p.1 p.2 e, n, Nat.ne_of_lt (Heap.lt_size e), fun z => (List.mem_cons.mp (I.stkSub p.1 z)).elim ne nf, d⟩
  · show (compStart0 nt fr σ).length = N.length
    unfold compStart0
    rw [cn.len, List.length_append, List.length_replicate, List.length_map]
/-- behind the block -/
theorem comp_back {H' : Hp} {s1 s' : Shared} {h' : Heap} {σ' : St} (I : Inv X pins σ H s) (hsz : s.heap.objs.size ≤ s1.heap.objs.size) (hos : s1.os = s.os) {H1 : Hp} (hH : Un (frs X.stack) fp H H1 s.heap s1.heap)
    (hf : ∀ b ∈ fp, FpOk X pins H b)
    (J : Inv (cxComp X N scope cl pins s1 H1 fp) [] σ' H' s') (sb : Heap.SameBut s1.heap.objs.size s'.heap h') : Inv X pins σ H' { s' with heap := h' } := by
  have u : Un (frs X.stack) fp H H' s.heap s'.heap := hH.trans J.base
  have lt : ∀ b o, s.heap.get? b = some o → b ≠ s1.heap.objs.size := fun b o e => Nat.ne_of_lt (Nat.lt_of_lt_of_le (Heap.lt_size e) hsz)
  have kk : ∀ b o, b ≠ s1.heap.objs.size → s'.heap.get? b = some o → h'.get? b = some o := fun b o hb e => sb.extBut b o hb e
  have u' : Un (frs X.stack) fp H H' s.heap h' := ⟨fun b o e n hb hx => kk b o (lt b o e) (u.keep b o e n hb hx), fun b o e n hb hx => let ⟨sl, z⟩ := u.slot b o e n hb hx; ⟨sl, kk b _ (lt b o e) z⟩, u.free,
    fun b o e hx => let ⟨o', z⟩ := u.there b o e hx; ⟨o', kk b o' (lt b o e) z⟩, u.tups, u.frzs, u.tbls⟩
  have nC : H' s1.heap.objs.size = none := J.free
  refine I.call' (s' := { s' with heap := h' }) (ch := fp) (J.os.trans hos) u' (fun a o e => ?_) J.bare fun b hb => ⟨(hf b hb).2.2.2.1, (hf b hb).2.1, (hf b hb).2.2.2.2.1, (hf b hb).2.2.2.2.2⟩
  refine (J.hok a o e).stay (fun b v hb q => kk b v ?_ q) (fun _ q => q) fun _ _ q => q
  rcases hb with z | z
  · rintro rfl
    rw [← z, nC] at e; cases e
  · rintro rfl
    rw [nC] at z; cases z
end
def freeB (X : Cx) (N : List Str) (nt : Nat) (scope : Scope) : List Nat → Nat → Bool
  | [], _ => true
  | i :: r, j => (match N[nt + j]? with
    | some x => decide (X.N[i]? = some x) && decide (scope.names.lookup x = some .free) && (decide (X.env.kindOf x = some .cell) || decide (X.env.kindOf x = some .free))
    | none => false) && freeB X N nt scope r (j + 1)
theorem freeB_at {X : Cx} {N : List Str} {nt : Nat} {scope : Scope} : ∀ {fr : List Nat} {k : Nat}, freeB X N nt scope fr k = true → ∀ (j i : Nat) (x : Str), fr[j]? = some i → N[nt + (k + j)]? = some x →
    X.N[i]? = some x ∧ scope.names.lookup x = some .free ∧ (X.env.kindOf x = some .cell ∨ X.env.kindOf x = some .free)
  | [], _, _, j, i, x, e, _ => by simp at e
  | i0 :: r, k, h, j, i, x, e1, e2 => by
    unfold freeB at h
    rw [Bool.and_eq_true] at h
    obtain ⟨h1, h2⟩ := h
    cases j with
    | zero =>
      have e1 : i0 = i := by simpa using e1
      subst e1
      rw [Nat.add_zero] at e2
      rw [e2] at h1
      simp only [Bool.and_eq_true, Bool.or_eq_true, decide_eq_true_eq] at h1
      exact ⟨h1.1.1, h1.1.2, h1.2⟩
    | succ j =>
      exact freeB_at h2 j i x (by simpa using e1) (by rw [show nt + (k + 1 + j) = nt + (k + (j + 1)) by omega]; exact e2)
theorem lookup_relabel {env : Env} : ∀ {names : List (Str × NameKind)} {x : Str} {k' : NameKind},
    (names.map fun (n, k) => if (k == NameKind.free && env.scope.kind == .function && env.kindOf n == some .cell) then (n, NameKind.cell) else (n, k)).lookup x = some k' →
    ∃ k, names.lookup x = some k ∧ (k = k' ∨ (k = .free ∧ k' = .cell))
  | [], _, _, h => by simp at h
  | (n, k) :: r, x, k', h => by
    have h : List.lookup x ((if (k == NameKind.free && env.scope.kind == .function && env.kindOf n == some .cell) = true then (n, NameKind.cell) else (n, k)) :: r.map _) = some k' := h
    cases hx : x == n with
    | true =>
      by_cases hc : (k == NameKind.free && env.scope.kind == .function && env.kindOf n == some .cell) = true
      · rw [if_pos hc] at h
        simp only [List.lookup_cons, hx] at h
        have hk : k = .free := by
          simp only [Bool.and_eq_true, beq_iff_eq] at hc
          exact hc.1.1
        exact ⟨k, by simp [List.lookup_cons, hx], .inr ⟨hk, (Option.some.inj h).symm⟩⟩
      · rw [if_neg hc] at h
        simp only [List.lookup_cons, hx] at h
        exact ⟨k, by simp [List.lookup_cons, hx], .inl (Option.some.inj h)⟩
    | false =>
      have h2 : List.lookup x (r.map fun (n, k) => if (k == NameKind.free && env.scope.kind == .function && env.kindOf n == some .cell) then (n, NameKind.cell) else (n, k)) = some k' := by
        by_cases hc : (k == NameKind.free && env.scope.kind == .function && env.kindOf n == some .cell) = true
        · rw [if_pos hc] at h; simpa only [List.lookup_cons, hx] using h
        · rw [if_neg hc] at h; simpa only [List.lookup_cons, hx] using h
      obtain ⟨k2, e2, o2⟩ := lookup_relabel h2
      exact ⟨k2, by simp only [List.lookup_cons, hx]; exact e2, o2⟩
theorem relabel_free {env : Env} : ∀ {names : List (Str × NameKind)} {x : Str}, names.lookup x = some .free →
    (names.map fun (n, k) => if (k == NameKind.free && env.scope.kind == .function && env.kindOf n == some .cell) then (n, NameKind.cell) else (n, k)).lookup x = some .cell ∨
    (names.map fun (n, k) => if (k == NameKind.free && env.scope.kind == .function && env.kindOf n == some .cell) then (n, NameKind.cell) else (n, k)).lookup x = some .free
  | [], _, h => by simp at h
  | (n, k) :: r, x, h => by
    show List.lookup x ((if (k == NameKind.free && env.scope.kind == .function && env.kindOf n == some .cell) = true then (n, NameKind.cell) else (n, k)) :: r.map _) = some .cell ∨ List.lookup x ((if (k == NameKind.free && env.scope.kind == .function && env.kindOf n == some .cell) = true then (n, NameKind.cell) else (n, k)) :: r.map _) = some .free
    cases hx : x == n with
    | true =>
      simp only [List.lookup_cons, hx] at h
      cases h
      by_cases hc : (NameKind.free == NameKind.free && env.scope.kind == .function && env.kindOf n == some .cell) = true
      · rw [if_pos hc]; left; simp [List.lookup_cons, hx]
      · rw [if_neg hc]; right; simp [List.lookup_cons, hx]
    | false =>
      simp only [List.lookup_cons, hx] at h
      have ih := relabel_free (env := env) h
      by_cases hc : (k == NameKind.free && env.scope.kind == .function && env.kindOf n == some .cell) = true
      · rw [if_pos hc]; simpa only [List.lookup_cons, hx] using ih
      · rw [if_neg hc]; simpa only [List.lookup_cons, hx] using ih
theorem closOf_has {env : Env} : ∀ {names : List (Str × NameKind)} {cl : List (Str × Addr)}, closOf env names = some cl → ∀ x, names.lookup x = some .free → ∃ c, cl.lookup x = some c
  | [], _, _, x, e => by simp at e
  | (n, k) :: r, cl, h, x, e => by
    unfold closOf at h
    by_cases hk : k = .free
    · rw [if_pos hk] at h
      cases hc : env.cells.lookup n with
      | none => rw [hc] at h; cases h
      | some c' =>
        rw [hc] at h
        have h : (closOf env r).map (fun cl => cl ++ [(n, c')]) = some cl := h
        cases hr : closOf env r with
        | none => rw [hr] at h; cases h
        | some cl' =>
          rw [hr] at h
          have h : cl' ++ [(n, c')] = cl := Option.some.inj h
          subst h
          rw [List.lookup_append]
          cases h2 : cl'.lookup x with
          | some c2 => exact ⟨c2, by simp⟩
          | none =>
            cases hx : x == n with
            | true => exact ⟨c', by simp [List.lookup_cons, hx]⟩
            | false =>
              simp only [List.lookup_cons, hx] at e
              obtain ⟨c3, e3⟩ := closOf_has hr x e
              rw [h2] at e3; cases e3
    · rw [if_neg hk] at h
      cases hx : x == n with
      | true =>
        simp only [List.lookup_cons, hx] at e
        exact absurd (Option.some.inj e) hk
      | false =>
        simp only [List.lookup_cons, hx] at e
        exact closOf_has h x e
theorem CompNames.of {X : Cx} {N : List Str} {nt : Nat} {fr : List Nat} {scope : Scope} {cl : List (Str × Addr)} (hcl : closOf X.env scope.names = some cl) (hlen : N.length = nt + fr.length) (hB : freeB X N nt scope fr 0 = true)
    (hcell : ∀ y ∈ scope.names, y.2 ≠ .cell) (hkind : scope.kind = .function) : CompNames X N nt fr scope cl where
  len := hlen
  free := fun j i x e1 e2 => by
    obtain ⟨h1, h2, h3⟩ := freeB_at hB j i x e1 (by rw [Nat.zero_add]; exact e2)
    exact ⟨h1, closOf_has hcl x h2, h3, relabel_free h2⟩
  cells := closOf_lookup hcl
  has := fun x hx => by
    have : scope.names.lookup x = some .free := by
      rcases hx with hx | hx
      · obtain ⟨k, e, o⟩ := lookup_relabel (names := scope.names) (env := X.env) hx
        rcases o with rfl | ⟨rfl, _⟩
        · exact absurd rfl (hcell _ (PySem.mem_of_lookup e))
        · exact e
      · obtain ⟨k, e, o⟩ := lookup_relabel (names := scope.names) (env := X.env) hx
        rcases o with rfl | ⟨rfl, _⟩
        · exact e
        · exact e
    exact closOf_has hcl x this
  kind := hkind
def PIf (X : Cx) (ifs : List Expr) (t : TT) : Prop :=
  ∀ (pins : List (Addr × Obj)) (s : Shared) (σ : St) (H : Hp) (Q : Bool → Hp → Prop), Inv X pins σ H s → t σ H Q →
    wpAny (model X.prog X.w) X.A (forIn ifs true fun c r => if r = true then do let ok ← isTrue c X.env (eval c X.env); pure (ForInStep.yield ok) else pure (ForInStep.yield r)) (TP X pins σ Q) X.xe s
def tTrue : TT := fun _ H Q => Q true H
theorem pif_nil {X : Cx} : PIf X [] tTrue := fun _ _ _ H _ I h => wpAny_pure ⟨H, I, h⟩
/-- W: turn, measure, the block's names, the list so far, the heap -/
def CompGoal (J : It) (nt : Nat) (fr : List Nat) (g : TG) (c : TT) (te : TE) (σ : St) (H1 : Hp) (Q : VK) (acc : Addr) : Prop :=
  ∃ W : Nat → Nat → St → List V → Hp → Prop, (∃ m, W 0 m (compStart0 nt fr σ) [] (upd H1 acc (.lst []))) ∧ ∀ i m σ' ys H', W i m σ' ys H' → H' acc = some (.lst ys) ∧
    ((J.stop i H' ∧ Q (.ref acc) H') ∨ (J.go i H' ∧ ∀ x H2, J.yld i H' x H2 → g x σ' H2 fun σ2 H3 => c σ2 H3 fun b H4 => if b = true then
      te σ2 H4 fun y H5 => ys.length < sizeLine ∧ H5 acc = some (.lst ys) ∧ ∃ m', m' < m ∧ W (i + 1) m' σ2 (ys ++ [y]) (upd H5 acc (.lst (ys ++ [y])))
      else ∃ m', m' < m ∧ W (i + 1) m' σ2 ys H4))
def tComp (wi : TI) (nt : Nat) (fr : List Nat) (g : TG) (c : TT) (te : TE) : TE := fun σ H Q => wi σ H fun J H1 => ∀ acc, H1 acc = none → CompGoal J nt fr g c te σ H1 Q acc
section
variable {X : Cx} {target iter elt : Expr} {ifs : List Expr} {scope : Scope} {pos : Pos} {N : List Str} {nt : Nat} {fr : List Nat} {cl : List (Str × Addr)} {wi : TI} {g : TG} {c : TT} {te : TE}
theorem comp_fp {pins : List (Addr × Obj)} {σ : St} {H H1 : Hp} {s : Shared} {fp : List Addr} (I : Inv X pins σ H s) (cn : CompNames X N nt fr scope cl) (hf : ∀ b ∈ fp, FpOk X pins H b) (ho : ∀ b ∈ fp, b < s.heap.objs.size) {H' : Hp} (hn : ∀ b ∈ fp, H' b = none) :
    ∀ b ∈ fp, FpOk (cxComp X N scope cl pins s H1 fp) [] H' b := fun b hb =>
  ⟨hn b hb, Nat.ne_of_lt (ho b hb), fun z => (List.mem_cons.mp (I.stkSub b z)).elim (hf b hb).2.1 (hf b hb).2.2.1, .inl hb, fun x c e => (hf b hb).2.2.2.2.1 x c (cn.cells x c e), fun p hp => (hf b hb).2.2.2.2.2 p (by
    have hp : p ∈ (X.pn ++ pins) ++ [] := hp
    rw [List.append_nil] at hp
    exact hp)⟩
/-- the block, from the iterator on -/
theorem comp_block {pins : List (Addr × Obj)} {σ : St} {s : Shared} {Q : VK} {itv : Value} {RR : Value → Addr → Result → Shared → Prop} {E : Value → Shared → Prop}
    (hc : X.calm = true) (cn : CompNames X N nt fr scope cl) (hcell : ∀ y ∈ scope.names, y.2 ≠ .cell)
    (hg : ∀ pins s H fp, PG (cxComp X N scope cl pins s H fp) target g) (hif : ∀ pins s H fp, PIf (cxComp X N scope cl pins s H fp) ifs c) (he : ∀ pins s H fp, PE (cxComp X N scope cl pins s H fp) elt te)
    (h : PIE X pins σ target (fun J H1 => ∀ acc, H1 acc = none → CompGoal J nt fr g c te σ H1 Q acc) itv s)
    (hRR : ∀ (acc C : Addr) (s' : Shared) (H' : Hp), (∃ m, s'.heap.Ns C m) → Inv X pins σ H' s' → FpOk X pins H' C → Q (.ref acc) H' → RR (.ref acc) C (.ok .next) s') :
    wpAny (model X.prog X.w) X.A (newList []) (fun acc s₃ => wpAny (model X.prog X.w) X.A (newFunctionEnv scope X.env.globals cl [] X.env.qual none .none (some X.env)) (fun cenv s₄ =>
      codeAny (model X.prog X.w) X.A (.compStart (.ListComp elt [⟨target, iter, ifs, 0⟩] scope pos) 0 itv acc { cenv with scope := relabel scope X.env }) (RR acc cenv.locals) s₄) E s₃) E s := by
  obtain ⟨it, fp, tn, J, H2, e, I2, T, st2, f2, R⟩ := h
  subst e
  have fo : ∀ b ∈ fp, b < s.heap.objs.size := fun b hb => let ⟨o, e, _⟩ := T.obj 0 _ st2 b hb; Heap.lt_size e
  refine wpAny_newObj_type (wpAny_newFunctionEnv hcell (by intro y hy; simp at hy) (fun h₁ hns₁ hsb₁ => ?_) cn.kind)
  dsimp only at hns₁ hsb₁ ⊢
  have ha : H2 s.heap.objs.size = none := I2.hok.fresh (Nat.le_refl _)
  have I3 : Inv X pins σ (upd H2 s.heap.objs.size (.lst [])) { s with heap := s.heap.push { cls := .type "list", data := .seq ([] : List Value).toArray } } :=
    I2.laid (t' := s.toks) (fun b u e => Heap.get?_push_of_some _ e) (Nat.le_refl _) ⟨Nat.zero_le _, [], 0, .nil, Heap.get?_push_size _ rfl⟩
  generalize hs3 : ({ s with heap := s.heap.push { cls := .type "list", data := .seq ([] : List Value).toArray } } : Shared) = s3 at I3
  have hh3 : s3.heap = s.heap.push { cls := .type "list", data := .seq ([] : List Value).toArray } := by rw [← hs3]
  have hsz : s3.heap.objs.size = s.heap.objs.size + 1 := by rw [hh3, Heap.size_push]
  have fne : ∀ b ∈ fp, b ≠ s.heap.objs.size := fun b hb => Nat.ne_of_lt (fo b hb)
  have f3 : ∀ b ∈ fp, FpOk X pins (upd H2 s.heap.objs.size (.lst [])) b := fun b hb => ⟨by rw [upd_ne (fne b hb)]; exact (f2 b hb).1, (f2 b hb).2⟩
  have fo3 : ∀ b ∈ fp, b < s3.heap.objs.size := fun b hb => by rw [hsz]; exact Nat.lt_succ_of_lt (fo b hb)
  have k3 : ∀ b o, s3.heap.get? b = some o → h₁.get? b = some o := fun b o e => hsb₁.extBut b o (by rw [← hh3]; exact Nat.ne_of_lt (Heap.lt_size e)) (by rw [← hh3]; exact Heap.get?_push_of_some _ e)
  have hns : ∃ m, h₁.Ns s3.heap.objs.size m := ⟨_, by rw [hh3]; exact hns₁⟩
  have I4 : Inv (cxComp X N scope cl pins s3 (upd H2 s.heap.objs.size (.lst [])) fp) [] (compStart0 nt fr σ) (upd H2 s.heap.objs.size (.lst [])) { s3 with heap := h₁, toks := s3.toks + ([] : List (Str × Value)).length } := comp_inv I3 cn f3 fo3 k3 hns
  have st4 : tn 0 h₁ := T.keep 0 _ _ st2 fun b hb o e => k3 b o (by rw [hh3]; exact Heap.get?_push_of_some _ e)
  obtain ⟨W, ⟨m0, w0⟩, turn⟩ := R s.heap.objs.size ha
  have stat : ∀ {H' : Hp}, (∀ b ∈ fp, H' b = none) → ∀ b ∈ fp, FpOk (cxComp X N scope cl pins s3 (upd H2 s.heap.objs.size (.lst [])) fp) [] H' b := fun hn => comp_fp I3 cn f3 fo3 hn
  have hH : Un (frs X.stack) fp H2 (upd H2 s.heap.objs.size (.lst [])) s.heap s3.heap := by
    rw [hh3]
    exact Un.laid (fun b u e => Heap.get?_push_of_some _ e) (Nat.le_refl _) ha
  have back : ∀ {σ' : St} {H' : Hp} {s' : Shared} {h' : Heap}, Inv (cxComp X N scope cl pins s3 (upd H2 s.heap.objs.size (.lst [])) fp) [] σ' H' s' → Heap.SameBut s3.heap.objs.size s'.heap h' → Inv X pins σ H' { s' with heap := h' } := fun J' sb =>
    comp_back I2 (by rw [hsz]; exact Nat.le_succ _) (by rw [← hs3]) hH f2 J' sb
  have loop : codeAny (model X.prog X.w) X.A (.compLoop (.ListComp elt [⟨target, iter, ifs, 0⟩] scope pos) 0 (.ref it) (.ref s.heap.objs.size) (compEnvC scope cl s3.heap.objs.size X.env)) (RR (.ref s.heap.objs.size) s3.heap.objs.size)
      { s3 with heap := h₁, toks := s3.toks + ([] : List (Str × Value)).length } := by
    refine comp_loop (fun n s' => ∃ i σ' ys H', Inv (cxComp X N scope cl pins s3 (upd H2 s.heap.objs.size (.lst [])) fp) [] σ' H' s' ∧ tn i s'.heap ∧ (∀ b ∈ fp, H' b = none) ∧ W i n σ' ys H') ?_ m0
      ⟨0, _, [], _, I4, st4, fun b hb => (f3 b hb).1, w0⟩
    rintro n s5 ⟨i, σ5, ys, H5, I5, st5, fr5, w5⟩
    obtain ⟨hacc, step⟩ := turn i n σ5 ys H5 w5
    rcases step with ⟨stop, q⟩ | ⟨go, step⟩
    · refine thn (T.done (cxComp X N scope cl pins s3 (upd H2 s.heap.objs.size (.lst [])) fp) rfl rfl rfl hc i [] s5 σ5 H5 (fun _ _ => False) I5 (stat fr5) st5 stop) fun r s6 ⟨hr, I6⟩ => ?_
      subst hr
      obtain ⟨m, hm, _⟩ := I6.loc
      exact hRR _ _ s6 H5 ⟨m, hm⟩ (back I6 (Heap.SameBut.refl _ _)) (I2.fpOk (by rw [hsz]; exact Nat.le_succ _) I6.free) q
    · refine thn (T.item (cxComp X N scope cl pins s3 (upd H2 s.heap.objs.size (.lst [])) fp) rfl rfl rfl hc i [] s5 σ5 H5 (fun _ _ => False) I5 (stat fr5) st5 go) fun r s6 ⟨u, hr, h6⟩ => ?_
      subst hr
      refine thn h6 fun _ s7 ⟨x, H7, I7, r7, y7, st7, fr7⟩ => ?_
      have I7' := I7.pinned (stat fr7) (T.obj _ _ st7)
      refine thn (hg pins s3 _ fp _ s7 σ5 H7 x u _ I7' r7 (step x H7 y7)) fun _ s8 ⟨σ8, H8, I8, q8⟩ => ?_
      have keepT : ∀ {σ' : St} {H' : Hp} {s' : Shared}, Inv (cxComp X N scope cl pins s3 (upd H2 s.heap.objs.size (.lst [])) fp) ([] ++ pinsAt fp s7.heap) σ' H' s' → tn (i + 1) s'.heap ∧ ∀ b ∈ fp, H' b = none := fun {σ' H' s'} I' =>
        ⟨T.keep _ _ _ st7 fun b hb o e => (I'.pin (b, o) (List.mem_append_right _ (List.mem_append_right _ (mem_pinsAt hb e)))).1, fun b hb => by
          obtain ⟨o, e, d⟩ := T.obj _ _ st7 b hb
          exact (I'.pin (b, o) (List.mem_append_right _ (List.mem_append_right _ (mem_pinsAt hb e)))).2.1⟩
      refine thn (hif pins s3 _ fp _ s8 σ8 H8 _ I8 q8) fun ok s9 ⟨H9, I9, q9⟩ => ?_
      cases ok with
      | false =>
        have q9 : ∃ m', m' < n ∧ W (i + 1) m' σ8 ys H9 := q9
        obtain ⟨m', hm, w9⟩ := q9
        exact ⟨m', hm, i + 1, σ8, ys, H9, I9.unpinned, (keepT I9).1, (keepT I9).2, w9⟩
      | true =>
        rw [if_pos rfl]
        refine thn (he pins s3 _ fp _ s9 σ8 H9 _ I9 q9) fun z s10 ⟨y, H10, I10, r10, hz, ha10, m', hm, w10⟩ => ?_
        refine thn (mt_append _ s10 σ8 H10 (.ref s.heap.objs.size) [y] (.ref s.heap.objs.size) [z] (fun v H' => v = .non ∧ H' = upd H10 s.heap.objs.size (.lst (ys ++ [y]))) I10 rfl (.cons r10 .nil) ⟨_, ys, y, rfl, rfl, ha10, hz, rfl, rfl⟩) fun v s11 ⟨_, H11, I11, _, _, e11⟩ => ?_
        subst e11
        exact ⟨m', hm, i + 1, σ8, ys ++ [y], _, I11.unpinned, (keepT I11).1, (keepT I11).2, w10⟩
  have fin : codeAny (model X.prog X.w) X.A (.compStart (.ListComp elt [⟨target, iter, ifs, 0⟩] scope pos) 0 (.ref it) (.ref s.heap.objs.size) (compEnvC scope cl s3.heap.objs.size X.env)) (RR (.ref s.heap.objs.size) s3.heap.objs.size)
      { s3 with heap := h₁, toks := s3.toks + ([] : List (Str × Value)).length } :=
    codeAny_compStart_list loop (T.self _ 0 _ _ _ st4 loop)
  rw [← hs3] at fin
  exact fin
theorem pe_comp (hi : PI X target iter wi) (hg : ∀ pins s H fp, PG (cxComp X N scope cl pins s H fp) target g) (hif : ∀ pins s H fp, PIf (cxComp X N scope cl pins s H fp) ifs c) (he : ∀ pins s H fp, PE (cxComp X N scope cl pins s H fp) elt te)
    (hc : X.calm = true := by rfl) (hcl : closOf X.env scope.names = some cl := by rfl) (hlen : N.length = nt + fr.length := by rfl) (hB : freeB X N nt scope fr 0 = true := by rfl)
    (hcell : ∀ y ∈ scope.names, y.2 ≠ .cell := by decide +kernel) (hkind : scope.kind = .function := by rfl) (hnames : ∀ y ∈ scope.names, y.2 = .local → scope.names.lookup y.1 = some .local := by decide +kernel)
    (hs : ∀ x, foldedSetIterable iter X.env x = pure x := by intro _; rfl) : PE X (.ListComp elt [⟨target, iter, ifs, 0⟩] scope pos) (tComp wi nt fr g c te) := by
  intro pins s σ H Q I h
  rw [eval_ListComp]
  refine wpAny_comprehension_free (use := none) rfl hs (closureFor_of hcl) hkind hnames (thn (hi pins s σ H _ I h) fun xv s1 h1 => thn h1 fun itv s2 h2 => ?_)
  exact comp_block hc (CompNames.of hcl hlen hB hcell hkind) hcell hg hif he h2 fun acc C s' H' ⟨m, hm⟩ hI hF hq => ⟨m, hm, fun h' sb => ⟨.ref acc, H', hI.turned (t' := s'.toks) (fun b o hb e => sb.extBut b o hb e) hF.1 hF.2.1 hF.2.2.2.1 hF.2.2.2.2.1 hF.2.2.2.2.2, rfl, hq⟩⟩
/-- name = [..] on one line: the store comes ahead of the block's end -/
theorem ps_setc {i : Nat} {y : Str} {py spos : Pos} (hN : X.N.Nodup) (hyi : X.N[i]? = some y) (hy : Loc X.env.scope y) (hi : PI X target iter wi) (hg : ∀ pins s H fp, PG (cxComp X N scope cl pins s H fp) target g) (hif : ∀ pins s H fp, PIf (cxComp X N scope cl pins s H fp) ifs c) (he : ∀ pins s H fp, PE (cxComp X N scope cl pins s H fp) elt te)
    (hsw : swapsWith (.ListComp elt [⟨target, iter, ifs, 0⟩] scope pos) (some (.Name y py)) spos.line X.env = pure true := by rfl)
    (hc : X.calm = true := by rfl) (hcl : closOf X.env scope.names = some cl := by rfl) (hlen : N.length = nt + fr.length := by rfl) (hB : freeB X N nt scope fr 0 = true := by rfl)
    (hcell : ∀ y ∈ scope.names, y.2 ≠ .cell := by decide +kernel) (hkind : scope.kind = .function := by rfl) (hnames : ∀ y ∈ scope.names, y.2 = .local → scope.names.lookup y.1 = some .local := by decide +kernel)
    (hs : ∀ x, foldedSetIterable iter X.env x = pure x := by intro _; rfl) (hf : X.fn y = true ∨ X.env.scope.names.lookup y = some .local := by first | exact .inl rfl | exact .inr rfl | assumption) :
    PS X (.Assign [.Name y py] (.ListComp elt [⟨target, iter, ifs, 0⟩] scope pos) spos) (tAsg (tComp wi nt fr g c te) (gName i)) := by
  intro pins s σ H D I h
  rw [exec_Assign_Name_used _ _ _ _ hsw]
  refine wpAny_bind (wpAny_standAt (wpAny_bind ?_))
  show wpAny _ X.A (do let _ ← comprehension (.ListComp elt [⟨target, iter, ifs, 0⟩] scope pos) scope X.env _ (newList []) false (eval iter X.env) (some (assign (.Name y py) X.env))) _ _ s
  refine wpAny_bind (wpAny_mono (wpAny_comprehension_free (use := some (assign (.Name y py) X.env)) (Q := fun _ s' => SP X pins D .next s') rfl hs (closureFor_of hcl) hkind hnames (thn (hi pins s σ H _ I h) fun xv s1 h1 => thn h1 fun itv s2 h2 => ?_)) (fun _ s' hq => wpAny_pure (wpAny_pure hq)) fun _ _ e => e)
  refine comp_block (Q := fun x H1 => gName i x σ H1 D.nx) (RR := fun acc C => compPost (model X.prog X.w) X.A X.xe (some (assign (.Name y py) X.env)) (fun _ s' => SP X pins D .next s') acc C) hc (CompNames.of hcl hlen hB hcell hkind) hcell hg hif he h2 fun acc C s' H' ⟨m, hm⟩ hI hF hq => ?_
  show wpAny _ X.A (assign (.Name y py) X.env (.ref acc)) _ _ _
  refine wpAny_assign_Name (store_ok2 hI hN hyi hy (v := .ref acc) rfl (fun s3 I3 ⟨a, sb, ha⟩ => ?_) hf)
  have hne : C ≠ a := by
    rcases ha with rfl | ha
    · exact hF.2.1
    · exact fun z => hF.2.2.2.2.1 y a ha z.symm
  refine ⟨m, hm.sameBut sb hne, fun h' sb' => ⟨_, H', I3.turned (t' := s3.toks) (fun b o hb e => sb'.extBut b o hb e) hF.1 hF.2.1 hF.2.2.2.1 hF.2.2.2.2.1 hF.2.2.2.2.2, hq⟩⟩
end
structure ItemsOf (J : It) (xs : List V) (L : Hp → Prop) : Prop where
  go : ∀ i H, L H → i < xs.length → J.go i H
  yld : ∀ i H x H', L H → i < xs.length → J.yld i H x H' → H' = H ∧ xs[i]? = some x
  stop : ∀ H, L H → J.stop xs.length H
theorem items_list {K : PySem.W.Frag} {a : Addr} {xs : List V} : ItemsOf (Itl K a) xs (fun H => SqL K H a xs) :=
  ⟨fun i H h hi => ⟨xs, xs[i], h, by simp [hi]⟩, fun i H x H' h hi y => ⟨y.1, y.2 xs h⟩, fun H h => ⟨xs, h, Nat.le_refl _⟩⟩
/-- what stands between two turns: Pv (turn, the list so far, the heap); nt own names, the others are fvs -/
def CompW (xs : List V) (nt : Nat) (fvs : St) (Pv : Nat → List V → Hp → Prop) : Nat → Nat → St → List V → Hp → Prop := fun i m σ' ys H' =>
  m = xs.length - i ∧ i ≤ xs.length ∧ Pv i ys H' ∧ ∃ tv : List (Option V), tv.length = nt ∧ σ' = tv ++ fvs
theorem CompW.next {xs : List V} {nt : Nat} {fvs : St} {Pv : Nat → List V → Hp → Prop} {i : Nat} {tv : List (Option V)} {ys : List V} {H : Hp} (hi : i < xs.length) (p : Pv (i + 1) ys H) (ht : tv.length = nt) :
    ∃ m', m' < xs.length - i ∧ CompW xs nt fvs Pv (i + 1) m' (tv ++ fvs) ys H := ⟨xs.length - (i + 1), by omega, rfl, hi, p, tv, ht, rfl⟩
/-- a comprehension by its word -/
theorem comp_by {J : It} {xs : List V} {L : Hp → Prop} {σ : St} {H1 : Hp} {nt : Nat} {fr : List Nat} {g : TG} {c : TT} {te : TE} {Q : VK} {acc : Addr} (it : ItemsOf J xs L) (Pv : Nat → List V → Hp → Prop)
    (h0 : Pv 0 [] (upd H1 acc (.lst []))) (hL : ∀ i ys H', i ≤ xs.length → Pv i ys H' → L H' ∧ H' acc = some (.lst ys))
    (turn : ∀ i x tv ys H', xs[i]? = some x → i < xs.length → Pv i ys H' → tv.length = nt → g x (tv ++ fr.map fun i => (σ[i]?).getD none) H' fun σ2 H3 =>
      c σ2 H3 fun b H4 => if b = true then te σ2 H4 fun y H5 => ys.length < sizeLine ∧ H5 acc = some (.lst ys) ∧ ∃ m', m' < xs.length - i ∧ CompW xs nt (fr.map fun i => (σ[i]?).getD none) Pv (i + 1) m' σ2 (ys ++ [y]) (upd H5 acc (.lst (ys ++ [y])))
        else ∃ m', m' < xs.length - i ∧ CompW xs nt (fr.map fun i => (σ[i]?).getD none) Pv (i + 1) m' σ2 ys H4)
    (hd : ∀ ys H', Pv xs.length ys H' → Q (.ref acc) H') : CompGoal J nt fr g c te σ H1 Q acc := by
  refine ⟨CompW xs nt (fr.map fun i => (σ[i]?).getD none) Pv, ⟨xs.length, by simp, Nat.zero_le _, h0, List.replicate nt none, by simp, rfl⟩, ?_⟩
  rintro i m σ' ys H' ⟨rfl, hi, p, tv, htv, rfl⟩
  obtain ⟨l, ha⟩ := hL i ys H' hi p
  refine ⟨ha, ?_⟩
  by_cases hlt : i < xs.length
  · refine .inr ⟨it.go i H' l hlt, fun x H2 y => ?_⟩
    obtain ⟨rfl, hx⟩ := it.yld i H' x H2 l hlt y
    exact turn i x tv ys H2 hx hlt p htv
  · have e : i = xs.length := by omega
    subst e
    exact .inl ⟨it.stop H' l, hd ys H' p⟩
end L2
set_option Elab.async false
set_option linter.all false
set_option maxRecDepth 100000
set_option maxHeartbeats 4000000
namespace L2
open PySem PySem.Spec PyProof.Rows PySem.SeqAt
inductive Dt where
  | non | bl (b : Bool) | int (i : Int) | str (x : Str) | lst (xs : List Dt) | tup (xs : List Dt)
mutual
def Rep (K : PySem.W.Frag) (H : Hp) : Dt → V → Prop
  | .non, v => v = .non
  | .bl b, v => v = .bl b
  | .int i, v => v = .int i
  | .str x, v => v = .str x
  | .lst ds, v => ∃ p xs, v = .ref p ∧ SqL K H p xs ∧ Reps K H ds xs
  | .tup ds, v => ∃ p xs, v = .ref p ∧ SqT K H p xs ∧ Reps K H ds xs
def Reps (K : PySem.W.Frag) (H : Hp) : List Dt → List V → Prop
  | [], xs => xs = []
  | d :: ds, xs => ∃ x r, xs = x :: r ∧ Rep K H d x ∧ Reps K H ds r
end
mutual
def eqDt : Dt → Dt → Bool
  | .non, .non => true
  | .bl a, .bl b => a == b
  | .bl a, .int b => (if a then 1 else 0) == b
  | .int a, .bl b => a == (if b then 1 else 0)
  | .int a, .int b => a == b
  | .str a, .str b => a == b
  | .lst xs, .lst ys => eqDts xs ys
  | .tup xs, .tup ys => eqDts xs ys
  | _, _ => false
def eqDts : List Dt → List Dt → Bool
  | [], [] => true
  | x :: xs, y :: ys => eqDt x y && eqDts xs ys
  | _, _ => false
end
mutual
def depD : Dt → Nat
  | .lst xs => depDs xs + 1
  | .tup xs => depDs xs + 1
  | _ => 0
def depDs : List Dt → Nat
  | [] => 0
  | x :: xs => max (depD x) (depDs xs)
end
theorem Reps.length {K : PySem.W.Frag} {H : Hp} : ∀ {ds : List Dt} {xs : List V}, Reps K H ds xs → ds.length = xs.length
  | [], xs, h => by rw [show xs = [] from by simpa [Reps] using h]; rfl
  | d :: ds, xs, h => by
    obtain ⟨x, r, rfl, _, h2⟩ : ∃ x r, xs = x :: r ∧ Rep K H d x ∧ Reps K H ds r := by simpa [Reps] using h
    simp [Reps.length h2]
theorem Reps.get {K : PySem.W.Frag} {H : Hp} : ∀ {ds : List Dt} {xs : List V} {j : Nat} {d : Dt}, Reps K H ds xs → ds[j]? = some d → ∃ x, xs[j]? = some x ∧ Rep K H d x
  | [], _, _, _, _, e => by simp at e
  | d0 :: ds, xs, j, d, h, e => by
    obtain ⟨x, r, rfl, h1, h2⟩ : ∃ x r, xs = x :: r ∧ Rep K H d0 x ∧ Reps K H ds r := by simpa [Reps] using h
    cases j with
    | zero =>
      have e : d0 = d := by simpa using e
      subst e
      exact ⟨x, rfl, h1⟩
    | succ j =>
      obtain ⟨y, e1, e2⟩ := Reps.get (j := j) h2 (by simpa using e)
      exact ⟨y, by simpa using e1, e2⟩
theorem depDs_get : ∀ {ds : List Dt} {j : Nat} {d : Dt}, ds[j]? = some d → depD d ≤ depDs ds
  | [], _, _, e => by simp at e
  | d0 :: ds, j, d, e => by
    cases j with
    | zero =>
      have e : d0 = d := by simpa using e
      subst e
      simp only [depDs]; omega
    | succ j =>
      have := depDs_get (ds := ds) (j := j) (d := d) (by simpa using e)
      simp only [depDs]; omega
theorem eqDts_all : ∀ (ds es : List Dt), ds.length = es.length → ((List.range ds.length).all fun j => eqDt (ds.getD j .non) (es.getD j .non)) = eqDts ds es
  | [], [], _ => rfl
  | [], _ :: _, h => by simp at h
  | _ :: _, [], h => by simp at h
  | d :: ds, e :: es, h => by
    have h : ds.length = es.length := by simpa using h
    rw [List.length_cons, List.range_succ_eq_map, List.all_cons, List.all_map]
    have := eqDts_all ds es h
    simp only [eqDts]
    rw [← this]
    rfl
theorem eqDts_length : ∀ (ds es : List Dt), ds.length ≠ es.length → eqDts ds es = false
  | [], [], h => by simp at h
  | [], _ :: _, _ => rfl
  | _ :: _, [], _ => rfl
  | d :: ds, e :: es, h => by
    have h : ds.length ≠ es.length := fun z => h (by simp [z])
    simp only [eqDts, eqDts_length ds es h, Bool.and_false]
mutual
theorem eqDt_refl : ∀ d : Dt, eqDt d d = true
  | .non => rfl
  | .bl b => by simp [eqDt]
  | .int i => by simp [eqDt]
  | .str x => by simp [eqDt]
  | .lst xs => by simp only [eqDt]; exact eqDts_refl xs
  | .tup xs => by simp only [eqDt]; exact eqDts_refl xs
theorem eqDts_refl : ∀ ds : List Dt, eqDts ds ds = true
  | [] => rfl
  | d :: ds => by simp only [eqDts, eqDt_refl d, eqDts_refl ds, Bool.and_true]
end
section
variable {X : Cx} {pins : List (Addr × Obj)} {σ : St} {H : Hp} {s : Shared}
theorem lst_not_tup {a : Addr} {xs ys : List V} (I : Inv X pins σ H s) (h : SqL X.K H a xs) (h' : SqT X.K H a ys) : False := by
  obtain ⟨its, _, pl, _⟩ := I.list h
  obtain ⟨its', _, pt, _⟩ := I.tuple h'
  obtain ⟨o, n, e, c, _, _⟩ := pl
  obtain ⟨o', e', c', _⟩ := pt
  rw [e] at e'; cases e'
  rw [c] at c'
  exact absurd c' (by decide)
mutual
theorem rep_inj (I : Inv X pins σ H s) : ∀ (d d' : Dt) (v : V), Rep X.K H d v → Rep X.K H d' v → d = d'
  | .non, d', v, h, h' => by
    have h : v = .non := by simpa [Rep] using h
    subst h
    cases d' <;> simp [Rep] at h' <;> rfl
  | .bl b, d', v, h, h' => by
    have h : v = .bl b := by simpa [Rep] using h
    subst h
    cases d' <;> simp [Rep] at h'
    rw [h']
  | .int b, d', v, h, h' => by
    have h : v = .int b := by simpa [Rep] using h
    subst h
    cases d' <;> simp [Rep] at h'
    rw [h']
  | .str b, d', v, h, h' => by
    have h : v = .str b := by simpa [Rep] using h
    subst h
    cases d' <;> simp [Rep] at h'
    rw [h']
  | .lst ds, d', v, h, h' => by
    obtain ⟨p, xs, rfl, hq, hr⟩ : ∃ p xs, v = .ref p ∧ SqL X.K H p xs ∧ Reps X.K H ds xs := by simpa only [Rep] using h
    cases d' with
    | lst es =>
      obtain ⟨p', ys, e, hq', hr'⟩ : ∃ p' ys, V.ref p = .ref p' ∧ SqL X.K H p' ys ∧ Reps X.K H es ys := by simpa only [Rep] using h'
      cases e
      rw [I.list_inj hq' hq] at hr'
      rw [reps_inj I ds es xs hr hr']
    | tup es =>
      obtain ⟨p', ys, e, hq', hr'⟩ : ∃ p' ys, V.ref p = .ref p' ∧ SqT X.K H p' ys ∧ Reps X.K H es ys := by simpa only [Rep] using h'
      cases e
      exact (lst_not_tup I hq hq').elim
    | _ => simp [Rep] at h'
  | .tup ds, d', v, h, h' => by
    obtain ⟨p, xs, rfl, hq, hr⟩ : ∃ p xs, v = .ref p ∧ SqT X.K H p xs ∧ Reps X.K H ds xs := by simpa only [Rep] using h
    cases d' with
    | tup es =>
      obtain ⟨p', ys, e, hq', hr'⟩ : ∃ p' ys, V.ref p = .ref p' ∧ SqT X.K H p' ys ∧ Reps X.K H es ys := by simpa only [Rep] using h'
      cases e
      rw [I.tuple_inj hq' hq] at hr'
      rw [reps_inj I ds es xs hr hr']
    | lst es =>
      obtain ⟨p', ys, e, hq', hr'⟩ : ∃ p' ys, V.ref p = .ref p' ∧ SqL X.K H p' ys ∧ Reps X.K H es ys := by simpa only [Rep] using h'
      cases e
      exact (lst_not_tup I hq' hq).elim
    | _ => simp [Rep] at h'
theorem reps_inj (I : Inv X pins σ H s) : ∀ (ds es : List Dt) (xs : List V), Reps X.K H ds xs → Reps X.K H es xs → ds = es
  | [], es, xs, h, h' => by
    have h : xs = [] := by simpa [Reps] using h
    subst h
    cases es with
    | nil => rfl
    | cons e es => simp [Reps] at h'
  | d :: ds, es, xs, h, h' => by
    obtain ⟨x, r, rfl, h1, h2⟩ : ∃ x r, xs = x :: r ∧ Rep X.K H d x ∧ Reps X.K H ds r := by simpa only [Reps] using h
    cases es with
    | nil => simp [Reps] at h'
    | cons e es =>
      obtain ⟨x', r', e', h1', h2'⟩ : ∃ x' r', x :: r = x' :: r' ∧ Rep X.K H e x' ∧ Reps X.K H es r' := by simpa only [Reps] using h'
      cases e'
      rw [rep_inj I d e x h1 h1', reps_inj I ds es r h2 h2']
end
/-- the two answers, for == and for !=, and eqBool -/
structure Eq3 (A : Around) (s : Shared) (u v : Value) (b : Bool) : Prop where
  eq : EqAt A s u v b
  rc : RcAt A s u v b
  ne : RcNeAt A s u v (!b)
theorem items_eq (I : Inv X pins σ H s) {n : Nat} {A : Around} (ih : ∀ (d d' : Dt) (x y : V) (u v : Value), depD d ≤ n → Rep X.K H d x → Rep X.K H d' y → RelV x u → RelV y v → Eq3 A.in1 s u v (eqDt d d'))
    {ds es : List Dt} {xs ys : List V} {us vs : List Value} (hd : depDs ds ≤ n) (hx : Reps X.K H ds xs) (hy : Reps X.K H es ys) (ru : Vals xs us) (rv : Vals ys vs) :
    ∀ j (h1 : j < us.toArray.size) (h2 : j < vs.toArray.size), EqAt A.in1 s us.toArray[j] vs.toArray[j] (eqDt (ds.getD j .non) (es.getD j .non)) := by
  intro j h1 h2
  have l1 : j < ds.length := by rw [hx.length, ru.length]; simpa using h1
  have l2 : j < es.length := by rw [hy.length, rv.length]; simpa using h2
  have e1 : ds[j]? = some ds[j] := by simp [l1]
  have e2 : es[j]? = some es[j] := by simp [l2]
  obtain ⟨x, ex, rx⟩ := hx.get e1
  obtain ⟨y, ey, ry⟩ := hy.get e2
  obtain ⟨u, eu, qu⟩ := ru.get ex
  obtain ⟨v, ev, qv⟩ := rv.get ey
  have h1' : j < us.length := by simpa using h1
  have h2' : j < vs.length := by simpa using h2
  have z1 : us.toArray[j] = u := by
    have : us[j]? = some us[j] := by simp [h1']
    rw [this] at eu
    simpa using eu
  have z2 : vs.toArray[j] = v := by
    have : vs[j]? = some vs[j] := by simp [h2']
    rw [this] at ev
    simpa using ev
  rw [z1, z2]
  have g1 : ds.getD j .non = ds[j] := by simp [List.getD, l1]
  have g2 : es.getD j .non = es[j] := by simp [List.getD, l2]
  rw [g1, g2]
  exact (ih _ _ x y u v (Nat.le_trans (depDs_get e1) hd) rx ry qu qv).eq
theorem eq3_lists (I : Inv X pins σ H s) {n : Nat} {A : Around} (hu : A.units < cLine) (ih : ∀ (d d' : Dt) (x y : V) (u v : Value), depD d ≤ n → Rep X.K H d x → Rep X.K H d' y → RelV x u → RelV y v → Eq3 A.in1 s u v (eqDt d d'))
    {ds es : List Dt} {p q : Addr} (hd : depDs ds ≤ n) (hp : Rep X.K H (.lst ds) (.ref p)) (hq : Rep X.K H (.lst es) (.ref q)) : Eq3 A s (.ref p) (.ref q) (eqDts ds es) := by
  obtain ⟨p', xs, e, lx, hx⟩ : ∃ p' xs, V.ref p = .ref p' ∧ SqL X.K H p' xs ∧ Reps X.K H ds xs := by simpa only [Rep] using hp
  cases e
  obtain ⟨q', ys, e, ly, hy⟩ : ∃ q' ys, V.ref q = .ref q' ∧ SqL X.K H q' ys ∧ Reps X.K H es ys := by simpa only [Rep] using hq
  cases e
  obtain ⟨us, ru, pu, _⟩ := I.list lx
  obtain ⟨vs, rv, pv', _⟩ := I.list ly
  have both : RcAt A s (.ref p) (.ref q) (eqDts ds es) ∧ RcNeAt A s (.ref p) (.ref q) (!eqDts ds es) := by
    by_cases hl : ds.length = es.length
    · have hsz : us.toArray.size = vs.toArray.size := by simp [← ru.length, ← rv.length, ← hx.length, ← hy.length, hl]
      have hz : us.toArray.size = ds.length := by simp [← ru.length, ← hx.length]
      have a := RcAt.lists pu.isList pv'.isList hsz hu (items_eq I ih hd hx hy ru rv)
      have b := RcNeAt.lists pu.isList pv'.isList hsz hu (items_eq I ih hd hx hy ru rv)
      rw [hz, eqDts_all ds es hl] at a b
      exact ⟨a, b⟩
    · have hsz : (us.toArray.size != vs.toArray.size) = true := by simp [← ru.length, ← rv.length, ← hx.length, ← hy.length, hl]
      rw [eqDts_length ds es hl]
      exact ⟨RcAt.lists_lengths pu.isList pv'.isList hsz hu, RcNeAt.lists_lengths pu.isList pv'.isList hsz hu⟩
  refine ⟨?_, both.1, both.2⟩
  by_cases hpq : p = q
  · subst hpq
    have : ds = es := by
      rw [I.list_inj ly lx] at hy
      exact reps_inj I ds es xs hx hy
    subst this
    rw [eqDts_refl]
    exact EqAt.same _
  · exact EqAt.of_refs hpq both.1
theorem eq3_tups (I : Inv X pins σ H s) {n : Nat} {A : Around} (hu : A.units < cLine) (ih : ∀ (d d' : Dt) (x y : V) (u v : Value), depD d ≤ n → Rep X.K H d x → Rep X.K H d' y → RelV x u → RelV y v → Eq3 A.in1 s u v (eqDt d d'))
    {ds es : List Dt} {p q : Addr} (hd : depDs ds ≤ n) (hp : Rep X.K H (.tup ds) (.ref p)) (hq : Rep X.K H (.tup es) (.ref q)) : Eq3 A s (.ref p) (.ref q) (eqDts ds es) := by
  obtain ⟨p', xs, e, lx, hx⟩ : ∃ p' xs, V.ref p = .ref p' ∧ SqT X.K H p' xs ∧ Reps X.K H ds xs := by simpa only [Rep] using hp
  cases e
  obtain ⟨q', ys, e, ly, hy⟩ : ∃ q' ys, V.ref q = .ref q' ∧ SqT X.K H q' ys ∧ Reps X.K H es ys := by simpa only [Rep] using hq
  cases e
  obtain ⟨us, ru, pu, _⟩ := I.tuple lx
  obtain ⟨vs, rv, pv', _⟩ := I.tuple ly
  have hz : us.toArray.size = ds.length := by simp [← ru.length, ← hx.length]
  have hz' : vs.toArray.size = es.length := by simp [← rv.length, ← hy.length]
  have key : ((List.range (min us.toArray.size vs.toArray.size)).all (fun j => eqDt (ds.getD j .non) (es.getD j .non)) && us.toArray.size == vs.toArray.size) = eqDts ds es := by
    rw [hz, hz']
    by_cases hl : ds.length = es.length
    · rw [← hl, Nat.min_self, eqDts_all ds es hl]; simp
    · rw [eqDts_length ds es hl]; simp [hl]
  have a := RcAt.tuples pu pv' hu (items_eq I ih hd hx hy ru rv)
  have b := RcNeAt.tuples pu pv' hu (items_eq I ih hd hx hy ru rv)
  rw [key] at a b
  refine ⟨?_, a, b⟩
  by_cases hpq : p = q
  · subst hpq
    have : ds = es := by
      rw [I.tuple_inj ly lx] at hy
      exact reps_inj I ds es xs hx hy
    subst this
    rw [eqDts_refl]
    exact EqAt.same _
  · exact EqAt.of_refs hpq a
end
section
variable {X : Cx} {pins : List (Addr × Obj)} {σ : St} {H : Hp} {s : Shared}
theorem rep_ref_l {ds : List Dt} {x : V} (h : Rep X.K H (.lst ds) x) : ∃ p xs, x = .ref p ∧ SqL X.K H p xs := by
  obtain ⟨p, xs, e, l, _⟩ : ∃ p xs, x = .ref p ∧ SqL X.K H p xs ∧ Reps X.K H ds xs := by simpa only [Rep] using h
  exact ⟨p, xs, e, l⟩
theorem rep_ref_t {ds : List Dt} {x : V} (h : Rep X.K H (.tup ds) x) : ∃ p xs, x = .ref p ∧ SqT X.K H p xs := by
  obtain ⟨p, xs, e, l, _⟩ : ∃ p xs, x = .ref p ∧ SqT X.K H p xs ∧ Reps X.K H ds xs := by simpa only [Rep] using h
  exact ⟨p, xs, e, l⟩
theorem eq3_step (I : Inv X pins σ H s) {n : Nat} {A : Around} (ih : ∀ (d d' : Dt) (x y : V) (u v : Value), depD d < n → Rep X.K H d x → Rep X.K H d' y → RelV x u → RelV y v → Eq3 A.in1 s u v (eqDt d d'))
    {d d' : Dt} {x y : V} {u v : Value} (hu : A.units + n < cLine) (hd : depD d ≤ n) (hx : Rep X.K H d x) (hy : Rep X.K H d' y) (rx : RelV x u) (ry : RelV y v) : Eq3 A s u v (eqDt d d') := by
  have hu0 : A.units < cLine := by omega
  cases d with
  | non =>
    have e : x = V.non := by simpa [Rep] using hx
    subst e
    cases rx
    cases d' with
    | non =>
      have e : y = V.non := by simpa [Rep] using hy
      subst e
      cases ry
      exact ⟨(EqAt.same _), RcAt.none_none , RcNeAt.none_none ⟩
    | bl b =>
      have e : y = V.bl b := by simpa [Rep] using hy
      subst e
      cases ry
      exact ⟨(EqAt.none_bool b), RcAt.none_bool b, RcNeAt.none_bool b⟩
    | int b =>
      have e : y = V.int b := by simpa [Rep] using hy
      subst e
      obtain ⟨u, rfl⟩ := ry
      exact ⟨(EqAt.none_int b u), RcAt.none_int b u, RcNeAt.none_int b u⟩
    | str b =>
      have e : y = V.str b := by simpa [Rep] using hy
      subst e
      obtain ⟨u, rfl⟩ := ry
      exact ⟨(EqAt.none_str b u), RcAt.none_str b u, RcNeAt.none_str b u⟩
    | lst b =>
      obtain ⟨pW, xsW, rfl, lW⟩ := rep_ref_l hy
      cases ry
      obtain ⟨itW, _, plW, _⟩ := I.list lW
      exact ⟨EqAt.none_list  plW.isList hu0, RcAt.none_list  plW.isList hu0, RcNeAt.none_list  plW.isList hu0⟩
    | tup b =>
      obtain ⟨pW, xsW, rfl, lW⟩ := rep_ref_t hy
      cases ry
      obtain ⟨itW, _, plW, _⟩ := I.tuple lW
      exact ⟨EqAt.none_tuple  plW hu0, RcAt.none_tuple  plW hu0, RcNeAt.none_tuple  plW hu0⟩
  | bl a =>
    have e : x = V.bl a := by simpa [Rep] using hx
    subst e
    cases rx
    cases d' with
    | non =>
      have e : y = V.non := by simpa [Rep] using hy
      subst e
      cases ry
      exact ⟨(EqAt.bool_none a), RcAt.bool_none a, RcNeAt.bool_none a⟩
    | bl b =>
      have e : y = V.bl b := by simpa [Rep] using hy
      subst e
      cases ry
      exact ⟨(EqAt.bool_bool a b), RcAt.bool_bool a b, RcNeAt.bool_bool a b⟩
    | int b =>
      have e : y = V.int b := by simpa [Rep] using hy
      subst e
      obtain ⟨u, rfl⟩ := ry
      exact ⟨(EqAt.bool_int a b u), RcAt.bool_int a b u, RcNeAt.bool_int a b u⟩
    | str b =>
      have e : y = V.str b := by simpa [Rep] using hy
      subst e
      obtain ⟨u, rfl⟩ := ry
      exact ⟨(EqAt.bool_str a b u), RcAt.bool_str a b u, RcNeAt.bool_str a b u⟩
    | lst b =>
      obtain ⟨pW, xsW, rfl, lW⟩ := rep_ref_l hy
      cases ry
      obtain ⟨itW, _, plW, _⟩ := I.list lW
      exact ⟨EqAt.bool_list a plW.isList hu0, RcAt.bool_list a plW.isList hu0, RcNeAt.bool_list a plW.isList hu0⟩
    | tup b =>
      obtain ⟨pW, xsW, rfl, lW⟩ := rep_ref_t hy
      cases ry
      obtain ⟨itW, _, plW, _⟩ := I.tuple lW
      exact ⟨EqAt.bool_tuple a plW hu0, RcAt.bool_tuple a plW hu0, RcNeAt.bool_tuple a plW hu0⟩
  | int a =>
    have e : x = V.int a := by simpa [Rep] using hx
    subst e
    obtain ⟨t, rfl⟩ := rx
    cases d' with
    | non =>
      have e : y = V.non := by simpa [Rep] using hy
      subst e
      cases ry
      exact ⟨(EqAt.int_none a t), RcAt.int_none a t, RcNeAt.int_none a t⟩
    | bl b =>
      have e : y = V.bl b := by simpa [Rep] using hy
      subst e
      cases ry
      exact ⟨(EqAt.int_bool a t b), RcAt.int_bool a t b, RcNeAt.int_bool a t b⟩
    | int b =>
      have e : y = V.int b := by simpa [Rep] using hy
      subst e
      obtain ⟨u, rfl⟩ := ry
      exact ⟨(EqAt.int_int a t b u), RcAt.int_int a t b u, RcNeAt.int_int a t b u⟩
    | str b =>
      have e : y = V.str b := by simpa [Rep] using hy
      subst e
      obtain ⟨u, rfl⟩ := ry
      exact ⟨(EqAt.int_str a t b u), RcAt.int_str a t b u, RcNeAt.int_str a t b u⟩
    | lst b =>
      obtain ⟨pW, xsW, rfl, lW⟩ := rep_ref_l hy
      cases ry
      obtain ⟨itW, _, plW, _⟩ := I.list lW
      exact ⟨EqAt.int_list a t plW.isList hu0, RcAt.int_list a t plW.isList hu0, RcNeAt.int_list a t plW.isList hu0⟩
    | tup b =>
      obtain ⟨pW, xsW, rfl, lW⟩ := rep_ref_t hy
      cases ry
      obtain ⟨itW, _, plW, _⟩ := I.tuple lW
      exact ⟨EqAt.int_tuple a t plW hu0, RcAt.int_tuple a t plW hu0, RcNeAt.int_tuple a t plW hu0⟩
  | str a =>
    have e : x = V.str a := by simpa [Rep] using hx
    subst e
    obtain ⟨t, rfl⟩ := rx
    cases d' with
    | non =>
      have e : y = V.non := by simpa [Rep] using hy
      subst e
      cases ry
      exact ⟨(EqAt.str_none a t), RcAt.str_none a t, RcNeAt.str_none a t⟩
    | bl b =>
      have e : y = V.bl b := by simpa [Rep] using hy
      subst e
      cases ry
      exact ⟨(EqAt.str_bool a t b), RcAt.str_bool a t b, RcNeAt.str_bool a t b⟩
    | int b =>
      have e : y = V.int b := by simpa [Rep] using hy
      subst e
      obtain ⟨u, rfl⟩ := ry
      exact ⟨(EqAt.str_int a t b u), RcAt.str_int a t b u, RcNeAt.str_int a t b u⟩
    | str b =>
      have e : y = V.str b := by simpa [Rep] using hy
      subst e
      obtain ⟨u, rfl⟩ := ry
      exact ⟨(EqAt.str_str a t b u), RcAt.str_str a t b u, RcNeAt.str_str a t b u⟩
    | lst b =>
      obtain ⟨pW, xsW, rfl, lW⟩ := rep_ref_l hy
      cases ry
      obtain ⟨itW, _, plW, _⟩ := I.list lW
      exact ⟨EqAt.str_list a t plW.isList hu0, RcAt.str_list a t plW.isList hu0, RcNeAt.str_list a t plW.isList hu0⟩
    | tup b =>
      obtain ⟨pW, xsW, rfl, lW⟩ := rep_ref_t hy
      cases ry
      obtain ⟨itW, _, plW, _⟩ := I.tuple lW
      exact ⟨EqAt.str_tuple a t plW hu0, RcAt.str_tuple a t plW hu0, RcNeAt.str_tuple a t plW hu0⟩
  | lst a =>
    obtain ⟨pU, xsU, rfl, lU⟩ := rep_ref_l hx
    cases rx
    obtain ⟨itU, _, plU, _⟩ := I.list lU
    cases d' with
    | non =>
      have e : y = V.non := by simpa [Rep] using hy
      subst e
      cases ry
      exact ⟨EqAt.list_none  plU.isList hu0, RcAt.list_none  plU.isList hu0, RcNeAt.list_none  plU.isList hu0⟩
    | bl b =>
      have e : y = V.bl b := by simpa [Rep] using hy
      subst e
      cases ry
      exact ⟨EqAt.list_bool b plU.isList hu0, RcAt.list_bool b plU.isList hu0, RcNeAt.list_bool b plU.isList hu0⟩
    | int b =>
      have e : y = V.int b := by simpa [Rep] using hy
      subst e
      obtain ⟨u, rfl⟩ := ry
      exact ⟨EqAt.list_int b u plU.isList hu0, RcAt.list_int b u plU.isList hu0, RcNeAt.list_int b u plU.isList hu0⟩
    | str b =>
      have e : y = V.str b := by simpa [Rep] using hy
      subst e
      obtain ⟨u, rfl⟩ := ry
      exact ⟨EqAt.list_str b u plU.isList hu0, RcAt.list_str b u plU.isList hu0, RcNeAt.list_str b u plU.isList hu0⟩
    | lst b =>
      obtain ⟨pW, xsW, rfl, lW⟩ := rep_ref_l hy
      cases ry
      obtain ⟨itW, _, plW, _⟩ := I.list lW
      have hd : depDs a + 1 ≤ n := by simpa only [depD] using hd
      exact eq3_lists I (n := n - 1) hu0 (fun d d' x y u v h => ih d d' x y u v (by omega)) (by omega) hx hy
    | tup b =>
      obtain ⟨pW, xsW, rfl, lW⟩ := rep_ref_t hy
      cases ry
      obtain ⟨itW, _, plW, _⟩ := I.tuple lW
      exact ⟨EqAt.list_tuple plU.isList plW hu0, RcAt.list_tuple plU.isList plW hu0, RcNeAt.list_tuple plU.isList plW hu0⟩
  | tup a =>
    obtain ⟨pU, xsU, rfl, lU⟩ := rep_ref_t hx
    cases rx
    obtain ⟨itU, _, plU, _⟩ := I.tuple lU
    cases d' with
    | non =>
      have e : y = V.non := by simpa [Rep] using hy
      subst e
      cases ry
      exact ⟨EqAt.tuple_none  plU hu0, RcAt.tuple_none  plU hu0, RcNeAt.tuple_none  plU hu0⟩
    | bl b =>
      have e : y = V.bl b := by simpa [Rep] using hy
      subst e
      cases ry
      exact ⟨EqAt.tuple_bool b plU hu0, RcAt.tuple_bool b plU hu0, RcNeAt.tuple_bool b plU hu0⟩
    | int b =>
      have e : y = V.int b := by simpa [Rep] using hy
      subst e
      obtain ⟨u, rfl⟩ := ry
      exact ⟨EqAt.tuple_int b u plU hu0, RcAt.tuple_int b u plU hu0, RcNeAt.tuple_int b u plU hu0⟩
    | str b =>
      have e : y = V.str b := by simpa [Rep] using hy
      subst e
      obtain ⟨u, rfl⟩ := ry
      exact ⟨EqAt.tuple_str b u plU hu0, RcAt.tuple_str b u plU hu0, RcNeAt.tuple_str b u plU hu0⟩
    | lst b =>
      obtain ⟨pW, xsW, rfl, lW⟩ := rep_ref_l hy
      cases ry
      obtain ⟨itW, _, plW, _⟩ := I.list lW
      exact ⟨EqAt.tuple_list plU plW.isList hu0, RcAt.tuple_list plU plW.isList hu0, RcNeAt.tuple_list plU plW.isList hu0⟩
    | tup b =>
      obtain ⟨pW, xsW, rfl, lW⟩ := rep_ref_t hy
      cases ry
      obtain ⟨itW, _, plW, _⟩ := I.tuple lW
      have hd : depDs a + 1 ≤ n := by simpa only [depD] using hd
      exact eq3_tups I (n := n - 1) hu0 (fun d d' x y u v h => ih d d' x y u v (by omega)) (by omega) hx hy
end
section
variable {X : Cx} {pins : List (Addr × Obj)} {σ : St} {H : Hp} {s : Shared}
theorem eq3 (I : Inv X pins σ H s) : ∀ (n : Nat) (A : Around) (d d' : Dt) (x y : V) (u v : Value), A.units + n < cLine → depD d ≤ n → Rep X.K H d x → Rep X.K H d' y → RelV x u → RelV y v → Eq3 A s u v (eqDt d d') := by
  intro n
  induction n with
  | zero => exact fun A d d' x y u v hu hd hx hy rx ry => eq3_step I (n := 0) (fun _ _ _ _ _ _ h => absurd h (Nat.not_lt_zero _)) hu hd hx hy rx ry
  | succ n ih => exact fun A d d' x y u v hu hd hx hy rx ry => eq3_step I (n := n + 1) (fun d d' x y u v h hx hy rx ry => ih A.in1 d d' x y u v (by show A.units + 1 + n < cLine; omega) (Nat.le_of_lt_succ h) hx hy rx ry) hu hd hx hy rx ry
end
section
variable {X : Cx}
/-- == of two trees; at most a hundred deep -/
theorem op_eq_d {k : Nat} (hr : Room k X.A) : OpR X (compareOp .Eq) (fun x y H Q => ∃ d d', Rep X.K H d x ∧ Rep X.K H d' y ∧ depD d ≤ 100 ∧ Q (.bl (eqDt d d')) H) := by
  intro pins s σ H x y v u Q I rx ry h
  obtain ⟨d, d', h1, h2, hd, q⟩ := h
  exact (eq3 I 100 X.A d d' x y v u (by have := hr.un; omega) hd h1 h2 rx ry).rc X.prog X.w X.xe _ ⟨.bl _, H, I, rfl, q⟩
theorem op_ne_d {k : Nat} (hr : Room k X.A) : OpR X (compareOp .NotEq) (fun x y H Q => ∃ d d', Rep X.K H d x ∧ Rep X.K H d' y ∧ depD d ≤ 100 ∧ Q (.bl (!eqDt d d')) H) := by
  intro pins s σ H x y v u Q I rx ry h
  obtain ⟨d, d', h1, h2, hd, q⟩ := h
  exact (eq3 I 100 X.A d d' x y v u (by have := hr.un; omega) hd h1 h2 rx ry).ne X.prog X.w X.xe _ ⟨.bl _, H, I, rfl, q⟩
end
end L2
set_option Elab.async false
set_option linter.all false
set_option maxRecDepth 100000
set_option maxHeartbeats 4000000
namespace L2
open PySem PySem.Spec PyProof.Rows
section
variable {K : PySem.W.Frag} {H H' : Hp} {x : V} {n : String}
theorem TyOf.same {t : Value} (e : Same H H') (h : TyOf K H x t) : TyOf K H' x t := by
  cases h with
  | non => exact .non
  | bl b => exact .bl b
  | int i => exact .int i
  | str y => exact .str y
  | flt y => exact .flt y
  | lst q => exact .lst (e _ _ q)
  | frz q => exact .frz (e _ _ q)
  | tup q => exact .tup (e _ _ q)
  | dK q => exact .dK (e _ _ q)
  | dT q => exact .dT (e _ _ q)
  | ins q c a b d m => exact .ins (e _ _ q) c a b d m
end
theorem atI_0 {α : Type} {c : α} {cs : List α} : atI (c :: cs) (0 : Int) = some c := atI_nat (j := 0) rfl
theorem atI_lt {α : Type} {xs : List α} {i : Int} (h0 : 0 ≤ i) (h1 : i < xs.length) : ∃ v, atI xs i = some v ∧ v ∈ xs := by
  obtain ⟨j, rfl⟩ : ∃ j : Nat, i = (j : Int) := ⟨i.toNat, by omega⟩
  have hj : j < xs.length := by omega
  exact ⟨xs[j], atI_nat (by simp [hj]), List.getElem_mem hj⟩
theorem Same.new {H : Hp} {p : Addr} {o : HO} (h : H p = none) : Same H (upd H p o) := fun b u e => by
  rw [upd_ne (ne_of_none e h)]
  exact e
theorem Same.tup {K : PySem.W.Frag} {H H' : Hp} {a : Addr} {xs : List V} (e : Same H H') (h : SqT K H a xs) : SqT K H' a xs := by
  rcases h with (h | ⟨o, h⟩) | h
  · exact .inl (.inl (e _ _ h))
  · exact .inl (.inr ⟨o, e _ _ h⟩)
  · exact .inr h
/-- all but the object at p is as it was -/
def Off (p : Addr) (H H' : Hp) : Prop := ∀ b, b ≠ p → H' b = H b
theorem Off.refl (p : Addr) (H : Hp) : Off p H H := fun _ _ => rfl
theorem Off.trans {p : Addr} {H H1 H2 : Hp} (a : Off p H H1) (b : Off p H1 H2) : Off p H H2 := fun c h => (b c h).trans (a c h)
theorem Off.upd {p : Addr} {H : Hp} {o : HO} : Off p H (upd H p o) := fun _ h => upd_ne h
theorem Off.seq {K : PySem.W.Frag} {p a : Addr} {H H' : Hp} {xs : List V} (e : Off p H H') (ne : a ≠ p) (h : SqL K H a xs) : SqL K H' a xs := by
  rcases h with (h | ⟨o, h⟩) | h
  · exact .inl (.inl (by rw [e a ne]; exact h))
  · exact .inl (.inr ⟨o, by rw [e a ne]; exact h⟩)
  · exact .inr h
theorem small_line {n : Nat} (h : n ≤ 1000000) : n ≤ sizeLine := Nat.le_trans h (by decide)
end L2
namespace L2
open PySem PySem.Spec PyProof.Rows
/-- as def_of, for a function that is known by its address (the law's own) -/
theorem fnok_of {P : Program} {w : World} {K : PySem.W.Frag} {mg : Str → Option Value} {base : Heap} {CX : CXT} {x : Str} {ps : List Str} {sp : Sp} {k : Nat} {st : Stmt} {N : List Str} {f : Addr} {fd : FuncData}
    (F : Fun K x x st f fd) (S : FnScope N ps (defScope st)) (len : ∀ vs H Q E, sp vs H Q E → vs.length = ps.length)
    (hbody : ∀ (cdv : Value) (A : Around) (outer : List Env) (s : Shared) (H : Hp) (vs : List V) (Q : VK) (E : XK), Room k (A.deeper (envOfC x (defScope st) s.heap.objs.size f cdv)) → sp vs H Q E →
      ∃ t, PSs (cxOf CX P w K mg base N x (defScope st) f cdv A outer s H E).nox (defBody st) t ∧ t { nx := fun _ H' => Q .non H', rt := Q } (start N vs) H) : FnOk P w K mg base CX (k + 1) f fd ps sp := by
  obtain ⟨oc, od, kV, doc, pm, an, cdv, ct, osl, rfl, lk, hcd⟩ := F.ex
  refine fn_of lk hcd S len fun A outer s H vs Q E hr hsp => ?_
  obtain ⟨t, h, q⟩ := hbody cdv A outer s H vs Q E hr hsp
  exact ⟨t, h.nox, q⟩
end L2
set_option Elab.async false
set_option linter.all false
set_option maxRecDepth 100000
set_option maxHeartbeats 4000000
namespace L2
open PySem PySem.Spec PyProof.Rows
/-- what is asked of the built-in class under which own exception classes stand, bm being what stands above the class itself (own classes too) -/
structure ExcF (B newId initId : String) (bm : List Value) : Prop where
  call : ExcCallFacts B newId initId
  split : splitId newId = some (B, "__new__")
  kind : builtinKind newId = some .builtinFn
  row : Manifest.signature? newId = some ⟨.any, B, B, .cls, [⟨"args", .varPos, false⟩, ⟨"kwargs", .varKw, false⟩]⟩
  hasB : bm.contains (.type B) = true
  hasE : bm.contains (.type "BaseException") = true
  noA : bm.contains (.type "AttributeError") = false
  noN : bm.contains (.type "NameError") = false
  canon : Manifest.canonical newId = Manifest.canonical "BaseException.__new__"
theorem ExcF.under {B newId initId : String} {bm : List Value} (F : ExcF B newId initId bm) (R : Addr) : ExcF B newId initId (.ref R :: bm) :=
  ⟨F.call, F.split, F.kind, F.row, by rw [List.contains_cons, F.hasB, Bool.or_true], by rw [List.contains_cons, F.hasE, Bool.or_true], by rw [List.contains_cons, F.noA]; rfl, by rw [List.contains_cons, F.noN]; rfl, F.canon⟩
section
variable {prog : Program} {w : World} {M : Model} {A : Around} {E : Value → Shared → Prop} {R : Result → Shared → Prop} {h : Heap} {g : Array GenState} {d : Drawn} {t : Nat} {os : OsState}
variable {nm q : Str} {C N : Addr} {bs bm : List Value} {hdct : Bool} {sn : List Str} {sub : List Value} {ab : Bool} {col : Option Bool} {dd : Option Addr} {k0 k1 k2 k3 k5 : Option Value} {B newId initId : String}
theorem ExcF.has (F : ExcF B newId initId bm) : (Value.ref C :: bm).contains (.type B) = true := by rw [List.contains_cons, F.hasB, Bool.or_true]
end
end L2
set_option Elab.async false
set_option linter.all false
set_option maxRecDepth 100000
set_option maxHeartbeats 4000000
namespace L2
open PySem PySem.Spec PyProof.Rows
section
variable {prog : Program} {w : World} {A : Around} {E : Value → Shared → Prop} {s : Shared} {K : PySem.W.Frag} {e C : Addr} {oe : Obj} {vs : Array Value} {name : Str} {v : Value}
end
end L2
set_option Elab.async false
set_option linter.all false
set_option maxRecDepth 100000
set_option maxHeartbeats 4000000
namespace L2
open PySem PySem.Spec PyProof.Rows
/-- an exception of the class at C that was made and not raised yet; dx: its dict, once it has one -/
def excO (e C : Addr) (dx : Option Addr) : HO := .ext fun h => ∃ t sl, h.get? e = some { cls := .ref C, dict := dx, data := .fields #[.ref t, .none, .none, .none, .bool false, .none], slots := sl }
/-- its dict -/
def dctO (dx : Addr) (fs : List (Str × V)) : HO := .ext fun h => ∃ mA, h.Ns1 dx mA ∧ (∀ f, RelO (fs.lookup f) (mA f)) ∧ PySem.Within mA (fs.map (·.1)) ∧ fs.length ≤ 100
section
variable {P : Program} {w : World} {H : Hp} {h : Heap} {e C dx : Addr}
end
section
variable {X : Cx} {CX : CXT} {k m : Nat} {f C : Addr} {fd : FuncData} {ps : List Str} {sp : Sp} {E : XK} {x : Str} {p pos : Pos} {e : Expr} {es : List Expr} {t : TA} {bm : List Value}
/-- what of the text reading its fields asks -/
structure ExcG (K : PySem.W.Frag) (C : Addr) : Prop where
  ga : PySem.W.findIn K (.ref C) "__getattribute__" = some (some (.builtin "BaseException.__getattribute__"))
  gb : PySem.W.findIn K (.ref C) "__getattr__" = some none
  mb : PySem.W.mroIn K C (.type "BaseException") = some true
  hd : PySem.W.hasDictIn K C = true
end
end L2
set_option Elab.async false
set_option linter.all false
set_option maxRecDepth 100000
set_option maxHeartbeats 4000000
namespace L2
open PySem PySem.Spec PyProof.Rows
section
variable {M : Model} {A : Around} {E : Value → Shared → Prop} {s : Shared} {base : Heap} {env : Env} {outer : List Env} {L e : Addr} {oe : Obj} {vs : Array Value}
end
end L2
set_option Elab.async false
set_option linter.all false
set_option maxRecDepth 100000
set_option maxHeartbeats 4000000
namespace L2
open PySem PySem.Spec PyProof.Rows
/-- an exception of the class at C in flight, made since the heap had n objects; dx: its dict -/
def Flown (n : Nat) (h : Heap) (a C : Addr) (dx : Option Addr) (H : Hp) : Prop :=
  ∃ oe vs T oT ts, h.get? a = some oe ∧ oe.cls = .ref C ∧ oe.dict = dx ∧ oe.data = .fields vs ∧ vs[1]? = some (.ref T) ∧ T ≠ a ∧ h.get? T = some oT ∧ oT.data = .fields ts ∧ ts[3]? = some .none ∧ H a = none ∧ H T = none ∧ n ≤ a ∧ n ≤ T
def CX1 (P : Program) (w : World) : CXT := fun outer H s E ev s' =>
  ∃ a C dx H', ev = .ref a ∧ s'.os = s.os ∧ AllBare s'.gens ∧ Un (frs outer) [] H H' s.heap s'.heap ∧ HOk P w H' s'.heap ∧ Flown s.heap.objs.size s'.heap a C dx H' ∧ E (.ref C) dx H'
section
variable {P : Program} {w : World} {K : PySem.W.Frag} {mg : Str → Option Value} {base : Heap} {N : List Str} {qual : Str} {scope : Scope} {f : Addr} {cd : Value} {A : Around} {outer : List Env} {s : Shared} {H : Hp} {E : XK}
end
end L2
set_option Elab.async false
set_option linter.all false
set_option maxRecDepth 100000
set_option maxHeartbeats 4000000
namespace L2
open PySem PySem.Spec PyProof.Rows
section
variable {X : Cx} {pins : List (Addr × Obj)} {σ : St} {H : Hp} {s : Shared}
end
/-- what of the text it asks -/
structure ExcI (K : PySem.W.Frag) (C R : Addr) : Prop where
  g : ExcG K C
  mro : (PySem.W.clsIn K C).map (·.mro) = some [.ref C, .ref R, .type "ValueError", .type "Exception", .type "BaseException", .type "object"]
  ty : PySem.W.typeIn K (.ref C) = some (.type "type")
  ha : PySem.W.findIn K (.ref C) "__class__" = some (some (.builtin "object.__class__"))
  hn : PySem.W.specialIn K (.builtin "object.__class__") "__get__" = some (some (.builtin "getset_descriptor.__get__"))
  tk : PySem.W.takesIn K (.builtin "object.__class__") = some true
section
variable {prog : Program} {w : World} {A : Around} {E : Value → Shared → Prop} {s : Shared} {K : PySem.W.Frag} {e C R D : Addr} {oe : Obj} {odo : Option Obj}
theorem ExcI.in (G : ExcI K C R) (b : Value) : PySem.W.mroIn K C b = some ([Value.ref C, .ref R, .type "ValueError", .type "Exception", .type "BaseException", .type "object"].contains b) := by
  obtain ⟨cd, hc, hm⟩ := Option.map_eq_some_iff.mp G.mro
  unfold PySem.W.mroIn
  rw [hc, Option.bind_some, hm]
  rfl
end
/-- an exception made, with its fields; none: it has none -/
def ExcAt (H : Hp) (x C : Addr) (fs : List (Str × V)) : Prop := (fs = [] ∧ H x = some (excO x C none)) ∨ ∃ dx, H x = some (excO x C (some dx)) ∧ H dx = some (dctO dx fs) ∧ dx ≠ x
theorem ExcAt.same {H H' : Hp} {x C : Addr} {fs : List (Str × V)} (e : Same H H') (h : ExcAt H x C fs) : ExcAt H' x C fs := by
  rcases h with ⟨a, b⟩ | ⟨dx, a, b, c⟩
  · exact .inl ⟨a, e _ _ b⟩
  · exact .inr ⟨dx, e _ _ a, e _ _ b, c⟩
section
variable {X : Cx}
end
end L2
set_option Elab.async false
set_option linter.all false
set_option maxRecDepth 100000
set_option maxHeartbeats 4000000
namespace L2
open PySem PySem.Spec PyProof.Rows
section
variable {prog : Program} {w : World} {A : Around} {E : Value → Shared → Prop} {R : Result → Shared → Prop} {h : Heap} {g : Array GenState} {d : Drawn} {t : Nat} {os : OsState}
variable {nm q : Str} {C N : Addr} {bs bm : List Value} {hdct : Bool} {sn : List Str} {sub : List Value} {ab : Bool} {col : Option Bool} {dd : Option Addr} {k0 k1 k2 k3 k5 : Option Value} {B newId initId : String}
end
section
variable {P : Program} {w : World} {K : PySem.W.Frag} {mg : Str → Option Value} {base : Heap} {CX : CXT} {X : Cx} {k m : Nat} {C R : Addr} {E : XK} {x qual f g : Str} {st : Stmt} {p pos : Pos} {e : Expr} {es : List Expr} {t : TA}
end
section
variable {K : PySem.W.Frag} {mg : Str → Option Value} {x qual : Str} {st : Stmt} {C R f : Addr} {nm q : Str} {N : Addr} {bs : List Value} {sn : List Str} {sub : List Value} {ab : Bool} {col : Option Bool} {dd : Option Addr} {k0 k1 k2 k3 k5 : Option Value} {od an : Option Addr} {osl : Array (Option Value)} {kV doc pm cdv ct : Value}
end
end L2
set_option Elab.async false
set_option linter.all false
set_option maxRecDepth 100000
set_option maxHeartbeats 4000000
namespace L2
open PySem PySem.Spec PyProof.Rows
section
variable {X : Cx}
end
/-- a tree that is shown in m signs at most, of depth d at most -/
structure Shm (m d : Nat) (x : PyData) : Prop where
  sh : x.showable = true
  ln : x.shown.length ≤ m
  dp : x.depth ≤ d
theorem Shm.mono {m m' d d' : Nat} {x : PyData} (h : Shm m d x) (a : m ≤ m') (b : d ≤ d') : Shm m' d' x := ⟨h.sh, Nat.le_trans h.ln a, Nat.le_trans h.dp b⟩
end L2
set_option Elab.async false
set_option linter.all false
set_option maxRecDepth 100000
set_option maxHeartbeats 4000000
namespace L2
open PySem PySem.Spec PyProof.Rows
/-- a new object o at p: all that was stays, and p was not tracked -/
structure New (H H' : Hp) (p : Addr) (o : HO) : Prop where
  s : Same H H'
  e : H' p = some o
  n : ∀ a u, H a = some u → a ≠ p
theorem New.mk' {H : Hp} {p : Addr} {o : HO} (h : H p = none) : New H (upd H p o) p o := ⟨Same.new h, upd_same, fun a u q => ne_of_none q h⟩
section
variable {X : Cx} {es : List Expr} {t : TA} {pos : Pos}
def tTupA (t : TA) : TE := fun σ H Q => t σ H fun xs H1 => xs.length ≤ sizeLine ∧ ∀ p H', New H1 H' p (.tup xs) → Q (.ref p) H'
def tLstA (t : TA) : TE := fun σ H Q => t σ H fun xs H1 => xs.length ≤ sizeLine ∧ ∀ p H', New H1 H' p (.lst xs) → Q (.ref p) H'
theorem pe_tupA {x1} (h : PA X es t) : PE X (.Tuple es x1 pos) (tTupA t) := by
  intro pins s σ H Q I hq
  refine wpAny_Tuple_spliced (thn (h pos pins s σ H _ I hq) fun us s1 ⟨xs, H1, I1, r, z, q⟩ => ⟨by rw [← r.length]; exact z, ?_⟩)
  have hf : H1 s1.heap.objs.size = none := I1.hok.fresh (Nat.le_refl _)
  refine ⟨.ref s1.heap.objs.size, upd H1 s1.heap.objs.size (.tup xs), I1.laid (t' := s1.toks) (fun b u e => Heap.get?_push_of_some _ e) (Nat.le_refl _) ?_, rfl, q _ _ (.mk' hf)⟩
  exact ⟨z, us, r, ⟨_, Heap.get?_push_size _ rfl, rfl, _, rfl⟩⟩
theorem pe_lstA (h : PA X es t) : PE X (.List es pos) (tLstA t) := by
  intro pins s σ H Q I hq
  refine wpAny_List_spliced (thn (h pos pins s σ H _ I hq) fun us s1 ⟨xs, H1, I1, r, z, q⟩ => ⟨by rw [← r.length]; exact z, ?_⟩)
  have hf : H1 s1.heap.objs.size = none := I1.hok.fresh (Nat.le_refl _)
  refine ⟨.ref s1.heap.objs.size, upd H1 s1.heap.objs.size (.lst xs), I1.laid (t' := s1.toks) (fun b u e => Heap.get?_push_of_some _ e) (Nat.le_refl _) ?_, rfl, q _ _ (.mk' hf)⟩
  exact ⟨z, us, 0, r, Heap.get?_push_size _ rfl⟩
/-- xs.append(e): that list alone is turned -/
def rAppA : V → List V → Hp → VK → Prop := fun x vs H Q => ∃ l xs y, x = .ref l ∧ vs = [y] ∧ H l = some (.lst xs) ∧ xs.length < sizeLine ∧ ∀ H', Off l H H' → H' l = some (.lst (xs ++ [y])) → Q .non H'
theorem mt_appendA : MtM X "list.append" rAppA := by
  intro pins s σ H x vs v us Q I rx rv h
  obtain ⟨l, xs, y, e1, e2, hH, hz, q⟩ := h
  exact mt_append pins s σ H x vs v us Q I rx rv ⟨l, xs, y, e1, e2, hH, hz, q _ Off.upd upd_same⟩
theorem pe_appendA {o e : Expr} {to te : TE} {apos cpos : Pos} (ho : PE X o to) (he : PE X e te) (hbase : attributeBase o "append" X.env (eval o X.env) = eval o X.env := by rfl)
    (hfew : ((backTo cpos (starEach [e] X.env)).all (fun x => !x.1) && (backToKw cpos (keywordEach [] X.env)).all (fun x => x.1.isSome)
      && decide (([e] : List Expr).length + ([] : List Keyword).length + (if ([] : List Keyword).isEmpty then 0 else 1) < 30)) = true := by rfl)
    (hline : (apos.endLine == cpos.line) = true := by rfl) (hs : starEach [e] X.env = (false, eval e X.env) :: starEach [] X.env := by rfl) :
    PE X (.Call (.Attribute o "append" apos) [e] [] cpos) (tBM X.K "list" rAppA to (tCons te tNil)) :=
  pe_bm PySem.F.plainAttrs_list PySem.F.slot_list_append PySem.F.type_list_append mt_appendA ho (pa_cons he pa_nil hs) hbase hfew hline hs (by rfl)
end
theorem ExcAt.off {H H' : Hp} {l x C : Addr} {fs : List (Str × V)} {xs : List V} (o : Off l H H') (hl : H l = some (.lst xs)) (h : ExcAt H x C fs) : ExcAt H' x C fs := by
  have ne : ∀ {a : Addr} {r : Heap → Prop}, H a = some (.ext r) → a ≠ l := fun {a r} ha q => by
    rw [q, hl] at ha
    cases ha
  rcases h with ⟨a, b⟩ | ⟨dx, a, b, c⟩
  · exact .inl ⟨a, by rw [o x (ne b)]; exact b⟩
  · exact .inr ⟨dx, by rw [o x (ne a)]; exact a, by rw [o dx (ne b)]; exact b, c⟩
end L2
set_option Elab.async false
set_option linter.all false
set_option maxRecDepth 100000
set_option maxHeartbeats 4000000
namespace L2
open PySem PySem.Spec PyProof.Rows
/-- the part tells v, and the heap stays -/
def Tel (t : TE) (σ : St) (H : Hp) (v : V) : Prop := ∀ Q : VK, Q v H → t σ H Q
def TelA (t : TA) (σ : St) (H : Hp) (vs : List V) : Prop := ∀ Q : List V → Hp → Prop, Q vs H → t σ H Q
section
variable {σ σ' : St} {H : Hp} {v x y : V} {vs : List V} {t ta tb : TE} {tr : TA} {i j : Nat} {a C : Addr} {f g : Str} {fs : List (Str × V)} {Q : VK} {D : Ends} {s u : TS} {K : PySem.W.Frag} {tg : TG} {c : TT}
theorem rd_var (h : σ[i]? = some (some v)) : Tel (tVar i) σ H v := fun Q q => ⟨v, h, q⟩
theorem rda_nil : TelA tNil σ H [] := fun Q q => q
theorem rda_cons (h : Tel t σ H v) (k : TelA tr σ H vs) : TelA (tCons t tr) σ H (v :: vs) := fun Q q => h _ (k _ q)
theorem go_cons {Q : List V → Hp → Prop} (h : t σ H fun x H1 => tr σ H1 fun xs H2 => Q (x :: xs) H2) : tCons t tr σ H Q := h
theorem go_nil {Q : List V → Hp → Prop} (h : Q [] H) : tNil σ H Q := h
theorem go_seq (h : s { D with nx := u D } σ H) : tSeq s u D σ H := h
theorem go_nx {nx bk ct : St → Hp → Prop} {rt : VK} (h : nx σ H) : (Ends.mk nx rt bk ct).nx σ H := h
theorem go_next (h : D.nx σ H) : tNext D σ H := h
theorem go_asg (h : t σ H fun x H1 => tg x σ H1 D.nx) : tAsg t tg D σ H := h
theorem go_tupA (h : tr σ H fun xs H1 => xs.length ≤ sizeLine ∧ ∀ p H', New H1 H' p (.tup xs) → Q (.ref p) H') : tTupA tr σ H Q := h
theorem go_lstA (h : tr σ H fun xs H1 => xs.length ≤ sizeLine ∧ ∀ p H', New H1 H' p (.lst xs) → Q (.ref p) H') : tLstA tr σ H Q := h
theorem go_op {r : R2} (h : ta σ H fun x H1 => tb σ H1 fun y H2 => r x y H2 Q) : tOp r ta tb σ H Q := h
theorem go_ret (h : t σ H D.rt) : tRet t D σ H := h
theorem go_drop (h : t σ H fun _ H1 => D.nx σ H1) : tDrop t D σ H := h
theorem go_if (h : c σ H fun b H1 => if b = true then s D σ H1 else u D σ H1) : tIfS c s u D σ H := h
theorem go_test {Q : Bool → Hp → Prop} (h : t σ H fun x H' => ∃ k, x = .bl k ∧ Q k H') : tTest t σ H Q := h
theorem go_b {Q : Bool → Hp → Prop} (h : t σ H fun x H' => ∃ k, x = .bl k ∧ Q k H') : tB t σ H Q := h
theorem go_cb {r : List V → Hp → VK → Prop} (h : tr σ H fun vs H1 => r vs H1 Q) : tCB r tr σ H Q := h
end
section
variable {σ : St} {H : Hp} {te : TE} {tr : TA} {Q : VK} {c : TT} {fr : List Nat} {fvs : St} {n : Nat}
end
end L2
set_option Elab.async false
set_option linter.all false
set_option maxRecDepth 100000
set_option maxHeartbeats 4000000
namespace L2
open PySem PySem.Spec PyProof.Rows
section
variable {P : Program} {w : World} {H : Hp} {h : Heap} {a b : Addr} {φ : Heap → Prop} {o : HO}
end
section
variable {X : Cx} {pins : List (Addr × Obj)} {σ : St} {H H1 : Hp} {s s1 : Shared} {a : Addr} {φ : Heap → Prop} {o : HO}
end
section
variable {M : Model} {A : Around} {E : Value → Shared → Prop} {env : Env}
variable {nm q : Str} {C N : Addr} {bs bm : List Value} {hdct : Bool} {sn : List Str} {sub : List Value} {ab : Bool} {col : Option Bool} {dd : Option Addr} {k0 k1 k2 k3 k5 : Option Value} {newId : String}
end
section
variable {P : Program} {w : World} {K : PySem.W.Frag} {mg : Str → Option Value} {base : Heap} {N : List Str} {qual : Str} {scope : Scope} {f : Addr} {cd : Value} {A : Around} {outer : List Env} {s : Shared} {H : Hp} {E : XK}
end
section
variable {X : Cx} {CX : CXT} {k m : Nat} {f C R : Addr} {fd : FuncData} {ps : List Str} {sp : Sp} {E : XK} {p pos : Pos} {e : Expr} {es : List Expr} {t : TA} {bm : List Value}
end
section
variable {CX : CXT} {X : Cx} {k m : Nat} {C R : Addr} {E : XK} {x qual f g : Str} {st : Stmt} {p pos : Pos} {e : Expr} {es : List Expr} {t : TA}
end
section
variable {σ : St} {H H0 : Hp} {tr : TA} {v y : V} {C : Addr} {f g : Str} {D : Ends} {n : Nat} {E : XK}
end
section
variable {P : Program} {w : World} {K : PySem.W.Frag} {mg : Str → Option Value} {base : Heap} {k : Nat} {x : Str} {ps : List Str} {sp : Sp}
end
end L2
set_option Elab.async false
set_option linter.all false
set_option maxRecDepth 100000
set_option maxHeartbeats 4000000
namespace L2
open PySem PySem.Spec PyProof.Rows
section
variable {M : Model} {A : Around} {E : Value → Shared → Prop} {s : Shared}
end
section
variable {X : Cx} {pins : List (Addr × Obj)} {σ : St} {H : Hp} {s : Shared}
end
section
variable {M : Model} {A : Around} {E : Value → Shared → Prop} {s : Shared} {base : Heap} {env : Env} {outer : List Env} {L e : Addr} {oe : Obj} {vs : Array Value}
end
abbrev Cx.pinned (X : Cx) (pins : List (Addr × Obj)) : Cx := { X with pn := X.pn ++ pins }
section
variable {X : Cx} {pins pins' : List (Addr × Obj)} {σ : St} {H : Hp} {s : Shared} {a : Addr}
end
/-- EX: what is wanted of an exception that comes up, by the names' values then -/
abbrev Cx.tr (X : Cx) (pins : List (Addr × Obj)) (EX : St → XK) : Cx := (X.pinned pins).wish fun ev s' => ∃ pins' σ' H1 s1, Inv (X.pinned pins) pins' σ' H1 s1 ∧ CX1 X.prog X.w X.stack H1 s1 (EX σ') ev s'
section
variable {X : Cx} {pins : List (Addr × Obj)} {EX : St → XK} {k m : Nat} {x : Str} {ps : List Str} {sp : Sp} {p pos : Pos} {e : Expr} {es : List Expr} {t : TA}
end
/-- an exception that was raised and caught -/
def excT (a C : Addr) (dx : Option Addr) : HO := .ext fun h => ∃ oe vs, h.get? a = some oe ∧ oe.cls = .ref C ∧ oe.dict = dx ∧ oe.data = .fields vs
def ExcT (H : Hp) (x C : Addr) (fs : List (Str × V)) : Prop := (fs = [] ∧ H x = some (excT x C none)) ∨ ∃ dx, H x = some (excT x C (some dx)) ∧ H dx = some (dctO dx fs) ∧ dx ≠ x
theorem ExcT.same {H H' : Hp} {x C : Addr} {fs : List (Str × V)} (e : Same H H') (h : ExcT H x C fs) : ExcT H' x C fs := by
  rcases h with ⟨a, b⟩ | ⟨dx, a, b, c⟩
  · exact .inl ⟨a, e _ _ b⟩
  · exact .inr ⟨dx, e _ _ a, e _ _ b, c⟩
theorem ExcT.mk {H : Hp} {a C dx : Addr} {fs : List (Str × V)} (hd : H dx = some (dctO dx fs)) (ha : H a = none) : ExcT (upd H a (excT a C (some dx))) a C fs :=
  .inr ⟨dx, upd_same, by rw [upd_ne (ne_of_none hd ha)]; exact hd, ne_of_none hd ha⟩
structure Caught (X : Cx) (pins : List (Addr × Obj)) (σ : St) (H : Hp) (s : Shared) (a C : Addr) (dx : Option Addr) : Prop where
  I : Inv X pins σ H s
  ha : H a = some (excT a C dx)
  tb : ∃ T oe vs oT ts, s.heap.get? a = some oe ∧ oe.data = .fields vs ∧ vs[1]? = some (.ref T) ∧ s.heap.get? T = some oT ∧ oT.data = .fields ts ∧ 3 < ts.size ∧ H T = none ∧ T ≠ X.env.locals ∧ (T ∈ X.ex ∨ X.s₀.heap.objs.size ≤ T) ∧ (∀ x c, X.env.cells.lookup x = some c → c ≠ T) ∧ ∀ p ∈ X.pn ++ pins, p.1 ≠ T
abbrev THd := Ends → Addr → Addr → Option Addr → St → Hp → Prop
section
variable {X : Cx} {x n : Str} {d : Addr} {i : Nat} {b₀ : Stmt} {suite : List Stmt} {rest : List ExceptHandler} {th : Addr → TS} {tr : THd} {p pos : Pos}
theorem Caught.lit {pins : List (Addr × Obj)} {σ : St} {H : Hp} {s : Shared} {a C : Addr} {dx : Option Addr} {A : Around} {E : Value → Shared → Prop} {Q : Unit → Shared → Prop} (c : Caught X pins σ H s a C dx) (h : ∀ s', Inv X pins σ H s' → Q () s') : wpAny (model X.prog X.w) A (setFlight (.ref a) none) Q E s := by
  obtain ⟨T, oe, vs, oT, ts, ga, gf, g1, gT, gt, g3, hT, n1, n2, n3, n4⟩ := c.tb
  exact wpAny_setFlight_none ga gf g1 gT gt g3 (h _ (c.I.turned (t' := s.toks) (fun b o hb e => (Heap.get?_update_other _ _ (Ne.symm hb)).trans e) hT n1 n2 n3 n4))
theorem Caught.type {pins : List (Addr × Obj)} {σ : St} {H : Hp} {s : Shared} {a C : Addr} {dx : Option Addr} (c : Caught X pins σ H s a C dx) : PySem.W.Looks (model X.prog X.w) s.heap (typeOf (.ref a)) (.ref C) := by
  obtain ⟨⟨oe, vs, ge, gc, gd, gf⟩, _, _⟩ : ObjOk X.prog X.w H s.heap a (excT a C dx) := c.I.hok a _ c.ha
  exact gc ▸ (PySem.W.Looks.ld ge).andThen .now
end
section
variable {X : Cx} {body : List Stmt} {h₀ : ExceptHandler} {hs : List ExceptHandler} {tb : List (Addr × Obj) → (St → XK) → TS} {th : THd} {pos : Pos}
end
section
variable {X : Cx}
end
theorem ExcT.off {H H' : Hp} {l x C : Addr} {fs : List (Str × V)} {xs : List V} (o : Off l H H') (hl : H l = some (.lst xs)) (h : ExcT H x C fs) : ExcT H' x C fs := by
  have ne : ∀ {a : Addr} {r : Heap → Prop}, H a = some (.ext r) → a ≠ l := fun {a r} ha q => by
    rw [q, hl] at ha
    cases ha
  rcases h with ⟨a, b⟩ | ⟨dx, a, b, c⟩
  · exact .inl ⟨a, by rw [o x (ne b)]; exact b⟩
  · exact .inr ⟨dx, by rw [o x (ne a)]; exact a, by rw [o dx (ne b)]; exact b, c⟩
section
variable {σ : St} {H : Hp} {D : Ends} {tb : List (Addr × Obj) → (St → XK) → TS} {th : THd} {tr : TA} {Q : VK} {EX : St → XK} {sp : Sp}
end
end L2
set_option Elab.async false
set_option linter.all false
set_option maxRecDepth 100000
set_option maxHeartbeats 4000000
namespace L2
open PySem PySem.Spec PyProof.Rows
section
variable {prog : Program} {w : World} {A : Around} {E : Value → Shared → Prop} {s : Shared}
end
section
variable {σ σ' : St} {H : Hp} {K : PySem.W.Frag} {p : Addr} {a b c d : V} {i0 i1 i2 i3 : Nat} {R : St → Hp → Prop}
theorem go_t2 (hp : SqT K H p [a, b]) (e : (σ.set i0 (some a)).set i1 (some b) = σ') (h : R σ' H) : gTup K 2 (gCons (gName i0) (gCons (gName i1) gNil)) (.ref p) σ H R :=
  ⟨p, _, rfl, hp, rfl, _, _, rfl, _, _, rfl, rfl, by rw [e]; exact h⟩
end
end L2
set_option Elab.async false
set_option linter.all false
set_option maxRecDepth 100000
set_option maxHeartbeats 4000000
namespace L2
open PySem PySem.Spec PyProof.Rows
end L2
set_option Elab.async false
set_option linter.all false
set_option maxRecDepth 100000
set_option maxHeartbeats 4000000
namespace L2
open PySem PySem.Spec PyProof.Rows
section
variable {X : Cx} {pins : List (Addr × Obj)} {σ : St} {H : Hp} {s : Shared} {h' : Heap} {t' : Nat} {ch : List Addr}
end
section
variable {X : Cx} {a b : Expr} {ta : TA} {p pos : Pos}
end
section
variable {prog : Program} {w : World} {A : Around} {E : Value → Shared → Prop} {s : Shared} {I l S : Addr} {items : Array Value}
end
section
variable {X : Cx}
def rSlA (K : PySem.W.Frag) : V → Option Int → Option Int → Hp → VK → Prop := fun x lo hi H Q => ∃ a xs, x = .ref a ∧ SqL K H a xs ∧ ∀ p H', New H H' p (.lst (cutV xs lo hi)) → Q (.ref p) H'
theorem sl_listA : SlR X (rSlA X.K) := by
  intro pins s σ H x v vl vu lo hi sl Q I rx hs pl pu h
  obtain ⟨a, xs, e, hx, q⟩ := h
  exact sl_list pins s σ H x v vl vu lo hi sl Q I rx hs pl pu ⟨a, xs, e, hx, fun p hp => q p _ (.mk' hp)⟩
def rLOfA (K : PySem.W.Frag) : List V → Hp → VK → Prop := fun xs H Q => ∃ p ys, xs = [.ref p] ∧ (SqL K H p ys ∨ SqT K H p ys) ∧ ∀ l H', New H H' l (.lst ys) → Q (.ref l) H'
theorem call_list_ofA : CallR X (.type "list") (rLOfA X.K) := by
  intro pins s σ H xs us Q I r h
  obtain ⟨p, ys, e, hq, q⟩ := h
  exact call_list_of pins s σ H xs us Q I r ⟨p, ys, e, hq, fun l hl => q l _ (.mk' hl)⟩
end
end L2
set_option Elab.async false
set_option linter.all false
set_option maxRecDepth 100000
set_option maxHeartbeats 4000000
namespace L2
open PySem PySem.Spec PyProof.Rows
section
variable {σ : St} {H : Hp} {Q : VK} {v x y : V} {i j : Int} {K : PySem.W.Frag} {t ta tb tc : TE} {tr : TA} {s u : TS} {D : Ends} {c d : TT}
theorem wv0 {r : St} (h : Q v H) : tVar 0 (some v :: r) H Q := ⟨v, rfl, h⟩
theorem wn0 {o : Option V} {r : St} {R : St → Hp → Prop} (h : R (some v :: r) H) : gName 0 v (o :: r) H R := h
theorem wv1 {o0 : Option V} {r : St} (h : Q v H) : tVar 1 (o0 :: some v :: r) H Q := ⟨v, rfl, h⟩
theorem wn1 {o0 : Option V} {o : Option V} {r : St} {R : St → Hp → Prop} (h : R (o0 :: some v :: r) H) : gName 1 v (o0 :: o :: r) H R := h
theorem wv2 {o0 o1 : Option V} {r : St} (h : Q v H) : tVar 2 (o0 :: o1 :: some v :: r) H Q := ⟨v, rfl, h⟩
theorem wn2 {o0 o1 : Option V} {o : Option V} {r : St} {R : St → Hp → Prop} (h : R (o0 :: o1 :: some v :: r) H) : gName 2 v (o0 :: o1 :: o :: r) H R := h
theorem wv3 {o0 o1 o2 : Option V} {r : St} (h : Q v H) : tVar 3 (o0 :: o1 :: o2 :: some v :: r) H Q := ⟨v, rfl, h⟩
theorem wn3 {o0 o1 o2 : Option V} {o : Option V} {r : St} {R : St → Hp → Prop} (h : R (o0 :: o1 :: o2 :: some v :: r) H) : gName 3 v (o0 :: o1 :: o2 :: o :: r) H R := h
theorem wv4 {o0 o1 o2 o3 : Option V} {r : St} (h : Q v H) : tVar 4 (o0 :: o1 :: o2 :: o3 :: some v :: r) H Q := ⟨v, rfl, h⟩
theorem wn4 {o0 o1 o2 o3 : Option V} {o : Option V} {r : St} {R : St → Hp → Prop} (h : R (o0 :: o1 :: o2 :: o3 :: some v :: r) H) : gName 4 v (o0 :: o1 :: o2 :: o3 :: o :: r) H R := h
theorem wv5 {o0 o1 o2 o3 o4 : Option V} {r : St} (h : Q v H) : tVar 5 (o0 :: o1 :: o2 :: o3 :: o4 :: some v :: r) H Q := ⟨v, rfl, h⟩
theorem wn5 {o0 o1 o2 o3 o4 : Option V} {o : Option V} {r : St} {R : St → Hp → Prop} (h : R (o0 :: o1 :: o2 :: o3 :: o4 :: some v :: r) H) : gName 5 v (o0 :: o1 :: o2 :: o3 :: o4 :: o :: r) H R := h
theorem wv6 {o0 o1 o2 o3 o4 o5 : Option V} {r : St} (h : Q v H) : tVar 6 (o0 :: o1 :: o2 :: o3 :: o4 :: o5 :: some v :: r) H Q := ⟨v, rfl, h⟩
theorem wn6 {o0 o1 o2 o3 o4 o5 : Option V} {o : Option V} {r : St} {R : St → Hp → Prop} (h : R (o0 :: o1 :: o2 :: o3 :: o4 :: o5 :: some v :: r) H) : gName 6 v (o0 :: o1 :: o2 :: o3 :: o4 :: o5 :: o :: r) H R := h
theorem wv7 {o0 o1 o2 o3 o4 o5 o6 : Option V} {r : St} (h : Q v H) : tVar 7 (o0 :: o1 :: o2 :: o3 :: o4 :: o5 :: o6 :: some v :: r) H Q := ⟨v, rfl, h⟩
theorem wn7 {o0 o1 o2 o3 o4 o5 o6 : Option V} {o : Option V} {r : St} {R : St → Hp → Prop} (h : R (o0 :: o1 :: o2 :: o3 :: o4 :: o5 :: o6 :: some v :: r) H) : gName 7 v (o0 :: o1 :: o2 :: o3 :: o4 :: o5 :: o6 :: o :: r) H R := h
theorem wv8 {o0 o1 o2 o3 o4 o5 o6 o7 : Option V} {r : St} (h : Q v H) : tVar 8 (o0 :: o1 :: o2 :: o3 :: o4 :: o5 :: o6 :: o7 :: some v :: r) H Q := ⟨v, rfl, h⟩
theorem wn8 {o0 o1 o2 o3 o4 o5 o6 o7 : Option V} {o : Option V} {r : St} {R : St → Hp → Prop} (h : R (o0 :: o1 :: o2 :: o3 :: o4 :: o5 :: o6 :: o7 :: some v :: r) H) : gName 8 v (o0 :: o1 :: o2 :: o3 :: o4 :: o5 :: o6 :: o7 :: o :: r) H R := h
theorem wv9 {o0 o1 o2 o3 o4 o5 o6 o7 o8 : Option V} {r : St} (h : Q v H) : tVar 9 (o0 :: o1 :: o2 :: o3 :: o4 :: o5 :: o6 :: o7 :: o8 :: some v :: r) H Q := ⟨v, rfl, h⟩
theorem wn9 {o0 o1 o2 o3 o4 o5 o6 o7 o8 : Option V} {o : Option V} {r : St} {R : St → Hp → Prop} (h : R (o0 :: o1 :: o2 :: o3 :: o4 :: o5 :: o6 :: o7 :: o8 :: some v :: r) H) : gName 9 v (o0 :: o1 :: o2 :: o3 :: o4 :: o5 :: o6 :: o7 :: o8 :: o :: r) H R := h
theorem wv10 {o0 o1 o2 o3 o4 o5 o6 o7 o8 o9 : Option V} {r : St} (h : Q v H) : tVar 10 (o0 :: o1 :: o2 :: o3 :: o4 :: o5 :: o6 :: o7 :: o8 :: o9 :: some v :: r) H Q := ⟨v, rfl, h⟩
theorem wn10 {o0 o1 o2 o3 o4 o5 o6 o7 o8 o9 : Option V} {o : Option V} {r : St} {R : St → Hp → Prop} (h : R (o0 :: o1 :: o2 :: o3 :: o4 :: o5 :: o6 :: o7 :: o8 :: o9 :: some v :: r) H) : gName 10 v (o0 :: o1 :: o2 :: o3 :: o4 :: o5 :: o6 :: o7 :: o8 :: o9 :: o :: r) H R := h
theorem wv11 {o0 o1 o2 o3 o4 o5 o6 o7 o8 o9 o10 : Option V} {r : St} (h : Q v H) : tVar 11 (o0 :: o1 :: o2 :: o3 :: o4 :: o5 :: o6 :: o7 :: o8 :: o9 :: o10 :: some v :: r) H Q := ⟨v, rfl, h⟩
theorem wn11 {o0 o1 o2 o3 o4 o5 o6 o7 o8 o9 o10 : Option V} {o : Option V} {r : St} {R : St → Hp → Prop} (h : R (o0 :: o1 :: o2 :: o3 :: o4 :: o5 :: o6 :: o7 :: o8 :: o9 :: o10 :: some v :: r) H) : gName 11 v (o0 :: o1 :: o2 :: o3 :: o4 :: o5 :: o6 :: o7 :: o8 :: o9 :: o10 :: o :: r) H R := h
theorem wv12 {o0 o1 o2 o3 o4 o5 o6 o7 o8 o9 o10 o11 : Option V} {r : St} (h : Q v H) : tVar 12 (o0 :: o1 :: o2 :: o3 :: o4 :: o5 :: o6 :: o7 :: o8 :: o9 :: o10 :: o11 :: some v :: r) H Q := ⟨v, rfl, h⟩
theorem wn12 {o0 o1 o2 o3 o4 o5 o6 o7 o8 o9 o10 o11 : Option V} {o : Option V} {r : St} {R : St → Hp → Prop} (h : R (o0 :: o1 :: o2 :: o3 :: o4 :: o5 :: o6 :: o7 :: o8 :: o9 :: o10 :: o11 :: some v :: r) H) : gName 12 v (o0 :: o1 :: o2 :: o3 :: o4 :: o5 :: o6 :: o7 :: o8 :: o9 :: o10 :: o11 :: o :: r) H R := h
theorem wv13 {o0 o1 o2 o3 o4 o5 o6 o7 o8 o9 o10 o11 o12 : Option V} {r : St} (h : Q v H) : tVar 13 (o0 :: o1 :: o2 :: o3 :: o4 :: o5 :: o6 :: o7 :: o8 :: o9 :: o10 :: o11 :: o12 :: some v :: r) H Q := ⟨v, rfl, h⟩
theorem wn13 {o0 o1 o2 o3 o4 o5 o6 o7 o8 o9 o10 o11 o12 : Option V} {o : Option V} {r : St} {R : St → Hp → Prop} (h : R (o0 :: o1 :: o2 :: o3 :: o4 :: o5 :: o6 :: o7 :: o8 :: o9 :: o10 :: o11 :: o12 :: some v :: r) H) : gName 13 v (o0 :: o1 :: o2 :: o3 :: o4 :: o5 :: o6 :: o7 :: o8 :: o9 :: o10 :: o11 :: o12 :: o :: r) H R := h
theorem w_c (h : Q v H) : tC v σ H Q := h
theorem w_i0 {f : Int → Int → V} (h : Q (f i j) H) : rI0 f (.int i) (.int j) H Q := ⟨i, j, rfl, rfl, h⟩
theorem w_mod {f : Int → Int → V} (hj : 0 < j) (h : Q (f i j) H) : rI (fun _ j => 0 < j) f (.int i) (.int j) H Q := ⟨i, j, rfl, rfl, hj, h⟩
theorem w_div {f : Int → Int → V} (h0 : 0 < j) (h1 : j < 1073741824) (h : Q (f i j) H) : rI CDiv f (.int i) (.int j) H Q := ⟨i, j, rfl, rfl, ⟨h0, h1⟩, h⟩
theorem w_pow {f : Int → Int → V} (h0 : 0 ≤ j) (h1 : j ≤ 1000000) (h2 : i.natAbs < 2 ^ 64) (h : Q (f i j) H) : rI CPow f (.int i) (.int j) H Q := ⟨i, j, rfl, rfl, ⟨h0, h1, h2⟩, h⟩
theorem w_mulL {f : Int → Int → V} (h0 : -(2 ^ 64) < i) (h1 : i < 2 ^ 64) (h : Q (f i j) H) : rI CMul f (.int i) (.int j) H Q := ⟨i, j, rfl, rfl, .inl ⟨h0, h1⟩, h⟩
theorem w_mulR {f : Int → Int → V} (h0 : -(2 ^ 64) < j) (h1 : j < 2 ^ 64) (h : Q (f i j) H) : rI CMul f (.int i) (.int j) H Q := ⟨i, j, rfl, rfl, .inr ⟨h0, h1⟩, h⟩
theorem w_u {g : Int → V} (h : Q (g i) H) : rU g (.int i) H Q := ⟨i, rfl, h⟩
theorem w_un {r : V → Hp → VK → Prop} (h : ta σ H fun x H1 => r x H1 Q) : tUn r ta σ H Q := h
theorem w_eqi (h : Q (.bl (decide (i = j))) H) : rEq (.int i) (.int j) H Q := ⟨rfl, by rw [show decide (V.int i = V.int j) = decide (i = j) from decide_eq_decide.mpr ⟨fun e => by cases e; rfl, fun e => by rw [e]⟩]; exact h⟩
theorem w_nei (h : Q (.bl (!decide (i = j))) H) : rNe (.int i) (.int j) H Q := ⟨rfl, by rw [show decide (V.int i = V.int j) = decide (i = j) from decide_eq_decide.mpr ⟨fun e => by cases e; rfl, fun e => by rw [e]⟩]; exact h⟩
theorem w_eqs {a b : Str} (h : Q (.bl (decide (a = b))) H) : rEq (.str a) (.str b) H Q := ⟨rfl, by rw [show decide (V.str a = V.str b) = decide (a = b) from decide_eq_decide.mpr ⟨fun e => by cases e; rfl, fun e => by rw [e]⟩]; exact h⟩
theorem w_nes {a b : Str} (h : Q (.bl (!decide (a = b))) H) : rNe (.str a) (.str b) H Q := ⟨rfl, by rw [show decide (V.str a = V.str b) = decide (a = b) from decide_eq_decide.mpr ⟨fun e => by cases e; rfl, fun e => by rw [e]⟩]; exact h⟩
theorem w_eqb {a b : Bool} (h : Q (.bl (decide (a = b))) H) : rEq (.bl a) (.bl b) H Q := ⟨rfl, by rw [show decide (V.bl a = V.bl b) = decide (a = b) from decide_eq_decide.mpr ⟨fun e => by cases e; rfl, fun e => by rw [e]⟩]; exact h⟩
theorem w_neb {a b : Bool} (h : Q (.bl (!decide (a = b))) H) : rNe (.bl a) (.bl b) H Q := ⟨rfl, by rw [show decide (V.bl a = V.bl b) = decide (a = b) from decide_eq_decide.mpr ⟨fun e => by cases e; rfl, fun e => by rw [e]⟩]; exact h⟩
theorem w_bl {k : Bool} {R : Bool → Prop} (h : R k) : ∃ c, V.bl k = .bl c ∧ R c := ⟨k, rfl, h⟩
theorem w_not {R : Bool → Hp → Prop} (h : c σ H fun b H1 => R (!b) H1) : tNot c σ H R := h
theorem w_and {R : Bool → Hp → Prop} (h : c σ H fun b H1 => if b = true then d σ H1 R else R false H1) : tAnd c d σ H R := h
theorem w_or {R : Bool → Hp → Prop} (h : c σ H fun b H1 => if b = true then R true H1 else d σ H1 R) : tOr c d σ H R := h
theorem w_notV (h : ta σ H fun x H1 => ∃ c, x = .bl c ∧ Q (.bl (!c)) H1) : tNotV ta σ H Q := h
theorem w_andV (h : ta σ H fun x H1 => ∃ c, x = .bl c ∧ if c = true then tb σ H1 Q else Q (.bl false) H1) : tAndV ta tb σ H Q := h
theorem w_orV (h : ta σ H fun x H1 => ∃ c, x = .bl c ∧ if c = true then Q (.bl true) H1 else tb σ H1 Q) : tOrV ta tb σ H Q := h
theorem w_ifE (h : c σ H fun b H1 => if b = true then ta σ H1 Q else tb σ H1 Q) : tIf c ta tb σ H Q := h
theorem w_chain {r r' : R2} (h : ta σ H fun x H1 => tb σ H1 fun y H2 => r x y H2 fun z H3 => ∃ k, z = .bl k ∧ if k = true then tc σ H3 fun w H4 => r' y w H4 Q else Q (.bl false) H3) : tChain r r' ta tb tc σ H Q := h
theorem w_rt {nx bk ct : St → Hp → Prop} {rt : VK} (h : rt v H) : (Ends.mk nx rt bk ct).rt v H := h
theorem w_call {sp : Sp} {E : XK} (h : tr σ H fun vs H1 => sp vs H1 Q E) : tCall sp [] E tr σ H Q := by
  have e : (fun vs H1 => sp (vs ++ []) H1 Q E) = fun vs H1 => sp vs H1 Q E := by
    funext vs H1
    rw [List.append_nil]
  show tr σ H fun vs H1 => sp (vs ++ []) H1 Q E
  rw [e]
  exact h
theorem w_bm {T : String} {r : V → List V → Hp → VK → Prop} {to : TE} (h : to σ H fun x H1 => tyV K T x H1 ∧ tr σ H1 fun xs H2 => r x xs H2 Q) : tBM K T r to tr σ H Q := h
theorem w_bm0 {T : String} {r : V → List V → Hp → VK → Prop} {to : TE} (h : to σ H fun x H1 => tyV K T x H1 ∧ r x [] H1 Q) : tBM0 K T r to σ H Q := h
theorem w_sub {to ti : TE} {ts : TSet} {R : St → Hp → Prop} (h : to σ H fun o H1 => ti σ H1 fun i H2 => ts o i v H2 fun H3 => R σ H3) : gSub to ti ts v σ H R := h
theorem w_slice {r : V → Option Int → Option Int → Hp → VK → Prop} {tl th : TO} (h : t σ H fun x H1 => tl σ H1 fun l H2 => th σ H2 fun u H3 => r x l u H3 Q) : tSl r t tl th σ H Q := h
theorem w_noPart {R : Option Int → Hp → Prop} (h : R none H) : tNoPart σ H R := h
theorem w_part {R : Option Int → Hp → Prop} (h : t σ H fun x H1 => ∃ i, x = .int i ∧ R (some i) H1) : tPart t σ H R := h
theorem w_int {R : Int → Prop} (h : R i) : ∃ k, V.int i = .int k ∧ R k := ⟨i, rfl, h⟩
/-- indices, lengths, kinds -/
theorem w_ixL {p : Addr} {xs : List V} (h : SqL K H p xs) (e : atI xs i = some v) (k : Q v H) : rIxL K (.ref p) (.int i) H Q := ⟨p, xs, i, v, rfl, rfl, h, e, k⟩
theorem w_ixT {p : Addr} {xs : List V} (h : SqT K H p xs) (e : atI xs i = some v) (k : Q v H) : rIxT K (.ref p) (.int i) H Q := ⟨p, xs, i, v, rfl, rfl, h, e, k⟩
def rMax2 : List V → Hp → VK → Prop := fun xs H Q => ∃ i j, xs = [.int i, .int j] ∧ Q (.int (if j > i then j else i)) H
def rMin2 : List V → Hp → VK → Prop := fun xs H Q => ∃ i j, xs = [.int i, .int j] ∧ Q (.int (if j < i then j else i)) H
theorem w_max (h : Q (.int (max i j)) H) : rMax2 [.int i, .int j] H Q := ⟨i, j, rfl, by
  rw [show (if j > i then j else i) = max i j by rw [Int.max_def]; split <;> split <;> omega]
  exact h⟩
theorem w_min (h : Q (.int (min i j)) H) : rMin2 [.int i, .int j] H Q := ⟨i, j, rfl, by
  rw [show (if j < i then j else i) = min i j by rw [Int.min_def]; split <;> split <;> omega]
  exact h⟩
def rInt1 : List V → Hp → VK → Prop := fun xs H Q => (∃ i, xs = [.int i] ∧ Q (.int i) H) ∨ ∃ k, xs = [.bl k] ∧ Q (.int (if k then 1 else 0)) H
theorem w_intI (h : Q (.int i) H) : rInt1 [.int i] H Q := .inl ⟨i, rfl, h⟩
theorem w_intB {k : Bool} (h : Q (.int (if k then 1 else 0)) H) : rInt1 [.bl k] H Q := .inr ⟨k, rfl, h⟩
end
section
variable {X : Cx}
end
section
variable {A B p : Prop} [Decidable p] {b : Bool}
theorem i_dec (h1 : p → A) (h2 : ¬ p → B) : if decide p = true then A else B := by
  by_cases h : p
  · rw [if_pos (decide_eq_true h)]; exact h1 h
  · rw [if_neg (by simpa using h)]; exact h2 h
theorem i_ndec (h1 : ¬ p → A) (h2 : p → B) : if (!decide p) = true then A else B := by
  by_cases h : p
  · rw [if_neg (by simpa using h)]; exact h2 h
  · rw [if_pos (by simpa using h)]; exact h1 h
theorem i_F (h : b = false) (k : B) : if b = true then A else B := by rw [if_neg (by rw [h]; exact Bool.false_ne_true)]; exact k
theorem i_pos (h : p) (k : A) : if decide p = true then A else B := by rw [if_pos (decide_eq_true h)]; exact k
theorem i_npos (h : p) (k : B) : if (!decide p) = true then A else B := by rw [if_neg (by simpa using h)]; exact k
end
section
variable {H H0 H1 H2 H' : Hp} {p q a : Addr} {o u : HO} {xs ys : List V}
theorem Same.off (s : Same H0 H) (f : Off p H H') (n : ∀ b u, H0 b = some u → b ≠ p) : Same H0 H' := fun b u e => by
  rw [f b (n b u e)]
  exact s b u e
theorem New.trans (n1 : New H H1 p o) (n2 : New H1 H2 q u) : New H H2 q u := ⟨n1.s.trans n2.s, n2.e, fun a v e => n2.n a v (n1.s a v e)⟩
theorem New.after (s : Same H H1) (n : New H1 H2 q u) : New H H2 q u := ⟨s.trans n.s, n.e, fun a v e => n.n a v (s a v e)⟩
/-- the refs ys stand for tuples of these rows -/
def TupsAt (H : Hp) (ys : List V) (rows : List (List V)) : Prop := ys.length = rows.length ∧ ∀ (j : Nat) (r : List V), rows[j]? = some r → ∃ q, ys[j]? = some (.ref q) ∧ H q = some (.tup r)
theorem TupsAt.same {rows : List (List V)} (s : Same H H') (h : TupsAt H ys rows) : TupsAt H' ys rows := ⟨h.1, fun j r e => let ⟨q, a, b⟩ := h.2 j r e; ⟨q, a, s _ _ b⟩⟩
theorem TupsAt.off {rows : List (List V)} (h : TupsAt H ys rows) (f : Off p H H') (hl : H p = some (.lst xs)) : TupsAt H' ys rows := ⟨h.1, fun j r e => by
  obtain ⟨q, a, b⟩ := h.2 j r e
  have ne : q ≠ p := ne_of b hl (fun z => by cases z)
  exact ⟨q, a, by rw [f q ne]; exact b⟩⟩
theorem TupsAt.nil : TupsAt H [] [] := ⟨rfl, fun j r e => by simp at e⟩
theorem TupsAt.reverse {rows : List (List V)} (h : TupsAt H ys rows) : TupsAt H ys.reverse rows.reverse := by
  refine ⟨by rw [List.length_reverse, List.length_reverse, h.1], fun j r e => ?_⟩
  have hj : j < rows.length := by
    have := (List.getElem?_eq_some_iff.mp e).1
    rwa [List.length_reverse] at this
  rw [List.getElem?_reverse hj] at e
  obtain ⟨q, a, b⟩ := h.2 _ r e
  exact ⟨q, by rw [List.getElem?_reverse (by rw [h.1]; exact hj), h.1]; exact a, b⟩
end
section
variable {σ : St} {H : Hp} {Q : VK} {K : PySem.W.Frag} {tr : TA} {D : Ends} {i j : Int} {g : TG} {tb : TS} {a b : V} {p : Addr}
theorem w_rng {n : Int} {m : Nat} (ha : TelA tr σ H [.int n]) (hn : n.toNat = m) (hz : m ≤ 1000000) (Pv : Nat → St → Hp → Prop) (h0 : Pv 0 σ H)
    (hs : ∀ i σ H, i < m → Pv i σ H → g (.int i) σ H fun σ2 H2 => tb { D with nx := Pv (i + 1), ct := Pv (i + 1), bk := D.nx } σ2 H2) (hd : ∀ σ H, Pv m σ H → D.nx σ H) (hlo : -(2 ^ 62) ≤ n := by omega) (hhi : n < 2 ^ 62 := by omega) :
    tFor (iRng1 tr) g tb D σ H := ha _ ⟨n, rfl, hlo, hhi, by
      rw [hn]
      exact for_range Pv h0 (fun i σ H hi h => by rw [Int.zero_add]; exact hs i σ H hi h) hd⟩
end
def rEqD (K : PySem.W.Frag) : R2 := fun x y H Q => ∃ d d', Rep K H d x ∧ Rep K H d' y ∧ depD d ≤ 100 ∧ Q (.bl (eqDt d d')) H
def rNeD (K : PySem.W.Frag) : R2 := fun x y H Q => ∃ d d', Rep K H d x ∧ Rep K H d' y ∧ depD d ≤ 100 ∧ Q (.bl (!eqDt d d')) H
theorem op_eq_dN {X : Cx} {k : Nat} (hr : Room k X.A) : OpR X (compareOp .Eq) (rEqD X.K) := op_eq_d hr
theorem op_ne_dN {X : Cx} {k : Nat} (hr : Room k X.A) : OpR X (compareOp .NotEq) (rNeD X.K) := op_ne_d hr
end L2
set_option Elab.async false
set_option linter.all false
set_option maxRecDepth 100000
set_option maxHeartbeats 4000000
namespace L2
open PySem PySem.Spec PyProof.Rows PySem.SeqAt
section
variable {X : Cx} {a : Expr} {ta : TE} {pos : Pos}
def tNotT (K : PySem.W.Frag) (ta : TE) : TE := fun σ H Q => ta σ H fun x H1 => ∃ k, TruV K x H1 k ∧ Q (.bl (!k)) H1
theorem w_notT {σ : St} {H : Hp} {Q : VK} {K : PySem.W.Frag} (h : ta σ H fun x H1 => ∃ k, TruV K x H1 k ∧ Q (.bl (!k)) H1) : tNotT K ta σ H Q := h
def rIsB : R2 := fun x y H Q => ∃ a b, x = .bl a ∧ y = .bl b ∧ Q (.bl (decide (a = b))) H
def rIsNB : R2 := fun x y H Q => ∃ a b, x = .bl a ∧ y = .bl b ∧ Q (.bl (!decide (a = b))) H
theorem w_isB {H : Hp} {Q : VK} {a b : Bool} (h : Q (.bl (decide (a = b))) H) : rIsB (.bl a) (.bl b) H Q := ⟨a, b, rfl, rfl, h⟩
theorem w_isNB {H : Hp} {Q : VK} {a b : Bool} (h : Q (.bl (!decide (a = b))) H) : rIsNB (.bl a) (.bl b) H Q := ⟨a, b, rfl, rfl, h⟩
end
section
variable {σ : St} {H : Hp} {Q : VK} {D : Ends} {td ty tv : TE} {p : Addr} {kvs : List (Key × V)} {i : Int} {v : V}
theorem w_din (h : ty σ H fun y H1 => td σ H1 fun x H2 => ∃ a o, x = .ref a ∧ DGet H2 a y o ∧ Q (.bl o.isSome) H2) : tDIn ty td σ H Q := h
theorem w_dput (h : tv σ H fun v H1 => td σ H1 fun x H2 => ty σ H2 fun y H3 => ∃ a H4, x = .ref a ∧ DPut H3 a y v H4 ∧ D.nx σ H4) : sDPut td ty tv D σ H := h
end
def tRevSl (K : PySem.W.Frag) (te ts : TE) : TE := fun σ H Q => te σ H fun x H1 => ts σ H1 fun y H2 => ∃ a xs, x = .ref a ∧ y = .int (-1) ∧ SqL K H2 a xs ∧ ∀ p H', New H2 H' p (.lst xs.reverse) → Q (.ref p) H'
theorem w_revSl {σ : St} {H : Hp} {Q : VK} {K : PySem.W.Frag} {te ts : TE} (h : te σ H fun x H1 => ts σ H1 fun y H2 => ∃ a xs, x = .ref a ∧ y = .int (-1) ∧ SqL K H2 a xs ∧ ∀ p H', New H2 H' p (.lst xs.reverse) → Q (.ref p) H') : tRevSl K te ts σ H Q := h
section
variable {α β : Type} {F G : α → β → Prop}
end
/-- all but what stands at b is as it was -/
def Kp (b : Addr) (H H' : Hp) : Prop := ∀ x u, x ≠ b → H x = some u → H' x = some u
section
variable {b p : Addr} {H H1 H2 : Hp} {o : HO}
theorem Kp.refl : Kp b H H := fun _ _ _ h => h
theorem Kp.trans (a : Kp b H H1) (c : Kp b H1 H2) : Kp b H H2 := fun x u n h => c x u n (a x u n h)
theorem Same.kp (s : Same H H1) : Kp b H H1 := fun x u _ h => s x u h
theorem Off.kp (f : Off b H H1) : Kp b H H1 := fun x u n h => by rw [f x n]; exact h
theorem Kp.same {H0 : Hp} (s : Same H0 H) (k : Kp b H H1) (n : ∀ x u, H0 x = some u → x ≠ b) : Same H0 H1 := fun x u e => k x u (n x u e) (s x u e)
end
section
variable {X : Cx} {K : PySem.W.Frag}
theorem ix_tupK (h : X.K = K) : IxR X (rIxT K) := h ▸ ix_tup
end
def ForL (K : PySem.W.Frag) (a : Addr) (g : TG) (tb : TS) (D : Ends) (σ : St) (H : Hp) : Prop := ∃ W : Nat → Nat → St → Hp → Prop, (∃ m, W 0 m σ H) ∧ ∀ i m σ H, W i m σ H →
  ((Itl K a).stop i H ∧ D.nx σ H) ∨ ((Itl K a).go i H ∧ ∃ N : St → Hp → Prop, (∀ σ' H', N σ' H' → ∃ m', m' < m ∧ W (i + 1) m' σ' H') ∧ ∀ x H', (Itl K a).yld i H x H' → g x σ H' fun σ2 H2 => tb { D with nx := N, ct := N, bk := D.nx } σ2 H2)
theorem w_forL {K : PySem.W.Frag} {te : TE} {g : TG} {tb : TS} {D : Ends} {σ : St} {H : Hp} (h : te σ H fun x H1 => ∃ a, x = .ref a ∧ (∃ xs, SqL K H1 a xs) ∧ ForL K a g tb D σ H1) : tFor (iList K te) g tb D σ H := h
theorem forL_by {K : PySem.W.Frag} {a : Addr} {xs : List V} {g : TG} {tb : TS} {D : Ends} {σ : St} {H : Hp} (Pv : Nat → St → Hp → Prop) (h0 : Pv 0 σ H) (hl : ∀ i σ H, i ≤ xs.length → Pv i σ H → SqL K H a xs)
    (hs : ∀ i x σ H, xs[i]? = some x → Pv i σ H → g x σ H fun σ2 H2 => tb { D with nx := Pv (i + 1), ct := Pv (i + 1), bk := D.nx } σ2 H2) (hd : ∀ σ H, Pv xs.length σ H → D.nx σ H) : ForL K a g tb D σ H := for_list Pv h0 hl hs hd
def CompAll (J : It) (nt : Nat) (fr : List Nat) (g : TG) (c : TT) (te : TE) (σ : St) (H1 : Hp) (Q : VK) : Prop := ∀ acc, H1 acc = none → CompGoal J nt fr g c te σ H1 Q acc
theorem w_compL {K : PySem.W.Frag} {t0 te : TE} {nt : Nat} {fr : List Nat} {g : TG} {c : TT} {σ : St} {H : Hp} {Q : VK} (h : t0 σ H fun x H1 => ∃ a, x = .ref a ∧ (∃ xs, SqL K H1 a xs) ∧ CompAll (Itl K a) nt fr g c te σ H1 Q) : tComp (iList K t0) nt fr g c te σ H Q := h
end L2
set_option Elab.async false
set_option linter.all false
set_option maxRecDepth 100000
set_option maxHeartbeats 4000000
namespace L2
open PySem PySem.Spec PyProof.Rows PySem.SeqAt
section
variable {X : Cx} {pins : List (Addr × Obj)} {EX : St → XK} {k m : Nat} {x : Str} {ps : List Str} {sp : Sp} {p pos apos : Pos} {e o : Expr} {es : List Expr} {t : TA} {ta : TE} {f C : Addr} {fd : FuncData} {nm : Str}
end
end L2
set_option Elab.async false
set_option linter.all false
set_option maxRecDepth 100000
set_option maxHeartbeats 4000000
namespace L2
open PySem PySem.Spec PyProof.Rows PySem.SeqAt
section
variable {P : Program} {w : World} {K : PySem.W.Frag} {mg : Str → Option Value} {base : Heap} {CX : CXT} {k : Nat} {x nm qual : Str} {ps : List Str} {sp : Sp} {C : Addr}
structure Met (P : Program) (w : World) (K : PySem.W.Frag) (mg : Str → Option Value) (base : Heap) (CX : CXT) (k : Nat) (C : Addr) (nm : Str) (ps : List Str) (sp : Sp) : Prop where
  ex : ∃ (f : Addr) (fd : FuncData), FnOk P w K mg base CX k f fd ps sp ∧ Meth K C nm f ∧ Binds K fd ps []
/-- what is told of a function, whichever way it is reached -/
structure FnTells (P : Program) (w : World) (K : PySem.W.Frag) (mg : Str → Option Value) (base : Heap) (CX : CXT) (k : Nat) (f : Addr) (ps : List Str) (sp : Sp) : Prop where
  ex : ∃ fd : FuncData, FnOk P w K mg base CX k f fd ps sp ∧ Binds K fd ps []
theorem FnTells.met {f : Addr} (t : FnTells P w K mg base CX k f ps sp) (m : Meth K C nm f) : Met P w K mg base CX k C nm ps sp := let ⟨fd, F, b⟩ := t.ex; ⟨f, fd, F, m, b⟩
variable {st : Stmt} {N : List Str} {f : Addr}
end
section
variable {X : Cx} {CX : CXT} {k m : Nat} {x nm : Str} {ps : List Str} {sp : Sp} {E : XK} {p pos apos : Pos} {e o : Expr} {es : List Expr} {t : TA} {ta : TE} {C : Addr} {pins : List (Addr × Obj)} {EX : St → XK}
end
end L2
set_option Elab.async false
set_option linter.all false
set_option maxRecDepth 100000
namespace L2
open PySem PySem.Spec PyProof.Rows
/-- from 0 on, below 2 ^ k -/
def Bd (k : Nat) (x : Int) : Prop := 0 ≤ x ∧ x < 2 ^ k
theorem p2_mono {a b : Nat} (h : a ≤ b) : (2 : Int) ^ a ≤ 2 ^ b := by
  have h : (2 : Nat) ^ a ≤ 2 ^ b := Nat.pow_le_pow_right (by decide) h
  exact_mod_cast h
theorem Bd.mono {a b : Nat} {x : Int} (h : a ≤ b) (hx : Bd a x) : Bd b x := ⟨hx.1, Int.lt_of_lt_of_le hx.2 (p2_mono h)⟩
theorem Bd.abs {k : Nat} {x : Int} (h : Bd k x) : x.natAbs < 2 ^ k := by
  have h1 := h.1
  have h2 := h.2
  have e : ((x.natAbs : Nat) : Int) < ((2 ^ k : Nat) : Int) := by
    rw [Int.natAbs_of_nonneg h1]
    exact_mod_cast h2
  exact_mod_cast e
section
variable {X : Cx}
end
section
variable {i j : Int} {H : Hp} {Q : VK}
end
end L2
set_option Elab.async false
set_option linter.all false
set_option maxRecDepth 100000
namespace L2
open PySem PySem.Spec PyProof.Rows
abbrev numS (i : Int) : Str := Str.ofString (toString i)
def rAddS : R2 := fun x y H Q => ∃ i j, x = .str i ∧ y = .str j ∧ i.length + j.length ≤ sizeLine ∧ Q (.str (i ++ j)) H
def rStrI : List V → Hp → VK → Prop := fun xs H Q => ∃ i, xs = [.int i] ∧ i.natAbs.log2 < 1920 ∧ Q (.str (numS i)) H
def rJoin (K : PySem.W.Frag) : V → List V → Hp → VK → Prop := fun x xs H Q => ∃ sep p ts, x = .str sep ∧ xs = [.ref p] ∧ SqL K H p (ts.map V.str) ∧ sep.length ≤ 16 ∧ (ts.map (fun t => t.length)).sum + ts.length ≤ 1048576 ∧ Q (.str (sep.join ts)) H
theorem strsAre_of : ∀ {ts : List Str} {us : List Value}, Vals (ts.map V.str) us → StrsAre us ts
  | [], _, .nil => .nil
  | t :: ts, _, .cons r h => by
    obtain ⟨k, rfl⟩ := r
    exact .cons t k (strsAre_of h)
def tFmt (t : TE) : TE := fun σ H Q => t σ H fun x H1 => (∃ y, x = .str y ∧ y.length ≤ sizeLine ∧ Q (.str y) H1) ∨ ∃ i, x = .int i ∧ i.natAbs.log2 < 1920 ∧ Q (.str (numS i)) H1
def tFs : List TE → Str → TE
  | [], out => fun _ H Q => out.length ≤ sizeLine ∧ Q (.str out) H
  | t :: ts, out => fun σ H Q => t σ H fun x H1 => ∃ y, x = .str y ∧ (out ++ y).length ≤ sizeLine ∧ tFs ts (out ++ y) σ H1 Q
section
variable {X : Cx} {pos : Pos}
inductive PFs (X : Cx) : List Expr → List TE → Prop where
  | nil : PFs X [] []
  | cons {e : Expr} {t : TE} {es : List Expr} {ts : List TE} (h : PE X e t) (r : PFs X es ts) : PFs X (e :: es) (t :: ts)
theorem op_addS : OpR X (binaryOp .Add) rAddS := op_add_str
theorem call_strI : CallR X (.type "str") rStrI := call_str_int
theorem mt_join : MtR X "str.join" (rJoin X.K) := by
  intro pins s σ H x xs v us Q I rx rs h
  obtain ⟨sep, p, ts, rfl, rfl, hq, h1, h2, q⟩ := h
  obtain ⟨t, rfl⟩ := rx
  obtain ⟨u, rfl, r1⟩ := vals1 rs
  cases r1
  obtain ⟨its, r, pl, hz⟩ := I.list hq
  refine join_listW (items := its.toArray) (ys := ts) pl.isList (strsAre_of r) h1 h2 fun t' k => ⟨.str (sep.join ts), H, I.tok _, ⟨t', ?_⟩, q⟩
  show Value.str (Builtin.Str.glued sep ts) t' = _
  rw [StrLaws.glued_eq_join]
theorem pe_join {o e : Expr} {to te : TE} {apos cpos : Pos} (ho : PE X o to) (he : PE X e te) (hbase : attributeBase o "join" X.env (eval o X.env) = eval o X.env := by rfl)
    (hfew : ((backTo cpos (starEach [e] X.env)).all (fun x => !x.1) && (backToKw cpos (keywordEach [] X.env)).all (fun x => x.1.isSome)
      && decide (([e] : List Expr).length + ([] : List Keyword).length + (if ([] : List Keyword).isEmpty then 0 else 1) < 30)) = true := by rfl)
    (hline : (apos.endLine == cpos.line) = true := by rfl) (hs : starEach [e] X.env = (false, eval e X.env) :: starEach [] X.env := by rfl) :
    PE X (.Call (.Attribute o "join" apos) [e] [] cpos) (tBM X.K "str" (rJoin X.K) to (tCons te tNil)) :=
  pe_bm PySem.F.plainAttrs_str PySem.F.slot_str_join PySem.F.type_str_join mt_join ho (pa_cons he pa_nil hs) hbase hfew hline hs (by rfl)
theorem pe_fmt {e : Expr} {t : TE} (h : PE X e t) : PE X (.FormattedValue e (-1) none pos) (tFmt t) := by
  intro pins s σ H Q I hh
  refine FormattedValue_plain (thn (h pins s σ H _ I hh) fun v s1 ⟨x, H1, I1, r1, q1⟩ => ?_)
  rcases q1 with ⟨y, rfl, hz, q⟩ | ⟨i, rfl, hz, q⟩
  · obtain ⟨t, rfl⟩ := r1
    exact formatField_str (fun t' tk => ⟨.str y, H1, I1.tok _, ⟨_, rfl⟩, q⟩) hz
  · obtain ⟨t, rfl⟩ := r1
    exact formatField_int_small hz ⟨.str _, H1, I1.tok _, ⟨_, rfl⟩, q⟩
theorem fs_ok : ∀ {es : List Expr} {ts : List TE}, PFs X es ts → ∀ (out : Str) (pins : List (Addr × Obj)) (s : Shared) (σ : St) (H : Hp) (Q : VK), Inv X pins σ H s → tFs ts out σ H Q →
    wpAny (model X.prog X.w) X.A (joinParts out (evalEach es X.env)) (EP X pins σ Q) X.xe s
  | _, _, .nil, out, pins, s, σ, H, Q, I, h => joinParts_nil ⟨.str out, H, I.tok _, ⟨_, rfl⟩, h.2⟩ h.1
  | _, _, .cons he r, out, pins, s, σ, H, Q, I, h => by
    refine joinParts_cons (thn (he pins s σ H _ I h) fun v s1 ⟨x, H1, I1, r1, q1⟩ => ?_)
    obtain ⟨y, rfl, hz, q⟩ := q1
    obtain ⟨t, rfl⟩ := r1
    exact ⟨hz, fs_ok r _ pins s1 σ H1 Q I1 q⟩
theorem pe_fstr {a b : Expr} {es : List Expr} {ts : List TE} (h : PFs X (a :: b :: es) ts) : PE X (.JoinedStr (a :: b :: es) pos) (tFs ts Str.empty) := by
  intro pins s σ H Q I hh
  exact JoinedStr_many (fs_ok h _ pins s σ H Q I hh)
end
section
variable {σ : St} {H : Hp} {Q : VK} {i j out y : Str} {n : Int} {t : TE} {ts : List TE} {K : PySem.W.Frag}
theorem w_addS (hz : i.length + j.length ≤ sizeLine) (h : Q (.str (i ++ j)) H) : rAddS (.str i) (.str j) H Q := ⟨i, j, rfl, rfl, hz, h⟩
theorem w_strI (hz : n.natAbs.log2 < 1920) (h : Q (.str (numS n)) H) : rStrI [.int n] H Q := ⟨n, rfl, hz, h⟩
theorem go_fs (h : t σ H fun x H1 => ∃ y, x = .str y ∧ (out ++ y).length ≤ sizeLine ∧ tFs ts (out ++ y) σ H1 Q) : tFs (t :: ts) out σ H Q := h
theorem go_fs0 (hz : out.length ≤ sizeLine) (h : Q (.str out) H) : tFs [] out σ H Q := ⟨hz, h⟩
theorem go_fmt (h : t σ H fun x H1 => (∃ y, x = .str y ∧ y.length ≤ sizeLine ∧ Q (.str y) H1) ∨ ∃ i, x = .int i ∧ i.natAbs.log2 < 1920 ∧ Q (.str (numS i)) H1) : tFmt t σ H Q := h
theorem w_fs {R : Str → Prop} (hz : (out ++ y).length ≤ sizeLine) (h : R y) : ∃ z, V.str y = .str z ∧ (out ++ z).length ≤ sizeLine ∧ R z := ⟨y, rfl, hz, h⟩
theorem w_fmtS {R : Str → Prop} {S : Int → Prop} (hz : y.length ≤ sizeLine) (h : R y) : (∃ z, V.str y = .str z ∧ z.length ≤ sizeLine ∧ R z) ∨ ∃ i, V.str y = .int i ∧ i.natAbs.log2 < 1920 ∧ S i := .inl ⟨y, rfl, hz, h⟩
theorem w_fmtI {R : Str → Prop} {S : Int → Prop} (hz : n.natAbs.log2 < 1920) (h : S n) : (∃ z, V.int n = .str z ∧ z.length ≤ sizeLine ∧ R z) ∨ ∃ i, V.int n = .int i ∧ i.natAbs.log2 < 1920 ∧ S i := .inr ⟨n, rfl, hz, h⟩
theorem w_ixS {z : Str} {k : Int} {c : Nat} (hz : z.length ≤ sizeLine) (he : atI z.cps.toList k = some c) (h : Q (.str ⟨#[c]⟩) H) : rIxS (.str z) (.int k) H Q := ⟨z, k, c, rfl, rfl, hz, he, h⟩
theorem log_small {n : Int} (h : Bd 1000 n) : n.natAbs.log2 < 1920 := by
  by_cases e : n.natAbs = 0
  · rw [e]; decide
  · have := (Nat.log2_lt e).mpr h.abs
    omega
end
theorem pg_tupK {X : Cx} {K : PySem.W.Frag} {pos : Pos} {es : List Expr} {k : Nat} {t : TGs} {n : Nat} (hK : X.K = K) (hc : X.calm = true) (h : PGs X es t)
    (hn : (assignEach es X.env).length = n := by rfl) (hst : (assignEach es X.env).findIdx? (·.1) = none := by rfl) : PG X (.Tuple es k pos) (gTup K n t) := by
  subst hK
  exact pg_tup hc h hn hst
/-- a comprehension over the items of a list, with any target, whose answers may be tuples -/
theorem comp_mapG {J : It} {xs : List V} {Lk : Hp → Prop} {te : TE} {g : TG} {σ : St} {H : Hp} {Q : VK} {fr : List Nat} {fvs : St} {nt : Nat} {P : Nat → V → Hp → Prop} (it : L2.ItemsOf J xs Lk) (hz : xs.length ≤ 1000000) (hf : (fr.map fun i => (σ[i]?).getD none) = fvs) (hL : ∀ H', Same H H' → Lk H')
    (hP : ∀ i y H1 H2, P i y H1 → (∀ q u, H1 q = some (.tup u) → H2 q = some (.tup u)) → P i y H2)
    (turn : ∀ (i : Nat) (v : V) (tv : St) (H' : Hp), xs[i]? = some v → Same H H' → tv.length = nt → ∃ tv' σ' : St, tv'.length = nt ∧ tv' ++ fvs = σ' ∧ (∀ R2 : St → Hp → Prop, R2 σ' H' → g v (tv ++ fvs) H' R2) ∧ ∀ R : VK, (∀ y H2, Same H' H2 → P i y H2 → R y H2) → te σ' H' R)
    (k : ∀ l H' ys, New H H' l (.lst ys) → ys.length = xs.length → (∀ (i : Nat) (y : V), ys[i]? = some y → P i y H') → Q (.ref l) H') : CompAll J nt fr g tTrue te σ H Q := by
  intro acc hacc
  subst hf
  have nacc : ∀ b u, H b = some u → b ≠ acc := fun b u e => ne_of_none e hacc
  refine comp_by it (fun i ys H' => H' acc = some (.lst ys) ∧ Same H H' ∧ ys.length = i ∧ ∀ (j : Nat) (y : V), ys[j]? = some y → P j y H') ⟨upd_same, Same.new hacc, rfl, fun j y e => by simp at e⟩ (fun i ys H' _ h => ⟨hL H' h.2.1, h.1⟩) ?_ ?_
  · rintro i x tv ys H' hx hi ⟨ha, hs, hl, hp⟩ htv
    obtain ⟨tv', _, ht', rfl, hg, he⟩ := turn i x tv H' hx hs htv
    refine hg _ ?_
    unfold tTrue
    dsimp only
    rw [if_pos rfl]
    refine he _ fun y H2 s2 py => ⟨by rw [hl]; exact Nat.lt_of_lt_of_le hi (small_line hz), s2 _ _ ha, CompW.next (tv := tv') hi ⟨upd_same, fun b u e => by rw [upd_ne (nacc b u e)]; exact s2 _ _ (hs _ _ e), by rw [List.length_append, hl]; rfl, fun j z e => ?_⟩ ht'⟩
    have stay : ∀ q u, H2 q = some (.tup u) → (upd H2 acc (.lst (ys ++ [y]))) q = some (.tup u) := fun q u h => by
      have ne : q ≠ acc := fun z => by
        rw [z, s2 _ _ ha] at h
        cases h
      rw [upd_ne ne]
      exact h
    by_cases hj : j < ys.length
    · rw [List.getElem?_append_left hj] at e
      exact hP _ _ _ _ (hP _ _ _ _ (hp j z e) fun q u h => s2 _ _ h) stay
    · rw [List.getElem?_append_right (by omega)] at e
      have hj2 : j - ys.length = 0 := by
        by_cases h0 : j - ys.length = 0
        · exact h0
        · rw [List.getElem?_eq_none (by simp; omega)] at e
          cases e
      rw [hj2] at e
      cases e
      have : j = i := by omega
      rw [this]
      exact hP _ _ _ _ py stay
  · rintro ys H' ⟨ha, hs, hl, hp⟩
    exact k acc H' ys ⟨hs, ha, nacc⟩ hl hp
def flatDt : V → Dt
  | .int i => .int i
  | .str x => .str x
  | .bl b => .bl b
  | _ => .non
def isFlat : V → Bool
  | .int _ => true
  | .str _ => true
  | .bl _ => true
  | .non => true
  | _ => false
section
variable {K : PySem.W.Frag} {H : Hp}
theorem rep_flat {v : V} (h : isFlat v = true) : Rep K H (flatDt v) v := by
  cases v <;> simp_all [isFlat, flatDt, Rep]
theorem reps_flat : ∀ {vs : List V}, (∀ v ∈ vs, isFlat v = true) → Reps K H (vs.map flatDt) vs
  | [], _ => by simp [Reps]
  | v :: vs, h => by
    simp only [List.map_cons, Reps]
    exact ⟨_, _, rfl, rep_flat (h v (List.mem_cons_self ..)), reps_flat fun x hx => h x (List.mem_cons_of_mem _ hx)⟩
theorem dep_flat : ∀ vs : List V, depDs (vs.map flatDt) = 0
  | [] => rfl
  | v :: vs => by
    have : depD (flatDt v) = 0 := by cases v <;> rfl
    simp [depDs, this, dep_flat vs]
abbrev rowDt (r : List V) : Dt := .tup (r.map flatDt)
theorem reps_rows : ∀ {rows : List (List V)} {ys : List V}, TupsAt H ys rows → (∀ r ∈ rows, ∀ v ∈ r, isFlat v = true) → Reps K H (rows.map rowDt) ys
  | [], ys, h, _ => by
    have : ys = [] := List.eq_nil_of_length_eq_zero h.1
    subst this
    simp [Reps]
  | r :: rows, [], h, _ => by simp [TupsAt] at h
  | r :: rows, y :: ys, h, hf => by
    obtain ⟨q, e, hq⟩ := h.2 0 r rfl
    cases e
    simp only [List.map_cons, Reps]
    refine ⟨_, _, rfl, ?_, reps_rows (rows := rows) (ys := ys) ⟨by simpa using h.1, fun j r' e => h.2 (j + 1) r' e⟩ fun x hx => hf x (List.mem_cons_of_mem _ hx)⟩
    simp only [Rep]
    exact ⟨q, r, rfl, SqT.of hq, reps_flat (hf r (List.mem_cons_self ..))⟩
theorem dep_rows : ∀ rows : List (List V), depDs (rows.map rowDt) ≤ 1
  | [] => by decide
  | r :: rows => by
    have h1 : depD (rowDt r) = 1 := by simp only [depD, dep_flat]
    have h2 := dep_rows rows
    simp only [List.map_cons, depDs, h1]
    omega
theorem rep_rows {p : Addr} {rows : List (List V)} {ys : List V} (hp : SqL K H p ys) (h : TupsAt H ys rows) (hf : ∀ r ∈ rows, ∀ v ∈ r, isFlat v = true) : Rep K H (.lst (rows.map rowDt)) (.ref p) := by
  simp only [Rep]
  exact ⟨p, ys, rfl, hp, reps_rows h hf⟩
theorem dep_rowsL (rows : List (List V)) : depD (.lst (rows.map rowDt)) ≤ 2 := by
  have := dep_rows rows
  simp only [depD]
  omega
theorem w_neSame {d : Dt} {x y : V} {Q : VK} (hx : Rep K H d x) (hy : Rep K H d y) (hd : depD d ≤ 100) (k : Q (.bl false) H) : rNeD K x y H Q :=
  ⟨d, d, hx, hy, hd, by rw [eqDt_refl]; exact k⟩
theorem rep_strs {p : Addr} {ts : List Str} (h : SqL K H p (ts.map V.str)) : Rep K H (.lst ((ts.map V.str).map flatDt)) (.ref p) := by
  simp only [Rep]
  exact ⟨p, _, rfl, h, reps_flat fun v hv => by obtain ⟨t, _, rfl⟩ := List.mem_map.mp hv; rfl⟩
theorem rep_nil {p : Addr} (h : SqL K H p []) : Rep K H (.lst []) (.ref p) := by
  simp only [Rep]
  exact ⟨p, _, rfl, h, by simp [Reps]⟩
theorem w_neNil {p q : Addr} {ts : List Str} {Q : VK} (hp : SqL K H p (ts.map V.str)) (hq : SqL K H q []) (k : Q (.bl (!decide (ts = []))) H) : rNeD K (.ref p) (.ref q) H Q :=
  ⟨_, _, rep_strs hp, rep_nil hq, by simp only [depD, dep_flat]; decide, by
    cases ts with
    | nil => simpa [eqDt, eqDts] using k
    | cons t ts => simpa [eqDt, eqDts] using k⟩
theorem w_eqNil {p q : Addr} {ts : List Str} {Q : VK} (hp : SqL K H p (ts.map V.str)) (hq : SqL K H q []) (k : Q (.bl (decide (ts = []))) H) : rEqD K (.ref p) (.ref q) H Q :=
  ⟨_, _, rep_strs hp, rep_nil hq, by simp only [depD, dep_flat]; decide, by
    cases ts with
    | nil => simpa [eqDt, eqDts] using k
    | cons t ts => simpa [eqDt, eqDts] using k⟩
end
end L2
set_option Elab.async false
set_option linter.all false
set_option maxRecDepth 100000
set_option maxHeartbeats 4000000
namespace K02
open PySem L2 PyProof.Rows
def top (i : Nat) : Stmt := PySem.Challenge.pw_slideroom_k02_parts_written.main.body.getD i (.Pass ⟨0, 0, 0, 0⟩)
abbrev s_wrow : Stmt := top 1
theorem sc_wrow : FnScope ["texts"] ["texts"] (defScope s_wrow) := ⟨rfl, rfl, rfl, by decide +kernel, rfl, by decide +kernel, by decide +kernel⟩
abbrev s_wstr : Stmt := top 2
theorem sc_wstr : FnScope ["start", "size"] ["start", "size"] (defScope s_wstr) := ⟨rfl, rfl, rfl, by decide +kernel, rfl, by decide +kernel, by decide +kernel⟩
abbrev s_wstrs : Stmt := top 3
theorem sc_wstrs : FnScope ["rows"] ["rows"] (defScope s_wstrs) := ⟨rfl, rfl, rfl, by decide +kernel, rfl, by decide +kernel, by decide +kernel⟩
abbrev s_wmoves : Stmt := top 4
theorem sc_wmoves : FnScope ["moves"] ["moves"] (defScope s_wmoves) := ⟨rfl, rfl, rfl, by decide +kernel, rfl, by decide +kernel, by decide +kernel⟩
abbrev s_wblk : Stmt := top 5
theorem sc_wblk : FnScope ["name", "start", "size", "pins"] ["name", "start", "size", "pins"] (defScope s_wblk) := ⟨rfl, rfl, rfl, by decide +kernel, rfl, by decide +kernel, by decide +kernel⟩
abbrev s_wblks : Stmt := top 6
theorem sc_wblks : FnScope ["rows"] ["rows"] (defScope s_wblks) := ⟨rfl, rfl, rfl, by decide +kernel, rfl, by decide +kernel, by decide +kernel⟩
abbrev s_draws : Stmt := top 8
theorem sc_draws : FnScope ["_law_cell", "_law_many", "_law_found", "_law_number", "_law_k"] ["_law_cell", "_law_many"] (defScope s_draws) := ⟨rfl, rfl, rfl, by decide +kernel, rfl, by decide +kernel, by decide +kernel⟩
abbrev s_name : Stmt := top 9
theorem sc_name : FnScope ["_law_number", "_law_found", "_law_k"] ["_law_number"] (defScope s_name) := ⟨rfl, rfl, rfl, by decide +kernel, rfl, by decide +kernel, by decide +kernel⟩
abbrev s_rows : Stmt := top 10
theorem sc_rows : FnScope ["_law_cell", "_law_draws_here", "_law_rows_here", "_law_k", "_law_start", "_law_size", "_law_pins"] ["_law_cell"] (defScope s_rows) := ⟨rfl, rfl, rfl, by decide +kernel, rfl, by decide +kernel, by decide +kernel⟩
abbrev s_text : Stmt := top 11
theorem sc_text : FnScope ["_law_words", "_law_text_here", "_law_word"] ["_law_words"] (defScope s_text) := ⟨rfl, rfl, rfl, by decide +kernel, rfl, by decide +kernel, by decide +kernel⟩
abbrev s_lblk : Stmt := top 12
theorem sc_lblk : FnScope ["_law_row", "_law_word"] ["_law_row"] (defScope s_lblk) := ⟨rfl, rfl, rfl, by decide +kernel, rfl, by decide +kernel, by decide +kernel⟩
abbrev s_law : Stmt := top 13
theorem sc_law : FnScope ["_law_script", "_law_cell", "_law_rows_here", "_law_handed", "_law_stretches", "_law_moves", "_law_held"] ["_law_script"] (defScope s_law) := ⟨rfl, rfl, rfl, by decide +kernel, rfl, by decide +kernel, by decide +kernel⟩
structure Txt (K : PySem.W.Frag) (mg : Str → Option Value) : Prop where
  d_wrow : HasDef K mg "write_row" s_wrow
  d_wstr : HasDef K mg "write_stretch" s_wstr
  d_wstrs : HasDef K mg "write_stretches" s_wstrs
  d_wmoves : HasDef K mg "write_moves" s_wmoves
  d_wblk : HasDef K mg "write_block" s_wblk
  d_wblks : HasDef K mg "write_blocks" s_wblks
  d_draws : HasDef K mg "_law_draws" s_draws
  d_name : HasDef K mg "_law_name" s_name
  d_rows : HasDef K mg "_law_rows" s_rows
  d_text : HasDef K mg "_law_text" s_text
  d_lblk : HasDef K mg "_law_block" s_lblk
  n_range : mg "range" = none
  n_list : mg "list" = none
  n_str : mg "str" = none
local macro_rules | `(tactic| walk_at "go") => `(tactic| with_reducible (first
  | refine go_seq ?_ | refine go_asg ?_ | refine go_ret ?_ | refine go_if ?_ | refine go_drop ?_ | refine go_next ?_ | refine go_nx ?_ | refine w_rt ?_
  | refine go_test ?_ | refine go_b ?_ | refine go_op ?_ | refine go_cb ?_ | refine go_cons ?_ | refine go_nil ?_ | refine w_call ?_ | refine w_c ?_
  | refine wv0 ?_ | refine wv1 ?_ | refine wv2 ?_ | refine wv3 ?_ | refine wv4 ?_ | refine wv5 ?_ | refine wv6 ?_ | refine wv7 ?_ | refine wv8 ?_ | refine wv9 ?_ | refine wv10 ?_ | refine wv11 ?_ | refine wv12 ?_ | refine wv13 ?_
  | refine wn0 ?_ | refine wn1 ?_ | refine wn2 ?_ | refine wn3 ?_ | refine wn4 ?_ | refine wn5 ?_ | refine wn6 ?_ | refine wn7 ?_ | refine wn8 ?_ | refine wn9 ?_ | refine wn10 ?_ | refine wn11 ?_ | refine wn12 ?_ | refine wn13 ?_
  | refine w_i0 ?_ | refine w_u ?_ | refine w_un ?_ | refine w_eqi ?_ | refine w_nei ?_ | refine w_eqs ?_ | refine w_nes ?_ | refine w_eqb ?_ | refine w_neb ?_ | refine w_bl ?_ | refine w_not ?_ | refine w_and ?_ | refine w_or ?_ | refine w_notV ?_ | refine w_andV ?_ | refine w_orV ?_
  | refine w_ifE ?_ | refine w_chain ?_ | refine w_bm ?_ | refine w_bm0 ?_ | refine w_sub ?_ | refine w_slice ?_ | refine w_noPart ?_ | refine w_part ?_ | refine w_int ?_ | refine w_max ?_ | refine w_min ?_ | refine w_intB ?_ | refine w_intI ?_
  | refine w_mod (by decide) ?_ | refine w_div (by decide) (by decide) ?_ | refine w_pow (by decide) (by decide) (by decide) ?_ | refine w_mulL (by decide) (by decide) ?_ | refine w_mulR (by decide) (by decide) ?_ | refine go_tupA ?_ | refine go_lstA ?_ | refine w_notT ?_ | refine w_isB ?_ | refine w_isNB ?_ | refine w_revSl ?_ | refine w_din ?_ | refine w_dput ?_ | refine go_fs ?_ | refine go_fmt ?_))
theorem len_app (a b : Str) : (a ++ b).length = a.length + b.length := by simp [Str.length_append]
def Sm (n : Int) : Prop := 0 ≤ n ∧ n < 10 ^ 30
theorem numS_len {n : Int} (h : Sm n) : (numS n).length ≤ 30 := toString_length_le h.1 (by decide) h.2
theorem sm_log {n : Int} (h : Sm n) : n.natAbs.log2 < 1920 := log_small (Bd.mono (a := 100) (by decide) ⟨h.1, Int.lt_trans h.2 (by decide)⟩)
theorem ln {n : Nat} (h : n ≤ 100000) : n ≤ sizeLine := Nat.le_trans h (by decide)
def strT (w : Int × Int) : Str := numS w.1 ++ "+" ++ numS w.2
def movT (w : Str × Int) : Str := w.1 ++ ">" ++ numS w.2
abbrev Row := Str × Int × Int × Int
def blkT (r : Row) : Str := if r.2.2.2 = 0 then r.1 ++ ":" ++ numS r.2.1 ++ "+" ++ numS r.2.2.1 else r.1 ++ ":" ++ numS r.2.1 ++ "+" ++ numS r.2.2.1 ++ "!" ++ numS r.2.2.2
structure RowOk (r : Row) : Prop where
  n : r.1.length ≤ 8
  s : Sm r.2.1
  z : Sm r.2.2.1
  p : Sm r.2.2.2
theorem strT_len {w : Int × Int} (h1 : Sm w.1) (h2 : Sm w.2) : (strT w).length ≤ 150 := by
  have := numS_len h1
  have := numS_len h2
  unfold strT
  rw [len_app, len_app, show ("+" : Str).length = 1 from rfl]
  omega
theorem movT_len {w : Str × Int} (h1 : w.1.length ≤ 8) (h2 : Sm w.2) : (movT w).length ≤ 150 := by
  have := numS_len h2
  unfold movT
  rw [len_app, len_app, show (">" : Str).length = 1 from rfl]
  omega
theorem blkT_len {r : Row} (h : RowOk r) : (blkT r).length ≤ 150 := by
  have := h.n
  have := numS_len h.s
  have := numS_len h.z
  have := numS_len h.p
  unfold blkT
  split
  · simp only [len_app, show (":" : Str).length = 1 from rfl, show ("+" : Str).length = 1 from rfl]
    omega
  · simp only [len_app, show (":" : Str).length = 1 from rfl, show ("+" : Str).length = 1 from rfl, show ("!" : Str).length = 1 from rfl]
    omega
def foldT (t : Str) (ts : List Str) : Str := ts.foldl (fun a w => a ++ " " ++ w) t
def rowT : List Str → Str
  | [] => "-"
  | t :: ts => foldT t ts
theorem join_app (sep a x : Str) (r : List Str) : sep.join ((a ++ x) :: r) = a ++ sep.join (x :: r) := by
  cases r with
  | nil => rw [join_one, join_one]
  | cons y r => rw [join_cons_cons, join_cons_cons]; simp only [Str.append_assoc]
theorem join_fold : ∀ (ts : List Str) (t : Str), (" " : Str).join (t :: ts) = foldT t ts
  | [], t => join_one _ _
  | w :: ts, t => by
    rw [join_cons_cons]
    show _ = foldT (t ++ " " ++ w) ts
    rw [← join_fold ts, join_app]
theorem foldT_len : ∀ (ts : List Str) (t : Str), (∀ w ∈ ts, w.length ≤ 150) → (foldT t ts).length ≤ t.length + ts.length * 151
  | [], t, _ => by simp [foldT]
  | w :: ts, t, h => by
    have h1 := foldT_len ts (t ++ " " ++ w) fun x hx => h x (List.mem_cons_of_mem _ hx)
    have h2 := h w (List.mem_cons_self ..)
    rw [len_app, len_app, show (" " : Str).length = 1 from rfl] at h1
    show (foldT (t ++ " " ++ w) ts).length ≤ _
    rw [List.length_cons]
    omega
theorem foldT_snoc {ts : List Str} {i : Nat} {w t : Str} (h : ts[i]? = some w) : foldT t (ts.take (i + 1)) = foldT t (ts.take i) ++ " " ++ w := by
  rw [List.take_succ, h]
  simp [foldT]
theorem sum_len : ∀ ts : List Str, (∀ w ∈ ts, w.length ≤ 150) → (ts.map (fun t => t.length)).sum ≤ ts.length * 150
  | [], _ => by simp
  | t :: ts, h => by
    have h1 := sum_len ts fun x hx => h x (List.mem_cons_of_mem _ hx)
    have h2 := h t (List.mem_cons_self ..)
    simp only [List.map_cons, List.sum_cons, List.length_cons]
    omega
theorem ys_of {α : Type} {ys : List V} {xs : List α} {F : α → V} (hl : ys.length = xs.length) (h : ∀ (i : Nat) (y : V), ys[i]? = some y → ∀ r, xs[i]? = some r → y = F r) : ys = xs.map F := by
  apply List.ext_getElem?
  intro i
  by_cases hi : i < xs.length
  · have e1 := List.getElem?_eq_getElem (l := ys) (show i < ys.length by omega)
    have e2 := List.getElem?_eq_getElem hi
    rw [e1, List.getElem?_map, e2, h i _ e1 _ e2]
    rfl
  · rw [List.getElem?_eq_none (by omega), List.getElem?_eq_none (by rw [List.length_map]; omega)]
theorem tups_of {α : Type} {H : Hp} {ys : List V} {xs : List α} {F : α → List V} (hl : ys.length = xs.length) (h : ∀ (i : Nat) (y : V), ys[i]? = some y → ∀ r, xs[i]? = some r → ∃ q, y = .ref q ∧ H q = some (.tup (F r))) : TupsAt H ys (xs.map F) := by
  refine ⟨by rw [List.length_map]; exact hl, fun j r e => ?_⟩
  rw [List.getElem?_map] at e
  cases e2 : xs[j]? with
  | none => rw [e2] at e; cases e
  | some x =>
    rw [e2] at e
    cases e
    have hj := (List.getElem?_eq_some_iff.mp e2).1
    have e1 := List.getElem?_eq_getElem (l := ys) (show j < ys.length by omega)
    obtain ⟨q, e3, hq⟩ := h j _ e1 x e2
    exact ⟨q, by rw [e1, e3], hq⟩
theorem tups_ixG {α : Type} {H : Hp} {ys : List V} {xs : List α} {F : α → List V} {i : Nat} {v : V} (h : TupsAt H ys (xs.map F)) (hv : ys[i]? = some v) : ∃ r, xs[i]? = some r ∧ ∃ q, v = .ref q ∧ H q = some (.tup (F r)) := by
  have hi : i < xs.length := by
    have := (List.getElem?_eq_some_iff.mp hv).1
    rw [h.1, List.length_map] at this
    exact this
  have e := List.getElem?_eq_getElem hi
  obtain ⟨q, e1, hq⟩ := h.2 i (F xs[i]) (by rw [List.getElem?_map, e]; rfl)
  rw [hv] at e1
  exact ⟨_, e, q, Option.some.inj e1, hq⟩
section
variable {σ σ' : L2.St} {H : Hp} {K : PySem.W.Frag} {p : Addr} {a b c d : V} {i0 i1 i2 i3 : Nat} {R : L2.St → Hp → Prop}
theorem go_t4 (hp : SqT K H p [a, b, c, d]) (e : (((σ.set i0 (some a)).set i1 (some b)).set i2 (some c)).set i3 (some d) = σ') (h : R σ' H) : gTup K 4 (gCons (gName i0) (gCons (gName i1) (gCons (gName i2) (gCons (gName i3) gNil)))) (.ref p) σ H R :=
  ⟨p, _, rfl, hp, rfl, _, _, rfl, _, _, rfl, _, _, rfl, _, _, rfl, rfl, by rw [e]; exact h⟩
end
def rowV (r : Row) : List V := [.str r.1, .int r.2.1, .int r.2.2.1, .int r.2.2.2]
def stV (w : Int × Int) : List V := [.int w.1, .int w.2]
def mvV (w : Str × Int) : List V := [.str w.1, .int w.2]
def sp_wrow (K : PySem.W.Frag) : Sp := fun vs H Q _ => ∃ (p : Addr) (ts : List Str), vs = [.ref p] ∧ SqL K H p (ts.map V.str) ∧ ts.length ≤ 100 ∧ (∀ t ∈ ts, t.length ≤ 150) ∧ ∀ H', Same H H' → Q (.str (rowT ts)) H'
def sp_wstr : Sp := fun vs H Q _ => ∃ s z : Int, vs = [.int s, .int z] ∧ Sm s ∧ Sm z ∧ Q (.str (strT (s, z))) H
def sp_wblk : Sp := fun vs H Q _ => ∃ r : Row, vs = [.str r.1, .int r.2.1, .int r.2.2.1, .int r.2.2.2] ∧ RowOk r ∧ Q (.str (blkT r)) H
def sp_lblk : Sp := fun vs H Q _ => ∃ (q : Addr) (r : Row), vs = [.ref q] ∧ H q = some (.tup (rowV r)) ∧ RowOk r ∧ Q (.str (blkT r)) H
def sp_wstrs (K : PySem.W.Frag) : Sp := fun vs H Q _ => ∃ (p : Addr) (ys : List V) (ws : List (Int × Int)), vs = [.ref p] ∧ SqL K H p ys ∧ TupsAt H ys (ws.map stV) ∧ ws.length ≤ 100 ∧ (∀ w ∈ ws, Sm w.1 ∧ Sm w.2) ∧ ∀ H', Same H H' → Q (.str (rowT (ws.map strT))) H'
def sp_wmoves (K : PySem.W.Frag) : Sp := fun vs H Q _ => ∃ (p : Addr) (ys : List V) (ws : List (Str × Int)), vs = [.ref p] ∧ SqL K H p ys ∧ TupsAt H ys (ws.map mvV) ∧ ws.length ≤ 100 ∧ (∀ w ∈ ws, w.1.length ≤ 8 ∧ Sm w.2) ∧ ∀ H', Same H H' → Q (.str (rowT (ws.map movT))) H'
def sp_wblks (K : PySem.W.Frag) : Sp := fun vs H Q _ => ∃ (p : Addr) (ys : List V) (rs : List Row), vs = [.ref p] ∧ SqL K H p ys ∧ TupsAt H ys (rs.map rowV) ∧ rs.length ≤ 100 ∧ (∀ r ∈ rs, RowOk r) ∧ ∀ H', Same H H' → Q (.str (rowT (rs.map blkT))) H'
section
variable {P : Program} {w : World} {K : PySem.W.Frag} {mg : Str → Option Value} {base : Heap}
theorem D_wrow (T : Txt K mg) : Def P w K mg base CX0 1 "write_row" ["texts"] (sp_wrow K) := by
  refine def_of T.d_wrow sc_wrow (fun vs H Q E h => ?_) (fun _ _ _ _ _ _ us hl => match us, hl with | [_], _ => rfl) (fun f cdv A outer s H vs Q E hr h => ?_)
  · obtain ⟨p, ts, rfl, _⟩ := h
    rfl
  · obtain ⟨p, ts, rfl, hp, hl, ht, k⟩ := h
    have nd := sc_wrow.nd
    refine ⟨_, (pss_one (ps_ret (pe_ifExp (pt_cmpR (op_ne_dN hr) (pv 0) (pe_lstA pa_nil) (nomark _)) (pe_join pe_str (pv 0)) pe_str))), ?_⟩
    rw [show start ["texts"] [.ref p] = [some (.ref p)] from rfl]
    repeat walk_at "go"
    refine ⟨Nat.zero_le _, fun q H1 n1 => ?_⟩
    repeat walk_at "go"
    refine w_neNil (n1.s.seq hp) (SqL.of n1.e) ?_
    repeat walk_at "go"
    refine i_ndec (fun h => ?_) (fun h => ?_)
    · repeat walk_at "go"
      refine ⟨rfl, ?_⟩
      repeat walk_at "go"
      refine ⟨_, p, ts, rfl, rfl, n1.s.seq hp, by decide, ?_, ?_⟩
      · have := sum_len ts ht
        omega
      · obtain ⟨t, r, rfl⟩ : ∃ t r, ts = t :: r := match ts, h with | t :: r, _ => ⟨t, r, rfl⟩ | [], h => absurd rfl h
        rw [join_fold]
        exact k H1 n1.s
    · subst h
      repeat walk_at "go"
      exact k H1 n1.s
theorem D_wstr (T : Txt K mg) : Def P w K mg base CX0 1 "write_stretch" ["start", "size"] sp_wstr := by
  refine def_of T.d_wstr sc_wstr (fun vs H Q E h => ?_) (fun _ _ _ _ _ _ us hl => match us, hl with | [_, _], _ => rfl) (fun f cdv A outer s H vs Q E hr h => ?_)
  · obtain ⟨s0, z, rfl, _⟩ := h
    rfl
  · obtain ⟨s0, z, rfl, hs, hz, k⟩ := h
    have nd := sc_wstr.nd
    refine ⟨_, (pss_one (ps_ret (pe_fstr (.cons (pe_fmt (pv 0)) (.cons pe_str (.cons (pe_fmt (pv 1)) .nil)))))), ?_⟩
    rw [show start ["start", "size"] [.int s0, .int z] = [some (.int s0), some (.int z)] from rfl]
    have l1 := numS_len hs
    have l2 := numS_len hz
    repeat walk_at "go"
    refine w_fmtI (sm_log hs) ?_
    refine w_fs (ln (by rw [Str.empty_append]; omega)) ?_
    repeat walk_at "go"
    refine w_fs (ln (by rw [Str.empty_append, len_app]; show _ + 1 ≤ _; omega)) ?_
    repeat walk_at "go"
    refine w_fmtI (sm_log hz) ?_
    refine w_fs (ln (by rw [Str.empty_append, len_app, len_app]; show _ + 1 + _ ≤ _; omega)) ?_
    refine go_fs0 (ln (by rw [Str.empty_append, len_app, len_app]; show _ + 1 + _ ≤ _; omega)) ?_
    rw [Str.empty_append]
    exact k
theorem D_wblk (T : Txt K mg) : Def P w K mg base CX0 1 "write_block" ["name", "start", "size", "pins"] sp_wblk := by
  refine def_of T.d_wblk sc_wblk (fun vs H Q E h => ?_) (fun _ _ _ _ _ _ us hl => match us, hl with | [_, _, _, _], _ => rfl) (fun f cdv A outer s H vs Q E hr h => ?_)
  · obtain ⟨r, rfl, _⟩ := h
    rfl
  · obtain ⟨r, rfl, ok, k⟩ := h
    have nd := sc_wblk.nd
    refine ⟨_, (pss_one (ps_ret (pe_ifExp (pt_cmpR op_eq (pv 3) pe_int (nomark _)) (pe_fstr (.cons (pe_fmt (pv 0)) (.cons pe_str (.cons (pe_fmt (pv 1)) (.cons pe_str (.cons (pe_fmt (pv 2)) .nil)))))) (pe_fstr (.cons (pe_fmt (pv 0)) (.cons pe_str (.cons (pe_fmt (pv 1)) (.cons pe_str (.cons (pe_fmt (pv 2)) (.cons pe_str (.cons (pe_fmt (pv 3)) .nil))))))))))), ?_⟩
    rw [show start ["name", "start", "size", "pins"] [.str r.1, .int r.2.1, .int r.2.2.1, .int r.2.2.2] = [some (.str r.1), some (.int r.2.1), some (.int r.2.2.1), some (.int r.2.2.2)] from rfl]
    have l0 := ok.n
    have l1 := numS_len ok.s
    have l2 := numS_len ok.z
    have l3 := numS_len ok.p
    unfold blkT at k
    repeat walk_at "go"
    refine i_dec (fun h => ?_) (fun h => ?_)
    · rw [if_pos h] at k
      repeat walk_at "go"
      refine w_fmtS (ln (by omega)) ?_
      refine w_fs (ln (by rw [Str.empty_append]; omega)) ?_
      repeat walk_at "go"
      refine w_fs (ln (by rw [Str.empty_append, len_app]; simp only [show (":" : Str).length = 1 from rfl, show ("+" : Str).length = 1 from rfl, show ("!" : Str).length = 1 from rfl, show (">" : Str).length = 1 from rfl]; omega)) ?_
      repeat walk_at "go"
      refine w_fmtI (sm_log ok.s) ?_
      refine w_fs (ln (by rw [Str.empty_append, len_app, len_app]; simp only [show (":" : Str).length = 1 from rfl, show ("+" : Str).length = 1 from rfl, show ("!" : Str).length = 1 from rfl, show (">" : Str).length = 1 from rfl]; omega)) ?_
      repeat walk_at "go"
      refine w_fs (ln (by rw [Str.empty_append, len_app, len_app, len_app]; simp only [show (":" : Str).length = 1 from rfl, show ("+" : Str).length = 1 from rfl, show ("!" : Str).length = 1 from rfl, show (">" : Str).length = 1 from rfl]; omega)) ?_
      repeat walk_at "go"
      refine w_fmtI (sm_log ok.z) ?_
      refine w_fs (ln (by rw [Str.empty_append, len_app, len_app, len_app, len_app]; simp only [show (":" : Str).length = 1 from rfl, show ("+" : Str).length = 1 from rfl, show ("!" : Str).length = 1 from rfl, show (">" : Str).length = 1 from rfl]; omega)) ?_
      refine go_fs0 (ln (by rw [Str.empty_append, len_app, len_app, len_app, len_app]; simp only [show (":" : Str).length = 1 from rfl, show ("+" : Str).length = 1 from rfl, show ("!" : Str).length = 1 from rfl, show (">" : Str).length = 1 from rfl]; omega)) ?_
      rw [Str.empty_append]
      exact k
    · rw [if_neg h] at k
      repeat walk_at "go"
      refine w_fmtS (ln (by omega)) ?_
      refine w_fs (ln (by rw [Str.empty_append]; omega)) ?_
      repeat walk_at "go"
      refine w_fs (ln (by rw [Str.empty_append, len_app]; simp only [show (":" : Str).length = 1 from rfl, show ("+" : Str).length = 1 from rfl, show ("!" : Str).length = 1 from rfl, show (">" : Str).length = 1 from rfl]; omega)) ?_
      repeat walk_at "go"
      refine w_fmtI (sm_log ok.s) ?_
      refine w_fs (ln (by rw [Str.empty_append, len_app, len_app]; simp only [show (":" : Str).length = 1 from rfl, show ("+" : Str).length = 1 from rfl, show ("!" : Str).length = 1 from rfl, show (">" : Str).length = 1 from rfl]; omega)) ?_
      repeat walk_at "go"
      refine w_fs (ln (by rw [Str.empty_append, len_app, len_app, len_app]; simp only [show (":" : Str).length = 1 from rfl, show ("+" : Str).length = 1 from rfl, show ("!" : Str).length = 1 from rfl, show (">" : Str).length = 1 from rfl]; omega)) ?_
      repeat walk_at "go"
      refine w_fmtI (sm_log ok.z) ?_
      refine w_fs (ln (by rw [Str.empty_append, len_app, len_app, len_app, len_app]; simp only [show (":" : Str).length = 1 from rfl, show ("+" : Str).length = 1 from rfl, show ("!" : Str).length = 1 from rfl, show (">" : Str).length = 1 from rfl]; omega)) ?_
      repeat walk_at "go"
      refine w_fs (ln (by rw [Str.empty_append, len_app, len_app, len_app, len_app, len_app]; simp only [show (":" : Str).length = 1 from rfl, show ("+" : Str).length = 1 from rfl, show ("!" : Str).length = 1 from rfl, show (">" : Str).length = 1 from rfl]; omega)) ?_
      repeat walk_at "go"
      refine w_fmtI (sm_log ok.p) ?_
      refine w_fs (ln (by rw [Str.empty_append, len_app, len_app, len_app, len_app, len_app, len_app]; simp only [show (":" : Str).length = 1 from rfl, show ("+" : Str).length = 1 from rfl, show ("!" : Str).length = 1 from rfl, show (">" : Str).length = 1 from rfl]; omega)) ?_
      refine go_fs0 (ln (by rw [Str.empty_append, len_app, len_app, len_app, len_app, len_app, len_app]; simp only [show (":" : Str).length = 1 from rfl, show ("+" : Str).length = 1 from rfl, show ("!" : Str).length = 1 from rfl, show (">" : Str).length = 1 from rfl]; omega)) ?_
      rw [Str.empty_append]
      exact k
end
end K02
set_option Elab.async false
set_option linter.all false
set_option maxRecDepth 100000
set_option maxHeartbeats 4000000
namespace K02
open PySem L2 PyProof.Rows
local macro_rules | `(tactic| walk_at "go") => `(tactic| with_reducible (first
  | refine go_seq ?_ | refine go_asg ?_ | refine go_ret ?_ | refine go_if ?_ | refine go_drop ?_ | refine go_next ?_ | refine go_nx ?_ | refine w_rt ?_
  | refine go_test ?_ | refine go_b ?_ | refine go_op ?_ | refine go_cb ?_ | refine go_cons ?_ | refine go_nil ?_ | refine w_call ?_ | refine w_c ?_
  | refine wv0 ?_ | refine wv1 ?_ | refine wv2 ?_ | refine wv3 ?_ | refine wv4 ?_ | refine wv5 ?_ | refine wv6 ?_ | refine wv7 ?_ | refine wv8 ?_ | refine wv9 ?_ | refine wv10 ?_ | refine wv11 ?_ | refine wv12 ?_ | refine wv13 ?_
  | refine wn0 ?_ | refine wn1 ?_ | refine wn2 ?_ | refine wn3 ?_ | refine wn4 ?_ | refine wn5 ?_ | refine wn6 ?_ | refine wn7 ?_ | refine wn8 ?_ | refine wn9 ?_ | refine wn10 ?_ | refine wn11 ?_ | refine wn12 ?_ | refine wn13 ?_
  | refine w_i0 ?_ | refine w_u ?_ | refine w_un ?_ | refine w_eqi ?_ | refine w_nei ?_ | refine w_eqs ?_ | refine w_nes ?_ | refine w_eqb ?_ | refine w_neb ?_ | refine w_bl ?_ | refine w_not ?_ | refine w_and ?_ | refine w_or ?_ | refine w_notV ?_ | refine w_andV ?_ | refine w_orV ?_
  | refine w_ifE ?_ | refine w_chain ?_ | refine w_bm ?_ | refine w_bm0 ?_ | refine w_sub ?_ | refine w_slice ?_ | refine w_noPart ?_ | refine w_part ?_ | refine w_int ?_ | refine w_max ?_ | refine w_min ?_ | refine w_intB ?_ | refine w_intI ?_
  | refine w_mod (by decide) ?_ | refine w_div (by decide) (by decide) ?_ | refine w_pow (by decide) (by decide) (by decide) ?_ | refine w_mulL (by decide) (by decide) ?_ | refine w_mulR (by decide) (by decide) ?_ | refine go_tupA ?_ | refine go_lstA ?_ | refine w_notT ?_ | refine w_isB ?_ | refine w_isNB ?_ | refine w_revSl ?_ | refine w_din ?_ | refine w_dput ?_ | refine go_fs ?_ | refine go_fmt ?_))
section
variable {P : Program} {w : World} {K : PySem.W.Frag} {mg : Str → Option Value} {base : Heap}
theorem D_wstrs (T : Txt K mg) : Def P w K mg base CX0 2 "write_stretches" ["rows"] (sp_wstrs K) := by
  have D_wrow := D_wrow (P := P) (w := w) (base := base) T
  have D_wstr := D_wstr (P := P) (w := w) (base := base) T
  refine def_of T.d_wstrs sc_wstrs (fun vs H Q E h => ?_) (fun _ _ _ _ _ _ us hl => match us, hl with | [_], _ => rfl) (fun f cdv A outer s H vs Q E hr h => ?_)
  · obtain ⟨p, ys, ws, rfl, _⟩ := h
    rfl
  · obtain ⟨p, ys, ws, rfl, hp, tp, hl, hs, k⟩ := h
    have nd := sc_wstrs.nd
    refine ⟨_, (pss_one (ps_ret (pe_def D_wrow hr (pa_cons (pe_comp (N := ["row"]) (nt := 1) (fr := []) (pi_list (pv 0)) (fun _ _ _ _ => (pg_name (i := 0) (show (["row"] : List Str).Nodup from by decide +kernel) rfl (Or.inl rfl))) (fun _ _ _ _ => pif_nil) (fun _ _ _ _ => (pe_def D_wstr hr (pa_cons (pe_ix (ix_tupK (K := K) rfl) (pv 0) pe_int (fun _ _ => rfl)) (pa_cons (pe_ix (ix_tupK (K := K) rfl) (pv 0) pe_int (fun _ _ => rfl)) pa_nil))))) pa_nil)))), ?_⟩
    rw [show start ["rows"] [.ref p] = [some (.ref p)] from rfl]
    repeat walk_at "go"
    refine w_compL ?_
    repeat walk_at "go"
    refine ⟨p, rfl, ⟨_, hp⟩, comp_mapG (P := fun i y _ => ∀ w, ws[i]? = some w → y = .str (strT w)) (fvs := []) (items_list (xs := ys)) (by rw [tp.1, List.length_map]; omega) rfl (fun H' s => s.seq hp) (fun _ _ _ _ h _ => h) ?_ ?_⟩
    · intro i v tv H1 hv s1 htv
      obtain ⟨w0, hw0, q, rfl, hq⟩ := tups_ixG tp hv
      have hw := hs w0 (List.mem_of_getElem? hw0)
      obtain ⟨a0, rfl⟩ : ∃ a, tv = [a] := List.length_eq_one_iff.mp htv
      refine ⟨[some (.ref q)], [some (.ref q)], rfl, rfl, fun R2 h2 => h2, fun R hk => ?_⟩
      have hq1 : H1 q = some (.tup [.int w0.1, .int w0.2]) := s1 _ _ hq
      repeat walk_at "go"
      refine w_ixT (SqT.of hq1) atI_0 ?_
      repeat walk_at "go"
      refine w_ixT (SqT.of hq1) (atI_nat (j := 1) rfl) ?_
      repeat walk_at "go"
      refine ⟨_, _, rfl, hw.1, hw.2, hk _ H1 (Same.refl _) fun w e => ?_⟩
      rw [hw0] at e
      cases e
      rfl
    intro l H2 zs n2 hzl hzs
    have hz : zs = (ws.map strT).map V.str := by
      rw [List.map_map]
      exact ys_of (by rw [hzl, tp.1, List.length_map]) hzs
    subst hz
    repeat walk_at "go"
    refine ⟨l, _, rfl, SqL.of n2.e, by rw [List.length_map]; exact hl, fun t ht => ?_, fun H3 s3 => k H3 (n2.s.trans s3)⟩
    obtain ⟨w, hw, rfl⟩ := List.mem_map.mp ht
    exact strT_len (hs w hw).1 (hs w hw).2
theorem D_wmoves (T : Txt K mg) : Def P w K mg base CX0 2 "write_moves" ["moves"] (sp_wmoves K) := by
  have D_wrow := D_wrow (P := P) (w := w) (base := base) T
  refine def_of T.d_wmoves sc_wmoves (fun vs H Q E h => ?_) (fun _ _ _ _ _ _ us hl => match us, hl with | [_], _ => rfl) (fun f cdv A outer s H vs Q E hr h => ?_)
  · obtain ⟨p, ys, ws, rfl, _⟩ := h
    rfl
  · obtain ⟨p, ys, ws, rfl, hp, tp, hl, hs, k⟩ := h
    have nd := sc_wmoves.nd
    refine ⟨_, (pss_one (ps_ret (pe_def D_wrow hr (pa_cons (pe_comp (N := ["name", "to"]) (nt := 2) (fr := []) (pi_list (pv 0)) (fun _ _ _ _ => (pg_tupK (K := K) (n := 2) rfl rfl (pgs_cons (pg_name (i := 0) (show (["name", "to"] : List Str).Nodup from by decide +kernel) rfl (Or.inl rfl)) (pgs_cons (pg_name (i := 1) (show (["name", "to"] : List Str).Nodup from by decide +kernel) rfl (Or.inl rfl)) pgs_nil)))) (fun _ _ _ _ => pif_nil) (fun _ _ _ _ => (pe_fstr (.cons (pe_fmt (pv 0)) (.cons pe_str (.cons (pe_fmt (pv 1)) .nil)))))) pa_nil)))), ?_⟩
    rw [show start ["moves"] [.ref p] = [some (.ref p)] from rfl]
    repeat walk_at "go"
    refine w_compL ?_
    repeat walk_at "go"
    refine ⟨p, rfl, ⟨_, hp⟩, comp_mapG (P := fun i y _ => ∀ w, ws[i]? = some w → y = .str (movT w)) (fvs := []) (items_list (xs := ys)) (by rw [tp.1, List.length_map]; omega) rfl (fun H' s => s.seq hp) (fun _ _ _ _ h _ => h) ?_ ?_⟩
    · intro i v tv H1 hv s1 htv
      obtain ⟨w0, hw0, q, rfl, hq⟩ := tups_ixG tp hv
      have hw := hs w0 (List.mem_of_getElem? hw0)
      have l1 := numS_len hw.2
      have l0 := hw.1
      obtain ⟨a0, a1, rfl⟩ : ∃ a b, tv = [a, b] := match tv, htv with | [a, b], _ => ⟨a, b, rfl⟩
      have hq1 : H1 q = some (.tup [.str w0.1, .int w0.2]) := s1 _ _ hq
      refine ⟨[some (.str w0.1), some (.int w0.2)], [some (.str w0.1), some (.int w0.2)], rfl, rfl, fun R2 h2 => go_t2 (SqT.of hq1) rfl h2, fun R hk => ?_⟩
      repeat walk_at "go"
      refine w_fmtS (ln (by omega)) ?_
      refine w_fs (ln (by rw [Str.empty_append]; omega)) ?_
      repeat walk_at "go"
      refine w_fs (ln (by rw [Str.empty_append, len_app]; show _ + 1 ≤ _; omega)) ?_
      repeat walk_at "go"
      refine w_fmtI (sm_log hw.2) ?_
      refine w_fs (ln (by rw [Str.empty_append, len_app, len_app]; show _ + 1 + _ ≤ _; omega)) ?_
      refine go_fs0 (ln (by rw [Str.empty_append, len_app, len_app]; show _ + 1 + _ ≤ _; omega)) ?_
      rw [Str.empty_append]
      refine hk _ H1 (Same.refl _) fun w e => ?_
      rw [hw0] at e
      cases e
      rfl
    intro l H2 zs n2 hzl hzs
    have hz : zs = (ws.map movT).map V.str := by
      rw [List.map_map]
      exact ys_of (by rw [hzl, tp.1, List.length_map]) hzs
    subst hz
    repeat walk_at "go"
    refine ⟨l, _, rfl, SqL.of n2.e, by rw [List.length_map]; exact hl, fun t ht => ?_, fun H3 s3 => k H3 (n2.s.trans s3)⟩
    obtain ⟨w, hw, rfl⟩ := List.mem_map.mp ht
    exact movT_len (hs w hw).1 (hs w hw).2
theorem D_wblks (T : Txt K mg) : Def P w K mg base CX0 2 "write_blocks" ["rows"] (sp_wblks K) := by
  have D_wrow := D_wrow (P := P) (w := w) (base := base) T
  have D_wblk := D_wblk (P := P) (w := w) (base := base) T
  refine def_of T.d_wblks sc_wblks (fun vs H Q E h => ?_) (fun _ _ _ _ _ _ us hl => match us, hl with | [_], _ => rfl) (fun f cdv A outer s H vs Q E hr h => ?_)
  · obtain ⟨p, ys, ws, rfl, _⟩ := h
    rfl
  · obtain ⟨p, ys, ws, rfl, hp, tp, hl, hs, k⟩ := h
    have nd := sc_wblks.nd
    refine ⟨_, (pss_one (ps_ret (pe_def D_wrow hr (pa_cons (pe_comp (N := ["name", "start", "size", "pins"]) (nt := 4) (fr := []) (pi_list (pv 0)) (fun _ _ _ _ => (pg_tupK (K := K) (n := 4) rfl rfl (pgs_cons (pg_name (i := 0) (show (["name", "start", "size", "pins"] : List Str).Nodup from by decide +kernel) rfl (Or.inl rfl)) (pgs_cons (pg_name (i := 1) (show (["name", "start", "size", "pins"] : List Str).Nodup from by decide +kernel) rfl (Or.inl rfl)) (pgs_cons (pg_name (i := 2) (show (["name", "start", "size", "pins"] : List Str).Nodup from by decide +kernel) rfl (Or.inl rfl)) (pgs_cons (pg_name (i := 3) (show (["name", "start", "size", "pins"] : List Str).Nodup from by decide +kernel) rfl (Or.inl rfl)) pgs_nil)))))) (fun _ _ _ _ => pif_nil) (fun _ _ _ _ => (pe_def D_wblk hr (pa_cons (pv 0) (pa_cons (pv 1) (pa_cons (pv 2) (pa_cons (pv 3) pa_nil))))))) pa_nil)))), ?_⟩
    rw [show start ["rows"] [.ref p] = [some (.ref p)] from rfl]
    repeat walk_at "go"
    refine w_compL ?_
    repeat walk_at "go"
    refine ⟨p, rfl, ⟨_, hp⟩, comp_mapG (P := fun i y _ => ∀ w, ws[i]? = some w → y = .str (blkT w)) (fvs := []) (items_list (xs := ys)) (by rw [tp.1, List.length_map]; omega) rfl (fun H' s => s.seq hp) (fun _ _ _ _ h _ => h) ?_ ?_⟩
    · intro i v tv H1 hv s1 htv
      obtain ⟨w0, hw0, q, rfl, hq⟩ := tups_ixG tp hv
      have hw := hs w0 (List.mem_of_getElem? hw0)
      obtain ⟨a0, a1, a2, a3, rfl⟩ : ∃ a b c d, tv = [a, b, c, d] := match tv, htv with | [a, b, c, d], _ => ⟨a, b, c, d, rfl⟩
      have hq1 : H1 q = some (.tup [.str w0.1, .int w0.2.1, .int w0.2.2.1, .int w0.2.2.2]) := s1 _ _ hq
      refine ⟨[some (.str w0.1), some (.int w0.2.1), some (.int w0.2.2.1), some (.int w0.2.2.2)], [some (.str w0.1), some (.int w0.2.1), some (.int w0.2.2.1), some (.int w0.2.2.2)], rfl, rfl, fun R2 h2 => go_t4 (SqT.of hq1) rfl h2, fun R hk => ?_⟩
      repeat walk_at "go"
      refine ⟨w0, rfl, hw, hk _ H1 (Same.refl _) fun w e => ?_⟩
      rw [hw0] at e
      cases e
      rfl
    intro l H2 zs n2 hzl hzs
    have hz : zs = (ws.map blkT).map V.str := by
      rw [List.map_map]
      exact ys_of (by rw [hzl, tp.1, List.length_map]) hzs
    subst hz
    repeat walk_at "go"
    refine ⟨l, _, rfl, SqL.of n2.e, by rw [List.length_map]; exact hl, fun t ht => ?_, fun H3 s3 => k H3 (n2.s.trans s3)⟩
    obtain ⟨w, hw, rfl⟩ := List.mem_map.mp ht
    exact blkT_len (hs w hw)
end
end K02
set_option Elab.async false
set_option linter.all false
set_option maxRecDepth 100000
set_option maxHeartbeats 4000000
namespace K02
open PySem L2 PyProof.Rows
local macro_rules | `(tactic| walk_at "go") => `(tactic| with_reducible (first
  | refine go_seq ?_ | refine go_asg ?_ | refine go_ret ?_ | refine go_if ?_ | refine go_drop ?_ | refine go_next ?_ | refine go_nx ?_ | refine w_rt ?_
  | refine go_test ?_ | refine go_b ?_ | refine go_op ?_ | refine go_cb ?_ | refine go_cons ?_ | refine go_nil ?_ | refine w_call ?_ | refine w_c ?_
  | refine wv0 ?_ | refine wv1 ?_ | refine wv2 ?_ | refine wv3 ?_ | refine wv4 ?_ | refine wv5 ?_ | refine wv6 ?_ | refine wv7 ?_ | refine wv8 ?_ | refine wv9 ?_ | refine wv10 ?_ | refine wv11 ?_ | refine wv12 ?_ | refine wv13 ?_
  | refine wn0 ?_ | refine wn1 ?_ | refine wn2 ?_ | refine wn3 ?_ | refine wn4 ?_ | refine wn5 ?_ | refine wn6 ?_ | refine wn7 ?_ | refine wn8 ?_ | refine wn9 ?_ | refine wn10 ?_ | refine wn11 ?_ | refine wn12 ?_ | refine wn13 ?_
  | refine w_i0 ?_ | refine w_u ?_ | refine w_un ?_ | refine w_eqi ?_ | refine w_nei ?_ | refine w_eqs ?_ | refine w_nes ?_ | refine w_eqb ?_ | refine w_neb ?_ | refine w_bl ?_ | refine w_not ?_ | refine w_and ?_ | refine w_or ?_ | refine w_notV ?_ | refine w_andV ?_ | refine w_orV ?_
  | refine w_ifE ?_ | refine w_chain ?_ | refine w_bm ?_ | refine w_bm0 ?_ | refine w_sub ?_ | refine w_slice ?_ | refine w_noPart ?_ | refine w_part ?_ | refine w_int ?_ | refine w_max ?_ | refine w_min ?_ | refine w_intB ?_ | refine w_intI ?_
  | refine w_mod (by decide) ?_ | refine w_div (by decide) (by decide) ?_ | refine w_pow (by decide) (by decide) (by decide) ?_ | refine w_mulL (by decide) (by decide) ?_ | refine w_mulR (by decide) (by decide) ?_ | refine go_tupA ?_ | refine go_lstA ?_ | refine w_notT ?_ | refine w_isB ?_ | refine w_isNB ?_ | refine w_revSl ?_ | refine w_din ?_ | refine w_dput ?_ | refine go_fs ?_ | refine go_fmt ?_))
def sp_draws : Sp := fun vs H Q _ => ∃ (cl : Int) (m : Nat), vs = [.int cl, .int m] ∧ m ≤ 100 ∧ ∀ (p : Addr) (ds : List Int) (H' : Hp), New H H' p (.lst (ds.map V.int)) → ds.length = m → (∀ d ∈ ds, 0 ≤ d ∧ d < 10 ^ 6) → Q (.ref p) H'
def MidD (cl : Int) (m : Nat) (p : Addr) (H0 : Hp) (i : Nat) : L2.St → Hp → Prop := fun σ H => ∃ (num : Int) (ds : List Int) (k4 : Option V), σ = [some (.int cl), some (.int m), some (.ref p), some (.int num), k4] ∧ H p = some (.lst (ds.map V.int)) ∧ Same H0 H ∧ ds.length = i ∧ ∀ d ∈ ds, 0 ≤ d ∧ d < 10 ^ 6
theorem ds_snoc {ds : List Int} {d : Int} (h : ∀ d ∈ ds, 0 ≤ d ∧ d < 10 ^ 6) (hd : 0 ≤ d ∧ d < 10 ^ 6) : ∀ e ∈ ds ++ [d], 0 ≤ e ∧ e < 10 ^ 6 := by
  intro e he
  rcases List.mem_append.mp he with h1 | h1
  · exact h e h1
  · rw [List.mem_singleton.mp h1]
    exact hd
theorem mod6 (x : Int) : 0 ≤ x % 10 ^ 6 ∧ x % 10 ^ 6 < 10 ^ 6 := ⟨Int.emod_nonneg _ (by decide), Int.emod_lt_of_pos _ (by decide)⟩
def sp_name : Sp := fun vs H Q _ => ∃ n : Int, vs = [.int n] ∧ ∀ t : Str, t.length ≤ 8 → Q (.str t) H
def sp_rows : Sp := fun vs H Q _ => ∃ c : Int, vs = [.int c] ∧ ∀ (p : Addr) (ys : List V) (rs : List Row) (H' : Hp), New H H' p (.lst ys) → TupsAt H' ys (rs.map rowV) → rs.length ≤ 8 → (∀ r ∈ rs, RowOk r) → Q (.ref p) H'
def MidN (n : Int) (H0 : Hp) (i : Nat) : L2.St → Hp → Prop := fun σ H => ∃ (t : Str) (o2 : Option V), σ = [some (.int n), some (.str t), o2] ∧ H = H0 ∧ t.length = 1 + i
def MidR (c : Int) (p1 p2 : Addr) (ds : List V) (H0 : Hp) (i : Nat) : L2.St → Hp → Prop := fun σ H => ∃ (ys : List V) (rs : List Row) (o3 o4 o5 o6 : Option V), σ = [some (.int c), some (.ref p1), some (.ref p2), o3, o4, o5, o6] ∧ Same H0 H ∧ H p1 = some (.lst ds) ∧ H p2 = some (.lst ys) ∧ TupsAt H ys (rs.map rowV) ∧ rs.length = i ∧ ∀ r ∈ rs, RowOk r
theorem tups_snocG {α : Type} {F : α → List V} {H H1 H2 : Hp} {ys : List V} {rs : List α} {r : α} {q p : Addr} {xs : List V} (h : TupsAt H ys (rs.map F)) (n : New H H1 q (.tup (F r))) (hp : H1 p = some (.lst xs)) (f : Off p H1 H2) : TupsAt H2 (ys ++ [.ref q]) ((rs ++ [r]).map F) := by
  rw [List.map_append]
  refine ⟨by rw [List.length_append, List.length_append, h.1]; rfl, fun j x e => ?_⟩
  by_cases hj : j < ys.length
  · rw [List.getElem?_append_left (by rw [← h.1]; exact hj)] at e
    obtain ⟨z, e1, e2⟩ := h.2 j x e
    refine ⟨z, by rw [List.getElem?_append_left hj]; exact e1, ?_⟩
    rw [f z (ne_of (n.s _ _ e2) hp fun y => by cases y)]
    exact n.s _ _ e2
  · rw [List.getElem?_append_right (by rw [← h.1]; omega)] at e
    have hj2 : j = ys.length := by
      have := (List.getElem?_eq_some_iff.mp e).1
      have h1 := h.1
      simp only [List.map_cons, List.map_nil, List.length_cons, List.length_nil] at this
      omega
    have h1 := h.1
    rw [hj2, h1, Nat.sub_self] at e
    cases e
    refine ⟨q, by rw [hj2, List.getElem?_append_right (Nat.le_refl _), Nat.sub_self]; rfl, ?_⟩
    rw [f q (ne_of n.e hp fun y => by cases y)]
    exact n.e
theorem pins_ok {a d : Int} (h0 : 0 ≤ d) (h1 : d < 10 ^ 6) : Sm (a % 4 / 2 * (1 + d % 1000)) := by
  have h2 : a % 4 / 2 = 0 ∨ a % 4 / 2 = 1 := by omega
  rcases h2 with h2 | h2 <;> rw [h2] <;> refine ⟨by omega, ?_⟩
  · rw [Int.zero_mul]; decide
  · have : (1000000 : Int) < 10 ^ 30 := by decide
    omega
theorem sm_of {n : Int} (h0 : 0 ≤ n) (h1 : n < 1000000) : Sm n := ⟨h0, Int.lt_trans h1 (by decide)⟩
theorem sm_mod (n : Int) : Sm (n % 10 ^ 30) := ⟨Int.emod_nonneg _ (by decide), Int.emod_lt_of_pos _ (by decide)⟩
section
variable {P : Program} {w : World} {K : PySem.W.Frag} {mg : Str → Option Value} {base : Heap}
theorem D_draws (T : Txt K mg) : Def P w K mg base CX0 1 "_law_draws" ["_law_cell", "_law_many"] sp_draws := by
  refine def_of T.d_draws sc_draws (fun vs H Q E h => ?_) (fun _ _ _ _ _ _ us hl => match us, hl with | [_, _], _ => rfl) (fun f cdv A outer s H vs Q E hr h => ?_)
  · obtain ⟨cl, m, rfl, _⟩ := h
    rfl
  · obtain ⟨cl, m, rfl, hm, k⟩ := h
    have nd := sc_draws.nd
    refine ⟨_, (pss_cons (ps_set (i := 2) nd rfl (Or.inl rfl) (pe_lstA pa_nil))
      (pss_cons (ps_set (i := 3) nd rfl (Or.inl rfl) (pv 0))
      (pss_cons (ps_for PassesOwn.never rfl (pi_range1 rfl T.n_range (pa_cons (pv 1) pa_nil)) (pg_name (i := 4) nd rfl (Or.inl rfl)) (pss_one (ps_if (pt_cmpR op_ge (pv 0) (pe_op op_pow pe_int pe_int) (nomark _)) (pss_cons (ps_expr (pe_appendA (pv 2) (pe_op op_mod (pv 3) (pe_op op_pow pe_int pe_int))))
          (pss_one (ps_set (i := 3) nd rfl (Or.inl rfl) (pe_op op_fdiv (pv 3) (pe_op op_pow pe_int pe_int))))) (pss_cons (ps_set (i := 3) nd rfl (Or.inl rfl) (pe_op op_mod (pe_op op_add (pe_op op_add (pe_op op_mul (pv 3) pe_int) pe_int) (pv 4)) pe_int))
          (pss_one (ps_expr (pe_appendA (pv 2) (pe_op op_mod (pe_op op_fdiv (pe_op op_mod (pe_op op_mul (pv 3) pe_int) pe_int) pe_int) (pe_op op_pow pe_int pe_int)))))))))
      (pss_one (ps_ret (pv 2)))))), ?_⟩
    rw [show start ["_law_cell", "_law_many", "_law_found", "_law_number", "_law_k"] [.int cl, .int m] = [some (.int cl), some (.int m), none, none, none] from rfl]
    repeat walk_at "go"
    refine ⟨Nat.zero_le _, fun p H0 n0 => ?_⟩
    repeat walk_at "go"
    refine w_rng (n := (m : Int)) (m := m) (rda_cons (rd_var rfl) rda_nil) (Int.toNat_natCast m) (by omega) (MidD cl m p H) ⟨cl, [], none, rfl, n0.e, n0.s, rfl, (fun d h => by cases h)⟩ ?_ ?_
    · rintro i σ' H1 hi ⟨num, ds, k4, rfl, hp, sm, hl, hd⟩
      have hlen : (ds.map V.int).length < sizeLine := by rw [List.length_map, hl]; exact Nat.lt_of_lt_of_le hi (small_line (by omega))
      repeat walk_at "go"
      refine i_dec (fun h => ?_) (fun h => ?_)
      · repeat walk_at "go"
        refine ⟨.inl ⟨rfl, _, SqL.of hp⟩, ?_⟩
        repeat walk_at "go"
        refine ⟨p, _, _, rfl, rfl, hp, hlen, fun H2 f2 e2 => ?_⟩
        repeat walk_at "go"
        exact ⟨_, ds ++ [num % 10 ^ 6], _, rfl, by rw [e2, List.map_append]; rfl, sm.off f2 n0.n, by rw [List.length_append, hl]; rfl, ds_snoc hd (mod6 _)⟩
      · repeat walk_at "go"
        refine ⟨.inl ⟨rfl, _, SqL.of hp⟩, ?_⟩
        repeat walk_at "go"
        refine ⟨p, _, _, rfl, rfl, hp, hlen, fun H2 f2 e2 => ?_⟩
        repeat walk_at "go"
        exact ⟨_, ds ++ [(num * 48271 + 40014 + i) % 2147483647 * 69621 % 2147483629 / 3 % 10 ^ 6], _, rfl, by rw [e2, List.map_append]; rfl, sm.off f2 n0.n, by rw [List.length_append, hl]; rfl, ds_snoc hd (mod6 _)⟩
    · rintro σ' H1 ⟨num, ds, k4, rfl, hp, sm, hl, hd⟩
      repeat walk_at "go"
      exact k p ds H1 ⟨sm, hp, n0.n⟩ hl hd
theorem D_name (T : Txt K mg) : Def P w K mg base CX0 1 "_law_name" ["_law_number"] sp_name := by
  refine def_of T.d_name sc_name (fun vs H Q E h => ?_) (fun _ _ _ _ _ _ us hl => match us, hl with | [_], _ => rfl) (fun f cdv A outer s H vs Q E hr h => ?_)
  · obtain ⟨n, rfl, _⟩ := h
    rfl
  · obtain ⟨n, rfl, k⟩ := h
    have nd := sc_name.nd
    refine ⟨_, (pss_cons (ps_set (i := 1) nd rfl (Or.inl rfl) (pe_ix ix_str pe_str (pe_op op_mod (pv 0) pe_int) (fun _ _ => rfl)))
      (pss_cons (ps_for PassesOwn.never rfl (pi_range1 rfl T.n_range (pa_cons (pe_op op_mod (pe_op op_fdiv (pv 0) pe_int) pe_int) pa_nil)) (pg_name (i := 2) nd rfl (Or.inl rfl)) (pss_one (ps_set (i := 1) nd rfl (Or.inl rfl) (pe_op op_addS (pv 1) (pe_ix ix_str pe_str (pe_op op_mod (pe_op op_add (pe_op op_fdiv (pv 0) (pe_op op_add (pv 2) pe_int)) (pv 2)) pe_int) (fun _ _ => rfl))))))
      (pss_one (ps_ret (pv 1))))), ?_⟩
    rw [show start ["_law_number", "_law_found", "_law_k"] [.int n] = [some (.int n), none, none] from rfl]
    repeat walk_at "go"
    obtain ⟨c, ec, _⟩ := atI_lt (xs := ("abcdefghijklmnopqrstuvwxyz" : Str).cps.toList) (i := n % 26) (by omega) (by show n % 26 < 26; omega)
    refine w_ixS (by decide) ec ?_
    repeat walk_at "go"
    refine w_rng (n := n / 26 % 8) (m := (n / 26 % 8).toNat) (fun R q => ?_) rfl (by omega) (MidN n H) ⟨⟨#[c]⟩, none, rfl, rfl, rfl⟩ ?_ ?_
    · repeat walk_at "go"
      exact q
    · rintro i σ' H1 hi ⟨t, o2, rfl, rfl, ht⟩
      repeat walk_at "go"
      refine w_div (by omega) (by omega) ?_
      repeat walk_at "go"
      obtain ⟨c2, ec2, _⟩ := atI_lt (xs := ("0123456789abcdefghijklmnopqrstuvwxyz" : Str).cps.toList) (i := (n / (i + 3) + i) % 36) (by omega) (by show (n / (i + 3) + i) % 36 < 36; omega)
      refine w_ixS (by decide) ec2 ?_
      refine w_addS (ln (by rw [ht]; show 1 + i + 1 ≤ _; omega)) ?_
      repeat walk_at "go"
      exact ⟨_, _, rfl, rfl, by rw [len_app, ht]; rfl⟩
    · rintro σ' H1 ⟨t, o2, rfl, rfl, ht⟩
      repeat walk_at "go"
      exact k t (by rw [ht]; omega)
theorem D_rows (T : Txt K mg) : Def P w K mg base CX0 2 "_law_rows" ["_law_cell"] sp_rows := by
  have D_draws := D_draws (P := P) (w := w) (base := base) T
  have D_name := D_name (P := P) (w := w) (base := base) T
  refine def_of T.d_rows sc_rows (fun vs H Q E h => ?_) (fun _ _ _ _ _ _ us hl => match us, hl with | [_], _ => rfl) (fun f cdv A outer s H vs Q E hr h => ?_)
  · obtain ⟨c, rfl, _⟩ := h
    rfl
  · obtain ⟨c, rfl, k⟩ := h
    have nd := sc_rows.nd
    refine ⟨_, (pss_cons (ps_set (i := 1) nd rfl (Or.inl rfl) (pe_def D_draws hr (pa_cons (pv 0) (pa_cons pe_int pa_nil))))
      (pss_cons (ps_set (i := 2) nd rfl (Or.inl rfl) (pe_lstA pa_nil))
      (pss_cons (ps_for PassesOwn.never rfl (pi_range1 rfl T.n_range (pa_cons (pe_op op_mod (pe_ix ix_list (pv 1) pe_int (fun _ _ => rfl)) pe_int) pa_nil)) (pg_name (i := 3) nd rfl (Or.inl rfl)) (pss_cons (ps_set (i := 4) nd rfl (Or.inl rfl) (pe_op op_mod (pe_op op_add (pe_op op_fdiv (pe_ix ix_list (pv 1) pe_int (fun _ _ => rfl)) (pe_op op_add (pv 3) pe_int)) (pv 3)) pe_int))
        (pss_cons (ps_set (i := 5) nd rfl (Or.inl rfl) (pe_op op_add pe_int (pe_op op_mod (pe_op op_add (pe_op op_fdiv (pe_ix ix_list (pv 1) pe_int (fun _ _ => rfl)) (pe_op op_add (pv 3) pe_int)) (pv 3)) pe_int)))
        (pss_cons (ps_set (i := 6) nd rfl (Or.inl rfl) (pe_op op_mul (pe_op op_fdiv (pe_op op_mod (pe_op op_add (pe_op op_fdiv (pe_ix ix_list (pv 1) pe_int (fun _ _ => rfl)) (pe_op op_add (pv 3) pe_int)) (pv 3)) pe_int) pe_int) (pe_op op_add pe_int (pe_op op_mod (pe_ix ix_list (pv 1) pe_int (fun _ _ => rfl)) pe_int))))
        (pss_cons (ps_if (pt_cmpR op_eq (pe_op op_mod (pe_op op_add (pe_ix ix_list (pv 1) pe_int (fun _ _ => rfl)) (pv 3)) pe_int) pe_int (nomark _)) (pss_one (ps_set (i := 4) nd rfl (Or.inl rfl) (pe_op op_mod (pv 0) (pe_op op_pow pe_int pe_int)))) pss_nil)
        (pss_one (ps_expr (pe_appendA (pv 2) (pe_tupA (pa_cons (pe_def D_name hr (pa_cons (pe_op op_add (pe_op op_fdiv (pe_ix ix_list (pv 1) pe_int (fun _ _ => rfl)) (pe_op op_add (pv 3) pe_int)) (pe_op op_mul pe_int (pv 3))) pa_nil)) (pa_cons (pv 4) (pa_cons (pv 5) (pa_cons (pv 6) pa_nil)))))))))))))
      (pss_one (ps_ret (pv 2)))))), ?_⟩
    rw [show start ["_law_cell", "_law_draws_here", "_law_rows_here", "_law_k", "_law_start", "_law_size", "_law_pins"] [.int c] = [some (.int c), none, none, none, none, none, none] from rfl]
    repeat walk_at "go"
    refine ⟨c, 5, rfl, by decide, fun p1 ds H1 n1 hl hd => ?_⟩
    obtain ⟨d0, d1, d2, d3, d4, rfl⟩ : ∃ a b c d e, ds = [a, b, c, d, e] := match ds, hl with | [a, b, c, d, e], _ => ⟨a, b, c, d, e, rfl⟩
    obtain ⟨h30, h31⟩ := hd d3 (by simp)
    repeat walk_at "go"
    refine ⟨Nat.zero_le _, fun p2 H2 n2 => ?_⟩
    repeat walk_at "go"
    have np : p1 ≠ p2 := n2.n _ _ n1.e
    refine w_rng (n := d0 % 8) (m := (d0 % 8).toNat) (fun R q => ?_) rfl (by omega) (MidR c p1 p2 [.int d0, .int d1, .int d2, .int d3, .int d4] H1) ⟨[], [], none, none, none, none, rfl, n2.s, n2.s _ _ n1.e, n2.e, TupsAt.nil, rfl, (fun r h => by cases h)⟩ ?_ ?_
    · repeat walk_at "go"
      refine w_ixL (SqL.of (n2.s _ _ n1.e)) atI_0 ?_
      repeat walk_at "go"
      exact q
    · rintro i σ' H3 hi ⟨ys, rs, _, _, _, _, rfl, sm, hp1, hp2, tp, hr, hok⟩
      have hi8 : i < 8 := by omega
      repeat walk_at "go"
      refine w_ixL (SqL.of hp1) (atI_nat (j := 1) rfl) ?_
      repeat walk_at "go"
      refine w_div (by omega) (by omega) ?_
      repeat walk_at "go"
      refine w_ixL (SqL.of hp1) (atI_nat (j := 2) rfl) ?_
      repeat walk_at "go"
      refine w_div (by omega) (by omega) ?_
      repeat walk_at "go"
      refine w_ixL (SqL.of hp1) (atI_nat (j := 3) rfl) ?_
      repeat walk_at "go"
      refine w_div (by omega) (by omega) ?_
      repeat walk_at "go"
      refine w_ixL (SqL.of hp1) (atI_nat (j := 3) rfl) ?_
      repeat walk_at "go"
      refine w_mulL (by omega) (by omega) ?_
      repeat walk_at "go"
      refine w_ixL (SqL.of hp1) (atI_nat (j := 4) rfl) ?_
      repeat walk_at "go"
      refine i_dec (fun h4 => ?_) (fun h4 => ?_)
      · repeat walk_at "go"
        refine ⟨.inl ⟨rfl, _, SqL.of hp2⟩, ?_⟩
        repeat walk_at "go"
        refine w_ixL (SqL.of hp1) (atI_nat (j := 4) rfl) ?_
        repeat walk_at "go"
        refine w_div (by omega) (by omega) ?_
        repeat walk_at "go"
        refine ⟨_, rfl, fun t ht => ?_⟩
        repeat walk_at "go"
        refine ⟨by show 4 ≤ sizeLine; decide, fun q H4 n4 => ?_⟩
        repeat walk_at "go"
        have hp24 := n4.s _ _ hp2
        refine ⟨p2, _, _, rfl, rfl, hp24, ?_, fun H5 f5 e5 => ?_⟩
        · rw [tp.1, List.length_map, hr]
          exact Nat.lt_of_lt_of_le hi8 (small_line (by omega))
        repeat walk_at "go"
        refine ⟨ys ++ [.ref q], rs ++ [(t, _, _, _)], _, _, _, _, rfl, (sm.trans n4.s).off f5 n2.n, by rw [f5 p1 np]; exact n4.s _ _ hp1, e5, tups_snocG tp n4 hp24 f5, by rw [List.length_append, hr]; rfl, fun r h => ?_⟩
        rcases List.mem_append.mp h with h | h
        · exact hok r h
        · rw [List.mem_singleton.mp h]
          exact ⟨ht, sm_mod c, sm_of (by show 0 ≤ 1 + (d2 / (i + 1) + i) % 300; omega) (by show 1 + (d2 / (i + 1) + i) % 300 < _; omega), pins_ok h30 h31⟩
      · repeat walk_at "go"
        refine ⟨.inl ⟨rfl, _, SqL.of hp2⟩, ?_⟩
        repeat walk_at "go"
        refine w_ixL (SqL.of hp1) (atI_nat (j := 4) rfl) ?_
        repeat walk_at "go"
        refine w_div (by omega) (by omega) ?_
        repeat walk_at "go"
        refine ⟨_, rfl, fun t ht => ?_⟩
        repeat walk_at "go"
        refine ⟨by show 4 ≤ sizeLine; decide, fun q H4 n4 => ?_⟩
        repeat walk_at "go"
        have hp24 := n4.s _ _ hp2
        refine ⟨p2, _, _, rfl, rfl, hp24, ?_, fun H5 f5 e5 => ?_⟩
        · rw [tp.1, List.length_map, hr]
          exact Nat.lt_of_lt_of_le hi8 (small_line (by omega))
        repeat walk_at "go"
        refine ⟨ys ++ [.ref q], rs ++ [(t, _, _, _)], _, _, _, _, rfl, (sm.trans n4.s).off f5 n2.n, by rw [f5 p1 np]; exact n4.s _ _ hp1, e5, tups_snocG tp n4 hp24 f5, by rw [List.length_append, hr]; rfl, fun r h => ?_⟩
        rcases List.mem_append.mp h with h | h
        · exact hok r h
        · rw [List.mem_singleton.mp h]
          exact ⟨ht, sm_of (by show 0 ≤ (d1 / (i + 1) + i) % 300; omega) (by show (d1 / (i + 1) + i) % 300 < _; omega), sm_of (by show 0 ≤ 1 + (d2 / (i + 1) + i) % 300; omega) (by show 1 + (d2 / (i + 1) + i) % 300 < _; omega), pins_ok h30 h31⟩
    · rintro σ' H3 ⟨ys, rs, _, _, _, _, rfl, sm, hp1, hp2, tp, hr, hok⟩
      repeat walk_at "go"
      exact k p2 ys rs H3 ⟨n1.s.trans sm, hp2, fun x u e => n2.n x u (n1.s _ _ e)⟩ tp (by omega) hok
end
end K02
set_option Elab.async false
set_option linter.all false
set_option maxRecDepth 100000
set_option maxHeartbeats 4000000
namespace K02
open PySem L2 PyProof.Rows
local macro_rules | `(tactic| walk_at "go") => `(tactic| with_reducible (first
  | refine go_seq ?_ | refine go_asg ?_ | refine go_ret ?_ | refine go_if ?_ | refine go_drop ?_ | refine go_next ?_ | refine go_nx ?_ | refine w_rt ?_
  | refine go_test ?_ | refine go_b ?_ | refine go_op ?_ | refine go_cb ?_ | refine go_cons ?_ | refine go_nil ?_ | refine w_call ?_ | refine w_c ?_
  | refine wv0 ?_ | refine wv1 ?_ | refine wv2 ?_ | refine wv3 ?_ | refine wv4 ?_ | refine wv5 ?_ | refine wv6 ?_ | refine wv7 ?_ | refine wv8 ?_ | refine wv9 ?_ | refine wv10 ?_ | refine wv11 ?_ | refine wv12 ?_ | refine wv13 ?_
  | refine wn0 ?_ | refine wn1 ?_ | refine wn2 ?_ | refine wn3 ?_ | refine wn4 ?_ | refine wn5 ?_ | refine wn6 ?_ | refine wn7 ?_ | refine wn8 ?_ | refine wn9 ?_ | refine wn10 ?_ | refine wn11 ?_ | refine wn12 ?_ | refine wn13 ?_
  | refine w_i0 ?_ | refine w_u ?_ | refine w_un ?_ | refine w_eqi ?_ | refine w_nei ?_ | refine w_eqs ?_ | refine w_nes ?_ | refine w_eqb ?_ | refine w_neb ?_ | refine w_bl ?_ | refine w_not ?_ | refine w_and ?_ | refine w_or ?_ | refine w_notV ?_ | refine w_andV ?_ | refine w_orV ?_
  | refine w_ifE ?_ | refine w_chain ?_ | refine w_bm ?_ | refine w_bm0 ?_ | refine w_sub ?_ | refine w_slice ?_ | refine w_noPart ?_ | refine w_part ?_ | refine w_int ?_ | refine w_max ?_ | refine w_min ?_ | refine w_intB ?_ | refine w_intI ?_
  | refine w_mod (by decide) ?_ | refine w_div (by decide) (by decide) ?_ | refine w_pow (by decide) (by decide) (by decide) ?_ | refine w_mulL (by decide) (by decide) ?_ | refine w_mulR (by decide) (by decide) ?_ | refine go_tupA ?_ | refine go_lstA ?_ | refine w_notT ?_ | refine w_isB ?_ | refine w_isNB ?_ | refine w_revSl ?_ | refine w_din ?_ | refine w_dput ?_ | refine go_fs ?_ | refine go_fmt ?_))
def sp_text (K : PySem.W.Frag) : Sp := fun vs H Q _ => ∃ (p : Addr) (ts : List Str), vs = [.ref p] ∧ SqL K H p (ts.map V.str) ∧ ts.length ≤ 100 ∧ (∀ t ∈ ts, t.length ≤ 150) ∧ ∀ H', Same H H' → Q (.str (rowT ts)) H'
theorem cut_1 {x : V} {xs : List V} : cutV (x :: xs) (some 1) none = xs := by
  show cutV (x :: xs) (some ((1 : Nat) : Int)) none = xs
  unfold cutV
  rw [HT.sIx_none, HT.sIx_nat, Nat.min_eq_left (by simp)]
  rw [List.take_of_length_le (by rw [List.length_drop]; exact Nat.le_refl _)]
  rfl
def MidT (p : Addr) (t : Str) (ts : List Str) (l : Addr) (H0 : Hp) (i : Nat) : L2.St → Hp → Prop := fun σ H => ∃ o2 : Option V, σ = [some (.ref p), some (.str (foldT t (ts.take i))), o2] ∧ H = H0
section
variable {P : Program} {w : World} {K : PySem.W.Frag} {mg : Str → Option Value} {base : Heap}
theorem D_text (T : Txt K mg) : Def P w K mg base CX0 1 "_law_text" ["_law_words"] (sp_text K) := by
  refine def_of T.d_text sc_text (fun vs H Q E h => ?_) (fun _ _ _ _ _ _ us hl => match us, hl with | [_], _ => rfl) (fun f cdv A outer s H vs Q E hr h => ?_)
  · obtain ⟨p, ts, rfl, _⟩ := h
    rfl
  · obtain ⟨p, ts, rfl, hp, hl, ht, k⟩ := h
    have nd := sc_text.nd
    refine ⟨_, (pss_cons (ps_if (pt_cmpR (op_eq_dN hr) (pv 0) (pe_lstA pa_nil) (nomark _)) (pss_one (ps_ret pe_str)) pss_nil)
      (pss_cons (ps_set (i := 1) nd rfl (Or.inl rfl) (pe_ix ix_list (pv 0) pe_int (fun _ _ => rfl)))
      (pss_cons (ps_for PassesOwn.never rfl (pi_list (pe_slice sl_listA (pv 0) (po_some pe_int) po_none)) (pg_name (i := 2) nd rfl (Or.inl rfl)) (pss_one (ps_set (i := 1) nd rfl (Or.inl rfl) (pe_op op_addS (pe_op op_addS (pv 1) pe_str) (pv 2)))))
      (pss_one (ps_ret (pv 1)))))), ?_⟩
    rw [show start ["_law_words", "_law_text_here", "_law_word"] [.ref p] = [some (.ref p), none, none] from rfl]
    repeat walk_at "go"
    refine ⟨Nat.zero_le _, fun q H1 n1 => ?_⟩
    repeat walk_at "go"
    refine w_eqNil (n1.s.seq hp) (SqL.of n1.e) ?_
    repeat walk_at "go"
    refine i_dec (fun h => ?_) (fun h => ?_)
    · subst h
      repeat walk_at "go"
      exact k H1 n1.s
    · obtain ⟨t, r, rfl⟩ : ∃ t r, ts = t :: r := match ts, h with | t :: r, _ => ⟨t, r, rfl⟩ | [], h => absurd rfl h
      have hp1 : SqL K H1 p (V.str t :: r.map V.str) := n1.s.seq hp
      have lt := ht t (List.mem_cons_self ..)
      have lr : ∀ w ∈ r, w.length ≤ 150 := fun w h => ht w (List.mem_cons_of_mem _ h)
      have hl2 : r.length + 1 ≤ 100 := hl
      repeat walk_at "go"
      refine w_ixL hp1 atI_0 ?_
      repeat walk_at "go"
      refine w_forL ?_
      repeat walk_at "go"
      refine ⟨p, _, rfl, hp1, fun p2 H2 n2 => ?_⟩
      rw [cut_1] at n2
      refine ⟨p2, rfl, ⟨_, SqL.of n2.e⟩, forL_by (xs := r.map V.str) (MidT p t r p2 H2) ⟨_, rfl, rfl⟩ ?_ ?_ ?_⟩
      · rintro i σ' H3 hi ⟨_, rfl, rfl⟩
        exact SqL.of n2.e
      · rintro i v σ' H3 hv ⟨_, rfl, rfl⟩
        rw [List.getElem?_map] at hv
        cases hw : r[i]? with
        | none => rw [hw] at hv; cases hv
        | some w =>
          rw [hw] at hv
          cases hv
          have hi : i < r.length := (List.getElem?_eq_some_iff.mp hw).1
          have lw := lr w (List.mem_of_getElem? hw)
          have lf := foldT_len (r.take i) t fun x hx => lr x (List.mem_of_mem_take hx)
          rw [List.length_take] at lf
          have lf2 : (foldT t (r.take i)).length ≤ 20000 := by omega
          repeat walk_at "go"
          refine w_addS (ln (by simp only [len_app, show (":" : Str).length = 1 from rfl, show ("+" : Str).length = 1 from rfl, show ("!" : Str).length = 1 from rfl, show (" " : Str).length = 1 from rfl, show (">" : Str).length = 1 from rfl]; omega)) ?_
          repeat walk_at "go"
          refine w_addS (ln (by simp only [len_app, show (":" : Str).length = 1 from rfl, show ("+" : Str).length = 1 from rfl, show ("!" : Str).length = 1 from rfl, show (" " : Str).length = 1 from rfl, show (">" : Str).length = 1 from rfl]; omega)) ?_
          repeat walk_at "go"
          exact ⟨_, by rw [foldT_snoc hw], rfl⟩
      · rintro σ' H3 ⟨_, rfl, rfl⟩
        rw [List.length_map, List.take_length]
        repeat walk_at "go"
        exact k _ (n1.s.trans n2.s)
theorem D_lblk (T : Txt K mg) : Def P w K mg base CX0 1 "_law_block" ["_law_row"] sp_lblk := by
  refine def_of T.d_lblk sc_lblk (fun vs H Q E h => ?_) (fun _ _ _ _ _ _ us hl => match us, hl with | [_], _ => rfl) (fun f cdv A outer s H vs Q E hr h => ?_)
  · obtain ⟨q, r, rfl, _⟩ := h
    rfl
  · obtain ⟨q, r, rfl, hq, ok, k⟩ := h
    have nd := sc_lblk.nd
    refine ⟨_, (pss_cons (ps_set (i := 1) nd rfl (Or.inl rfl) (pe_op op_addS (pe_op op_addS (pe_op op_addS (pe_op op_addS (pe_ix ix_tup (pv 0) pe_int (fun _ _ => rfl)) pe_str) (pe_callTy call_strI rfl T.n_str boot_str (pa_cons (pe_ix ix_tup (pv 0) pe_int (fun _ _ => rfl)) pa_nil))) pe_str) (pe_callTy call_strI rfl T.n_str boot_str (pa_cons (pe_ix ix_tup (pv 0) pe_int (fun _ _ => rfl)) pa_nil))))
      (pss_cons (ps_if (pt_cmpR op_gt (pe_ix ix_tup (pv 0) pe_int (fun _ _ => rfl)) pe_int (nomark _)) (pss_one (ps_set (i := 1) nd rfl (Or.inl rfl) (pe_op op_addS (pe_op op_addS (pv 1) pe_str) (pe_callTy call_strI rfl T.n_str boot_str (pa_cons (pe_ix ix_tup (pv 0) pe_int (fun _ _ => rfl)) pa_nil))))) pss_nil)
      (pss_one (ps_ret (pv 1))))), ?_⟩
    rw [show start ["_law_row", "_law_word"] [.ref q] = [some (.ref q), none] from rfl]
    have l0 := ok.n
    have l1 := numS_len ok.s
    have l2 := numS_len ok.z
    have l3 := numS_len ok.p
    have p0 := ok.p.1
    unfold blkT at k
    have hq : H q = some (.tup [.str r.1, .int r.2.1, .int r.2.2.1, .int r.2.2.2]) := hq
    repeat walk_at "go"
    refine w_ixT (SqT.of hq) atI_0 ?_
    repeat walk_at "go"
    refine w_addS (ln (by simp only [len_app, show (":" : Str).length = 1 from rfl, show ("+" : Str).length = 1 from rfl, show ("!" : Str).length = 1 from rfl, show (" " : Str).length = 1 from rfl, show (">" : Str).length = 1 from rfl]; omega)) ?_
    repeat walk_at "go"
    refine w_ixT (SqT.of hq) (atI_nat (j := 1) rfl) ?_
    repeat walk_at "go"
    refine w_strI (sm_log ok.s) ?_
    refine w_addS (ln (by simp only [len_app, show (":" : Str).length = 1 from rfl, show ("+" : Str).length = 1 from rfl, show ("!" : Str).length = 1 from rfl, show (" " : Str).length = 1 from rfl, show (">" : Str).length = 1 from rfl]; omega)) ?_
    repeat walk_at "go"
    refine w_addS (ln (by simp only [len_app, show (":" : Str).length = 1 from rfl, show ("+" : Str).length = 1 from rfl, show ("!" : Str).length = 1 from rfl, show (" " : Str).length = 1 from rfl, show (">" : Str).length = 1 from rfl]; omega)) ?_
    repeat walk_at "go"
    refine w_ixT (SqT.of hq) (atI_nat (j := 2) rfl) ?_
    repeat walk_at "go"
    refine w_strI (sm_log ok.z) ?_
    refine w_addS (ln (by simp only [len_app, show (":" : Str).length = 1 from rfl, show ("+" : Str).length = 1 from rfl, show ("!" : Str).length = 1 from rfl, show (" " : Str).length = 1 from rfl, show (">" : Str).length = 1 from rfl]; omega)) ?_
    repeat walk_at "go"
    refine w_ixT (SqT.of hq) (atI_nat (j := 3) rfl) ?_
    repeat walk_at "go"
    refine i_dec (fun h => ?_) (fun h => ?_)
    · rw [if_neg (by omega)] at k
      repeat walk_at "go"
      refine w_addS (ln (by simp only [len_app, show (":" : Str).length = 1 from rfl, show ("+" : Str).length = 1 from rfl, show ("!" : Str).length = 1 from rfl, show (" " : Str).length = 1 from rfl, show (">" : Str).length = 1 from rfl]; omega)) ?_
      repeat walk_at "go"
      refine w_ixT (SqT.of hq) (atI_nat (j := 3) rfl) ?_
      repeat walk_at "go"
      refine w_strI (sm_log ok.p) ?_
      refine w_addS (ln (by simp only [len_app, show (":" : Str).length = 1 from rfl, show ("+" : Str).length = 1 from rfl, show ("!" : Str).length = 1 from rfl, show (" " : Str).length = 1 from rfl, show (">" : Str).length = 1 from rfl]; omega)) ?_
      repeat walk_at "go"
      exact k
    · rw [if_pos (by omega)] at k
      repeat walk_at "go"
      exact k
end
end K02
set_option Elab.async false
set_option linter.all false
set_option maxRecDepth 100000
set_option maxHeartbeats 4000000
namespace K02
open PySem L2 PyProof.Rows
local macro_rules | `(tactic| walk_at "go") => `(tactic| with_reducible (first
  | refine go_seq ?_ | refine go_asg ?_ | refine go_ret ?_ | refine go_if ?_ | refine go_drop ?_ | refine go_next ?_ | refine go_nx ?_ | refine w_rt ?_
  | refine go_test ?_ | refine go_b ?_ | refine go_op ?_ | refine go_cb ?_ | refine go_cons ?_ | refine go_nil ?_ | refine w_call ?_ | refine w_c ?_
  | refine wv0 ?_ | refine wv1 ?_ | refine wv2 ?_ | refine wv3 ?_ | refine wv4 ?_ | refine wv5 ?_ | refine wv6 ?_ | refine wv7 ?_ | refine wv8 ?_ | refine wv9 ?_ | refine wv10 ?_ | refine wv11 ?_ | refine wv12 ?_ | refine wv13 ?_
  | refine wn0 ?_ | refine wn1 ?_ | refine wn2 ?_ | refine wn3 ?_ | refine wn4 ?_ | refine wn5 ?_ | refine wn6 ?_ | refine wn7 ?_ | refine wn8 ?_ | refine wn9 ?_ | refine wn10 ?_ | refine wn11 ?_ | refine wn12 ?_ | refine wn13 ?_
  | refine w_i0 ?_ | refine w_u ?_ | refine w_un ?_ | refine w_eqi ?_ | refine w_nei ?_ | refine w_eqs ?_ | refine w_nes ?_ | refine w_eqb ?_ | refine w_neb ?_ | refine w_bl ?_ | refine w_not ?_ | refine w_and ?_ | refine w_or ?_ | refine w_notV ?_ | refine w_andV ?_ | refine w_orV ?_
  | refine w_ifE ?_ | refine w_chain ?_ | refine w_bm ?_ | refine w_bm0 ?_ | refine w_sub ?_ | refine w_slice ?_ | refine w_noPart ?_ | refine w_part ?_ | refine w_int ?_ | refine w_max ?_ | refine w_min ?_ | refine w_intB ?_ | refine w_intI ?_
  | refine w_mod (by decide) ?_ | refine w_div (by decide) (by decide) ?_ | refine w_pow (by decide) (by decide) (by decide) ?_ | refine w_mulL (by decide) (by decide) ?_ | refine w_mulR (by decide) (by decide) ?_ | refine go_tupA ?_ | refine go_lstA ?_ | refine w_notT ?_ | refine w_isB ?_ | refine w_isNB ?_ | refine w_revSl ?_ | refine w_din ?_ | refine w_dput ?_ | refine go_fs ?_ | refine go_fmt ?_))
def sp_law (K : PySem.W.Frag) : Sp := fun vs H Q _ => ∃ (a : Addr) (ns : List Int), vs = [.ref a] ∧ SqL K H a (ns.map V.int) ∧ ns.length ≤ 63 ∧ ∀ H', Q (.bl true) H'
theorem cut_int {ns : List Int} {lo hi : Option Int} {v : V} (h : v ∈ cutV (ns.map V.int) lo hi) : ∃ c : Int, v = .int c := by
  have h := List.mem_of_mem_drop (List.mem_of_mem_take h)
  obtain ⟨c, _, rfl⟩ := List.mem_map.mp h
  exact ⟨c, rfl⟩
def stF (r : Row) : Int × Int := (r.2.1, r.2.2.1)
def mvF (r : Row) : Str × Int := (r.1, r.2.1)
theorem flat_rows (rs : List Row) : ∀ r ∈ rs.map rowV, ∀ v ∈ r, isFlat v = true := by
  intro r hr v hv
  obtain ⟨x, _, rfl⟩ := List.mem_map.mp hr
  simp only [rowV, List.mem_cons, List.not_mem_nil, or_false] at hv
  rcases hv with rfl | rfl | rfl | rfl <;> rfl
theorem flat_st (ws : List (Int × Int)) : ∀ r ∈ ws.map stV, ∀ v ∈ r, isFlat v = true := by
  intro r hr v hv
  obtain ⟨x, _, rfl⟩ := List.mem_map.mp hr
  simp only [stV, List.mem_cons, List.not_mem_nil, or_false] at hv
  rcases hv with rfl | rfl <;> rfl
theorem flat_mv (ws : List (Str × Int)) : ∀ r ∈ ws.map mvV, ∀ v ∈ r, isFlat v = true := by
  intro r hr v hv
  obtain ⟨x, _, rfl⟩ := List.mem_map.mp hr
  simp only [mvV, List.mem_cons, List.not_mem_nil, or_false] at hv
  rcases hv with rfl | rfl <;> rfl
theorem rep_two {K : PySem.W.Frag} {H : Hp} {p a b : Addr} {d e : Dt} (hp : SqL K H p [.ref a, .ref b]) (ha : Rep K H d (.ref a)) (hb : Rep K H e (.ref b)) : Rep K H (.lst [d, e]) (.ref p) := by
  have h : Reps K H [d, e] [.ref a, .ref b] := by
    simp only [Reps]
    exact ⟨_, _, rfl, ha, _, _, rfl, hb, rfl⟩
  simp only [Rep]
  exact ⟨p, _, rfl, hp, h⟩
theorem strs_of {α : Type} {F : α → Str} {zs : List V} {ws : List α} (hl : zs.length = ws.length) (h : ∀ (i : Nat) (y : V), zs[i]? = some y → ∀ w, ws[i]? = some w → y = .str (F w)) : zs = (ws.map F).map V.str := by
  rw [List.map_map]
  exact ys_of hl h
section
variable {P : Program} {w : World} {K : PySem.W.Frag} {mg : Str → Option Value} {base : Heap}
theorem ok_law (T : Txt K mg) {f : Addr} {fd : FuncData} (F : Fun K "law" "law" s_law f fd) : FnOk P w K mg base CX0 3 f fd ["_law_script"] (sp_law K) := by
  have D_rows := D_rows (P := P) (w := w) (base := base) T
  have D_wstrs := D_wstrs (P := P) (w := w) (base := base) T
  have D_text := D_text (P := P) (w := w) (base := base) T
  have D_wmoves := D_wmoves (P := P) (w := w) (base := base) T
  have D_wblks := D_wblks (P := P) (w := w) (base := base) T
  have D_lblk := D_lblk (P := P) (w := w) (base := base) T
  refine fnok_of F sc_law (fun vs H Q E h => ?_) (fun cdv A outer s H vs Q E hr h => ?_)
  · obtain ⟨a, ns, rfl, _⟩ := h
    rfl
  · obtain ⟨a, ns, rfl, hS, hl, k⟩ := h
    have nd := sc_law.nd
    refine ⟨_, (pss_cons (ps_for PassesOwn.never rfl (pi_list (pe_slice sl_listA (pv 0) po_none (po_some pe_int))) (pg_name (i := 1) nd rfl (Or.inl rfl)) (pss_cons (ps_set (i := 2) nd rfl (Or.inl rfl) (pe_def D_rows hr (pa_cons (pv 1) pa_nil)))
        (pss_cons (ps_set (i := 3) nd rfl (Or.inl rfl) (pe_callTy call_list_ofA rfl T.n_list boot_list (pa_cons (pv 2) pa_nil)))
        (pss_cons (ps_setc (i := 4) nd rfl (Or.inl rfl) (N := ["_law_name_here", "_law_start", "_law_size", "_law_pins"]) (nt := 4) (fr := []) (pi_list (pv 2)) (fun _ _ _ _ => (pg_tupK (K := K) (n := 4) rfl rfl (pgs_cons (pg_name (i := 0) (show (["_law_name_here", "_law_start", "_law_size", "_law_pins"] : List Str).Nodup from by decide +kernel) rfl (Or.inl rfl)) (pgs_cons (pg_name (i := 1) (show (["_law_name_here", "_law_start", "_law_size", "_law_pins"] : List Str).Nodup from by decide +kernel) rfl (Or.inl rfl)) (pgs_cons (pg_name (i := 2) (show (["_law_name_here", "_law_start", "_law_size", "_law_pins"] : List Str).Nodup from by decide +kernel) rfl (Or.inl rfl)) (pgs_cons (pg_name (i := 3) (show (["_law_name_here", "_law_start", "_law_size", "_law_pins"] : List Str).Nodup from by decide +kernel) rfl (Or.inl rfl)) pgs_nil)))))) (fun _ _ _ _ => pif_nil) (fun _ _ _ _ => (pe_tupA (pa_cons (pv 1) (pa_cons (pv 2) pa_nil)))))
        (pss_cons (ps_setc (i := 5) nd rfl (Or.inl rfl) (N := ["_law_name_here", "_law_start", "_law_size", "_law_pins"]) (nt := 4) (fr := []) (pi_list (pv 2)) (fun _ _ _ _ => (pg_tupK (K := K) (n := 4) rfl rfl (pgs_cons (pg_name (i := 0) (show (["_law_name_here", "_law_start", "_law_size", "_law_pins"] : List Str).Nodup from by decide +kernel) rfl (Or.inl rfl)) (pgs_cons (pg_name (i := 1) (show (["_law_name_here", "_law_start", "_law_size", "_law_pins"] : List Str).Nodup from by decide +kernel) rfl (Or.inl rfl)) (pgs_cons (pg_name (i := 2) (show (["_law_name_here", "_law_start", "_law_size", "_law_pins"] : List Str).Nodup from by decide +kernel) rfl (Or.inl rfl)) (pgs_cons (pg_name (i := 3) (show (["_law_name_here", "_law_start", "_law_size", "_law_pins"] : List Str).Nodup from by decide +kernel) rfl (Or.inl rfl)) pgs_nil)))))) (fun _ _ _ _ => pif_nil) (fun _ _ _ _ => (pe_tupA (pa_cons (pv 0) (pa_cons (pv 1) pa_nil)))))
        (pss_cons (ps_set (i := 6) nd rfl (Or.inl rfl) (pe_lstA (pa_cons (pe_callTy call_list_ofA rfl T.n_list boot_list (pa_cons (pv 4) pa_nil)) (pa_cons (pe_callTy call_list_ofA rfl T.n_list boot_list (pa_cons (pv 5) pa_nil)) pa_nil))))
        (pss_cons (ps_if (PW.pt (pw_or (pt_cmpR op_ne (pe_def D_wblks hr (pa_cons (pv 3) pa_nil)) (pe_def D_text hr (pa_cons (pe_comp (N := ["_law_row"]) (nt := 1) (fr := []) (pi_list (pv 2)) (fun _ _ _ _ => (pg_name (i := 0) (show (["_law_row"] : List Str).Nodup from by decide +kernel) rfl (Or.inl rfl))) (fun _ _ _ _ => pif_nil) (fun _ _ _ _ => (pe_def D_lblk hr (pa_cons (pv 0) pa_nil)))) pa_nil)) (nomark _)) (pw_or1 (pt_cmpR (op_ne_dN hr) (pv 3) (pv 2) (nomark _))))) (pss_one (ps_ret pe_bl)) pss_nil)
        (pss_cons (ps_if (pt_cmpR op_ne (pe_def D_wstrs hr (pa_cons (pe_ix ix_list (pv 6) pe_int (fun _ _ => rfl)) pa_nil)) (pe_def D_text hr (pa_cons (pe_comp (N := ["_law_start", "_law_size"]) (nt := 2) (fr := []) (pi_list (pv 4)) (fun _ _ _ _ => (pg_tupK (K := K) (n := 2) rfl rfl (pgs_cons (pg_name (i := 0) (show (["_law_start", "_law_size"] : List Str).Nodup from by decide +kernel) rfl (Or.inl rfl)) (pgs_cons (pg_name (i := 1) (show (["_law_start", "_law_size"] : List Str).Nodup from by decide +kernel) rfl (Or.inl rfl)) pgs_nil)))) (fun _ _ _ _ => pif_nil) (fun _ _ _ _ => (pe_op op_addS (pe_op op_addS (pe_callTy call_strI rfl T.n_str boot_str (pa_cons (pv 0) pa_nil)) pe_str) (pe_callTy call_strI rfl T.n_str boot_str (pa_cons (pv 1) pa_nil))))) pa_nil)) (nomark _)) (pss_one (ps_ret pe_bl)) pss_nil)
        (pss_cons (ps_if (pt_cmpR op_ne (pe_def D_wmoves hr (pa_cons (pe_ix ix_list (pv 6) pe_int (fun _ _ => rfl)) pa_nil)) (pe_def D_text hr (pa_cons (pe_comp (N := ["_law_name_here", "_law_to"]) (nt := 2) (fr := []) (pi_list (pv 5)) (fun _ _ _ _ => (pg_tupK (K := K) (n := 2) rfl rfl (pgs_cons (pg_name (i := 0) (show (["_law_name_here", "_law_to"] : List Str).Nodup from by decide +kernel) rfl (Or.inl rfl)) (pgs_cons (pg_name (i := 1) (show (["_law_name_here", "_law_to"] : List Str).Nodup from by decide +kernel) rfl (Or.inl rfl)) pgs_nil)))) (fun _ _ _ _ => pif_nil) (fun _ _ _ _ => (pe_op op_addS (pe_op op_addS (pv 0) pe_str) (pe_callTy call_strI rfl T.n_str boot_str (pa_cons (pv 1) pa_nil))))) pa_nil)) (nomark _)) (pss_one (ps_ret pe_bl)) pss_nil)
        (pss_one (ps_if (pt_cmpR (op_ne_dN hr) (pv 6) (pe_lstA (pa_cons (pv 4) (pa_cons (pv 5) pa_nil))) (nomark _)) (pss_one (ps_ret pe_bl)) pss_nil)))))))))))
      (pss_one (ps_ret (pe_and (pe_cmpR op_eq (pe_def D_wblks hr (pa_cons (pe_lstA pa_nil) pa_nil)) pe_str (nomark _)) (pe_and (pe_cmpR op_eq (pe_def D_wmoves hr (pa_cons (pe_lstA pa_nil) pa_nil)) pe_str (nomark _)) (pe_one (pe_cmpR op_eq (pe_def D_wstrs hr (pa_cons (pe_lstA pa_nil) pa_nil)) pe_str (nomark _)))))))), ?_⟩
    rw [show start ["_law_script", "_law_cell", "_law_rows_here", "_law_handed", "_law_stretches", "_law_moves", "_law_held"] [.ref a] = [some (.ref a), none, none, none, none, none, none] from rfl]
    have hl2 : (ns.map V.int).length ≤ 63 := by rw [List.length_map]; exact hl
    repeat walk_at "go"
    refine w_forL ?_
    repeat walk_at "go"
    refine ⟨a, _, rfl, hS, fun p0 H0 n0 => ?_⟩
    refine ⟨p0, rfl, ⟨_, SqL.of n0.e⟩, forL_by (xs := cutV (ns.map V.int) none (some 63)) (fun i σ2 H5 => ∃ o1 o2 o3 o4 o5 o6 : Option V, σ2 = [some (.ref a), o1, o2, o3, o4, o5, o6] ∧ Same H0 H5) ⟨_, _, _, _, _, _, rfl, Same.refl _⟩ ?_ ?_ ?_⟩
    · rintro i σ2 H1 hi ⟨_, _, _, _, _, _, rfl, s1⟩
      exact SqL.of (s1 _ _ n0.e)
    · rintro i v σ2 H1 hv ⟨_, _, _, _, _, _, rfl, s1⟩
      obtain ⟨c0, rfl⟩ := cut_int (List.mem_of_getElem? hv)
      clear hv
      repeat walk_at "go"
      refine ⟨c0, rfl, fun p2 ys rs H2 n2 tp hl8 hok => ?_⟩
      repeat walk_at "go"
      refine ⟨p2, ys, rfl, .inl (SqL.of n2.e), fun p3 H3 n3 => ?_⟩
      repeat walk_at "go"
      have hp2_3 := n3.s _ _ n2.e
      have tp_3 := tp.same n3.s
      refine w_compL ?_
      repeat walk_at "go"
      refine ⟨p2, rfl, ⟨_, SqL.of hp2_3⟩, comp_mapG (P := fun i y H => ∀ r, rs[i]? = some r → ∃ q, y = .ref q ∧ H q = some (.tup (stV (stF r)))) (fvs := []) (items_list (xs := ys)) (by rw [tp.1, List.length_map]; omega) rfl (fun H' s => s.seq (SqL.of hp2_3)) (fun i y A1 A2 h stay r e => let ⟨q, e1, e2⟩ := h r e; ⟨q, e1, stay _ _ e2⟩) ?_ ?_⟩
      · intro i v tv G1 hv s1 htv
        obtain ⟨r0, hr0, q, rfl, hq⟩ := tups_ixG tp_3 hv
        obtain ⟨a0, a1, a2, a3, rfl⟩ : ∃ a b c d, tv = [a, b, c, d] := match tv, htv with | [a, b, c, d], _ => ⟨a, b, c, d, rfl⟩
        have hq1 : G1 q = some (.tup [.str r0.1, .int r0.2.1, .int r0.2.2.1, .int r0.2.2.2]) := s1 _ _ hq
        refine ⟨[some (.str r0.1), some (.int r0.2.1), some (.int r0.2.2.1), some (.int r0.2.2.2)], [some (.str r0.1), some (.int r0.2.1), some (.int r0.2.2.1), some (.int r0.2.2.2)], rfl, rfl, fun R2 h2 => go_t4 (SqT.of hq1) rfl h2, fun R hk => ?_⟩
        repeat walk_at "go"
        refine ⟨by show 2 ≤ sizeLine; decide, fun q2 G2 g2 => hk _ G2 g2.s fun r e => ?_⟩
        rw [hr0] at e
        cases e
        exact ⟨q2, rfl, g2.e⟩
      intro p4 H4 zsp4 nH4 hlp4 hzp4
      have tpp4 : TupsAt H4 zsp4 ((rs.map stF).map stV) := by
        rw [List.map_map]
        exact tups_of (by rw [hlp4, tp.1, List.length_map]) hzp4
      repeat walk_at "go"
      have hp2_4 := nH4.s _ _ hp2_3
      have tp_4 := tp_3.same nH4.s
      refine w_compL ?_
      repeat walk_at "go"
      refine ⟨p2, rfl, ⟨_, SqL.of hp2_4⟩, comp_mapG (P := fun i y H => ∀ r, rs[i]? = some r → ∃ q, y = .ref q ∧ H q = some (.tup (mvV (mvF r)))) (fvs := []) (items_list (xs := ys)) (by rw [tp.1, List.length_map]; omega) rfl (fun H' s => s.seq (SqL.of hp2_4)) (fun i y A1 A2 h stay r e => let ⟨q, e1, e2⟩ := h r e; ⟨q, e1, stay _ _ e2⟩) ?_ ?_⟩
      · intro i v tv G1 hv s1 htv
        obtain ⟨r0, hr0, q, rfl, hq⟩ := tups_ixG tp_4 hv
        obtain ⟨a0, a1, a2, a3, rfl⟩ : ∃ a b c d, tv = [a, b, c, d] := match tv, htv with | [a, b, c, d], _ => ⟨a, b, c, d, rfl⟩
        have hq1 : G1 q = some (.tup [.str r0.1, .int r0.2.1, .int r0.2.2.1, .int r0.2.2.2]) := s1 _ _ hq
        refine ⟨[some (.str r0.1), some (.int r0.2.1), some (.int r0.2.2.1), some (.int r0.2.2.2)], [some (.str r0.1), some (.int r0.2.1), some (.int r0.2.2.1), some (.int r0.2.2.2)], rfl, rfl, fun R2 h2 => go_t4 (SqT.of hq1) rfl h2, fun R hk => ?_⟩
        repeat walk_at "go"
        refine ⟨by show 2 ≤ sizeLine; decide, fun q2 G2 g2 => hk _ G2 g2.s fun r e => ?_⟩
        rw [hr0] at e
        cases e
        exact ⟨q2, rfl, g2.e⟩
      intro p5 H5 zsp5 nH5 hlp5 hzp5
      have tpp5 : TupsAt H5 zsp5 ((rs.map mvF).map mvV) := by
        rw [List.map_map]
        exact tups_of (by rw [hlp5, tp.1, List.length_map]) hzp5
      repeat walk_at "go"
      have hp4_5 := nH5.s _ _ nH4.e
      refine ⟨p4, _, rfl, .inl (SqL.of hp4_5), fun p6 H6 n6 => ?_⟩
      repeat walk_at "go"
      have hp5_6 := n6.s _ _ nH5.e
      refine ⟨p5, _, rfl, .inl (SqL.of hp5_6), fun p7 H7 n7 => ?_⟩
      repeat walk_at "go"
      refine ⟨by show 2 ≤ sizeLine; decide, fun p8 H8 n8 => ?_⟩
      repeat walk_at "go"
      have s28 : Same H2 H8 := ((((n3.s.trans nH4.s).trans nH5.s).trans n6.s).trans n7.s).trans n8.s
      have s48 : Same H4 H8 := ((nH5.s.trans n6.s).trans n7.s).trans n8.s
      have s58 : Same H5 H8 := (n6.s.trans n7.s).trans n8.s
      have hp2_8 := s28 _ _ n2.e
      have hp3_8 : H8 p3 = some (.lst ys) := ((((nH4.s.trans nH5.s).trans n6.s).trans n7.s).trans n8.s) _ _ n3.e
      have tp_8 := tp.same s28
      have hp4_8 := s48 _ _ nH4.e
      have tp4_8 := tpp4.same s48
      have hp5_8 := s58 _ _ nH5.e
      have tp5_8 := tpp5.same s58
      have hp6_8 : H8 p6 = some (.lst zsp4) := (n7.s.trans n8.s) _ _ n6.e
      have hp7_8 : H8 p7 = some (.lst zsp5) := n8.s _ _ n7.e
      have hs4 : ∀ w ∈ rs.map stF, Sm w.1 ∧ Sm w.2 := fun w hw => by
        obtain ⟨r, hr, rfl⟩ := List.mem_map.mp hw
        exact ⟨(hok r hr).s, (hok r hr).z⟩
      have hs5 : ∀ w ∈ rs.map mvF, w.1.length ≤ 8 ∧ Sm w.2 := fun w hw => by
        obtain ⟨r, hr, rfl⟩ := List.mem_map.mp hw
        exact ⟨(hok r hr).n, (hok r hr).s⟩
      refine ⟨p3, ys, rs, rfl, SqL.of hp3_8, tp_8, by omega, hok, fun H9 s9 => ?_⟩
      repeat walk_at "go"
      have hp2_9 := s9 _ _ hp2_8
      have tp_9 := tp_8.same s9
      refine w_compL ?_
      repeat walk_at "go"
      refine ⟨p2, rfl, ⟨_, SqL.of hp2_9⟩, comp_mapG (P := fun i y _ => ∀ w, rs[i]? = some w → y = .str (blkT w)) (fvs := []) (items_list (xs := ys)) (by rw [tp_9.1, List.length_map]; omega) rfl (fun H' s => s.seq (SqL.of hp2_9)) (fun _ _ _ _ h _ => h) ?_ ?_⟩
      · intro i v tv G1 hv s1 htv
        obtain ⟨w0, hw0, q, rfl, hq⟩ := tups_ixG tp_9 hv
        obtain ⟨a0, rfl⟩ : ∃ a, tv = [a] := List.length_eq_one_iff.mp htv
        refine ⟨[some (.ref q)], [some (.ref q)], rfl, rfl, fun R2 h2 => h2, fun R hk => ?_⟩
        repeat walk_at "go"
        refine ⟨q, w0, rfl, s1 _ _ hq, hok w0 (List.mem_of_getElem? hw0), hk _ G1 (Same.refl _) fun w e => ?_⟩
        rw [hw0] at e
        cases e
        rfl
      intro p10 H10 zsp10 nH10 hlp10 hzp10
      have ezp10 := strs_of (F := blkT) (ws := rs) (by rw [hlp10, tp_9.1, List.length_map]) hzp10
      subst ezp10
      repeat walk_at "go"
      refine ⟨p10, _, rfl, SqL.of nH10.e, by rw [List.length_map]; omega, (fun t ht => by obtain ⟨r, hr, rfl⟩ := List.mem_map.mp ht; exact blkT_len (hok r hr)), fun H11 s11 => ?_⟩
      repeat walk_at "go"
      refine i_npos rfl ?_
      repeat walk_at "go"
      have s811 : Same H8 H11 := (s9.trans nH10.s).trans s11
      refine w_neSame (rep_rows (SqL.of (s811 _ _ hp3_8)) (tp_8.same s811) (flat_rows rs)) (rep_rows (SqL.of (s811 _ _ hp2_8)) (tp_8.same s811) (flat_rows rs)) (Nat.le_trans (dep_rowsL _) (by decide)) ?_
      repeat walk_at "go"
      refine i_F rfl ?_
      repeat walk_at "go"
      have hp8_11 := s811 _ _ n8.e
      refine w_ixL (SqL.of hp8_11) atI_0 ?_
      repeat walk_at "go"
      refine ⟨p6, zsp4, rs.map stF, rfl, SqL.of (s811 _ _ hp6_8), tp4_8.same s811, by rw [List.length_map]; omega, hs4, fun H12 s12 => ?_⟩
      repeat walk_at "go"
      have s812 := s811.trans s12
      have hp4_12 := s812 _ _ hp4_8
      have tp4_12 := tp4_8.same s812
      refine w_compL ?_
      repeat walk_at "go"
      refine ⟨p4, rfl, ⟨_, SqL.of hp4_12⟩, comp_mapG (P := fun i y _ => ∀ w, (rs.map stF)[i]? = some w → y = .str (strT w)) (fvs := []) (items_list (xs := zsp4)) (by rw [tp4_12.1, List.length_map]; rw [List.length_map]; omega) rfl (fun H' s => s.seq (SqL.of hp4_12)) (fun _ _ _ _ h _ => h) ?_ ?_⟩
      · intro i v tv G1 hv s1 htv
        obtain ⟨w0, hw0, q, rfl, hq⟩ := tups_ixG tp4_12 hv
        obtain ⟨a0, a1, rfl⟩ : ∃ a b, tv = [a, b] := match tv, htv with | [a, b], _ => ⟨a, b, rfl⟩
        have hw := hs4 w0 (List.mem_of_getElem? hw0)
        have l1 := numS_len hw.1
        have l2 := numS_len hw.2
        have hq1 : G1 q = some (.tup [.int w0.1, .int w0.2]) := s1 _ _ hq
        refine ⟨[some (.int w0.1), some (.int w0.2)], [some (.int w0.1), some (.int w0.2)], rfl, rfl, fun R2 h2 => go_t2 (SqT.of hq1) rfl h2, fun R hk => ?_⟩
        repeat walk_at "go"
        refine w_strI (sm_log hw.1) ?_
        repeat walk_at "go"
        refine w_addS (ln (by simp only [len_app, show (":" : Str).length = 1 from rfl, show ("+" : Str).length = 1 from rfl, show ("!" : Str).length = 1 from rfl, show (" " : Str).length = 1 from rfl, show (">" : Str).length = 1 from rfl]; omega)) ?_
        repeat walk_at "go"
        refine w_strI (sm_log hw.2) ?_
        refine w_addS (ln (by simp only [len_app, show (":" : Str).length = 1 from rfl, show ("+" : Str).length = 1 from rfl, show ("!" : Str).length = 1 from rfl, show (" " : Str).length = 1 from rfl, show (">" : Str).length = 1 from rfl]; omega)) ?_
        refine hk _ G1 (Same.refl _) fun w e => ?_
        rw [hw0] at e
        cases e
        rfl
      intro p13 H13 zsp13 nH13 hlp13 hzp13
      have ezp13 := strs_of (F := strT) (ws := (rs.map stF)) (by rw [hlp13, tp4_12.1, List.length_map]) hzp13
      subst ezp13
      repeat walk_at "go"
      refine ⟨p13, _, rfl, SqL.of nH13.e, by rw [List.length_map, List.length_map]; omega, (fun t ht => by obtain ⟨r, hr, rfl⟩ := List.mem_map.mp ht; exact strT_len (hs4 r hr).1 (hs4 r hr).2), fun H14 s14 => ?_⟩
      repeat walk_at "go"
      refine i_npos rfl ?_
      repeat walk_at "go"
      have s814 : Same H8 H14 := (s812.trans nH13.s).trans s14
      refine w_ixL (SqL.of (s814 _ _ n8.e)) (atI_nat (j := 1) rfl) ?_
      repeat walk_at "go"
      refine ⟨p7, zsp5, rs.map mvF, rfl, SqL.of (s814 _ _ hp7_8), tp5_8.same s814, by rw [List.length_map]; omega, hs5, fun H15 s15 => ?_⟩
      repeat walk_at "go"
      have s815 := s814.trans s15
      have hp5_15 := s815 _ _ hp5_8
      have tp5_15 := tp5_8.same s815
      refine w_compL ?_
      repeat walk_at "go"
      refine ⟨p5, rfl, ⟨_, SqL.of hp5_15⟩, comp_mapG (P := fun i y _ => ∀ w, (rs.map mvF)[i]? = some w → y = .str (movT w)) (fvs := []) (items_list (xs := zsp5)) (by rw [tp5_15.1, List.length_map]; rw [List.length_map]; omega) rfl (fun H' s => s.seq (SqL.of hp5_15)) (fun _ _ _ _ h _ => h) ?_ ?_⟩
      · intro i v tv G1 hv s1 htv
        obtain ⟨w0, hw0, q, rfl, hq⟩ := tups_ixG tp5_15 hv
        obtain ⟨a0, a1, rfl⟩ : ∃ a b, tv = [a, b] := match tv, htv with | [a, b], _ => ⟨a, b, rfl⟩
        have hw := hs5 w0 (List.mem_of_getElem? hw0)
        have l1 := hw.1
        have l2 := numS_len hw.2
        have hq1 : G1 q = some (.tup [.str w0.1, .int w0.2]) := s1 _ _ hq
        refine ⟨[some (.str w0.1), some (.int w0.2)], [some (.str w0.1), some (.int w0.2)], rfl, rfl, fun R2 h2 => go_t2 (SqT.of hq1) rfl h2, fun R hk => ?_⟩
        repeat walk_at "go"
        refine w_addS (ln (by simp only [len_app, show (":" : Str).length = 1 from rfl, show ("+" : Str).length = 1 from rfl, show ("!" : Str).length = 1 from rfl, show (" " : Str).length = 1 from rfl, show (">" : Str).length = 1 from rfl]; omega)) ?_
        repeat walk_at "go"
        refine w_strI (sm_log hw.2) ?_
        refine w_addS (ln (by simp only [len_app, show (":" : Str).length = 1 from rfl, show ("+" : Str).length = 1 from rfl, show ("!" : Str).length = 1 from rfl, show (" " : Str).length = 1 from rfl, show (">" : Str).length = 1 from rfl]; omega)) ?_
        refine hk _ G1 (Same.refl _) fun w e => ?_
        rw [hw0] at e
        cases e
        rfl
      intro p16 H16 zsp16 nH16 hlp16 hzp16
      have ezp16 := strs_of (F := movT) (ws := (rs.map mvF)) (by rw [hlp16, tp5_15.1, List.length_map]) hzp16
      subst ezp16
      repeat walk_at "go"
      refine ⟨p16, _, rfl, SqL.of nH16.e, by rw [List.length_map, List.length_map]; omega, (fun t ht => by obtain ⟨r, hr, rfl⟩ := List.mem_map.mp ht; exact movT_len (hs5 r hr).1 (hs5 r hr).2), fun H17 s17 => ?_⟩
      repeat walk_at "go"
      refine i_npos rfl ?_
      repeat walk_at "go"
      have s817 : Same H8 H17 := (s815.trans nH16.s).trans s17
      refine ⟨by show 2 ≤ sizeLine; decide, fun p18 H18 n18 => ?_⟩
      repeat walk_at "go"
      have s818 := s817.trans n18.s
      refine w_neSame (rep_two (SqL.of (s818 _ _ n8.e)) (rep_rows (SqL.of (s818 _ _ hp6_8)) (tp4_8.same s818) (flat_st _)) (rep_rows (SqL.of (s818 _ _ hp7_8)) (tp5_8.same s818) (flat_mv _)))
        (rep_two (SqL.of n18.e) (rep_rows (SqL.of (s818 _ _ hp4_8)) (tp4_8.same s818) (flat_st _)) (rep_rows (SqL.of (s818 _ _ hp5_8)) (tp5_8.same s818) (flat_mv _))) ?_ ?_
      · have h1 := dep_rowsL ((rs.map stF).map stV)
        have h2 := dep_rowsL ((rs.map mvF).map mvV)
        simp only [depD, depDs] at h1 h2 ⊢
        omega
      repeat walk_at "go"
      refine i_F rfl ?_
      repeat walk_at "go"
      exact ⟨_, _, _, _, _, _, rfl, ((s1.trans n2.s).trans s28).trans s818⟩
    · rintro σ2 H1 ⟨_, _, _, _, _, _, rfl, s1⟩
      repeat walk_at "go"
      refine ⟨Nat.zero_le _, fun q2 H2 n2 => ?_⟩
      repeat walk_at "go"
      refine ⟨q2, [], [], rfl, SqL.of n2.e, TupsAt.nil, by decide, (fun r h => by cases h), fun H3 s3 => ?_⟩
      repeat walk_at "go"
      refine i_pos rfl ?_
      repeat walk_at "go"
      refine ⟨Nat.zero_le _, fun q4 H4 n4 => ?_⟩
      repeat walk_at "go"
      refine ⟨q4, [], [], rfl, SqL.of n4.e, TupsAt.nil, by decide, (fun r h => by cases h), fun H5 s5 => ?_⟩
      repeat walk_at "go"
      refine i_pos rfl ?_
      repeat walk_at "go"
      refine ⟨Nat.zero_le _, fun q6 H6 n6 => ?_⟩
      repeat walk_at "go"
      refine ⟨q6, [], [], rfl, SqL.of n6.e, TupsAt.nil, by decide, (fun r h => by cases h), fun H7 s7 => ?_⟩
      repeat walk_at "go"
      rw [show decide (rowT (List.map strT []) = ("-" : Str)) = true from decide_eq_true rfl]
      exact k H7
end
theorem all_mk {l : PySem.W.OpenLaw} {w : World} {K : PySem.W.Frag} {h : Heap} {mg : Str → Option Value} {fa f0 f1 f2 f3 f4 f5 f6 f7 f8 f9 f10 f11 : Addr} (X : K.In h) (G : h.Ns mainGlobals mg) (hfa : mg "law" = some (.ref fa))
    {od0 an0 : Option Addr} {sl0 : Array (Option Value)} {oc0 kV0 dc0 pm0 cd0 ct0 : Value}
    {od1 an1 : Option Addr} {sl1 : Array (Option Value)} {oc1 kV1 dc1 pm1 cd1 ct1 : Value}
    {od2 an2 : Option Addr} {sl2 : Array (Option Value)} {oc2 kV2 dc2 pm2 cd2 ct2 : Value}
    {od3 an3 : Option Addr} {sl3 : Array (Option Value)} {oc3 kV3 dc3 pm3 cd3 ct3 : Value}
    {od4 an4 : Option Addr} {sl4 : Array (Option Value)} {oc4 kV4 dc4 pm4 cd4 ct4 : Value}
    {od5 an5 : Option Addr} {sl5 : Array (Option Value)} {oc5 kV5 dc5 pm5 cd5 ct5 : Value}
    {od6 an6 : Option Addr} {sl6 : Array (Option Value)} {oc6 kV6 dc6 pm6 cd6 ct6 : Value}
    {od7 an7 : Option Addr} {sl7 : Array (Option Value)} {oc7 kV7 dc7 pm7 cd7 ct7 : Value}
    {od8 an8 : Option Addr} {sl8 : Array (Option Value)} {oc8 kV8 dc8 pm8 cd8 ct8 : Value}
    {od9 an9 : Option Addr} {sl9 : Array (Option Value)} {oc9 kV9 dc9 pm9 cd9 ct9 : Value}
    {od10 an10 : Option Addr} {sl10 : Array (Option Value)} {oc10 kV10 dc10 pm10 cd10 ct10 : Value}
    {od11 an11 : Option Addr} {sl11 : Array (Option Value)} {oc11 kV11 dc11 pm11 cd11 ct11 : Value}
    (a0 : PySem.W.nsIn K mainGlobals "write_row" = some (some (.ref f0))) (l0 : K.lookup f0 = some ⟨oc0, od0, .func (PySem.W.fnOf "write_row" "write_row" (defArgs s_wrow) (defBody s_wrow) (defScope s_wrow) .none kV0 dc0 pm0 an0 cd0 ct0), sl0⟩) (c0 : PySem.W.codeIn K cd0 "write_row" = true) (k0 : PySem.W.keepIn K (.ref f0) = true)
    (a1 : PySem.W.nsIn K mainGlobals "write_stretch" = some (some (.ref f1))) (l1 : K.lookup f1 = some ⟨oc1, od1, .func (PySem.W.fnOf "write_stretch" "write_stretch" (defArgs s_wstr) (defBody s_wstr) (defScope s_wstr) .none kV1 dc1 pm1 an1 cd1 ct1), sl1⟩) (c1 : PySem.W.codeIn K cd1 "write_stretch" = true) (k1 : PySem.W.keepIn K (.ref f1) = true)
    (a2 : PySem.W.nsIn K mainGlobals "write_stretches" = some (some (.ref f2))) (l2 : K.lookup f2 = some ⟨oc2, od2, .func (PySem.W.fnOf "write_stretches" "write_stretches" (defArgs s_wstrs) (defBody s_wstrs) (defScope s_wstrs) .none kV2 dc2 pm2 an2 cd2 ct2), sl2⟩) (c2 : PySem.W.codeIn K cd2 "write_stretches" = true) (k2 : PySem.W.keepIn K (.ref f2) = true)
    (a3 : PySem.W.nsIn K mainGlobals "write_moves" = some (some (.ref f3))) (l3 : K.lookup f3 = some ⟨oc3, od3, .func (PySem.W.fnOf "write_moves" "write_moves" (defArgs s_wmoves) (defBody s_wmoves) (defScope s_wmoves) .none kV3 dc3 pm3 an3 cd3 ct3), sl3⟩) (c3 : PySem.W.codeIn K cd3 "write_moves" = true) (k3 : PySem.W.keepIn K (.ref f3) = true)
    (a4 : PySem.W.nsIn K mainGlobals "write_block" = some (some (.ref f4))) (l4 : K.lookup f4 = some ⟨oc4, od4, .func (PySem.W.fnOf "write_block" "write_block" (defArgs s_wblk) (defBody s_wblk) (defScope s_wblk) .none kV4 dc4 pm4 an4 cd4 ct4), sl4⟩) (c4 : PySem.W.codeIn K cd4 "write_block" = true) (k4 : PySem.W.keepIn K (.ref f4) = true)
    (a5 : PySem.W.nsIn K mainGlobals "write_blocks" = some (some (.ref f5))) (l5 : K.lookup f5 = some ⟨oc5, od5, .func (PySem.W.fnOf "write_blocks" "write_blocks" (defArgs s_wblks) (defBody s_wblks) (defScope s_wblks) .none kV5 dc5 pm5 an5 cd5 ct5), sl5⟩) (c5 : PySem.W.codeIn K cd5 "write_blocks" = true) (k5 : PySem.W.keepIn K (.ref f5) = true)
    (a6 : PySem.W.nsIn K mainGlobals "_law_draws" = some (some (.ref f6))) (l6 : K.lookup f6 = some ⟨oc6, od6, .func (PySem.W.fnOf "_law_draws" "_law_draws" (defArgs s_draws) (defBody s_draws) (defScope s_draws) .none kV6 dc6 pm6 an6 cd6 ct6), sl6⟩) (c6 : PySem.W.codeIn K cd6 "_law_draws" = true) (k6 : PySem.W.keepIn K (.ref f6) = true)
    (a7 : PySem.W.nsIn K mainGlobals "_law_name" = some (some (.ref f7))) (l7 : K.lookup f7 = some ⟨oc7, od7, .func (PySem.W.fnOf "_law_name" "_law_name" (defArgs s_name) (defBody s_name) (defScope s_name) .none kV7 dc7 pm7 an7 cd7 ct7), sl7⟩) (c7 : PySem.W.codeIn K cd7 "_law_name" = true) (k7 : PySem.W.keepIn K (.ref f7) = true)
    (a8 : PySem.W.nsIn K mainGlobals "_law_rows" = some (some (.ref f8))) (l8 : K.lookup f8 = some ⟨oc8, od8, .func (PySem.W.fnOf "_law_rows" "_law_rows" (defArgs s_rows) (defBody s_rows) (defScope s_rows) .none kV8 dc8 pm8 an8 cd8 ct8), sl8⟩) (c8 : PySem.W.codeIn K cd8 "_law_rows" = true) (k8 : PySem.W.keepIn K (.ref f8) = true)
    (a9 : PySem.W.nsIn K mainGlobals "_law_text" = some (some (.ref f9))) (l9 : K.lookup f9 = some ⟨oc9, od9, .func (PySem.W.fnOf "_law_text" "_law_text" (defArgs s_text) (defBody s_text) (defScope s_text) .none kV9 dc9 pm9 an9 cd9 ct9), sl9⟩) (c9 : PySem.W.codeIn K cd9 "_law_text" = true) (k9 : PySem.W.keepIn K (.ref f9) = true)
    (a10 : PySem.W.nsIn K mainGlobals "_law_block" = some (some (.ref f10))) (l10 : K.lookup f10 = some ⟨oc10, od10, .func (PySem.W.fnOf "_law_block" "_law_block" (defArgs s_lblk) (defBody s_lblk) (defScope s_lblk) .none kV10 dc10 pm10 an10 cd10 ct10), sl10⟩) (c10 : PySem.W.codeIn K cd10 "_law_block" = true) (k10 : PySem.W.keepIn K (.ref f10) = true)
    (a11 : PySem.W.nsIn K mainGlobals "law" = some (some (.ref f11))) (l11 : K.lookup f11 = some ⟨oc11, od11, .func (PySem.W.fnOf "law" "law" (defArgs s_law) (defBody s_law) (defScope s_law) .none kV11 dc11 pm11 an11 cd11 ct11), sl11⟩) (c11 : PySem.W.codeIn K cd11 "law" = true) (k11 : PySem.W.keepIn K (.ref f11) = true)
    (n0 : PySem.W.nsIn K mainGlobals "range" = some none)
    (n1 : PySem.W.nsIn K mainGlobals "list" = some none)
    (n2 : PySem.W.nsIn K mainGlobals "str" = some none)
    : ∃ fd : FuncData, (∀ (s : Shared) (v : Value), BindsTo s fd ⟨[v], []⟩ [("_law_script", v)]) ∧ ∀ base : Heap, K.In base → base.Ns mainGlobals mg → FnOk l.prog w K mg base CX0 3 fa fd ["_law_script"] (sp_law K) := by
  have e := hfa.symm.trans (PySem.W.mg_of X G a11)
  cases e
  have T : Txt K mg := ⟨HasDef.mk (PySem.W.mg_of X G a0) l0 c0 k0, HasDef.mk (PySem.W.mg_of X G a1) l1 c1 k1, HasDef.mk (PySem.W.mg_of X G a2) l2 c2 k2, HasDef.mk (PySem.W.mg_of X G a3) l3 c3 k3, HasDef.mk (PySem.W.mg_of X G a4) l4 c4 k4, HasDef.mk (PySem.W.mg_of X G a5) l5 c5 k5, HasDef.mk (PySem.W.mg_of X G a6) l6 c6 k6, HasDef.mk (PySem.W.mg_of X G a7) l7 c7 k7, HasDef.mk (PySem.W.mg_of X G a8) l8 c8 k8, HasDef.mk (PySem.W.mg_of X G a9) l9 c9 k9, HasDef.mk (PySem.W.mg_of X G a10) l10 c10 k10, PySem.W.mg_none_of X G n0, PySem.W.mg_none_of X G n1, PySem.W.mg_none_of X G n2⟩
  refine ⟨PySem.W.fnOf "law" "law" (defArgs s_law) (defBody s_law) (defScope s_law) .none kV11 dc11 pm11 an11 cd11 ct11, fun s v => .of_eq rfl, fun base _ _ => ?_⟩
  exact ok_law T (fun_mk (st := s_law) l11 c11 k11)
theorem walk {l : PySem.W.OpenLaw} {q : Program} {loose : List Str} {XP : (Str → Option Value) → Heap → Prop} {YP : World → Heap → Prop} {d : DefRec} {K : Params → PySem.W.Frag} (hn : l.most = some 63) (hdf : d.params.defaults = [])
    (hY : ∀ (w : World) (h : Heap), YP w h → (K w.params).In h)
    (F : ∀ (w : World) (mg : Str → Option Value) (fa : Addr) (h : Heap), (K w.params).In h → h.Ns mainGlobals mg → mg d.name = some (.ref fa) →
      ∃ fd : FuncData, (∀ (s : Shared) (u : Value), BindsTo s fd ⟨[u], []⟩ [("_law_script", u)]) ∧ ∀ base : Heap, (K w.params).In base → base.Ns mainGlobals mg → FnOk l.prog w (K w.params) mg base CX0 3 fa fd ["_law_script"] (sp_law (K w.params))) :
    PySem.W.WalkO q loose XP YP l.row.toRowW d [] (fun f vs => PySem.call f vs) :=
  L2.walk_of (n := 63) (k := 3) (x := "_law_script") (CX := fun _ => CX0) (sp := fun w => sp_law (K w.params)) hn (by decide) hdf ⟨rfl, by decide, by decide, rfl⟩ hY F (fun _ _ a ns hl _ hS => ⟨a, ns, rfl, hS, hl, fun _ => rfl⟩) fun _ _ _ _ _ z => z
end K02
open PySem PySem.W PyProof.Rows
set_option maxRecDepth 100000 in
set_option maxHeartbeats 0 in
theorem PySem.Challenge.cw_slideroom_k02_parts_written_holds : PySem.Challenge.rw_slideroom_k02_parts_written.Holds := by
  w_on; o_law; k_head; (case hw => w_witness2)
  k_fill
  refine K02.walk (l := PySem.Challenge.rw_slideroom_k02_parts_written) rfl rfl (fun w h Y => PySem.W.kIn_of Y) ?F
  case F =>
    intro w mg fa h KX G hmg
    refine' K02.all_mk KX G hmg ?a0 ?l0 ?c0 ?k0 ?a1 ?l1 ?c1 ?k1 ?a2 ?l2 ?c2 ?k2 ?a3 ?l3 ?c3 ?k3 ?a4 ?l4 ?c4 ?k4 ?a5 ?l5 ?c5 ?k5 ?a6 ?l6 ?c6 ?k6 ?a7 ?l7 ?c7 ?k7 ?a8 ?l8 ?c8 ?k8 ?a9 ?l9 ?c9 ?k9 ?a10 ?l10 ?c10 ?k10 ?a11 ?l11 ?c11 ?k11 ?n0 ?n1 ?n2
    (case a0 => k_is)
    (case l0 => k_is)
    (case c0 => k_is)
    (case k0 => k_is)
    (case a1 => k_is)
    (case l1 => k_is)
    (case c1 => k_is)
    (case k1 => k_is)
    (case a2 => k_is)
    (case l2 => k_is)
    (case c2 => k_is)
    (case k2 => k_is)
    (case a3 => k_is)
    (case l3 => k_is)
    (case c3 => k_is)
    (case k3 => k_is)
    (case a4 => k_is)
    (case l4 => k_is)
    (case c4 => k_is)
    (case k4 => k_is)
    (case a5 => k_is)
    (case l5 => k_is)
    (case c5 => k_is)
    (case k5 => k_is)
    (case a6 => k_is)
    (case l6 => k_is)
    (case c6 => k_is)
    (case k6 => k_is)
    (case a7 => k_is)
    (case l7 => k_is)
    (case c7 => k_is)
    (case k7 => k_is)
    (case a8 => k_is)
    (case l8 => k_is)
    (case c8 => k_is)
    (case k8 => k_is)
    (case a9 => k_is)
    (case l9 => k_is)
    (case c9 => k_is)
    (case k9 => k_is)
    (case a10 => k_is)
    (case l10 => k_is)
    (case c10 => k_is)
    (case k10 => k_is)
    (case a11 => k_is)
    (case l11 => k_is)
    (case c11 => k_is)
    (case k11 => k_is)
    (case n0 => k_is)
    (case n1 => k_is)
    (case n2 => k_is)
